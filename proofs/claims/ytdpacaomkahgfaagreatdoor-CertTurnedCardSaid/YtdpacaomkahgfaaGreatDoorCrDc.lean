/-
  Solve: what flows solves the dag. Conditions: what newNetwork, find and search leave.
  A network under way: one step more in a node's row. Conditions: none.
  newNetwork: how it begins, what an append leaves of the rest, where its loop stands. Conditions: none.
  newNetwork: one append onto a node's row; the steps of all arcs. Conditions: the graph may be, no arc leads from a node to itself.
  newNetwork: the steps of all arcs. Conditions: the graph may be, no arc leads from a node to itself.
-/
import Derived.Test.YtdpacaomkahgfaaGreatDoorCrDa
import Derived.Test.YtdpacaomkahgfaaGreatDoorCrLy
import Derived.Deep.RegionHeld3
namespace Go.Proofs.YtdpacaomkahgfaaGreatDoor
open Go.RowKit Go.Proofs.YtdpacaomkahgfaaGreatDoor.DagM

theorem Out.below_of {B : Nat} {w4 w5 w6 : World} (ho : Out (fun b => b = B) w5 w6) (hb : Below w4.heap.size w4 w5) (hlt : B < w4.heap.size) : Below B w4 w6 :=
  (hb.mono (Nat.le_of_lt hlt)).trans (ho.below (Nat.le_trans (Nat.le_of_lt hlt) hb.size) (fun _ _ e => Nat.le_of_eq e.symm))
def LayG (n : Nat) (L : List Arc) (w : World) (e : Ending) (w' : World) : Prop := ∃ g d, e = .returned (.tuple #[.slice (some ⟨g, 0, none⟩) n n, .int .i64 0]) ∧ RowI w' w.heap.size g n (fun u => (d u : Int)) ∧ Lay (ends L) d ∧ (∀ u, d u ≤ n) ∧ Below w.heap.size w w'
set_option maxHeartbeats 1000000 in
theorem layersG (N : Nat) (v : Value) (L : List Arc) (w : World) (hA : ArcsAt w v L) (h0 : ordErr N L = 0) :
    Calls Tryz.prog 23 #[.int .i64 N, v] w (LayG N L w) := by
  have HA := Lib.hid hA
  have hM := ordErr_may h0
  have hN : N ≤ 4096 := by have := hM.n1; omega
  have ah := ahead_of h0
  rw [Int.toNat_natCast] at ah
  have AH := Lib.hid ah
  have MY := Lib.hid hM
  have H0 := Lib.hid h0
  have OB := Lib.hid (fun u => Nat.le_trans (outs_len (ends L) u) (by have := hM.len; unfold ends; simpa using this : (ends L).length ≤ 16384))
  clear ah hM h0 hA
  go_enter Tryz.func23, Tryz.ntmps23
  go_wp2_with (first
    | (go_at_call 45; (with_reducible refine (longestWays (ends L) N _ _ _ _ _ hN AH.out.1 (O1.out.ints.below (Rw2.out.below.mono (Nat.le_refl _))) Rw2.out.read OB.out).mono ?_); rintro e w3 ⟨g3, x3, rfl, hX, hS⟩; have X3 := Lib.hid hX; have S3 := Lib.hid hS; clear hX hS)
    | (go_at_call 46; refine (leadsTo N v L _ (HA.out.below B1.out) MY.out).mono ?_; rintro e w2 ⟨g2, V2, rfl, hR⟩; have Rw2 := Lib.hid hR; clear hR)
    | (go_at_call 44; refine (order N v L _ HA.out).mono ?_; rintro e w1 ⟨v1, rfl, ho, hb⟩; obtain ⟨a1, c1, rfl⟩ := ho.form; rw [H0.out]; have B1 := Lib.hid hb; have O1 := Lib.hid ho.toI; clear ho hb))
  go_ret2
  refine ⟨_, x3, rfl, ?_, S3.out.lay AH.out.2, fun u => ?_, ?_⟩
  · have h := X3.out.row
    have hz := Nat.le_trans B1.out.size Rw2.out.below.size
    refine ⟨h.1, ?_⟩
    rcases h.2 with h2 | ⟨g, cap, cur, hv, hg, r⟩
    · exact Or.inl h2
    · exact Or.inr ⟨g, cap, cur, hv, Nat.le_trans hz hg, r⟩
  · have := S3.out.bd u
    rw [AH.out.1.len] at this
    exact this
  · exact B1.out.trans ((Rw2.out.below.trans (X3.out.below.mono Rw2.out.below.size)).mono B1.out.size)
/-- What newNetwork is asked to leave. -/
def NewSpec : Prop := ∀ {w0 w : World} {gx gl n : Nat} {L : List Arc} {v : Value} {x lf : Nat → Int} (_hb : Below w0.heap.size w0 w) (_hx : RowI w w0.heap.size gx n x) (_hl : RowI w w0.heap.size gl n lf) (_hne : gx ≠ gl) (_hA : ArcsAt w0 v L) (_hM : May n L) (_hs : ∀ a ∈ L, a.1 ≠ a.2.1),
    Calls Tryz.prog 24 #[v, .slice (some ⟨gx, 0, none⟩) n n, .slice (some ⟨gl, 0, none⟩) n n] w fun e w' => ∃ T p gf gs V, e = .returned (.pointer (some ⟨p, 0, none⟩)) ∧ NetAt w0 w' T p gx gf gl gs n (ends L).length V (stps (ends L)) x (fun _ => 0) lf 0
theorem RowI.base {w : World} {B B' g n : Nat} {s : Nat → Int} (h : RowI w B g n s) (hb : B' ≤ B) : RowI w B' g n s := by
  refine ⟨h.1, ?_⟩
  rcases h.2 with h2 | ⟨g, cap, cur, hv, hg, r⟩
  · exact Or.inl h2
  · exact Or.inr ⟨g, cap, cur, hv, Nat.le_trans hb hg, r⟩
theorem RowI.ownI {w : World} {B g n : Nat} {s : Nat → Int} (h : RowI w B g n s) : OwnI w B (.slice (some ⟨g, 0, none⟩) n n) (listI n s) := by
  unfold OwnI listI
  rw [List.length_map, List.length_range, List.map_map]
  exact h

set_option maxHeartbeats 4000000 in
set_option maxRecDepth 100000 in
theorem solveOk (FD : FindSpec) (SR : SearchSpec) (NW : NewSpec) (n : Nat) (v : Value) (L : List Arc) (w : World) (hA : ArcsAt w v L) (h0 : ordErr n L = 0) :
    Calls Tryz.prog 9 #[.int .i64 n, v] w (SolveOk n L w) := by
  have HA := Lib.hid hA
  have H0 := Lib.hid h0
  have MY := Lib.hid (ordErr_may h0)
  have FDH : Hid FindSpec := Lib.hid (p := FindSpec) (@FD)
  have SRH : Hid SearchSpec := Lib.hid (p := SearchSpec) (@SR)
  have NWH : Hid NewSpec := Lib.hid (p := NewSpec) (@NW)
  have hN : n ≤ 4096 := by have := (ordErr_may h0).n1; omega
  clear hA h0 FD SR NW
  go_enter Tryz.func9, Tryz.ntmps9
  go_wp2_with (fail)
  generalize hwb : World.alloc w _ = wb
  have BB : Hid (Below w.heap.size w wb) := Lib.hid (by rw [← hwb]; exact (Below.refl _ _).alloc (Nat.le_refl _) _)
  have hzb : wb.heap.size = w.heap.size + 1 := by rw [← hwb]; simp
  have hr0 : wb.heap[w.heap.size]? = some (.cells #[.slice none 0 0, .slice none 0 0, .int .i64 0] 33 (0, 0)) := by rw [← hwb]; exact heap_alloc_new w _
  have R0 := Lib.hid hr0
  clear hwb hr0
  have AB := Lib.hid (HA.out.below BB.out)
  refine (layersG n v L _ AB.out H0.out).mono ?_
  rintro e w1 ⟨gx, d, rfl, hX, hLay, hdn, hB1⟩
  have X1 := Lib.hid hX
  have LY := Lib.hid hLay
  have DN := Lib.hid hdn
  have B1 := Lib.hid hB1
  have hself : ∀ a ∈ L, a.1 ≠ a.2.1 := fun a ha e => by
    have h1 := LY.out.up (a.1.toNat, a.2.1.toNat) (List.mem_map.2 ⟨a, ha, rfl⟩)
    simp only [e] at h1
    omega
  have SF := Lib.hid hself
  have hst := Net.start (x0 := fun u => (d u : Int)) MY.out (fun u _ => by have := DN.out u; omega) (fun i hi => by
    have h1 := LY.out.up ((ends L)[i]) (List.getElem_mem hi)
    rw [List.getD_eq_getElem?_getD, List.getElem?_eq_getElem hi]
    simp only [Option.getD_some]
    omega)
  have DG := Lib.hid hst.1
  have N0 := Lib.hid hst.2
  clear hX hLay hdn hB1 hself hst
  go_wp2_with (first
    | (go_at_call 25; refine (supplyOk n v L _ (AB.out.below B1.out) MY.out).mono ?_; rintro e w2 ⟨gl, rfl, hgl, hSL, hB2⟩; have SL := Lib.hid (RowI.base hSL B1.out.size); have B2 := Lib.hid (B1.out.trans (hB2.mono B1.out.size)); have X2 : Hid (RowI w2 wb.heap.size gx n fun u => (d u : Int)) := Lib.hid (ownsRow_out (S := fun _ => False) X1.out (Out.ofBelow hB2) (fun _ _ e => e)); have NE := Lib.hid (show gx ≠ gl by have := X1.out.gl; omega); clear hSL hB2 hgl)
    | (go_at_call 24; refine (NWH.out (w0 := wb) B2.out X2.out SL.out NE.out AB.out MY.out SF.out).mono ?_; rintro e w3 ⟨T, p, gf, gs, V, rfl, hN3⟩; have N3 := Lib.hid hN3; clear hN3)
    | (go_at_call 26; refine (letFlow FDH.out SRH.out N3.out N0.out DG.out).mono ?_; rintro e w4 ⟨x4, f4, lf4, tk4, D4, rfl, hN4, hNet, hz⟩; have N4 := Lib.hid hN4; have NT := Lib.hid hNet; have HZ := Lib.hid hz; clear hN4 hNet hz))
  have k0 := N4.out.c0
  have k1 := N4.out.c1
  have k2 := N4.out.c4
  have hpl := N4.out.pl
  have hB4 := N4.out.below
  have B4 := Lib.hid hB4
  have hw4 := hB4.size
  have hr4 : Hid (w4.heap[w.heap.size]? = some (.cells #[.slice none 0 0, .slice none 0 0, .int .i64 0] 33 (0, 0))) := Lib.hid (by rw [hB4.block _ (by omega)]; exact R0.out)
  have hxi : IntsAt w4 (.slice (some ⟨gx, 0, none⟩) n n) (listI n x4) := N4.out.rx.ownI.ints
  have XI := Lib.hid hxi
  clear hB4 hxi
  have hpw : p < w4.heap.size := hpl
  have hb0 : w4.cell? ⟨w.heap.size, 0, none⟩ = some (.slice none 0 0) := by have h := hr4.out; simp [World.cell?, h]
  have hb1 : w4.cell? ⟨w.heap.size, 1, none⟩ = some (.slice none 0 0) := by have h := hr4.out; simp [World.cell?, h]
  have hb2 : w4.cell? ⟨w.heap.size, 2, none⟩ = some (.int .i64 0) := by have h := hr4.out; simp [World.cell?, h]
  have hbf : ∀ j, w4.frozen? ⟨w.heap.size, j, none⟩ = false := fun j => by have h := hr4.out; simp only [World.frozen?, h]; simp
  have hlw : w.heap.size < w4.heap.size := by omega
  have hpne : ¬ p = w.heap.size := by have := N4.out.p0; omega
  have hlen : (castI (rkL (listI n x4))).length = n := by simp [castI, rkL, listI]
  go_region_held3 (fun w' => w'.cell? ⟨p, 0, none⟩ = some (.slice (some ⟨gx, 0, none⟩) n n) ∧ w'.cell? ⟨p, 1, none⟩ = some (.slice (some ⟨gf, 0, none⟩) (ends L).length (ends L).length) ∧ w'.cell? ⟨p, 4, none⟩ = some (.int .i64 tk4))
    (first
      | go_keep
      | (go_split_ands
         refine ⟨?_, ?_, ?_⟩
         · first | (rw [Q5.out.cell (p := ⟨p, 0, none⟩) hpw]; exact k0) | exact (((((Out.refl (fun b => b = w.heap.size) w5).setIn _ _).setIn _ _).setIn _ _).cell 0 (Nat.lt_of_lt_of_le hpw Q5.out.size) hpne).trans ((Q5.out.cell (p := ⟨p, 0, none⟩) hpw).trans k0)
         · first | (rw [Q5.out.cell (p := ⟨p, 1, none⟩) hpw]; exact k1) | exact (((((Out.refl (fun b => b = w.heap.size) w5).setIn _ _).setIn _ _).setIn _ _).cell 1 (Nat.lt_of_lt_of_le hpw Q5.out.size) hpne).trans ((Q5.out.cell (p := ⟨p, 1, none⟩) hpw).trans k1)
         · first | (rw [Q5.out.cell (p := ⟨p, 4, none⟩) hpw]; exact k2) | exact (((((Out.refl (fun b => b = w.heap.size) w5).setIn _ _).setIn _ _).setIn _ _).cell 4 (Nat.lt_of_lt_of_le hpw Q5.out.size) hpne).trans ((Q5.out.cell (p := ⟨p, 4, none⟩) hpw).trans k2)))
    ((first
      | (go_at_call 27; refine (ranks _ (listI n x4) _ (XI.out.below (Below.refl w4.heap.size w4).drew) (by simp [listI]; omega)).mono ?_; rintro e w5 ⟨v5, rfl, ho, hb⟩; obtain ⟨a5, c5, rfl⟩ := ho.form; rw [hlen] at ho ⊢; have Q5 : Hid (Below w4.heap.size w4 w5) := Lib.hid ((Below.refl w4.heap.size w4).drew.trans hb); have O5 := Lib.hid ho; have z5 : w.heap.size < w5.heap.size := Nat.lt_of_lt_of_le hlw Q5.out.size; have g0 := (Q5.out.cell (p := ⟨w.heap.size, 0, none⟩) hlw).trans hb0; have g1 := (Q5.out.cell (p := ⟨w.heap.size, 1, none⟩) hlw).trans hb1; have g2 := (Q5.out.cell (p := ⟨w.heap.size, 2, none⟩) hlw).trans hb2; have j0 := (Q5.out.frozen (p := ⟨w.heap.size, 0, none⟩) hlw).trans (hbf 0); have j1 := (Q5.out.frozen (p := ⟨w.heap.size, 1, none⟩) hlw).trans (hbf 1); have j2 := (Q5.out.frozen (p := ⟨w.heap.size, 2, none⟩) hlw).trans (hbf 2); clear ho hb)))
  have hr5 : w5.heap[w.heap.size]? = some (.cells #[.slice none 0 0, .slice none 0 0, .int .i64 0] 33 (0, 0)) := by rw [Q5.out.block _ hlw]; exact hr4.out
  have HR5 := Lib.hid hr5
  clear hr5
  go_wp2
  generalize hw6 : World.setCell _ ⟨w.heap.size, 2, none⟩ _ = w6
  have hc6 : w6.heap[w.heap.size]? = some (.cells #[.slice a5 n c5, .slice (some ⟨gf, 0, none⟩) (ends L).length (ends L).length, .int .i64 tk4] 33 (0, 0)) := by
    rw [← hw6, heap_setCell_at (heap_setCell_at (heap_setCell_at HR5.out 0 _) 1 _) 2 _]
    rfl
  have ho6 : Out (fun b => b = w.heap.size) w5 w6 := by rw [← hw6]; exact (((Out.refl _ w5).setIn _ _).setIn _ _).setIn _ _
  clear hw6
  have y0 : w6.cell? ⟨w.heap.size, 0, none⟩ = some (.slice a5 n c5) := by simp [World.cell?, hc6]
  have y1 : w6.cell? ⟨w.heap.size, 1, none⟩ = some (.slice (some ⟨gf, 0, none⟩) (ends L).length (ends L).length) := by simp [World.cell?, hc6]
  have y2 : w6.cell? ⟨w.heap.size, 2, none⟩ = some (.int .i64 tk4) := by simp [World.cell?, hc6]
  have hel : (ends L).length = L.length := by simp [ends]
  have hof : OwnI w6 w.heap.size (.slice (some ⟨gf, 0, none⟩) (ends L).length (ends L).length) (listI L.length f4) := by
    have h1 := (N4.out.rf.base (show w.heap.size ≤ wb.heap.size by omega))
    have hg := N4.out.rf.gl
    have h2 : RowI w6 w.heap.size gf (ends L).length f4 := ownsRow_out (ownsRow_out (S := fun _ => False) h1 (Out.ofBelow Q5.out) (fun _ _ e => e)) ho6 (fun b hb e => by
      simp only [Value.ownBlock, Option.some.injEq] at hb
      omega)
    have h3 := h2.ownI
    rw [hel] at h3 ⊢
    exact h3
  have hox : OwnI w6 w.heap.size (.slice a5 n c5) (castI (rkL (listI n x4))) := by
    have h1 : OwnI w5 w4.heap.size (.slice a5 n c5) (castI (rkL (listI n x4))) := O5.out
    have h2 : OwnI w5 w.heap.size (.slice a5 n c5) (castI (rkL (listI n x4))) := by
      refine ⟨h1.1, ?_⟩
      rcases h1.2 with q | ⟨g, cap, cur, hv, hg, r⟩
      · exact Or.inl q
      · exact Or.inr ⟨g, cap, cur, hv, by omega, r⟩
    refine ownsRow_out h2 ho6 (fun b hb e => ?_)
    have := (World.ownsRow.lt h1 b hb).1
    omega
  refine bodyPost_ret (v := .tuple #[.agg #[.slice a5 n c5, .slice (some ⟨gf, 0, none⟩) (ends L).length (ends L).length, .int .i64 tk4], .int .i64 0]) (by simp [results, Tryz.results9, go_sem, y0, y1, y2]) rfl ⟨_, _, _, _, tk4, rfl, hox, hof, NT.out.solved MY.out (fun v hv h => absurd h (by have := HZ.out v hv; omega)), ?_⟩
  have b4 : Below w.heap.size w w4 := BB.out.trans (B4.out.mono (by omega))
  exact b4.trans (ho6.below_of Q5.out hlw)
set_option maxHeartbeats 1000000 in
theorem solveNo (n : Int) (v : Value) (L : List Arc) (w : World) (hA : ArcsAt w v L) (h0 : ordErr n L ≠ 0) :
    Calls Tryz.prog 9 #[.int .i64 n, v] w (SolveNo n L w) := by
  have HA := Lib.hid hA
  have H0 := Lib.hid h0
  have t1 : (ordErr n L == 0) = false := by simpa using h0
  have t2 : (ordErr n L != 0) = true := by simpa using h0
  clear hA h0
  go_enter Tryz.func9, Tryz.ntmps9
  go_wp2_with (fail)
  generalize hwb : World.alloc w _ = wb
  have BB : Hid (Below w.heap.size w wb) := Lib.hid (by rw [← hwb]; exact (Below.refl _ _).alloc (Nat.le_refl _) _)
  have hzb : wb.heap.size = w.heap.size + 1 := by rw [← hwb]; simp
  have hr0 : wb.heap[w.heap.size]? = some (.cells #[.slice none 0 0, .slice none 0 0, .int .i64 0] 33 (0, 0)) := by rw [← hwb]; exact heap_alloc_new w _
  have R0 := Lib.hid hr0
  clear hwb hr0
  refine (layers n v L _ (HA.out.below BB.out)).mono ?_
  rintro e w1 (⟨hno, _⟩ | ⟨_, rfl, hB1⟩)
  · exact absurd hno H0.out
  have hr1 : Hid (w1.heap[w.heap.size]? = some (.cells #[.slice none 0 0, .slice none 0 0, .int .i64 0] 33 (0, 0))) := Lib.hid (by rw [hB1.block _ (by omega)]; exact R0.out)
  have B1 := Lib.hid (BB.out.trans (hB1.mono BB.out.size))
  have z1 : w.heap.size < w1.heap.size := by have := hB1.size; omega
  have hb0 : w1.cell? ⟨w.heap.size, 0, none⟩ = some (.slice none 0 0) := by have h := hr1.out; simp [World.cell?, h]
  have hb1 : w1.cell? ⟨w.heap.size, 1, none⟩ = some (.slice none 0 0) := by have h := hr1.out; simp [World.cell?, h]
  have hb2 : w1.cell? ⟨w.heap.size, 2, none⟩ = some (.int .i64 0) := by have h := hr1.out; simp [World.cell?, h]
  have hbf : ∀ j, w1.frozen? ⟨w.heap.size, j, none⟩ = false := fun j => by have h := hr1.out; simp only [World.frozen?, h]; simp
  have j0 := hbf 0
  have j1 := hbf 1
  have j2 := hbf 2
  clear hbf hB1
  go_wp2
  generalize hw6 : World.setCell _ ⟨w.heap.size, 2, none⟩ _ = w6
  have hc6 : w6.heap[w.heap.size]? = some (.cells #[.slice none 0 0, .slice none 0 0, .int .i64 0] 33 (0, 0)) := by
    rw [← hw6, heap_setCell_at (heap_setCell_at (heap_setCell_at hr1.out 0 _) 1 _) 2 _]
    rfl
  have ho6 : Out (fun b => b = w.heap.size) w1 w6 := by rw [← hw6]; exact (((Out.refl _ w1).setIn _ _).setIn _ _).setIn _ _
  clear hw6
  have y0 : w6.cell? ⟨w.heap.size, 0, none⟩ = some (.slice none 0 0) := by simp [World.cell?, hc6]
  have y1 : w6.cell? ⟨w.heap.size, 1, none⟩ = some (.slice none 0 0) := by simp [World.cell?, hc6]
  have y2 : w6.cell? ⟨w.heap.size, 2, none⟩ = some (.int .i64 0) := by simp [World.cell?, hc6]
  refine bodyPost_ret (v := .tuple #[.agg #[.slice none 0 0, .slice none 0 0, .int .i64 0], .int .i64 (ordErr n L)]) (by simp [results, Tryz.results9, go_sem, y0, y1, y2]) rfl ⟨rfl, ?_⟩
  exact B1.out.trans (ho6.below (Nat.le_of_lt z1) (fun _ _ e => Nat.le_of_eq e.symm))
/-- What is left to be shown: what search and newNetwork leave (find: by next). -/
theorem solveSpec (FD : FindSpec) (SR : SearchSpec) (NW : NewSpec) : SolveSpec := ⟨fun n v L w hA h0 => solveOk FD SR NW n v L w hA h0, solveNo⟩
end Go.Proofs.YtdpacaomkahgfaaGreatDoor

namespace Go.Proofs.YtdpacaomkahgfaaGreatDoor
open Go.RowKit Go.Proofs.YtdpacaomkahgfaaGreatDoor.DagM

/-- A network whose rows of steps are still growing. -/
structure NwAt (w0 w : World) (p gx gf gl gs n m : Nat) (V : Nat → Value) (R : Nat → List Stp) (x f lf : Nat → Int) : Prop where
  net : NetAt w0 w w.heap.size p gx gf gl gs n m V R x f lf 0
  apart : ∀ u v, u < n → v < n → u ≠ v → ∀ b, (V u).ownBlock = some b → (V v).ownBlock ≠ some b
section
variable {w0 w w' w1 : World} {T T' p gx gf gl gs n m : Nat} {V : Nat → Value} {R : Nat → List Stp} {x f lf : Nat → Int} {tk : Int}
theorem NetAt.grow (h : NetAt w0 w T p gx gf gl gs n m V R x f lf tk) (h1 : T ≤ T') (h2 : T' ≤ w.heap.size) : NetAt w0 w T' p gx gf gl gs n m V R x f lf tk :=
  { h with top := h2, pT := Nat.lt_of_lt_of_le h.pT h1, xT := Nat.lt_of_lt_of_le h.xT h1, fT := Nat.lt_of_lt_of_le h.fT h1, lT := Nat.lt_of_lt_of_le h.lT h1, sT := Nat.lt_of_lt_of_le h.sT h1, vT := fun v hv b hb => Nat.lt_of_lt_of_le (h.vT v hv b hb) h1 }
theorem NwAt.quiet (h : NwAt w0 w p gx gf gl gs n m V R x f lf) (o : Below w.heap.size w w') : NwAt w0 w' p gx gf gl gs n m V R x f lf :=
  ⟨(h.net.quiet o).grow o.size (Nat.le_refl _), h.apart⟩
theorem NwAt.add (h : NwAt w0 w p gx gf gl gs n m V R x f lf) {u : Nat} {s : Stp} (hu : u < n) {v' : Value}
    (hown : w1.ownsRow w0.heap.size 102 4 v' ((R u).length + 1) ((R u).flatMap encS ++ encS s)) (hgrow : w.grownBy w1 (V u).ownBlock) (hfr : ∀ b, v'.ownBlock = some b → (V u).ownBlock = some b ∨ w.heap.size ≤ b) :
    NwAt w0 (w1.setCell ⟨gs, u, none⟩ v') p gx gf gl gs n m (fun v => if v = u then v' else V v) (fun v => if v = u then R u ++ [s] else R v) x f lf := by
  have N := h.net
  have hrow := N.rows u hu
  have hsl : gs < w.heap.size := N.sT
  have o1 : Out (fun b => (V u).ownBlock = some b) w w1 := (Out.refl _ w).grown hgrow (fun _ _ e => e)
  have o2 : Out (fun b => (V u).ownBlock = some b ∨ b = gs) w (w1.setCell ⟨gs, u, none⟩ v') := Out.setCell (S := fun b => (V u).ownBlock = some b ∨ b = gs) (o1.mono (fun _ _ e => Or.inl e)) (p := ⟨gs, u, none⟩) (fun _ => Or.inr rfl) v'
  have offS : (V u).ownBlock ≠ some gs := fun e => rows_ne hrow N.rs (by decide) e rfl
  have out1 := ownsRow_out N.rs o1 (fun b hb e => by
    simp only [Value.ownBlock, Option.some.injEq] at hb
    subst hb; exact offS e)
  have offg' : v'.ownBlock ≠ some gs := fun e => by
    rcases hfr gs e with e | e
    · exact offS e
    · omega
  have hown2 : (w1.setCell ⟨gs, u, none⟩ v').ownsRow w0.heap.size 102 4 v' ((R u).length + 1) ((R u).flatMap encS ++ encS s) := ownsRow_setCell_other hown offg' _
  have keepI : ∀ {k n' : Nat} {xs : List Value} {v : Value}, w.ownsRow w0.heap.size 3 k v n' xs → (w1.setCell ⟨gs, u, none⟩ v').ownsRow w0.heap.size 3 k v n' xs := fun hr => ownsRow_out hr o2 (fun b hb e => by
    rcases e with e | e
    · exact rows_ne hr hrow (by decide) hb e
    · subst e; exact rows_ne hr N.rs (by decide) hb rfl)
  have hsz := o2.size
  refine ⟨⟨N.below.trans (o2.below N.below.size (fun i _ e => ?_)), Nat.le_refl _, N.p0, Nat.lt_of_lt_of_le N.pT hsz, ?_, keepI N.rx, keepI N.rf, keepI N.rl, ?_, fun v hv => ?_, Nat.lt_of_lt_of_le N.xT hsz, Nat.lt_of_lt_of_le N.fT hsz, Nat.lt_of_lt_of_le N.lT hsz, Nat.lt_of_lt_of_le N.sT hsz, fun v hv b hb => ?_, N.xf, N.xl, N.fl⟩, fun a b ha hb hab c hc => ?_⟩
  · rcases e with e | e
    · exact (World.ownsRow.lt hrow i e).1
    · subst e; exact (World.ownsRow.lt N.rs _ rfl).1
  · rw [o2.block p N.pl (fun e => by
      rcases e with e | e
      · exact blk_ne hrow N.blk (by decide) e
      · exact blk_ne N.rs N.blk (by decide) (by rw [e]; rfl))]
    exact N.blk
  · rw [map_set]
    exact (out1.stored u v').1
  · by_cases e : v = u
    · subst e
      simp only [if_true]
      exact RowS.snoc hown2
    · simp only [if_neg e]
      exact ownsRow_out (N.rows v hv) o2 (fun b hb e2 => by
        rcases e2 with e2 | e2
        · exact h.apart v u hv hu e b hb e2
        · subst e2; exact rows_ne (N.rows v hv) N.rs (by decide) hb rfl)
  · by_cases e : v = u
    · subst e
      simp only [if_true] at hb
      have := (World.ownsRow.lt hown2 b hb).2
      exact this
    · simp only [if_neg e] at hb
      exact Nat.lt_of_lt_of_le (N.vT v hv b hb) hsz
  · by_cases e1 : a = u
    · subst e1
      have e2 : ¬ b = a := fun e => hab e.symm
      simp only [if_true] at hc
      simp only [if_neg e2]
      rcases hfr c hc with e | e
      · exact h.apart a b ha hb hab c e
      · intro k
        have := N.vT b hb c k
        omega
    · simp only [if_neg e1] at hc
      by_cases e2 : b = u
      · subst e2
        simp only [if_true]
        intro k
        rcases hfr c k with e | e
        · exact h.apart a b ha hb hab c hc e
        · have := N.vT a ha c hc
          omega
      · simp only [if_neg e2]
        exact h.apart a b ha hb hab c hc
/-- The append onto the row of u, as a step of a region. -/
theorem step_net {P : Program} {ops : Array Oper} {o : Oper} {a : Act} {W : World} {K : Act → World → Prop} {Q : Exit → Act → World → Prop} {F : Prop}
    (hg : o.guard = none) (s y : Operand) (tt : TypeId) (hop : o.op = Op.call { callee := Callee.builtin Builtin.append, args := #[s, y], argTypes := #[tt, tt] })
    (i : TypeInfo) (bytes : Nat) (h1 : P.underlying tt = some (.slice 102)) (h2 : P.info? 102 = some i) (h3 : i.zero = some (.agg #[.int .i64 0, .int .i64 0, .int .i64 0, .int .i64 0])) (h4 : i.size = 4) (h5 : i.bytes = bytes)
    (h : NwAt w0 w p gx gf gl gs n m V R x f lf) (hb : RowKit.Below w.heap.size w W) (u : Nat) (t : Stp) (hu : u < n) (hs : a.eval s = V u)
    (ad : Addr) (cp : Nat) (hx : a.eval y = .slice (some ad) 1 cp) (hc : ∀ j z, (encS t)[j]? = some z → W.cell? (ad.add j) = some z)
    (b1 : (R u).length + 1 ≤ maxLen) (b2 : ((R u).length + 1) * bytes ≤ 140737488355328)
    (hK : ∀ gv cv w1, NwAt w0 (w1.setCell ⟨gs, u, none⟩ (.slice (some ⟨gv, 0, none⟩) ((R u).length + 1) cv)) p gx gf gl gs n m (fun v => if v = u then .slice (some ⟨gv, 0, none⟩) ((R u).length + 1) cv else V v) (fun v => if v = u then R u ++ [t] else R v) x f lf →
      Out (fun b => (V u).ownBlock = some b) W w1 → NwAt w0 W p gx gf gl gs n m V R x f lf → (∀ b, (V u).ownBlock = some b → b < w.heap.size) → K (a.put o.dst (.slice (some ⟨gv, 0, none⟩) ((R u).length + 1) cv)) w1) :
    if Region.wanted o (yielded ops a.tmps) = true then Oper.wp P o a W K Q else F := by
  have H := h.quiet hb
  have hbs : w0.heap.size ≤ W.heap.size := Nat.le_trans h.net.below.size hb.size
  refine step_append_fresh hg s y tt hop w0.heap.size 102 i (.agg #[.int .i64 0, .int .i64 0, .int .i64 0, .int .i64 0]) 4 bytes h1 h2 h3 h4 h5 rfl (by decide) (V u) (R u).length ((R u).flatMap encS) hs (H.net.rows u hu) ad 1 cp (encS t) hx rfl hc
    (oneS t) b1 b2 hbs fun v' w1 hown hgrow hfr => ?_
  obtain ⟨gv, cv, rfl, _, _, _⟩ := ownsRow_form hown (by omega)
  exact hK gv cv w1 (H.add hu hown hgrow hfr) ((Out.refl _ W).grown hgrow (fun _ _ e => e)) H (fun b hb2 => ((World.ownsRow.lt (h.net.rows u hu) b hb2).2))
end
end Go.Proofs.YtdpacaomkahgfaaGreatDoor

namespace Go.Proofs.YtdpacaomkahgfaaGreatDoor
open Go.RowKit Go.Proofs.YtdpacaomkahgfaaGreatDoor.DagM

theorem infoSs : (Tryz.prog.info? 100).map (fun i => (i.zero, i.size, i.bytes)) = some (some (.slice none 0 0), 1, 24) := by kernel_rfl
theorem mkSteps (N : Nat) (hN : N ≤ 1000000) (w : World) : (Instr.makeSlice 69 (.int .i64 (N : Int)) (.int .i64 (N : Int))).run Tryz.prog w = .ok (.slice (some ⟨w.heap.size, 0, none⟩) N N) (w.alloc (.cells (madeCells #[.slice none 0 0] N) 100)) := by
  obtain ⟨i, hi, h0, h1, h2⟩ := info_parts infoSs
  have h := run_make (P := Tryz.prog) w 69 100 i _ Tryz.underlying69 hi h0 .i64 .i64 N N (by omega) (by omega) (by rw [h2]; omega) (by omega)
  rw [h1] at h
  simpa [Value.cells] using h
theorem nw_start {w0 w W : World} {p gx gf gl gs n m : Nat} {x lf : Nat → Int} {E : EndL} (HB : Below w0.heap.size w0 w) (HX : RowI w w0.heap.size gx n x) (HL : RowI w w0.heap.size gl n lf) (hne : gx ≠ gl) (hn : n ≤ 1000000) (hm : m ≤ 1000000)
    (hf : W.heap[gf]? = some (.cells (madeCells #[.int .i64 0] m) 3 (0, 0))) (hs : W.heap[gs]? = some (.cells (madeCells #[.slice none 0 0] n) 100 (0, 0)))
    (hp : W.heap[p]? = some (.cells #[.slice (some ⟨gx, 0, none⟩) n n, .slice (some ⟨gf, 0, none⟩) m m, .slice (some ⟨gl, 0, none⟩) n n, .slice (some ⟨gs, 0, none⟩) n n, .int .i64 0] 71 (0, 0)))
    (hb : Below w.heap.size w W) (h1 : w.heap.size ≤ gf) (h2 : w.heap.size ≤ gs) (h3 : w.heap.size ≤ p) : NwAt w0 W p gx gf gl gs n m (fun _ => .slice none 0 0) (stpsK E 0) x (fun _ => 0) lf := by
  have z0 := HB.size
  have z1 := HX.gl
  have z2 := HL.gl
  have lt : ∀ {b : Nat} {o : Obj}, W.heap[b]? = some o → b < W.heap.size := fun h => (Array.getElem?_eq_some_iff.1 h).1
  have l1 := lt hf
  have l2 := lt hs
  have l3 := lt hp
  have hz := hb.size
  refine ⟨⟨HB.trans (hb.mono z0), Nat.le_refl _, by omega, l3, hp, ownsRow_out (S := fun _ => False) HX (Out.ofBelow hb) (fun _ _ e => e), RowI.made (by omega) hf hm, ownsRow_out (S := fun _ => False) HL (Out.ofBelow hb) (fun _ _ e => e), ?_, fun v hv => ?_, by omega, l1, by omega, l2, fun v _ b hb => by simp [Value.ownBlock] at hb, by omega, hne, by omega⟩, fun u v _ _ _ b hb => by simp [Value.ownBlock] at hb⟩
  · refine ⟨by simp, Or.inr ⟨gs, n, _, rfl, by omega, hs, Nat.le_refl _, by unfold maxLen; omega, by simp [size_madeCells], ?_⟩⟩
    rw [toList_madeCells_one, made_map, List.take_of_length_le (by simp)]
  · exact World.ownsRow_nil _ _ _ _
theorem stpsK_len (E : EndL) (v : Nat) : ∀ k, (stpsK E k v).length ≤ 2 * k
  | 0 => by simp [stpsK]
  | k + 1 => by rw [stpsK_succ, List.length_append]; have := stpA_len v k (E.getD k (0, 0)); have := stpsK_len E v k; omega
theorem stpsK_both {E : EndL} {k u t : Nat} (hut : u ≠ t) (he : E.getD k (0, 0) = (u, t)) : (fun v => if v = t then (fun v => if v = u then stpsK E k u ++ [(k, u, t, 0)] else stpsK E k v) t ++ [(k, t, u, 1)] else (fun v => if v = u then stpsK E k u ++ [(k, u, t, 0)] else stpsK E k v) v) = stpsK E (k + 1) := by
  funext v
  rw [stpsK_succ, he]
  unfold stpA
  simp only
  by_cases e1 : v = t
  · subst e1
    have e2 : ¬ v = u := fun e => hut e.symm
    have e3 : ¬ u = v := hut
    simp [e2, e3]
  · have e4 : ¬ t = v := fun e => e1 e.symm
    by_cases e2 : v = u
    · subst e2; simp [e1, e4]
    · have e3 : ¬ u = v := fun e => e2 e.symm
      simp [e1, e2, e3, e4]
/-- What an append onto one row leaves of the rest. -/
theorem nw_rest {w0 W w1 : World} {p gx gf gl gs n m u bx : Nat} {V : Nat → Value} {R : Nat → List Stp} {x f lf : Nat → Int} {a0 a1 a2 : Int} (hH : NwAt w0 W p gx gf gl gs n m V R x f lf) (ho : Out (fun b => (V u).ownBlock = some b) W w1) (hu : u < n) (hB : BoxA W bx a0 a1 a2) (hbx : (V u).ownBlock ≠ some bx) :
    w1.cell? ⟨gs, u, none⟩ = some (V u) ∧ w1.frozen? ⟨gs, u, none⟩ = false ∧ w1.cell? ⟨p, 3, none⟩ = some (.slice (some ⟨gs, 0, none⟩) n n) ∧ BoxA w1 bx a0 a1 a2 ∧ w1.heap.size ≥ W.heap.size := by
  have h1 := hH.net.rows u hu
  have offS : ¬ (V u).ownBlock = some gs := fun e => rows_ne h1 hH.net.rs (by decide) e rfl
  exact ⟨(ho.cell u hH.net.sT offS).trans (hH.net.cellS hu), (ho.frz u hH.net.sT offS).trans (hH.net.rs.frozenAt u), (ho.cell 3 hH.net.pl (fun e => blk_ne h1 hH.net.blk (by decide) e)).trans hH.net.c3, hB.out ho hbx, ho.size⟩
def NzR (w0 : World) (p gx gl n : Nat) (L : List Arc) (x lf : Nat → Int) (wr : World) (iv : Value) : Prop :=
  ∃ (k : Nat) (V : Nat → Value) (gf gs : Nat), iv = .int .i64 k ∧ k ≤ L.length ∧ NwAt w0 wr p gx gf gl gs n L.length V (stpsK (ends L) k) x (fun _ => 0) lf
end Go.Proofs.YtdpacaomkahgfaaGreatDoor

namespace Go.Proofs.YtdpacaomkahgfaaGreatDoor
open Go.RowKit Go.Proofs.YtdpacaomkahgfaaGreatDoor.DagM

/-- An arc in a block of its own. -/
def BoxH (w : World) (b : Nat) (f t z : Int) : Prop := w.heap[b]? = some (.cells #[.int .i64 f, .int .i64 t, .int .i64 z] 40 (0, 0))
theorem BoxH.A {w : World} {b : Nat} {f t z : Int} (h : BoxH w b f t z) : BoxA w b f t z := by
  unfold BoxH at h
  exact ⟨(Array.getElem?_eq_some_iff.1 h).1, by simp [World.cell?, h], by simp [World.cell?, h], by simp [World.cell?, h]⟩
/-- What one append leaves. -/
def Grown (w0 : World) (p gx gf gl gs n m bx : Nat) (R : Nat → List Stp) (x f lf : Nat → Int) (u t z : Int) (wx : World) : Prop :=
  ∃ V, NwAt w0 wx p gx gf gl gs n m V R x f lf ∧ BoxH wx bx u t z
theorem grown_of {w0 W w1 : World} {p gx gf gl gs n m bx u : Nat} {V V' : Nat → Value} {R R' : Nat → List Stp} {x f lf : Nat → Int} {a b z : Int} {v' : Value} (hH : NwAt w0 W p gx gf gl gs n m V R x f lf) (hu : u < n) (ho : Out (fun b => (V u).ownBlock = some b) W w1)
    (hJ : NwAt w0 (w1.setCell ⟨gs, u, none⟩ v') p gx gf gl gs n m V' R' x f lf) (hB : BoxH W bx a b z) : Grown w0 p gx gf gl gs n m bx R' x f lf a b z (w1.setCell ⟨gs, u, none⟩ v') := by
  refine ⟨V', hJ, ?_⟩
  unfold BoxH at hB ⊢
  have h1 : ¬ (V u).ownBlock = some bx := blk_ne (hH.net.rows u hu) hB (by decide)
  have h2 : bx ≠ gs := fun e => blk_ne hH.net.rs hB (by decide) (by rw [e]; rfl)
  have h3 : bx < W.heap.size := (Array.getElem?_eq_some_iff.1 hB).1
  rw [Below.heap_setCell _ _ _ _ h2, ho.block bx h3 h1]
  exact hB

end Go.Proofs.YtdpacaomkahgfaaGreatDoor

namespace Go.Proofs.YtdpacaomkahgfaaGreatDoor
open Go.RowKit Go.Proofs.YtdpacaomkahgfaaGreatDoor.DagM

set_option maxHeartbeats 8000000 in
set_option maxRecDepth 100000 in
theorem newNetwork : NewSpec := by
  intro w0 w gx gl n L v x lf hb hx hl hne hA hM hs
  have HB := Lib.hid hb
  have HX := Lib.hid hx
  have HL := Lib.hid hl
  have HA := Lib.hid hA
  have HM := Lib.hid hM
  have HS := Lib.hid hs
  have hN : n ≤ 4096 := by have := hM.n1; omega
  have hL := hM.len
  obtain ⟨A, cap, rfl, hcap, -⟩ := hA
  obtain ⟨i0, hi, hz0, hz1, hz2⟩ := info_parts infoS
  have hmk1 := mkAny L.length (by omega)
  have hmk2 := mkSteps n (by omega)
  clear hb hx hl hM hs
  go_enter Tryz.func24, Tryz.ntmps24
  go_upto_region 1 with (fail)
  go_cut [7] from 10 to 19 (fun pv wx => ∃ gf gs, pv = .pointer (some ⟨w.heap.size + 2, 0, none⟩) ∧ NwAt w0 wx (w.heap.size + 2) gx gf gl gs n L.length (fun _ => .slice none 0 0) (stpsK (ends L) 0) x (fun _ => 0) lf)
  case first =>
    go_region
    all_goals
      clear hmk1 hmk2
      go_wp2_with fail
      go_meet
      have b3 : ∀ (a b c : Obj), Below w.heap.size w (((w.alloc a).alloc b).alloc c).drew := fun a b c => ((((Below.refl _ _).alloc (Nat.le_refl _) a).alloc (by simp) b).alloc (by simp; omega) c).drew
      have e0 : ∀ (a b c : Obj) (cs : Array Value) (t : TypeId), a = .cells cs t → (((w.alloc a).alloc b).alloc c).drew.heap[w.heap.size]? = some (.cells cs t (0, 0)) := fun a b c cs t h => by
        subst h
        show (((w.alloc _).alloc b).alloc c).heap[w.heap.size]? = _
        rw [Below.heap_alloc _ _ _ (by simp; omega), Below.heap_alloc _ _ _ (by simp)]
        exact heap_alloc_new w _
      have e1 : ∀ (a b c : Obj) (cs : Array Value) (t : TypeId), b = .cells cs t → (((w.alloc a).alloc b).alloc c).drew.heap[w.heap.size + 1]? = some (.cells cs t (0, 0)) := fun a b c cs t h => by
        subst h
        show (((w.alloc a).alloc _).alloc c).heap[w.heap.size + 1]? = _
        rw [Below.heap_alloc _ _ _ (by simp)]
        simpa using heap_alloc_new (w.alloc a) _
      have e2 : ∀ (a b c : Obj) (cs : Array Value) (t : TypeId), c = .cells cs t → (((w.alloc a).alloc b).alloc c).drew.heap[w.heap.size + 2]? = some (.cells cs t (0, 0)) := fun a b c cs t h => by
        subst h
        show (((w.alloc a).alloc b).alloc _).heap[w.heap.size + 2]? = _
        simpa using heap_alloc_new ((w.alloc a).alloc b) _
      first
        | exact ⟨w.heap.size, w.heap.size + 1, rfl, nw_start HB.out HX.out HL.out hne (by omega) (by omega) (e0 _ _ _ _ _ rfl) (e1 _ _ _ _ _ rfl) (e2 _ _ _ _ _ rfl) (b3 _ _ _) (by omega) (by omega) (by omega)⟩
        | exact ⟨w.heap.size + 1, w.heap.size, rfl, nw_start HB.out HX.out HL.out hne (by omega) (by omega) (e1 _ _ _ _ _ rfl) (e0 _ _ _ _ _ rfl) (e2 _ _ _ _ _ rfl) (b3 _ _ _) (by omega) (by omega) (by omega)⟩
  case rest =>
    obtain ⟨gf0, gs0, rfl, hI0⟩ := hcut
    have I0 := Lib.hid hI0
    clear hI0 hmk1 hmk2
    go_wp2
    go_loopw [22] (fun iv wr => NzR w0 (w.heap.size + 2) gx gl n L x lf wr iv) (fun iv _ => L.length - (intOf iv).toNat)
    case atStart => exact ⟨0, _, gf0, gs0, rfl, by omega, I0.out⟩
    case round =>
      obtain ⟨k, V, gf, gs, rfl, hk, hI⟩ := hrel
      have I := Lib.hid hI
      clear hI
      by_cases hlt : k < L.length
      · obtain ⟨A', cap', e, _, hA2⟩ := HA.out
        simp only [Value.slice.injEq, true_and] at e
        obtain ⟨rfl, rfl⟩ := e
        obtain ⟨b, o, rfl, hb, hcell⟩ := hA2 (by omega)
        obtain ⟨c0, c1, c2⟩ := hcell k hlt
        have d0 := (I.out.net.below.cell (p := ⟨b, o + k * 3, none⟩) hb).trans c0
        have d1 := (I.out.net.below.cell (p := ⟨b, o + k * 3 + 1, none⟩) hb).trans c1
        have d2 := (I.out.net.below.cell (p := ⟨b, o + k * 3 + 2, none⟩) hb).trans c2
        have ok := HM.out.ok L[k] (List.getElem_mem hlt)
        have hsf := HS.out L[k] (List.getElem_mem hlt)
        have hed := ends_at hlt
        have hbw := Nat.lt_of_lt_of_le hb I.out.net.below.size
        clear hA2 hcell c0 c1 c2
        generalize L[k] = a at *
        obtain ⟨fu, ft, z⟩ := a
        obtain ⟨u, rfl⟩ : ∃ u : Nat, fu = (u : Int) := ⟨fu.toNat, by simp only at ok; omega⟩
        obtain ⟨t, rfl⟩ : ∃ t : Nat, ft = (t : Int) := ⟨ft.toNat, by simp only at ok; omega⟩
        simp only [Int.toNat_natCast] at ok d0 d1 d2 hsf hed
        have hu : u < n := by omega
        have ht : t < n := by omega
        have hut : u ≠ t := by omega
        have ED := Lib.hid (stpsK_both hut hed)
        have hl1 := stpsK_len (ends L) u k
        have hl2 := stpsK_len (ends L) t k
        clear ok hsf hed
        go_upto_region 5 with (fail)
        generalize hwa : World.alloc wr _ = wa
        have IA : Hid (NwAt w0 wa (w.heap.size + 2) gx gf gl gs n L.length V (stpsK (ends L) k) x (fun _ => 0) lf) := Lib.hid (by rw [← hwa]; exact I.out.quiet ((Below.refl _ _).alloc (Nat.le_refl _) _))
        obtain ⟨bx, hbx⟩ : ∃ bx, wr.heap.size = bx := ⟨_, rfl⟩
        have BX : Hid (BoxH wa bx (u : Int) (t : Int) z) := Lib.hid (by rw [← hwa, ← hbx]; exact heap_alloc_new wr _)
        rw [hbx]
        clear hwa d0 d1 d2 hbw I hbx
        go_cut [49] from 27 to 49 (fun _ wx => Grown w0 (w.heap.size + 2) gx gf gl gs n L.length bx (fun v => if v = u then stpsK (ends L) k u ++ [(k, u, t, 0)] else stpsK (ends L) k v) x (fun _ => 0) lf (u : Int) (t : Int) z wx)
        case first =>
          have x3 := IA.out.net.c3
          have x4 := IA.out.net.pl
          have x5 := IA.out.net.cellS hu
          have x6 := IA.out.net.rs.frozenAt u
          have x7 : gs < wa.heap.size := IA.out.net.sT
          have x0 := BX.out.A.c0
          have x1 := BX.out.A.c1
          have x2 := BX.out.A.lt
          have n1 : gs ≠ w.heap.size + 2 := fun e => blk_ne IA.out.net.rs IA.out.net.blk (by decide) (by rw [e]; rfl)
          have n2 : gs ≠ bx := fun e => blk_ne IA.out.net.rs BX.out (by decide) (by rw [e]; rfl)
          have N3 := Lib.hid (blk_ne (IA.out.net.rows u hu) BX.out (by decide))
          obtain ⟨au, cu, hVu⟩ := IA.out.net.form hu
          rw [hVu] at x5
          have VU := Lib.hid hVu
          have i1 : (0 : Int) ≤ (u : Int) := by omega
          have i2 : (u : Int) < (n : Int) := by omega
          clear hVu
          have hS0 : wa.drew.cell? ⟨w.heap.size + 2, 3, none⟩ = some (.slice (some ⟨gs, 0, none⟩) n n) ∧ wa.drew.cell? ⟨bx, 0, none⟩ = some (.int .i64 (u : Int)) ∧ wa.drew.cell? ⟨bx, 1, none⟩ = some (.int .i64 (t : Int)) := ⟨x3, x0, x1⟩
          refine wp_region_held_drew (S := fun w' => w'.cell? ⟨w.heap.size + 2, 3, none⟩ = some (.slice (some ⟨gs, 0, none⟩) n n) ∧ w'.cell? ⟨bx, 0, none⟩ = some (.int .i64 (u : Int)) ∧ w'.cell? ⟨bx, 1, none⟩ = some (.int .i64 (t : Int))) (by kernel_rfl) hS0 (fun hHeld => ?_)
          clear hS0
          refine wpAnyH_take (i := 0) (v := ?_) rfl (by kernel_rfl) (by kernel_rfl) (by kernel_rfl) (fun _ _ _ h => h) (Or.inl ⟨by rfl, ?_⟩) (by assumption) ?_
          rotate_left
          · (intro w' hSw; (try dsimp only at hSw); go_simp; try with_reducible rfl)
          refine wpAnyH_take (i := 1) (v := ?_) rfl (by kernel_rfl) (by kernel_rfl) (by kernel_rfl) (fun _ _ _ h => h) (Or.inl ⟨by rfl, ?_⟩) (by assumption) ?_
          rotate_left
          · (intro w' hSw; (try dsimp only at hSw); go_simp; try with_reducible rfl)
          refine wpAnyH_take (i := 2) (v := ?_) rfl (by kernel_rfl) (by kernel_rfl) (by kernel_rfl) (fun _ _ _ h => h) (Or.inl ⟨by rfl, ?_⟩) (by assumption) ?_
          rotate_left
          · (intro w' hSw; (try dsimp only at hSw); go_simp; try with_reducible rfl)
          refine wpAnyH_take (i := 3) (v := ?_) rfl (by kernel_rfl) (by kernel_rfl) (by kernel_rfl) (fun _ _ _ h => h) (Or.inl ⟨by rfl, ?_⟩) (by assumption) ?_
          rotate_left
          · (intro w' hSw; (try dsimp only at hSw); go_simp; try with_reducible rfl)
          refine wpAnyH_take (i := 4) (v := ?_) rfl (by kernel_rfl) (by kernel_rfl) (by kernel_rfl) (fun _ _ _ h => h) (Or.inl ⟨by rfl, ?_⟩) (by assumption) ?_
          rotate_left
          · (intro w' hSw; (try dsimp only at hSw); go_simp; try with_reducible rfl)
          refine wpAnyH_take (i := 5) (v := ?_) rfl (by kernel_rfl) (by kernel_rfl) (by kernel_rfl) (fun _ _ _ h => h) (Or.inl ⟨by rfl, ?_⟩) (by assumption) ?_
          rotate_left
          · (intro w' hSw; (try dsimp only at hSw); go_simp; try with_reducible rfl)
          refine wpAnyH_take (i := 6) (v := ?_) rfl (by kernel_rfl) (by kernel_rfl) (by kernel_rfl) (fun _ _ _ h => h) (Or.inl ⟨by rfl, ?_⟩) (by assumption) ?_
          rotate_left
          · (intro w' hSw; (try dsimp only at hSw); go_simp; try with_reducible rfl)
          refine wpAnyH_take (i := 7) (v := ?_) rfl (by kernel_rfl) (by kernel_rfl) (by kernel_rfl) (fun _ _ _ h => h) (Or.inl ⟨by rfl, ?_⟩) (by assumption) ?_
          rotate_left
          · (intro w' hSw; (try dsimp only at hSw); go_simp; try with_reducible rfl)
          refine wpAnyH_take (i := 8) (v := ?_) rfl (by kernel_rfl) (by kernel_rfl) (by kernel_rfl) (fun _ _ _ h => h) (Or.inl ⟨by rfl, ?_⟩) (by assumption) ?_
          rotate_left
          · (intro w' hSw; (try dsimp only at hSw); go_simp; try with_reducible rfl)
          refine wpAnyH_take (i := 9) (v := ?_) rfl (by kernel_rfl) (by kernel_rfl) (by kernel_rfl) (fun _ _ _ h => h) (Or.inl ⟨by rfl, ?_⟩) (by assumption) ?_
          rotate_left
          · (intro w' hSw; (try dsimp only at hSw); go_simp; try with_reducible rfl)
          refine wpAnyH_take (i := 10) (v := ?_) rfl (by kernel_rfl) (by kernel_rfl) (by kernel_rfl) (fun _ _ _ h => h) (Or.inl ⟨by rfl, ?_⟩) (by assumption) ?_
          rotate_left
          · (intro w' hSw; (try dsimp only at hSw); go_simp; try with_reducible rfl)
          refine wpAnyH_take (i := 11) (v := ?_) rfl (by kernel_rfl) (by kernel_rfl) (by kernel_rfl) (fun _ _ _ h => h) (Or.inl ⟨by rfl, ?_⟩) (by assumption) ?_
          rotate_left
          · (intro w' hSw; (try dsimp only at hSw); go_simp; try with_reducible rfl)
          refine wpAnyH_take (i := 12) (v := ?_) rfl (by kernel_rfl) (by kernel_rfl) (by kernel_rfl) (fun _ _ _ h => h) (Or.inl ⟨by rfl, ?_⟩) (by assumption) ?_
          rotate_left
          · (intro w' hSw; (try dsimp only at hSw); go_simp; try with_reducible rfl)
          refine wpAnyH_take (i := 14) (v := ?_) rfl (by kernel_rfl) (by kernel_rfl) (by kernel_rfl) (fun _ _ _ h => h) (Or.inl ⟨by rfl, ?_⟩) (by assumption) ?_
          rotate_left
          · (intro w' hSw; (try dsimp only at hSw); go_simp; try with_reducible rfl)
          refine wpAnyH_take (i := 15) (v := ?_) rfl (by kernel_rfl) (by kernel_rfl) (by kernel_rfl) (fun _ _ _ h => h) (Or.inl ⟨by rfl, ?_⟩) (by assumption) ?_
          rotate_left
          · (intro w' hSw; (try dsimp only at hSw); go_simp; try with_reducible rfl)
          refine wpAnyH_take (i := 16) (v := ?_) rfl (by kernel_rfl) (by kernel_rfl) (by kernel_rfl) (fun _ _ _ h => h) (Or.inl ⟨by rfl, ?_⟩) (by assumption) ?_
          rotate_left
          · (intro w' hSw; (try dsimp only at hSw); go_simp; try with_reducible rfl)
          refine wpAnyH_take (i := 17) (v := ?_) rfl (by kernel_rfl) (by kernel_rfl) (by kernel_rfl) (fun _ _ _ h => h) (Or.inl ⟨by rfl, ?_⟩) (by assumption) ?_
          rotate_left
          · (intro w' hSw; (try dsimp only at hSw); go_simp; try with_reducible rfl)
          refine wpAnyH_take (i := 18) (v := ?_) rfl (by kernel_rfl) (by kernel_rfl) (by kernel_rfl) (fun _ _ _ h => h) (Or.inl ⟨by rfl, ?_⟩) (by assumption) ?_
          rotate_left
          · (intro w' hSw; (try dsimp only at hSw); go_simp; try with_reducible rfl)
          refine wpAnyH_take (i := 19) (v := ?_) rfl (by kernel_rfl) (by kernel_rfl) (by kernel_rfl) (fun _ _ _ h => h) (Or.inl ⟨by rfl, ?_⟩) (by assumption) ?_
          rotate_left
          · (intro w' hSw; (try dsimp only at hSw); go_simp; try with_reducible rfl)
          refine wpAnyH_ready (rs := [13, 20]) (by kernel_rfl) (by simp) ?_
          refine AllReadyH.cons rfl (fun K hK => ?_) (AllReadyH.cons rfl (fun K hK => ?_) AllReadyH.nil)
          all_goals
            go_simp
            refine hK.out _ _ (by first | exact hHeld | ((try dsimp only); go_keep)) (fun hHeld2 => ?_)
            clear hK K
            first
              | refine wpAnyH_ready (rs := [20]) (by decide +kernel) (by simp) ?_
              | refine wpAnyH_ready (rs := [13]) (by decide +kernel) (by simp) ?_
            refine AllReadyH.cons rfl (fun K hK => ?_) AllReadyH.nil
            go_simp
            refine hK.out _ _ (by first | exact hHeld2 | ((try dsimp only); go_keep)) (fun hHeld3 => ?_)
            clear hK K
            refine wpAnyH_ready (rs := [21]) (by kernel_rfl) (by simp) ?_
            refine AllReadyH.cons rfl (fun K hK => ?_) AllReadyH.nil
            refine step_net rfl (.tmp 40) (.tmp 47) 100 rfl i0 32 Tryz.underlying100 hi hz0 hz1 hz2 IA.out (by first | exact ((Below.refl _ _).drew).alloc (by simp) _ | exact ((Below.refl _ _).alloc (Nat.le_refl _) _).drew) u (k, u, t, 0) hu (by rw [VU.out]; rfl) ⟨wa.heap.size, 0, none⟩ 1 (by rfl) (newsS _ _ _) (by first | (unfold maxLen; omega) | (simp; unfold maxLen; omega)) (by first | omega | (simp; omega)) ?_
            intro gv cv w1 hJ ho hH hlt0
            obtain ⟨e0, e1, e2, hB1, e5⟩ := nw_rest hH ho hu (BoxA.out (S := fun _ => False) BX.out.A (Out.ofBelow (by first | exact ((Below.refl _ _).drew).alloc (by simp) _ | exact ((Below.refl _ _).alloc (Nat.le_refl _) _).drew)) (fun e => e)) N3.out
            have GR := Lib.hid (grown_of (bx := bx) (a := (u : Int)) (b := (t : Int)) (z := z) hH hu ho hJ (by unfold BoxH; rw [Below.block (w := wa) (B := wa.heap.size) (by first | exact ((Below.refl _ _).drew).alloc (by simp) _ | exact ((Below.refl _ _).alloc (Nat.le_refl _) _).drew) bx x2]; exact BX.out))
            have hS4 := hB1.c0
            have hS5 := hB1.c1
            clear hJ ho hH hlt0 hB1 e5
            refine hK.out _ _ ⟨e2, hS4, hS5⟩ (fun hHeld4 => ?_)
            clear hK K
            refine wpAnyH_take (i := 22) (v := ?_) rfl (by kernel_rfl) (by kernel_rfl) (by kernel_rfl) (fun _ _ _ h => h) (Or.inl ⟨by rfl, ?_⟩) (by assumption) ?_
            rotate_left
            · (intro w' hSw; (try dsimp only at hSw); go_simp; try with_reducible rfl)
            refine wpAnyH_ready (rs := [23]) (by kernel_rfl) (by simp) ?_
            refine AllReadyH.cons rfl (fun K hK => ?_) AllReadyH.nil
            go_simp
            refine hK.out _ _ ⟨(World.cell?_setCell_far _ _ _ _ n1).trans e2, (World.cell?_setCell_far _ _ _ _ n2).trans hS4, (World.cell?_setCell_far _ _ _ _ n2).trans hS5⟩ (fun hHeld5 => ?_)
            clear hK K
            refine wpAnyH_done (by kernel_rfl) ?_ _
            go_wp2_with fail
            go_meet
            exact GR.out
        case rest =>
          obtain ⟨V2, hI2, hB2⟩ := hcut
          have I2 := Lib.hid hI2
          have B2 := Lib.hid hB2
          have hl3 : (if t = u then stpsK (ends L) k u ++ [(k, u, t, 0)] else stpsK (ends L) k t).length ≤ 2 * k + 1 := by
            split
            · rw [List.length_append, List.length_singleton]; omega
            · omega
          clear hI2 hB2 IA BX
          go_upto_region 6 with (fail)
          have x3 := I2.out.net.c3
          have x4 := I2.out.net.pl
          have x5 := I2.out.net.cellS ht
          have x6 := I2.out.net.rs.frozenAt t
          have x7 : gs < wc.heap.size := I2.out.net.sT
          have x0 := B2.out.A.c0
          have x1 := B2.out.A.c1
          have x2 := B2.out.A.lt
          have n1 : gs ≠ w.heap.size + 2 := fun e => blk_ne I2.out.net.rs I2.out.net.blk (by decide) (by rw [e]; rfl)
          have n2 : gs ≠ bx := fun e => blk_ne I2.out.net.rs B2.out (by decide) (by rw [e]; rfl)
          have N3 := Lib.hid (blk_ne (I2.out.net.rows t ht) B2.out (by decide))
          obtain ⟨au, cu, hVu⟩ := I2.out.net.form ht
          rw [hVu] at x5
          have VU := Lib.hid hVu
          have i1 : (0 : Int) ≤ (t : Int) := by omega
          have i2 : (t : Int) < (n : Int) := by omega
          clear hVu
          have hS0 : wc.drew.cell? ⟨w.heap.size + 2, 3, none⟩ = some (.slice (some ⟨gs, 0, none⟩) n n) ∧ wc.drew.cell? ⟨bx, 0, none⟩ = some (.int .i64 (u : Int)) ∧ wc.drew.cell? ⟨bx, 1, none⟩ = some (.int .i64 (t : Int)) := ⟨x3, x0, x1⟩
          refine wp_region_held_drew (S := fun w' => w'.cell? ⟨w.heap.size + 2, 3, none⟩ = some (.slice (some ⟨gs, 0, none⟩) n n) ∧ w'.cell? ⟨bx, 0, none⟩ = some (.int .i64 (u : Int)) ∧ w'.cell? ⟨bx, 1, none⟩ = some (.int .i64 (t : Int))) (by kernel_rfl) hS0 (fun hHeld => ?_)
          clear hS0
          refine wpAnyH_take (i := 0) (v := ?_) rfl (by kernel_rfl) (by kernel_rfl) (by kernel_rfl) (fun _ _ _ h => h) (Or.inl ⟨by rfl, ?_⟩) (by assumption) ?_
          rotate_left
          · (intro w' hSw; (try dsimp only at hSw); go_simp; try with_reducible rfl)
          refine wpAnyH_take (i := 1) (v := ?_) rfl (by kernel_rfl) (by kernel_rfl) (by kernel_rfl) (fun _ _ _ h => h) (Or.inl ⟨by rfl, ?_⟩) (by assumption) ?_
          rotate_left
          · (intro w' hSw; (try dsimp only at hSw); go_simp; try with_reducible rfl)
          refine wpAnyH_take (i := 2) (v := ?_) rfl (by kernel_rfl) (by kernel_rfl) (by kernel_rfl) (fun _ _ _ h => h) (Or.inl ⟨by rfl, ?_⟩) (by assumption) ?_
          rotate_left
          · (intro w' hSw; (try dsimp only at hSw); go_simp; try with_reducible rfl)
          refine wpAnyH_take (i := 3) (v := ?_) rfl (by kernel_rfl) (by kernel_rfl) (by kernel_rfl) (fun _ _ _ h => h) (Or.inl ⟨by rfl, ?_⟩) (by assumption) ?_
          rotate_left
          · (intro w' hSw; (try dsimp only at hSw); go_simp; try with_reducible rfl)
          refine wpAnyH_take (i := 4) (v := ?_) rfl (by kernel_rfl) (by kernel_rfl) (by kernel_rfl) (fun _ _ _ h => h) (Or.inl ⟨by rfl, ?_⟩) (by assumption) ?_
          rotate_left
          · (intro w' hSw; (try dsimp only at hSw); go_simp; try with_reducible rfl)
          refine wpAnyH_take (i := 5) (v := ?_) rfl (by kernel_rfl) (by kernel_rfl) (by kernel_rfl) (fun _ _ _ h => h) (Or.inl ⟨by rfl, ?_⟩) (by assumption) ?_
          rotate_left
          · (intro w' hSw; (try dsimp only at hSw); go_simp; try with_reducible rfl)
          refine wpAnyH_take (i := 6) (v := ?_) rfl (by kernel_rfl) (by kernel_rfl) (by kernel_rfl) (fun _ _ _ h => h) (Or.inl ⟨by rfl, ?_⟩) (by assumption) ?_
          rotate_left
          · (intro w' hSw; (try dsimp only at hSw); go_simp; try with_reducible rfl)
          refine wpAnyH_take (i := 7) (v := ?_) rfl (by kernel_rfl) (by kernel_rfl) (by kernel_rfl) (fun _ _ _ h => h) (Or.inl ⟨by rfl, ?_⟩) (by assumption) ?_
          rotate_left
          · (intro w' hSw; (try dsimp only at hSw); go_simp; try with_reducible rfl)
          refine wpAnyH_take (i := 8) (v := ?_) rfl (by kernel_rfl) (by kernel_rfl) (by kernel_rfl) (fun _ _ _ h => h) (Or.inl ⟨by rfl, ?_⟩) (by assumption) ?_
          rotate_left
          · (intro w' hSw; (try dsimp only at hSw); go_simp; try with_reducible rfl)
          refine wpAnyH_take (i := 9) (v := ?_) rfl (by kernel_rfl) (by kernel_rfl) (by kernel_rfl) (fun _ _ _ h => h) (Or.inl ⟨by rfl, ?_⟩) (by assumption) ?_
          rotate_left
          · (intro w' hSw; (try dsimp only at hSw); go_simp; try with_reducible rfl)
          refine wpAnyH_take (i := 10) (v := ?_) rfl (by kernel_rfl) (by kernel_rfl) (by kernel_rfl) (fun _ _ _ h => h) (Or.inl ⟨by rfl, ?_⟩) (by assumption) ?_
          rotate_left
          · (intro w' hSw; (try dsimp only at hSw); go_simp; try with_reducible rfl)
          refine wpAnyH_take (i := 11) (v := ?_) rfl (by kernel_rfl) (by kernel_rfl) (by kernel_rfl) (fun _ _ _ h => h) (Or.inl ⟨by rfl, ?_⟩) (by assumption) ?_
          rotate_left
          · (intro w' hSw; (try dsimp only at hSw); go_simp; try with_reducible rfl)
          refine wpAnyH_take (i := 12) (v := ?_) rfl (by kernel_rfl) (by kernel_rfl) (by kernel_rfl) (fun _ _ _ h => h) (Or.inl ⟨by rfl, ?_⟩) (by assumption) ?_
          rotate_left
          · (intro w' hSw; (try dsimp only at hSw); go_simp; try with_reducible rfl)
          refine wpAnyH_take (i := 14) (v := ?_) rfl (by kernel_rfl) (by kernel_rfl) (by kernel_rfl) (fun _ _ _ h => h) (Or.inl ⟨by rfl, ?_⟩) (by assumption) ?_
          rotate_left
          · (intro w' hSw; (try dsimp only at hSw); go_simp; try with_reducible rfl)
          refine wpAnyH_take (i := 15) (v := ?_) rfl (by kernel_rfl) (by kernel_rfl) (by kernel_rfl) (fun _ _ _ h => h) (Or.inl ⟨by rfl, ?_⟩) (by assumption) ?_
          rotate_left
          · (intro w' hSw; (try dsimp only at hSw); go_simp; try with_reducible rfl)
          refine wpAnyH_take (i := 16) (v := ?_) rfl (by kernel_rfl) (by kernel_rfl) (by kernel_rfl) (fun _ _ _ h => h) (Or.inl ⟨by rfl, ?_⟩) (by assumption) ?_
          rotate_left
          · (intro w' hSw; (try dsimp only at hSw); go_simp; try with_reducible rfl)
          refine wpAnyH_take (i := 17) (v := ?_) rfl (by kernel_rfl) (by kernel_rfl) (by kernel_rfl) (fun _ _ _ h => h) (Or.inl ⟨by rfl, ?_⟩) (by assumption) ?_
          rotate_left
          · (intro w' hSw; (try dsimp only at hSw); go_simp; try with_reducible rfl)
          refine wpAnyH_take (i := 18) (v := ?_) rfl (by kernel_rfl) (by kernel_rfl) (by kernel_rfl) (fun _ _ _ h => h) (Or.inl ⟨by rfl, ?_⟩) (by assumption) ?_
          rotate_left
          · (intro w' hSw; (try dsimp only at hSw); go_simp; try with_reducible rfl)
          refine wpAnyH_take (i := 19) (v := ?_) rfl (by kernel_rfl) (by kernel_rfl) (by kernel_rfl) (fun _ _ _ h => h) (Or.inl ⟨by rfl, ?_⟩) (by assumption) ?_
          rotate_left
          · (intro w' hSw; (try dsimp only at hSw); go_simp; try with_reducible rfl)
          refine wpAnyH_ready (rs := [13, 20]) (by kernel_rfl) (by simp) ?_
          refine AllReadyH.cons rfl (fun K hK => ?_) (AllReadyH.cons rfl (fun K hK => ?_) AllReadyH.nil)
          all_goals
            go_simp
            refine hK.out _ _ (by first | exact hHeld | ((try dsimp only); go_keep)) (fun hHeld2 => ?_)
            clear hK K
            first
              | refine wpAnyH_ready (rs := [20]) (by decide +kernel) (by simp) ?_
              | refine wpAnyH_ready (rs := [13]) (by decide +kernel) (by simp) ?_
            refine AllReadyH.cons rfl (fun K hK => ?_) AllReadyH.nil
            go_simp
            refine hK.out _ _ (by first | exact hHeld2 | ((try dsimp only); go_keep)) (fun hHeld3 => ?_)
            clear hK K
            refine wpAnyH_ready (rs := [21]) (by kernel_rfl) (by simp) ?_
            refine AllReadyH.cons rfl (fun K hK => ?_) AllReadyH.nil
            refine step_net rfl (.tmp 63) (.tmp 70) 100 rfl i0 32 Tryz.underlying100 hi hz0 hz1 hz2 I2.out (by first | exact ((Below.refl _ _).drew).alloc (by simp) _ | exact ((Below.refl _ _).alloc (Nat.le_refl _) _).drew) t (k, t, u, 1) ht (by rw [VU.out]; rfl) ⟨wc.heap.size, 0, none⟩ 1 (by rfl) (newsS _ _ _) (by first | (unfold maxLen; omega) | (simp; unfold maxLen; omega)) (by first | omega | (simp; omega)) ?_
            intro gv cv w1 hJ ho hH hlt0
            obtain ⟨e0, e1, e2, hB1, e5⟩ := nw_rest hH ho ht (BoxA.out (S := fun _ => False) B2.out.A (Out.ofBelow (by first | exact ((Below.refl _ _).drew).alloc (by simp) _ | exact ((Below.refl _ _).alloc (Nat.le_refl _) _).drew)) (fun e => e)) N3.out
            have GR := Lib.hid (grown_of (bx := bx) (a := (u : Int)) (b := (t : Int)) (z := z) hH ht ho hJ (by unfold BoxH; rw [Below.block (w := wc) (B := wc.heap.size) (by first | exact ((Below.refl _ _).drew).alloc (by simp) _ | exact ((Below.refl _ _).alloc (Nat.le_refl _) _).drew) bx x2]; exact B2.out))
            have hS4 := hB1.c0
            have hS5 := hB1.c1
            clear hJ ho hH hlt0 hB1 e5
            refine hK.out _ _ ⟨e2, hS4, hS5⟩ (fun hHeld4 => ?_)
            clear hK K
            refine wpAnyH_take (i := 22) (v := ?_) rfl (by kernel_rfl) (by kernel_rfl) (by kernel_rfl) (fun _ _ _ h => h) (Or.inl ⟨by rfl, ?_⟩) (by assumption) ?_
            rotate_left
            · (intro w' hSw; (try dsimp only at hSw); go_simp; try with_reducible rfl)
            refine wpAnyH_ready (rs := [23]) (by kernel_rfl) (by simp) ?_
            refine AllReadyH.cons rfl (fun K hK => ?_) AllReadyH.nil
            go_simp
            refine hK.out _ _ ⟨(World.cell?_setCell_far _ _ _ _ n1).trans e2, (World.cell?_setCell_far _ _ _ _ n2).trans hS4, (World.cell?_setCell_far _ _ _ _ n2).trans hS5⟩ (fun hHeld5 => ?_)
            clear hK K
            refine wpAnyH_done (by kernel_rfl) ?_ _
            go_wp2
            go_roundw
            case rel =>
              obtain ⟨V3, hI3, -⟩ := GR.out
              have hI4 := hI3
              simp only [hut.symm, if_false] at hI4
              exact ⟨k + 1, V3, gf, gs, by go_num, by omega, by rw [← ED.out]; simp only [hut.symm, if_false]; exact hI4⟩
            case measure => simp [intOf]; omega
      · have tf : decide (k < L.length) = false := by simpa using hlt
        have hkl : k = L.length := by omega
        have hel : (ends L).length = L.length := by simp [ends]
        have hI : NwAt w0 wr (w.heap.size + 2) gx gf gl gs n (ends L).length V (stps (ends L)) x (fun _ => 0) lf := by
          have h := I.out
          rw [hkl] at h
          unfold stps
          rw [hel]
          exact h
        have I2 := Lib.hid hI
        clear hlt hkl hel hk hI
        go_wp2
        go_ret
        exact ⟨_, _, gf, gs, V, rfl, I2.out.net⟩
end Go.Proofs.YtdpacaomkahgfaaGreatDoor
