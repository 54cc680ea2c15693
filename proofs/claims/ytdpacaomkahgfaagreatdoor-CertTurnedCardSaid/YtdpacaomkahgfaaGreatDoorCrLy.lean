/-
  leadsTo: of each node where its arcs lead. Conditions: the graph may be.
  longestWays: by an order in which all comes ahead of what it leads to, of each node how many arcs the longest way to it has. Conditions: that order.
  Layers: what it answers. Span: the greatest less the least. Conditions: Span's numbers are within a million.
-/
import Derived.Test.YtdpacaomkahgfaaGreatDoorCqE
import Derived.Test.YtdpacaomkahgfaaGreatDoorCqW
import Derived.StillTailTactics
import Derived.Test.YtdpacaomkahgfaaGreatDoorCqG
namespace Go.Proofs.YtdpacaomkahgfaaGreatDoor
open Go.RowKit Go.Proofs.YtdpacaomkahgfaaGreatDoor.DagM

def Leads (N : Nat) (L : List Arc) (w : World) (e : Ending) (w' : World) : Prop := ∃ g V, e = .returned (.slice (some ⟨g, 0, none⟩) N N) ∧ RwsAt w w' g N V (outs (ends L))
def LdRel (N : Nat) (L : List Arc) (g : Nat) (w wr : World) (iv : Value) : Prop := ∃ (k : Nat) (V : Nat → Value), iv = .int .i64 k ∧ k ≤ L.length ∧ RwsAt w wr g N V (outs (ends (L.take k)))

set_option maxHeartbeats 4000000 in
set_option maxRecDepth 100000 in
theorem leadsTo (N : Nat) (v : Value) (L : List Arc) (w : World) (hA : ArcsAt w v L) (hM : May N L) :
    Calls Tryz.prog 46 #[.int .i64 N, v] w (Leads N L w) := by
  have HA := Lib.hid hA
  have HM := Lib.hid hM
  have hN : N ≤ 4096 := by have := hM.n1; omega
  have hL := hM.len
  obtain ⟨A, cap, rfl, hcap, -⟩ := hA
  obtain ⟨i0, hi, hz0, hz1, hz2⟩ := info_parts infoI
  have hmk2 := mkRowsN N (by omega)
  clear hM
  go_enter Tryz.func46, Tryz.ntmps46
  go_wp2
  clear hmk2
  go_loopw [12] (fun iv wr => LdRel N L w.heap.size w wr iv) (fun iv _ => L.length - (intOf iv).toNat)
  case atStart => exact ⟨0, _, rfl, by omega, rws_start ((Below.refl _ _).alloc (Nat.le_refl _) _) (Nat.le_refl _) (heap_alloc_new w _) (by omega)⟩
  case round =>
    obtain ⟨k, V, rfl, hk, hI⟩ := hrel
    have I := Lib.hid hI
    have hgl := hI.gl
    have hbs := hI.below.size
    clear hI
    by_cases hlt : k < L.length
    · obtain ⟨A', cap', e, _, hA⟩ := HA.out
      simp only [Value.slice.injEq, true_and] at e
      obtain ⟨rfl, rfl⟩ := e
      obtain ⟨b, o, rfl, hb, hcell⟩ := hA (by omega)
      obtain ⟨c0, c1, c2⟩ := hcell k hlt
      have d0 := (I.out.below.cell (p := ⟨b, o + k * 3, none⟩) hb).trans c0
      have d1 := (I.out.below.cell (p := ⟨b, o + k * 3 + 1, none⟩) hb).trans c1
      have d2 := (I.out.below.cell (p := ⟨b, o + k * 3 + 2, none⟩) hb).trans c2
      have ok := HM.out.ok L[k] (List.getElem_mem hlt)
      have he := ends_snoc L k hlt
      have HE := Lib.hid he
      clear he hA hcell c0 c1 c2
      generalize L[k] = a at *
      obtain ⟨x, y, z⟩ := a
      obtain ⟨u, rfl⟩ : ∃ u : Nat, x = (u : Int) := ⟨x.toNat, by simp only at ok; omega⟩
      obtain ⟨t, rfl⟩ : ∃ t : Nat, y = (t : Int) := ⟨y.toNat, by simp only at ok; omega⟩
      simp only at ok d0 d1 d2
      have hu : u < N := by omega
      clear ok
      have hr1 := outs_len (ends (L.take k)) u
      have hr2 := ends_len L k
      have hRu : (outs (ends (L.take k)) u).length ≤ 16384 := by omega
      clear hr1 hr2
      have g0 := I.out.cellG hu
      have g1 := I.out.frG u
      go_wp2
      go_region_law (refine step_rws rfl (.tmp 23) (.tmp 26) 25 rfl i0 8 Tryz.underlying25 hi hz0 hz1 hz2 I.out ((((Below.refl _ _).alloc (Nat.le_refl _) _).alloc (by simp) _).drew) u t hu (by simp [Act.eval]) ⟨wr.heap.size + 1, 0, none⟩ 1 (by simp [Act.eval]) (by intro j z hz; have hj : j = 0 := (by have := List.getElem?_eq_some_iff.1 hz; simp at this; omega); subst hj; simp at hz; subst hz; go_simp; rfl) (by unfold maxLen; omega) (by omega) ?_; intro gv cv w1 hJ ho hH hown; have J := Lib.hid hJ; have e0 := (ho.cell u hH.gl (fun e => hH.offG u hu e)).trans (hH.cellG hu); have e1 := (ho.frz u hH.gl (fun e => hH.offG u hu e)).trans (hH.frG u); have p0 : w1.cell? ⟨wr.heap.size, 0, none⟩ = some (.int .i64 (u : Int)) := (ho.cell 0 (by (simp <;> omega)) (fun e => absurd (hown _ e) (Nat.lt_irrefl _))).trans (by go_simp); clear hJ ho hH hown)
      all_goals
        go_wp2
        go_roundw
        case rel =>
          have e2 : (fun v => if v = u then outs (ends (L.take k)) u ++ [t] else outs (ends (L.take k)) v) = outs (ends (L.take (k + 1))) := by
            funext v
            rw [HE.out, outs_snoc]
            by_cases e : v = u
            · subst e; simp
            · simp [e, Ne.symm e]
          have J2 := J.out
          rw [e2] at J2
          exact ⟨k + 1, _, by go_num, by omega, (by first | exact J2 | exact J2.quiet (Below.refl _ _).drew)⟩
        case measure => simp [intOf]; omega
    · obtain rfl : k = L.length := by omega
      go_wp2
      go_ret
      have h := I.out
      rw [List.take_length] at h
      exact ⟨_, V, rfl, h⟩
end Go.Proofs.YtdpacaomkahgfaaGreatDoor

namespace Go.Proofs.YtdpacaomkahgfaaGreatDoor
open Go.RowKit Go.Proofs.YtdpacaomkahgfaaGreatDoor.DagM

/-- An order of all N nodes: all that leads to a node comes ahead of it. -/
structure Ahead (E : EndL) (N : Nat) (P : List Nat) : Prop where
  len : P.length = N
  lt : ∀ v ∈ P, v < N
  fresh : ∀ k (h : k < P.length) w, (P[k], w) ∈ E → w < N ∧ w ∉ P.take k ++ [P[k]]
def Longest (E : EndL) (N : Nat) (P : List Nat) (w : World) (e : Ending) (w' : World) : Prop := ∃ g x, e = .returned (.slice (some ⟨g, 0, none⟩) N N) ∧ XsAt w w' g N x ∧ LaySt E P x
def LwRel (E : EndL) (N : Nat) (P : List Nat) (w wr : World) (iv : Value) : Prop := ∃ (k : Nat) (x : Nat → Nat), iv = .int .i64 k ∧ k ≤ P.length ∧ XsAt w wr w.heap.size N x ∧ LaySt E (P.take k) x
def LvRel (E : EndL) (N : Nat) (Q : List Nat) (v : Nat) (B : List Nat) (w wr : World) (iv : Value) : Prop := ∃ (j : Nat) (x : Nat → Nat), iv = .int .i64 j ∧ j ≤ B.length ∧ XsAt w wr w.heap.size N x ∧ LayIn E Q v (B.take j) x

set_option maxHeartbeats 4000000 in
set_option maxRecDepth 100000 in
theorem longestWays (E : EndL) (N g : Nat) (ov : Value) (P : List Nat) (V : Nat → Value) (w : World) (hN : N ≤ 4096) (hP : Ahead E N P) (hO : IntsAt w ov (castI P)) (hR : RowsAt w g N V (outs E)) (hB : ∀ v, (outs E v).length ≤ 16384) :
    Calls Tryz.prog 45 #[ov, .slice (some ⟨g, 0, none⟩) N N] w (Longest E N P w) := by
  have HP := Lib.hid hP
  have HO := Lib.hid hO
  have HR := Lib.hid hR
  have HB := Lib.hid hB
  obtain ⟨ao, co, rfl⟩ := hO.form
  have hl : (castI P).length = N := by rw [castI_len]; exact hP.len
  have HL := Lib.hid hl
  have hmk := mkInts N hN
  rw [hl]
  clear hP hO hR hB hl
  go_enter Tryz.func45, Tryz.ntmps45
  go_wp2
  clear hmk
  go_loopw [15, 7, 22, 23, 24, 9] (fun iv _ _ _ _ _ wr => LwRel E N P w wr iv) (fun iv _ _ _ _ _ _ => P.length - (intOf iv).toNat)
  case atStart => exact ⟨0, _, rfl, by omega, xs_start ((Below.refl _ _).alloc (Nat.le_refl _) _) (Nat.le_refl _) (heap_alloc_new w _) (by omega), by rw [List.take_zero]; exact laySt_nil⟩
  case round =>
    obtain ⟨k, x, rfl, hk, hX, hS⟩ := hrel
    have X := Lib.hid hX
    have S := Lib.hid hS
    have hgl := hX.gl
    have hbs := hX.below.size
    clear hX hS
    have hlen := HP.out.len
    by_cases hlt : k < N
    · have hkP : k < P.length := by omega
      obtain ⟨b, o, c2, e, hb, hcell⟩ := HO.out.nth (i := k) (by rw [castI_len]; omega)
      simp only [Value.slice.injEq] at e
      obtain ⟨rfl, _, rfl⟩ := e
      rw [castI_get P k hkP] at hcell
      have hv := HP.out.lt P[k] (List.getElem_mem hkP)
      have d0 := (X.out.below.cell (p := ⟨b, o + k, none⟩) hb).trans hcell
      have hfr := HP.out.fresh k hkP
      have HF := Lib.hid hfr
      have hts : P.take (k + 1) = P.take k ++ [P[k]] := List.take_succ_eq_append_getElem hkP
      have TS := Lib.hid hts
      clear hcell hfr hts hlen
      generalize P[k] = v at *
      have g0 := (X.out.below.cell (p := ⟨g, v, none⟩) HR.out.gl).trans (HR.out.cell v hv)
      have RV := Lib.hid (HR.out.rows v hv)
      obtain ⟨ar, cr, hVv⟩ := RV.out.form
      rw [castI_len] at hVv
      rw [hVv] at g0
      have HV := Lib.hid hVv
      have hBl := HB.out v
      clear hVv
      go_wp2
      obtain ⟨Bl, hBe⟩ : ∃ Bl, Bl = outs E v := ⟨_, rfl⟩
      have BE := Lib.hid hBe
      rw [← hBe] at hBl
      rw [← hBe]
      clear hBe g0 d0
      go_loopw [24, 9] (fun iv _ wr2 => LvRel E N (P.take k) v Bl w wr2 iv) (fun iv _ _ => Bl.length - (intOf iv).toNat)
      case atStart => exact ⟨0, x, rfl, by omega, X.out, by rw [List.take_zero]; exact S.out.begin v⟩
      case round =>
        clear X S
        obtain ⟨j, x, rfl, hj, hX, hI⟩ := hrel
        have X := Lib.hid hX
        have I := Lib.hid hI
        have hgl := hX.gl
        have hbs := hX.below.size
        clear hX
        by_cases hjl : j < Bl.length
        · have hjo : j < (outs E v).length := by rw [← BE.out]; exact hjl
          obtain ⟨b2, o2, c3, e, hb2, hcell⟩ := RV.out.nth (i := j) (by rw [castI_len]; exact hjo)
          rw [castI_get _ j hjo] at hcell
          rw [HV.out] at e
          simp only [Value.slice.injEq] at e
          obtain ⟨rfl, _, rfl⟩ := e
          have hmem : (v, (outs E v)[j]) ∈ E := outs_mem (List.getElem_mem hjo)
          have hts : Bl.take (j + 1) = Bl.take j ++ [(outs E v)[j]] := by
            rw [List.take_succ_eq_append_getElem hjl]
            congr 2
            simp [BE.out]
          have TB := Lib.hid hts
          have ME := Lib.hid hmem
          obtain ⟨ht, hno⟩ := HF.out _ hmem
          have NO := Lib.hid hno
          have d1 := (X.out.below.cell (p := ⟨b2, o2 + j, none⟩) hb2).trans hcell
          clear hcell hmem hts hno
          generalize (outs E v)[j] = t at *
          have x0 := X.out.cell ht
          have x1 := X.out.cell hv
          have x2 := X.out.fr t
          have hx1 := hI.bv
          have hx0 := hI.bd t
          have hk2 : (P.take k).length ≤ 4096 := by rw [List.length_take]; omega
          clear hI
          obtain ⟨m, hm, hm2⟩ : ∃ m : Nat, max (x t : Int) ((x v : Int) + 1) = (m : Int) ∧ m = max (x t) (x v + 1) := ⟨max (x t) (x v + 1), by omega, rfl⟩
          have M := Lib.hid hm2
          have hxv : x v ≤ 4096 := by omega
          have hxt : x t ≤ 4097 := by omega
          clear hm2 hx0 hx1 hk2
          go_wp2
          go_still_tail 13, (by kernel_rfl)
          change wpList _ _ _ _ _ wr.drew
          go_wp2
          go_roundw
          case rel =>
            have X2 := X.out.set t m
            have I2 := I.out.step ME.out NO.out
            rw [← TB.out, ← M.out] at I2
            exact ⟨j + 1, _, by go_num, by omega, X2.quiet (Below.refl _ _).drew, I2⟩
          case measure => simp [intOf]; omega
        · obtain hjb : j = Bl.length := by omega
          subst hjb
          have I2 := I.out
          rw [List.take_length, BE.out] at I2
          have S2 := I2.done
          rw [← TS.out] at S2
          have S := Lib.hid S2
          clear I2 S2 hI
          go_wp2
          go_roundw
          case rel => exact ⟨k + 1, x, by go_num, by omega, X.out, S.out⟩
          case measure => simp [intOf]; omega
    · obtain hkP : k = P.length := by omega
      have h := S.out
      rw [hkP, List.take_length] at h
      have S2 := Lib.hid h
      clear h hkP hlen
      go_wp2
      go_ret
      exact ⟨_, x, rfl, X.out, S2.out⟩
end Go.Proofs.YtdpacaomkahgfaaGreatDoor

namespace Go.Proofs.YtdpacaomkahgfaaGreatDoor
open Go.RowKit Go.Proofs.YtdpacaomkahgfaaGreatDoor.DagM

/-- What Layers leaves: the layers d, if the graph is a dag; its error. -/
def Layered (n : Int) (L : List Arc) (w : World) (e : Ending) (w' : World) : Prop :=
  (ordErr n L = 0 ∧ ∃ v d, e = .returned (.tuple #[v, .int .i64 0]) ∧ OwnN w' w.heap.size v ((List.range n.toNat).map d) ∧ Lay (ends L) d ∧ (∀ u, d u ≤ n.toNat) ∧ Below w.heap.size w w') ∨
  (ordErr n L ≠ 0 ∧ e = .returned (.tuple #[.slice none 0 0, .int .i64 (ordErr n L)]) ∧ Below w.heap.size w w')
theorem ends_lt {n : Int} {L : List Arc} (h : May n L) : ∀ e ∈ ends L, e.1 < n.toNat ∧ e.2 < n.toNat := by
  intro e he
  obtain ⟨a, ha, rfl⟩ := List.mem_map.1 he
  have := h.ok a ha
  simp only
  omega
/-- The order of a dag is one in which all comes ahead of what it leads to. -/
theorem ahead_of {n : Int} {L : List Arc} (h0 : ordErr n L = 0) : Ahead (ends L) n.toNat (ordRes n L) ∧ ∀ e ∈ ends L, e.1 ∈ ordRes n L := by
  have hM := ordErr_may h0
  have hG := (topo_gr (E := ends L) (n := n.toNat)).1
  have hl := gr_len hG
  rw [ordErr_ok hM] at h0
  have hlen : ¬ (topo (ends L) n.toNat).length < n.toNat := fun h => by rw [if_pos h] at h0; omega
  have e : ordRes n L = topo (ends L) n.toNat := by
    unfold ordRes
    rw [if_pos ((mayB_iff n L).2 hM), if_neg hlen]
  rw [e]
  refine ⟨⟨by omega, gr_lt hG, fun k hk w hw => ⟨(ends_lt hM _ hw).2, ?_⟩⟩, fun e he => ?_⟩
  · have h1 : (topo (ends L) n.toNat).take (k + 1) = (topo (ends L) n.toNat).take k ++ [(topo (ends L) n.toNat)[k]] := List.take_succ_eq_append_getElem hk
    have h2 := gr_take hG (k + 1)
    rw [h1] at h2
    exact gr_fresh h2 hw
  · have hs := (gr_nodup hG)
    apply Classical.byContradiction
    intro hno
    have := pigeon (n := n.toNat) (P := e.1 :: topo (ends L) n.toNat) (List.nodup_cons.2 ⟨hno, hs⟩) (fun v hv => by
      rcases List.mem_cons.1 hv with rfl | hv
      · exact (ends_lt hM _ he).1
      · exact gr_lt hG v hv)
    simp at this
    omega

set_option maxHeartbeats 1000000 in
theorem layers (n : Int) (v : Value) (L : List Arc) (w : World) (hA : ArcsAt w v L) :
    Calls Tryz.prog 23 #[.int .i64 n, v] w (Layered n L w) := by
  have HA := Lib.hid hA
  by_cases h0 : ordErr n L = 0
  · have hM := ordErr_may h0
    obtain ⟨N, rfl⟩ : ∃ N : Nat, n = (N : Int) := ⟨n.toNat, by have := hM.n0; omega⟩
    have hN : N ≤ 4096 := by have := hM.n1; omega
    have ah := ahead_of h0
    rw [Int.toNat_natCast] at ah
    have AH := Lib.hid ah
    have MY := Lib.hid hM
    have H0 := Lib.hid h0
    have OB := Lib.hid (fun u => Nat.le_trans (outs_len (ends L) u) (by have := hM.len; unfold ends; simpa using this : (ends L).length ≤ 16384))
    clear ah hM h0 hA
    go_enter Tryz.func23, Tryz.ntmps23
    go_wp2_with (first
      | (go_at_call 45; (with_reducible refine (longestWays (ends L) N _ _ _ _ _ hN AH.out.1 (O1.out.ints.below (Rw2.out.below.mono (Nat.le_refl _))) Rw2.out.read OB.out).mono ?_); rintro e w3 ⟨g3, x3, rfl, hX, hS⟩; have X3 := Lib.hid hX; have S3 := Lib.hid hS; clear hX hS)
      | (go_at_call 46; refine (leadsTo N v L _ (HA.out.below B1.out) MY.out).mono ?_; rintro e w2 ⟨g2, V2, rfl, hR⟩; have Rw2 := Lib.hid hR; clear hR)
      | (go_at_call 44; go_loud (refine (order N v L _ HA.out).mono ?_; rintro e w1 ⟨v1, rfl, ho, hb⟩; obtain ⟨a1, c1, rfl⟩ := ho.form; rw [H0.out]; have B1 := Lib.hid hb; have O1 := Lib.hid ho.toI; clear ho hb)))
    go_ret2
    refine Or.inl ⟨H0.out, _, x3, rfl, ?_, S3.out.lay AH.out.2, fun u => ?_, ?_⟩
    · exact X3.out.own.base (Nat.le_trans B1.out.size Rw2.out.below.size)
    · have := S3.out.bd u
      rw [AH.out.1.len] at this
      simpa using this
    · exact B1.out.trans ((Rw2.out.below.trans (X3.out.below.mono Rw2.out.below.size)).mono B1.out.size)
  · have hb : (ordErr n L == 0) = false := by simpa using h0
    have hb2 : (ordErr n L != 0) = true := by simpa using h0
    have H0 := Lib.hid h0
    clear h0 hA
    go_enter Tryz.func23, Tryz.ntmps23
    go_wp2_with (go_at_call 44; refine (order n v L _ HA.out).mono ?_; rintro e w1 ⟨v1, rfl, ho, hb⟩; obtain ⟨a1, c1, rfl⟩ := ho.form; have B1 := Lib.hid hb; clear ho hb)
    go_ret2
    exact Or.inr ⟨H0.out, rfl, B1.out⟩


end Go.Proofs.YtdpacaomkahgfaaGreatDoor
