/-
  The reference's Layers and Span; a list of arcs cloned; wakes answers true. Conditions: the graph is a dag whose layers are d; numbers within a million.
  The reference's Right and Order answer what the program's do. Conditions: none.
  The reference's Order answers what the program's does. Conditions: none.
  Ints raised till they fit; rows of ints with room. Conditions: none.
-/
import Derived.Test.YtdpacaomkahgfaaGreatDoorCrLy
import Derived.Test.YtdpacaomkahgfaaGreatDoorCrLa
import Derived.IntWalk
import Derived.Lib.SliceRun
import Derived.Test.YtdpacaomkahgfaaGreatDoorCqG
import Derived.Test.YtdpacaomkahgfaaGreatDoorCrLb
import Derived.StillTailTactics
namespace Go.Proofs.YtdpacaomkahgfaaGreatDoor
open Go.RowKit Go.Proofs.YtdpacaomkahgfaaGreatDoor.DagM

def RefLaid (N : Nat) (d : Nat → Nat) (w : World) (e : Ending) (w' : World) : Prop := ∃ v, e = .returned v ∧ OwnN w' w.heap.size v ((List.range N).map d) ∧ Below w.heap.size w w'
def RlOut (N : Nat) (d : Nat → Nat) (w wr : World) (iv : Value) : Prop := ∃ (r : Nat) (x : Nat → Nat), iv = .int .i64 r ∧ r ≤ N + 1 ∧ XsAt w wr w.heap.size N x ∧ LayRef d x r []
def RlIn (N : Nat) (L : List Arc) (d : Nat → Nat) (r : Nat) (w wr : World) (iv : Value) : Prop := ∃ (i : Nat) (x : Nat → Nat), iv = .int .i64 i ∧ i ≤ L.length ∧ XsAt w wr w.heap.size N x ∧ LayRef d x r (ends (L.take i))
theorem ends_mem (L : List Arc) (k : Nat) (h : k < L.length) : (L[k].1.toNat, L[k].2.1.toNat) ∈ ends L := List.mem_map.2 ⟨L[k], List.getElem_mem h, rfl⟩


def SpRel (x : List Int) (iv lv hv : Value) : Prop := ∃ (k : Nat) (l h : Int), iv = .int .i64 k ∧ lv = .int .i64 l ∧ hv = .int .i64 h ∧ k ≤ x.length ∧ (k = 0 → l = 0 ∧ h = 0) ∧ (0 < k → l = Lib.minOf (x.take k) ∧ h = Lib.maxOf (x.take k))
theorem spRel_next {x : List Int} {k : Nat} {l h y : Int} (hk : k < x.length) (hy : x.getD k 0 = y) (h0 : k = 0 → l = 0 ∧ h = 0) (h1 : 0 < k → l = Lib.minOf (x.take k) ∧ h = Lib.maxOf (x.take k)) :
    Lib.minOf (x.take (k + 1)) = (if k = 0 then y else min l y) ∧ Lib.maxOf (x.take (k + 1)) = (if k = 0 then y else max h y) := by
  by_cases e : k = 0
  · subst e
    rw [Lib.minOf_one, Lib.maxOf_one, hy]
    simp
  · rw [Lib.minOf_step x k (by omega) hk, Lib.maxOf_step x k (by omega) hk, hy, ← (h1 (by omega)).1, ← (h1 (by omega)).2, if_neg e, if_neg e]
    exact ⟨rfl, rfl⟩


/-- A clone of arcs in a row of the call's own. -/
def ClonedA (L : List Arc) (w : World) (e : Ending) (w' : World) : Prop := ∃ v', e = .returned v' ∧ OwnA w' w.heap.size v' L ∧ Below w.heap.size w w'
theorem infoA3c : (Tryz.prog.info? 40).map (fun i => (i.zero, i.size, i.bytes)) = some (some (.agg #[.int .i64 0, .int .i64 0, .int .i64 0]), 3, 24) := by kernel_rfl
theorem flat_one (L : List Arc) : ∀ u ∈ L.flatMap encA, u.oneCell' = true := fun u hu => by
  obtain ⟨a, _, h⟩ := List.mem_flatMap.1 hu
  exact encA_one a u h
theorem own_empty (w : World) (T : TypeId) (k : Nat) : (w.alloc (.cells #[] T)).ownsRow w.heap.size T k (.slice (some ⟨w.heap.size, 0, none⟩) 0 0) 0 [] := by
  exact ⟨by simp, Or.inr ⟨w.heap.size, 0, #[], rfl, Nat.le_refl _, heap_alloc_new w _, Nat.le_refl _, by simp, by simp, by simp⟩⟩

set_option maxHeartbeats 1000000 in
set_option maxRecDepth 100000 in
theorem cloneA (v : Value) (L : List Arc) (w : World) (h : ArcsAt w v L) (hl : L.length ≤ 1000000) :
    Calls Tryz.prog 11 #[v] w (ClonedA L w) := by
  obtain ⟨A, cap, rfl, hcap, hA⟩ := h
  obtain ⟨i0, hi, hz0, hz1, hz2⟩ := info_parts infoA3c
  cases A with
  | none =>
    have h0 : L.length = 0 := by
      apply Classical.byContradiction
      intro h
      obtain ⟨b, o, e, _⟩ := hA (by omega)
      cases e
    obtain rfl : L = [] := List.eq_nil_of_length_eq_zero h0
    clear hA
    have qe : ∀ (w : World) (a : Option Addr) (n c n' c' : Nat), (binOp .eql 29 (.slice a n c) (.slice none n' c')).run Tryz.prog w = .ok (.bool a.isNone) w := fun w a n c n' c' => Lib.run_eql_slice_nil w _ _ a n c n' c' Tryz.underlying29
    go_enter Tryz.func11, Tryz.ntmps11
    go_wp2
    go_ret
    exact ⟨_, rfl, World.ownsRow_nil _ _ _ _, Below.refl _ _⟩
  | some a =>
    have news : ∀ j z, (L.flatMap encA)[j]? = some z → w.cell? (a.add j) = some z := by
      intro j z hj
      have hlen := flat_len encA encA_len L
      have hjl := (List.getElem?_eq_some_iff.1 hj).1
      have hpos : 0 < L.length := by omega
      obtain ⟨b, o, e, hb, hc⟩ := hA hpos
      injection e with e
      subst e
      have hk : j / 3 < L.length := by omega
      obtain ⟨c0, c1, c2⟩ := hc (j / 3) hk
      have ej : j = j / 3 * 3 + j % 3 := by omega
      have ea := arc_at L (j / 3) hk (j % 3) (by omega)
      rw [← ej, hj] at ea
      rw [add_lit, ea]
      have h3 : j % 3 = 0 ∨ j % 3 = 1 ∨ j % 3 = 2 := by omega
      rcases h3 with h3 | h3 | h3
      · rw [h3, show o + j = o + j / 3 * 3 by omega, c0]; rfl
      · rw [h3, show o + j = o + j / 3 * 3 + 1 by omega, c1]; rfl
      · rw [h3, show o + j = o + j / 3 * 3 + 2 by omega, c2]; rfl
    have NW := Lib.hid news
    have FL := Lib.hid (flat_len encA encA_len L)
    clear hA news
    have qe : ∀ (w : World) (a : Option Addr) (n c n' c' : Nat), (binOp .eql 29 (.slice a n c) (.slice none n' c')).run Tryz.prog w = .ok (.bool a.isNone) w := fun w a n c n' c' => Lib.run_eql_slice_nil w _ _ a n c n' c' Tryz.underlying29
    go_enter Tryz.func11, Tryz.ntmps11
    go_wp2_with (at_builtin; refine wpList_append_fresh rfl (.tmp 5) (.tmp 6) 29 rfl w.heap.size 40 i0 (.agg #[.int .i64 0, .int .i64 0, .int .i64 0]) 3 24 Tryz.underlying29 hi hz0 hz1 hz2 rfl (by decide) (.slice (some ⟨w.heap.size, 0, none⟩) 0 0) 0 [] rfl (own_empty w _ _) a L.length cap (L.flatMap encA) rfl FL.out (fun j z hj => by have h1 := NW.out j z hj; exact (World.cell?_alloc_lt w _ _ (World.block_lt_of_cell? w _ h1)).trans h1) (flat_one L) (by unfold maxLen; omega) (by omega) (by simp) ?_; intro v4 w4 hown hgrow hfr; have O4 : Hid (OwnA w4 w.heap.size v4 L) := Lib.hid (by unfold OwnA; simpa using hown); have B4 : Hid (Below w.heap.size w w4) := Lib.hid (((Below.refl _ _).alloc (Nat.le_refl _) _).trans (((Out.refl _ _).grown (S := fun b => b = w.heap.size) hgrow (fun k _ e => by simp [Value.ownBlock] at e; exact e.symm)).below (B := w.heap.size) (by simp) (fun i _ e => by omega))); clear hown hgrow hfr)
    go_ret
    exact ⟨_, rfl, O4.out, B4.out⟩
/-- The layers of a dag, known. -/
def LayIs (w : World) (l : List Int) (e : Ending) (w' : World) : Prop := ∃ v, e = .returned (.tuple #[v, .int .i64 0]) ∧ OwnI w' w.heap.size v l ∧ Below w.heap.size w w'
theorem layersIs (n : Int) (v : Value) (L : List Arc) (d : Nat → Nat) (l : List Int) (w : World) (hA : ArcsAt w v L) (h0 : ordErr n L = 0) (hd : Lay (ends L) d) (hl : castI ((List.range n.toNat).map d) = l) :
    Calls Tryz.prog 23 #[.int .i64 n, v] w (LayIs w l) := by
  refine (layers n v L w hA).mono fun e w' h => ?_
  rcases h with ⟨_, v1, d1, rfl, ho, h1, _, hb⟩ | ⟨h1, _⟩
  · obtain rfl := h1.uniq hd
    exact ⟨v1, rfl, hl ▸ ho.toI, hb⟩
  · exact absurd h0 h1
theorem layersNo (n : Int) (v : Value) (L : List Arc) (w : World) (hA : ArcsAt w v L) (h0 : ordErr n L ≠ 0) :
    Calls Tryz.prog 23 #[.int .i64 n, v] w fun e w' => e = .returned (.tuple #[.slice none 0 0, .int .i64 (ordErr n L)]) ∧ Below w.heap.size w w' := by
  refine (layers n v L w hA).mono fun e w' h => ?_
  rcases h with ⟨h1, _⟩ | ⟨_, h1, hb⟩
  · exact absurd h1 h0
  · exact ⟨h1, hb⟩
abbrev wkL : List Arc := [(0, 1, 0), (1, 2, 0), (0, 2, 0)]
def wkD : Nat → Nat := fun u => if u = 1 then 1 else if u = 2 then 2 else 0
theorem wk_ord : ordErr 3 wkL = 0 := by decide +kernel
theorem wk_lay : Lay (ends wkL) wkD := by
  refine ⟨by decide, fun w => ?_⟩
  by_cases h1 : w = 1
  · subst h1; exact Or.inr ⟨(0, 1), by decide, rfl, rfl⟩
  · by_cases h2 : w = 2
    · subst h2; exact Or.inr ⟨(1, 2), by decide, rfl, rfl⟩
    · exact Or.inl (by simp [wkD, h1, h2])
theorem wk_span : spanI [0, 1, 2] = 2 := by decide +kernel

end Go.Proofs.YtdpacaomkahgfaaGreatDoor

namespace Go.Proofs.YtdpacaomkahgfaaGreatDoor
open Go.RowKit Go.Proofs.YtdpacaomkahgfaaGreatDoor.DagM

def RtRel (n : Int) (L : List Arc) (w wr : World) (iv : Value) : Prop := ∃ k : Nat, iv = .int .i64 k ∧ k ≤ L.length ∧ Below w.heap.size w wr ∧ (L.take k).any (badA n) = false
theorem badA_cases {n : Int} {a : Arc} (h : badA n a = true) : a.1 < 0 ∨ (0 ≤ a.1 ∧ n ≤ a.1) ∨ (0 ≤ a.1 ∧ a.1 < n ∧ a.2.1 < 0) ∨ (0 ≤ a.1 ∧ a.1 < n ∧ 0 ≤ a.2.1 ∧ n ≤ a.2.1) ∨ (0 ≤ a.1 ∧ a.1 < n ∧ 0 ≤ a.2.1 ∧ a.2.1 < n ∧ a.2.2 < 0) ∨ (0 ≤ a.1 ∧ a.1 < n ∧ 0 ≤ a.2.1 ∧ a.2.1 < n ∧ 0 ≤ a.2.2 ∧ 1000000 < a.2.2) := by
  have : ¬ (0 ≤ a.1 ∧ a.1 < n ∧ 0 ≤ a.2.1 ∧ a.2.1 < n ∧ 0 ≤ a.2.2 ∧ a.2.2 ≤ 1000000) := fun e => by rw [(badA_iff n a).2 e] at h; cases h
  omega
set_option maxHeartbeats 4000000 in
set_option maxRecDepth 100000 in
theorem right (n : Int) (v : Value) (L : List Arc) (w : World) (hA : ArcsAt w v L) :
    Calls Tryz.prog 57 #[.int .i64 n, v] w fun e w' => e = .returned (.bool (mayB n L)) ∧ Below w.heap.size w w' := by
  have HA := Lib.hid hA
  obtain ⟨A, cap, rfl, hcap, -⟩ := hA
  by_cases h : 0 ≤ n ∧ n ≤ 4096 ∧ L.length ≤ 16384
  · obtain ⟨h1, h2, h3⟩ := h
    have e : mayB n L = !L.any (badA n) := by
      unfold mayB
      have a1 : decide (n < 0) = false := by simpa using h1
      have a2 : decide (4096 < n) = false := by simpa using h2
      have a3 : decide (16384 < L.length) = false := by simpa using h3
      rw [a1, a2, a3]
      rfl
    have E := Lib.hid e
    clear e
    go_enter Tryz.func57, Tryz.ntmps57
    go_wp2
    go_loopw [5] (fun iv wr => RtRel n L w wr iv) (fun iv _ => L.length - (intOf iv).toNat)
    case atStart => exact ⟨0, rfl, by omega, Below.refl _ _, rfl⟩
    case round =>
      obtain ⟨k, rfl, hk, hB, hN⟩ := hrel
      have B := Lib.hid hB
      have N := Lib.hid hN
      clear hB hN
      by_cases hlt : k < L.length
      · obtain ⟨A', cap', e, _, hA⟩ := HA.out
        simp only [Value.slice.injEq, true_and] at e
        obtain ⟨rfl, rfl⟩ := e
        obtain ⟨b, o, rfl, hb, hcell⟩ := hA (by omega)
        obtain ⟨c0, c1, c2⟩ := hcell k hlt
        have d0 := (B.out.cell (p := ⟨b, o + k * 3, none⟩) hb).trans c0
        have d1 := (B.out.cell (p := ⟨b, o + k * 3 + 1, none⟩) hb).trans c1
        have d2 := (B.out.cell (p := ⟨b, o + k * 3 + 2, none⟩) hb).trans c2
        have ht := Lib.hid (any_take (badA n) L k hlt)
        have hf := Lib.hid (any_found (badA n) L k hlt)
        clear hA hcell c0 c1 c2
        generalize L[k] = a at *
        have hz := B.out.size
        cases hbad : badA n a with
        | true =>
          have hf2 := Lib.hid (hf.out hbad)
          have hc := badA_cases hbad
          clear hbad ht hf
          obtain ⟨x, y, z⟩ := a
          simp only at hc d0 d1 d2
          rcases hc with h | ⟨q1, h⟩ | ⟨q1, q2, h⟩ | ⟨q1, q2, q3, h⟩ | ⟨q1, q2, q3, q4, h⟩ | ⟨q1, q2, q3, q4, q5, h⟩
          all_goals
            go_wp2
            go_ret
            exact ⟨ret_bool (by rw [E.out, hf2.out]; rfl), B.out.trans (((Below.refl _ _).alloc (Nat.le_refl _) _).mono hz)⟩
        | false =>
          have hb2 := Lib.hid hbad
          obtain ⟨q1, q2, q3, q4, q5, q6⟩ := (badA_iff n a).1 hbad
          clear hbad hf
          obtain ⟨x, y, z⟩ := a
          simp only at q1 q2 q3 q4 q5 q6 d0 d1 d2
          go_wp2
          go_roundw
          case rel => exact ⟨k + 1, by go_num, by omega, B.out.trans (((Below.refl _ _).alloc (Nat.le_refl _) _).mono hz), by rw [ht.out, N.out, hb2.out]; rfl⟩
          case measure => simp [intOf]; omega
      · obtain rfl : L.length = k := by omega
        go_wp2
        go_ret
        have h := N.out
        rw [List.take_length] at h
        exact ⟨ret_bool (by rw [E.out, h]; rfl), B.out⟩
  · have e : mayB n L = false := by
      cases e : mayB n L
      · rfl
      · have := (mayB_iff n L).1 e
        exact absurd ⟨this.n0, this.n1, this.len⟩ h
    rw [e]
    clear e
    by_cases h1 : n < 0
    · clear h
      go_enter Tryz.func57, Tryz.ntmps57
      go_wp2
      go_ret
      exact ⟨rfl, Below.refl _ _⟩
    · by_cases h2 : 4096 < n
      · clear h
        go_enter Tryz.func57, Tryz.ntmps57
        go_wp2
        go_ret
        exact ⟨rfl, Below.refl _ _⟩
      · have h3 : 16384 < L.length := by omega
        clear h
        go_enter Tryz.func57, Tryz.ntmps57
        go_wp2
        go_ret
        exact ⟨rfl, Below.refl _ _⟩

/-- The least of k.. below N that can come next, or -1. -/
def scan (E : EndL) (P : List Nat) (N k : Nat) : Int := match (List.range' k (N - k)).find? (free E P) with
  | none => -1
  | some u => (u : Int)
theorem scan_end (E : EndL) (P : List Nat) (N : Nat) : scan E P N N = -1 := by simp [scan]
theorem scan_step (E : EndL) (P : List Nat) (N k : Nat) (h : k < N) : scan E P N k = if free E P k then (k : Int) else scan E P N (k + 1) := by
  unfold scan
  have e : N - k = (N - (k + 1)) + 1 := by omega
  rw [e, List.range'_succ, List.find?_cons]
  by_cases hf : free E P k <;> simp [hf]
theorem scan_zero (E : EndL) (P : List Nat) (N : Nat) : (scan E P N 0 = -1 ∧ nextOf E N P = none) ∨ ∃ u, u < N ∧ scan E P N 0 = (u : Int) ∧ nextOf E N P = some u := by
  have e : nextOf E N P = (List.range' 0 (N - 0)).find? (free E P) := by rw [nextOf, List.range_eq_range']; rfl
  unfold scan
  rw [← e]
  cases h : nextOf E N P with
  | none => exact Or.inl ⟨rfl, rfl⟩
  | some u => exact Or.inr ⟨u, ((next_some u).1 h).1, rfl, rfl⟩
def okE (P : List Nat) (v : Nat) (e : Nat × Nat) : Bool := e.2 != v || P.contains e.1
theorem free_okE (E : EndL) (P : List Nat) (v : Nat) : free E P v = (!P.contains v && E.all (okE P v)) := rfl
theorem all_take {α : Type} (p : α → Bool) (L : List α) (k : Nat) (h : k < L.length) : (L.take (k + 1)).all p = ((L.take k).all p && p L[k]) := by
  rw [List.take_succ_eq_append_getElem h, List.all_append]
  simp
theorem all_part {α : Type} {p : α → Bool} {L : List α} {k : Nat} (h : (L.take k).all p = false) : L.all p = false := by
  rw [List.all_eq_false] at h ⊢
  obtain ⟨x, hx, hp⟩ := h
  exact ⟨x, List.mem_of_mem_take hx, hp⟩
theorem infoB : (Tryz.prog.info? 4).map (fun i => (i.zero, i.size, i.bytes)) = some (some (.bool false), 1, 1) := by kernel_rfl
theorem mkBools (N : Nat) (hN : N ≤ 4096) (w : World) : (Instr.makeSlice 113 (.int .i64 (N : Int)) (.int .i64 (N : Int))).run Tryz.prog w = .ok (.slice (some ⟨w.heap.size, 0, none⟩) N N) (w.alloc (.cells (madeCells #[.bool false] N) 4)) := by
  obtain ⟨i, hi, h0, h1, h2⟩ := info_parts infoB
  have h := run_make (P := Tryz.prog) w 113 4 i _ Tryz.underlying113 hi h0 .i64 .i64 N N (by omega) (by omega) (by rw [h2]; omega) (by omega)
  rw [h1] at h
  simpa [Value.cells] using h
theorem row_neT {w : World} {B B' n n' k k' : Nat} {v v' : Value} {xs xs' : List Value} {t t' : TypeId} (ht : t ≠ t') (h : w.ownsRow B t k v n xs) (h' : w.ownsRow B' t' k' v' n' xs') : ∀ b, v.ownBlock = some b → v'.ownBlock ≠ some b := by
  have key : ∀ {B n k : Nat} {v : Value} {xs : List Value} {t : TypeId}, w.ownsRow B t k v n xs → ∀ b, v.ownBlock = some b → ∃ cur, w.heap[b]? = some (.cells cur t (0, 0)) := by
    intro B n k v xs t h b hb
    rcases h.2 with ⟨rfl, _⟩ | ⟨g', cap', cur', rfl, _, hh', _⟩
    · simp [Value.ownBlock] at hb
    · simp only [Value.ownBlock, Option.some.injEq] at hb
      subst hb
      exact ⟨_, hh'⟩
  intro b hb hb'
  obtain ⟨c1, e1⟩ := key h b hb
  obtain ⟨c2, e2⟩ := key h' b hb'
  rw [e1] at e2
  injection e2 with e2
  injection e2 with _ e3
  exact ht e3
/-- Where the reference's Order stands: which nodes have come, at g; the order in lv. -/
structure RoAt (w0 w : World) (g N : Nat) (C : Nat → Bool) (P : List Nat) (lv : Value) : Prop where
  below : Below w0.heap.size w0 w
  g0 : w0.heap.size ≤ g
  come : w.ownsRow w0.heap.size 4 1 (.slice (some ⟨g, 0, none⟩) N N) N ((List.range N).map fun v => .bool (C v))
  ord : OwnN w w0.heap.size lv P
section
variable {w0 w w' : World} {g N : Nat} {C : Nat → Bool} {P : List Nat} {lv : Value}
theorem RoAt.cell (h : RoAt w0 w g N C P lv) {v : Nat} (hv : v < N) : w.cell? ⟨g, v, none⟩ = some (.bool (C v)) := by
  rw [h.come.cellAt v (by simpa using hv)]
  simp [hv]
theorem RoAt.quiet (h : RoAt w0 w g N C P lv) (o : Below w.heap.size w w') : RoAt w0 w' g N C P lv :=
  ⟨h.below.trans (o.mono h.below.size), h.g0, ownsRow_out (S := fun _ => False) h.come (Out.ofBelow o) (fun _ _ e => e), ownsRow_out (S := fun _ => False) h.ord (Out.ofBelow o) (fun _ _ e => e)⟩
theorem RoAt.put (h : RoAt w0 w g N C P lv) (u : Nat) : RoAt w0 (w.setCell ⟨g, u, none⟩ (.bool true)) g N (fun v => if v = u then true else C v) P lv := by
  have o2 : Out (fun b => b = g) w (w.setCell ⟨g, u, none⟩ (.bool true)) := Out.setCell (S := fun b => b = g) (Out.refl _ w) (p := ⟨g, u, none⟩) (fun _ => rfl) _
  refine ⟨h.below.trans (o2.below h.below.size (fun i _ e => by subst e; exact h.g0)), h.g0, ?_, ownsRow_out h.ord o2 (fun b hb e => by subst e; exact row_neT (by decide) h.come h.ord b rfl hb)⟩
  have e : ((List.range N).map fun v => Value.bool (if v = u then true else C v)) = ((List.range N).map fun v => Value.bool (C v)).set u (.bool true) := by
    rw [← map_set]
    exact List.map_congr_left (fun v _ => by by_cases e : v = u <;> simp [e])
  rw [e]
  exact (h.come.stored u _).1
theorem RoAt.app (h : RoAt w0 w g N C P lv) {lv' : Value} {P' : List Nat} (hg : w.grownBy w' lv.ownBlock) (ho : OwnN w' w0.heap.size lv' P') : RoAt w0 w' g N C P' lv' := by
  have o : Out (fun b => lv.ownBlock = some b) w w' := (Out.refl _ w).grown hg (fun _ _ e => e)
  exact ⟨h.below.trans (o.below h.below.size (fun i _ e => (h.ord.lt i e).1)), h.g0, ownsRow_out h.come o (row_neT (by decide) h.come h.ord), ho⟩
end
def RoRel (E : EndL) (N g : Nat) (w wr : World) (lv : Value) : Prop := ∃ P, RoAt w wr g N (fun v => P.contains v) P lv ∧ Gr E N P
def ScRel (E : EndL) (P : List Nat) (N : Nat) (nv vv : Value) : Prop := ∃ (k : Nat) (z : Int), k ≤ N ∧ z = (k : Int) - 1 ∧ vv = .int .i64 z ∧ nv = .int .i64 (scan E P N k)
def okA (P : List Nat) (v : Nat) (a : Arc) : Bool := okE P v (a.1.toNat, a.2.1.toNat)
theorem free_okA (L : List Arc) (P : List Nat) (v : Nat) : free (ends L) P v = (!P.contains v && L.all (okA P v)) := by
  rw [free_okE]
  unfold ends
  rw [List.all_map]
  rfl
def FrRel (L : List Arc) (P : List Nat) (v : Nat) (fv iv : Value) : Prop := ∃ i : Nat, i ≤ L.length ∧ iv = .int .i64 i ∧ fv = .bool (!P.contains v && (L.take i).all (okA P v))
theorem contains_snoc (P : List Nat) (u : Nat) : (fun v => if v = u then true else P.contains v) = fun v => (P ++ [u]).contains v := by
  funext v
  by_cases h : v = u
  · subst h; simp
  · simp [h]
end Go.Proofs.YtdpacaomkahgfaaGreatDoor

namespace Go.Proofs.YtdpacaomkahgfaaGreatDoor
open Go.RowKit Go.Proofs.YtdpacaomkahgfaaGreatDoor.DagM

theorem newsNb (w : World) (t : TypeId) (x b : Nat) (hb : w.heap.size = b) : ∀ j z, [encNat x][j]? = some z → (w.alloc (.cells #[.int .i64 (x : Int)] t)).cell? ((⟨b, 0, none⟩ : Addr).add j) = some z := by
  subst hb
  exact newsN w t x
set_option maxHeartbeats 8000000 in
set_option maxRecDepth 100000 in
theorem refOrder (n : Int) (v : Value) (L : List Arc) (w : World) (hA : ArcsAt w v L) :
    Calls Tryz.prog 32 #[.int .i64 n, v] w (Ordered n L w) := by
  have HA := Lib.hid hA
  cases hm : mayB n L with
  | false =>
    have e1 : ordErr n L = 2 := by unfold ordErr; rw [hm]; rfl
    have e2 : ordRes n L = [] := by unfold ordRes; rw [hm]; rfl
    have HM := Lib.hid hm
    have E1 := Lib.hid e1
    have E2 := Lib.hid e2
    clear hm e1 e2 hA
    go_enter Tryz.func32, Tryz.ntmps32
    go_wp2_with (go_at_call 57; refine (right n v L _ HA.out).mono ?_; rintro e w1 ⟨rfl, b1⟩; rw [HM.out]; have B1 := Lib.hid b1; clear b1)
    go_ret2
    refine ⟨.slice none 0 0, by rw [E1.out]; rfl, ?_, B1.out⟩
    rw [E2.out]
    exact World.ownsRow_nil _ _ _ _
  | true =>
    have hM := (mayB_iff n L).1 hm
    obtain ⟨N, rfl⟩ : ∃ N : Nat, n = (N : Int) := ⟨n.toNat, by have := hM.n0; omega⟩
    have hN : N ≤ 4096 := by have := hM.n1; omega
    have hLl := hM.len
    have HM := Lib.hid hm
    have MY := Lib.hid hM
    have hmk := mkBools N hN
    have ER : Hid ((topo (ends L) N).length < N → ordErr N L = 11 ∧ ordRes N L = []) := Lib.hid (fun hl => ⟨by rw [ordErr_ok MY.out]; simp [hl], by unfold ordRes; rw [HM.out]; simp [hl]⟩)
    have OK : Hid (¬ (topo (ends L) N).length < N → ordErr N L = 0 ∧ ordRes N L = topo (ends L) N) := Lib.hid (fun hl => ⟨by rw [ordErr_ok MY.out]; simp [hl], by unfold ordRes; rw [HM.out]; simp [hl]⟩)
    obtain ⟨i0, hi, hz0, hz1, hz2⟩ := info_parts infoI
    clear hm hM
    obtain ⟨A, cap, rfl, hcap, -⟩ := hA
    go_enter Tryz.func32, Tryz.ntmps32
    go_wp2_with (go_at_call 57; refine (right N _ L _ HA.out).mono ?_; rintro e w1 ⟨rfl, b1⟩; rw [HM.out]; have B1 := Lib.hid b1; have hzw : w.heap.size ≤ w1.heap.size := b1.size; clear b1)
    clear hmk
    go_loopw [8] (fun lv wr => RoRel (ends L) N w1.heap.size w wr lv) (fun lv _ => left N lv)
    case atStart =>
      refine ⟨[], ⟨B1.out.alloc hzw _, hzw, ?_, World.ownsRow_nil _ _ _ _⟩, gr_nil⟩
      have h := World.ownsRow_lit w1 (base := w.heap.size) (e := 4) (size := 1) (madeCells #[.bool false] N) N hzw (by unfold maxLen; omega) (by simp [size_madeCells])
      rw [toList_madeCells_one, made_map] at h
      exact h
    case round =>
      clear B1
      obtain ⟨P, hR, hG⟩ := hrel
      have R := Lib.hid hR
      have G := Lib.hid hG
      have hPl := gr_len hG
      have hwz := hR.below.size
      obtain ⟨ao, cp, hu⟩ := hR.ord.form
      subst hu
      clear hR hG
      by_cases hlt : P.length < N
      · go_wp2
        go_loop [9, 10] (fun nv vv => ScRel (ends L) P N nv vv) (fun _ vv => (intOf vv + 1).toNat)
        case atStart => exact ⟨N, _, Nat.le_refl _, rfl, rfl, by rw [scan_end]⟩
        case round =>
          obtain ⟨k, z, hk, hz, rfl, rfl⟩ := hrel
          by_cases hk0 : 0 < k
          · obtain ⟨k', rfl⟩ : ∃ k', k = k' + 1 := ⟨k - 1, by omega⟩
            obtain rfl : z = (k' : Int) := by omega
            have hkN : k' < N := by omega
            have SC := Lib.hid (scan_step (ends L) P N k' hkN)
            have FO := Lib.hid (free_okA L P k')
            have g0 := R.out.cell hkN
            clear hz hk0
            go_wp2
            go_loop [11, 12] (fun fv iv => FrRel L P k' fv iv) (fun _ iv => L.length - (intOf iv).toNat)
            case atStart => exact ⟨0, by omega, rfl, by simp⟩
            case round =>
              obtain ⟨i, hi', rfl, rfl⟩ := hrel
              generalize hbv : (!P.contains k' && (L.take i).all (okA P k')) = bv at *
              have HBV := Lib.hid hbv
              clear hbv
              by_cases hil : i < L.length
              · cases bv with
                | false =>
                  have e : free (ends L) P k' = false := by
                    rw [FO.out]
                    have h := HBV.out
                    cases hc : P.contains k' with
                    | true => rfl
                    | false =>
                      rw [hc] at h
                      rw [all_part (by simpa using h)]
                      rfl
                  have FE := Lib.hid e
                  clear e
                  go_wp2
                  go_round
                  case rel => exact ⟨k', (k' : Int) - 1, by omega, rfl, rfl, by rw [SC.out, FE.out]; rfl⟩
                  case measure => (simp [intOf] <;> omega)
                | true =>
                  obtain ⟨A', cap', e, _, hA⟩ := HA.out
                  simp only [Value.slice.injEq, true_and] at e
                  obtain ⟨rfl, rfl⟩ := e
                  obtain ⟨b, o, rfl, hb, hcell⟩ := hA (by omega)
                  obtain ⟨c0, c1, c2⟩ := hcell i hil
                  have d0 := (R.out.below.cell (p := ⟨b, o + i * 3, none⟩) hb).trans c0
                  have d1 := (R.out.below.cell (p := ⟨b, o + i * 3 + 1, none⟩) hb).trans c1
                  have ok := MY.out.ok L[i] (List.getElem_mem hil)
                  have AT := Lib.hid (all_take (okA P k') L i hil)
                  clear hA hcell c0 c1 c2
                  generalize L[i] = a at *
                  obtain ⟨f, t, z⟩ := a
                  obtain ⟨f, rfl⟩ : ∃ u : Nat, f = (u : Int) := ⟨f.toNat, by simp only at ok; omega⟩
                  obtain ⟨t, rfl⟩ : ∃ u : Nat, t = (u : Int) := ⟨t.toNat, by simp only at ok; omega⟩
                  simp only at ok d0 d1
                  have hfN : f < N := by omega
                  clear ok
                  have g1 := R.out.cell hfN
                  have hbt : (!P.contains k') = true ∧ (L.take i).all (okA P k') = true := by
                    have := HBV.out
                    simpa only [Bool.and_eq_true] using this
                  have HT := Lib.hid hbt
                  clear hbt
                  by_cases htk : t = k'
                  · subst htk
                    go_wp2
                    go_round
                    case rel => exact ⟨i + 1, by omega, by go_num, by rw [AT.out, HT.out.1, HT.out.2]; simp [okA, okE]⟩
                    case measure => (simp [intOf] <;> omega)
                  · have hb1 : (t != k') = true := by simpa using htk
                    have hb2 : ((t : Int) != (k' : Int)) = true := by simp; omega
                    go_wp2
                    go_round
                    case rel => exact ⟨i + 1, by omega, by go_num, by rw [AT.out, HT.out.1, HT.out.2]; simp [okA, okE, htk]⟩
                    case measure => (simp [intOf] <;> omega)
              · obtain rfl : i = L.length := by omega
                have hfb : free (ends L) P k' = bv := by
                  rw [FO.out]
                  have h := HBV.out
                  rw [List.take_length] at h
                  exact h
                have FE := Lib.hid hfb
                clear hfb
                cases bv with
                | false =>
                  go_wp2
                  go_round
                  case rel => exact ⟨k', (k' : Int) - 1, by omega, rfl, rfl, by rw [SC.out, FE.out]; rfl⟩
                  case measure => (simp [intOf] <;> omega)
                | true =>
                  go_wp2
                  go_round
                  case rel => exact ⟨k', (k' : Int) - 1, by omega, rfl, rfl, by rw [SC.out, FE.out]; rfl⟩
                  case measure => (simp [intOf] <;> omega)
          · obtain rfl : k = 0 := by omega
            obtain rfl : z = -1 := by omega
            clear hz hk0
            rcases scan_zero (ends L) P N with ⟨hs, hn⟩ | ⟨u, hu, hs, hn⟩
            · have T := Lib.hid (topo_uniq G.out hn)
              rw [hs]
              clear hs hn
              go_wp2
              go_ret2
              have hx := ER.out (by rw [← T.out]; exact hlt)
              refine ⟨.slice none 0 0, by rw [hx.1]; rfl, ?_, R.out.below⟩
              rw [hx.2]
              exact World.ownsRow_nil _ _ _ _
            · have NX := Lib.hid hn
              rw [hs]
              clear hs hn
              have e0 := R.out.cell hu
              have e1 := R.out.come.frozenAt u
              have hgl : w1.heap.size < wr.heap.size := (R.out.come.lt w1.heap.size rfl).2
              have PU := Lib.hid (R.out.put u)
              go_wp2_with (at_builtin; refine wpList_append_fresh rfl (.tmp 68) (.tmp 70) 25 rfl w.heap.size 3 i0 (.int .i64 0) 1 8 Tryz.underlying25 hi hz0 hz1 hz2 rfl (by decide) _ _ _ rfl (PU.out.ord.alloc _) ⟨wr.heap.size, 0, none⟩ 1 1 [encNat u] rfl rfl (newsNb _ _ u _ (by simp)) (oneN _) (by unfold maxLen; omega) (by omega) (by simp; omega) ?_; intro v4 w4 hown hgrow hfr; have R4 := Lib.hid ((PU.out.quiet ((Below.refl _ _).alloc (Nat.le_refl _) _)).app hgrow (OwnN.snoc hown)); obtain ⟨g4, c4, rfl, _, _, _⟩ := ownsRow_form hown (by omega); clear hown hgrow hfr)
              go_roundw
              case rel =>
                have h := R4.out
                rw [contains_snoc] at h
                exact ⟨P ++ [u], h, gr_snoc G.out NX.out⟩
              case measure => simp [left]; omega
      · have hPN : P.length = N := by omega
        have T := Lib.hid (topo_uniq G.out (gr_full G.out hPN))
        have hx := OK.out (by rw [← T.out]; omega)
        have HX := Lib.hid hx
        clear hx hPN
        go_wp2
        go_ret2
        refine ⟨.slice ao P.length cp, by rw [HX.out.1]; rfl, ?_, R.out.below⟩
        rw [HX.out.2, ← T.out]
        exact R.out.ord
end Go.Proofs.YtdpacaomkahgfaaGreatDoor

namespace Go.Proofs.YtdpacaomkahgfaaGreatDoor
open Go.RowKit Go.Proofs.YtdpacaomkahgfaaGreatDoor.DagM

/-- Ints raised: r rounds are done, and of the next one the arcs K. -/
structure RaisZ (E : EndL) (x : Nat → Int) (r : Nat) (K : EndL) : Prop where
  sat : ∀ e ∈ E, e.2 ≤ r → x e.1 + 1 ≤ x e.2
  cur : ∀ e ∈ K, e.2 ≤ r + 1 → x e.1 + 1 ≤ x e.2
  lo : ∀ u, -100 ≤ x u
  hi : ∀ u, x u ≤ 100 + u
section
variable {E : EndL} {x : Nat → Int} {a b : Nat}
theorem raisZ_nil (hr : ∀ e ∈ E, e.1 < e.2) (lo : ∀ u, -100 ≤ x u) (hi : ∀ u, x u ≤ 100) : RaisZ E x 0 [] := ⟨fun e he h => by have := hr e he; omega, fun e he => by simp at he, lo, fun u => by have := hi u; omega⟩
theorem RaisZ.step {K : EndL} {r : Nat} (hr : ∀ e ∈ E, e.1 < e.2) (h : RaisZ E x r K) (hK : ∀ e ∈ K, e ∈ E) (he : (a, b) ∈ E) : RaisZ E (fun u => if u = b then max (x b) (x a + 1) else x u) r (K ++ [(a, b)]) := by
  have hab := hr _ he
  simp only at hab
  have hs := h.sat _ he
  simp only at hs
  have key : ∀ e : Nat × Nat, e.1 < e.2 → (b ≤ r → x a + 1 ≤ x b) → e.2 ≤ r + 1 → x e.1 + 1 ≤ x e.2 → (fun u => if u = b then max (x b) (x a + 1) else x u) e.1 + 1 ≤ (fun u => if u = b then max (x b) (x a + 1) else x u) e.2 := by
    intro e h3 hb h2 h4
    by_cases e1 : e.1 = b
    · have e2 : ¬ e.2 = b := by omega
      have := hb (by omega)
      simp only [e1, if_true, if_neg e2]
      rw [e1] at h4
      omega
    · by_cases e2 : e.2 = b
      · simp only [e2, if_true, if_neg e1]
        rw [e2] at h4
        omega
      · simp only [if_neg e1, if_neg e2]
        exact h4
  refine ⟨fun e h1 h2 => key e (hr e h1) hs (by omega) (h.sat e h1 h2), fun e h1 h2 => ?_, fun u => ?_, fun u => ?_⟩
  · rcases List.mem_append.1 h1 with h1 | h1
    · exact key e (hr e (hK e h1)) hs h2 (h.cur e h1 h2)
    · obtain rfl := List.mem_singleton.1 h1
      have e1 : ¬ a = b := by omega
      simp only [if_true, if_neg e1]
      omega
  · have := h.lo u
    have := h.lo b
    by_cases e : u = b
    · simp only [e, if_true]; omega
    · simp only [if_neg e]; omega
  · have := h.hi u
    have := h.hi a
    have := h.hi b
    by_cases e : u = b
    · simp only [e, if_true]; omega
    · simp only [if_neg e]; omega
theorem RaisZ.round {r : Nat} (h : RaisZ E x r E) : RaisZ E x (r + 1) [] := ⟨fun e he h2 => h.cur e he h2, fun e he => by simp at he, h.lo, h.hi⟩
end
theorem raised_fit {n : Nat} {L : List Arc} {x : Nat → Int} (hM : May n L) (h : ∀ e ∈ ends L, x e.1 + 1 ≤ x e.2) : fitB ((List.range n).map x) L = true := by
  unfold fitB
  rw [List.all_eq_true]
  intro a ha
  have ok := hM.ok a ha
  have := h _ (List.mem_map.2 ⟨a, ha, rfl⟩)
  have v : ∀ i : Int, 0 ≤ i → i < n → val ((List.range n).map x) i = x i.toNat := fun i h0 h1 => by
    have : i.toNat < n := by omega
    simp [val, List.getD_eq_getElem?_getD, this]
  simp only at this
  simp only [fitA, decide_eq_true_eq]
  rw [v _ ok.1 ok.2.1, v _ ok.2.2.1 ok.2.2.2.1]
  omega
/-- The ints s of n nodes, in a row of the call's own at g with room for cap. -/
structure XzAt (w0 w : World) (g cap n : Nat) (s : Nat → Int) : Prop where
  below : Below w0.heap.size w0 w
  g0 : w0.heap.size ≤ g
  row : w.ownsRow w0.heap.size 3 1 (.slice (some ⟨g, 0, none⟩) n cap) n ((List.range n).map fun v => encInt (s v))
section
variable {w0 w w' : World} {g cap n : Nat} {s : Nat → Int}
theorem XzAt.gl (h : XzAt w0 w g cap n s) : g < w.heap.size := (h.row.lt g rfl).2
theorem XzAt.quiet (h : XzAt w0 w g cap n s) (o : Below w.heap.size w w') : XzAt w0 w' g cap n s :=
  ⟨h.below.trans (o.mono h.below.size), h.g0, ownsRow_out (S := fun _ => False) h.row (Out.ofBelow o) (fun _ _ e => e)⟩
theorem XzAt.set (h : XzAt w0 w g cap n s) (t : Nat) (d : Int) : XzAt w0 (w.setCell ⟨g, t, none⟩ (.int .i64 d)) g cap n (fun v => if v = t then d else s v) := by
  have o2 : Out (fun b => b = g) w (w.setCell ⟨g, t, none⟩ (.int .i64 d)) := Out.setCell (S := fun b => b = g) (Out.refl _ w) (p := ⟨g, t, none⟩) (fun _ => rfl) _
  refine ⟨h.below.trans (o2.below h.below.size (fun i _ e => by subst e; exact h.g0)), h.g0, ?_⟩
  have e : ((List.range n).map fun v => encInt (if v = t then d else s v)) = ((List.range n).map fun v => encInt (s v)).set t (.int .i64 d) := by
    rw [← map_set]
    exact List.map_congr_left (fun v _ => by by_cases e : v = t <;> simp [e, encInt])
  rw [e]
  exact (h.row.stored t _).1
theorem XzAt.cell (h : XzAt w0 w g cap n s) {v : Nat} (hv : v < n) : w.cell? ⟨g, v, none⟩ = some (.int .i64 (s v)) := by
  rw [h.row.cellAt v (by simpa using hv)]
  simp [hv, encInt]
theorem XzAt.fr (h : XzAt w0 w g cap n s) (v : Nat) : w.frozen? ⟨g, v, none⟩ = false := h.row.frozenAt v
theorem XzAt.own (h : XzAt w0 w g cap n s) : OwnI w w0.heap.size (.slice (some ⟨g, 0, none⟩) n cap) ((List.range n).map s) := by
  have := h.row
  unfold OwnI
  rw [List.length_map, List.length_range, List.map_map]
  exact this
theorem XzAt.turn {s' : Nat → Int} (h : XzAt w0 w g cap n s) (e : ∀ v, v < n → s v = s' v) : XzAt w0 w g cap n s' := by
  refine ⟨h.below, h.g0, ?_⟩
  have e2 : ((List.range n).map fun v => encInt (s' v)) = (List.range n).map fun v => encInt (s v) := List.map_congr_left (fun v hv => by rw [e v (by simpa using hv)])
  rw [e2]
  exact h.row
/-- A row of ints of the call's own, with room. -/
theorem OwnI.xz {v : Value} {x : List Int} (hb : Below w0.heap.size w0 w) (h : OwnI w w0.heap.size v x) (h0 : 0 < x.length) : ∃ g cap, v = .slice (some ⟨g, 0, none⟩) x.length cap ∧ XzAt w0 w g cap x.length (fun u => x.getD u 0) := by
  rcases h.2 with ⟨_, h2⟩ | ⟨g, cap, _, hv, hg, _⟩
  · omega
  · subst hv
    refine ⟨g, cap, rfl, hb, hg, ?_⟩
    have e : ((List.range x.length).map fun v => encInt (x.getD v 0)) = x.map (Value.int .i64) := by
      apply List.ext_getElem
      · simp
      · intro i h1 h2
        have : i < x.length := by simpa using h2
        simp [encInt, List.getD_eq_getElem?_getD, this]
    rw [e]
    exact h
end
theorem coord_map {n : Nat} {x : Nat → Int} (h : ∀ u, u < n → -1000000 ≤ x u ∧ x u ≤ 1000000) : coordB n ((List.range n).map x) = true := by
  unfold coordB
  simp only [Bool.and_eq_true, decide_eq_true_eq, Bool.not_eq_true', List.any_eq_false]
  refine ⟨by simp, fun y hy => ?_⟩
  obtain ⟨u, hu, rfl⟩ := List.mem_map.1 hy
  have := h u (by simpa using hu)
  simp [far]
  omega
end Go.Proofs.YtdpacaomkahgfaaGreatDoor
