/-
  Ranks: what it answers. Conditions: at most a million numbers.
-/
import Derived.Test.YtkloaekmjnbacaaDagR
import Derived.Test.YtkloaekmjnbacaaDagA
import Derived.Test.YtkloaekmjnbacaaDagE
import Derived.Test.YtkloaekmjnbacaaShelf
import Derived.Sort.OwnSortedInts
import Derived.Lib.OwnBridge
namespace Go.Proofs.Ytkloaekmjnbacaa
open Go.RowKit Go.Sort Go.Lib Go.Proofs.Ytkloaekmjnbacaa.DagM

/-- The ints l in a row of the call's own, from B on. -/
def OwnI (w : World) (B : Nat) (v : Value) (l : List Int) : Prop := w.ownsRow B 3 1 v l.length (l.map (Value.int .i64))
theorem OwnI.form {w : World} {B : Nat} {v : Value} {l : List Int} (h : OwnI w B v l) : ∃ ao cap, v = .slice ao l.length cap := by
  rcases h.2 with ⟨h1, h2⟩ | ⟨_, _, _, h, _⟩
  · exact ⟨none, 0, by rw [h2]; exact h1⟩
  · exact ⟨_, _, h⟩
theorem OwnI.ints {w : World} {B : Nat} {v : Value} {l : List Int} (h : OwnI w B v l) : IntsAt w v l := by
  have h' := h
  rcases h.2 with ⟨rfl, h2⟩ | ⟨g, cap, cur, rfl, _, hg, hn, hr⟩
  · exact ⟨none, 0, by rw [h2], by omega, fun h => absurd h (by omega)⟩
  · refine ⟨_, cap, rfl, hn, fun _ => ⟨g, 0, rfl, (Array.getElem?_eq_some_iff.1 hg).1, fun k hk => ?_⟩⟩
    rw [Nat.zero_add, h'.cellAt k (by simpa using hk)]
    simp [hk]
theorem OwnN.toI {w : World} {B : Nat} {v : Value} {l : List Nat} (h : OwnN w B v l) : OwnI w B v (castI l) := by
  unfold OwnI castI
  unfold OwnN at h
  rw [List.length_map, List.map_map]
  exact h
theorem OwnI.below {w w' : World} {B : Nat} {v : Value} {l : List Int} (h : OwnI w B v l) (o : Below w.heap.size w w') : OwnI w' B v l := ownsRow_out (S := fun _ => False) h (Out.ofBelow o) (fun _ _ e => e)
theorem OwnI.base {w : World} {B B' : Nat} {v : Value} {l : List Int} (h : OwnI w B v l) (hb : B' ≤ B) : OwnI w B' v l := by
  refine ⟨h.1, ?_⟩
  rcases h.2 with h2 | ⟨g, cap, cur, hv, hg, r⟩
  · exact Or.inl h2
  · exact Or.inr ⟨g, cap, cur, hv, Nat.le_trans hb hg, r⟩

theorem cloneI (v : Value) (x : List Int) (w : World) (h : IntsAt w v x) (hl : x.length ≤ 1000000) :
    Calls Try.prog 20 #[v] w fun e w' => ∃ v', e = .returned v' ∧ OwnI w' w.heap.size v' x ∧ Below w.heap.size w w' := by
  obtain ⟨A, cap, rfl, _, hA⟩ := h
  by_cases h0 : x.length = 0
  · obtain rfl : x = [] := List.eq_nil_of_length_eq_zero h0
    cases A with
    | none =>
      refine (Go.Proofs.Try.slices_Clone_int_nil 0 cap w).mono ?_
      rintro e w' ⟨rfl, rfl⟩
      exact ⟨_, rfl, World.ownsRow_nil _ _ _ _, Below.refl _ _⟩
    | some a =>
      refine (Go.Proofs.Try.slices_Clone_int_zero a cap w).mono ?_
      rintro e w' ⟨v', rfl, ho, _, hb⟩
      exact ⟨_, rfl, ho, hb⟩
  · obtain ⟨b, o, rfl, hb, hc⟩ := hA (by omega)
    refine (Go.Proofs.Try.slices_Clone_int b o x.length cap x w (Nat.le_refl _) (by omega) (fun j hj => ?_)).mono ?_
    · rw [hc j hj]
      simp [List.getD_eq_getElem?_getD, hj]
    · rintro e w' ⟨v', rfl, ho, _, hb⟩
      rw [List.take_length] at ho
      exact ⟨_, rfl, ho, hb⟩
theorem sortI (B : Nat) (v : Value) (x : List Int) (w : World) (h : OwnI w B v x) (hs : x.length ≤ 1000000) :
    Calls Try.prog 52 #[v] w fun e w' => e = .returned (.tuple #[]) ∧ OwnI w' B v (sorted x) ∧ w.grownBy w' v.ownBlock := by
  by_cases h0 : x.length = 0
  · obtain rfl : x = [] := List.eq_nil_of_length_eq_zero h0
    obtain ⟨ao, cap, rfl⟩ := h.form
    refine (Go.Proofs.Try.slices_Sort_int_none ao cap w).mono ?_
    rintro e w' ⟨rfl, rfl⟩
    exact ⟨rfl, by simpa [sorted] using h, World.grownBy.refl _ _⟩
  · rcases h.2 with ⟨_, h2⟩ | ⟨gg, cap, cur, rfl, hbase, hb, h1, h2, h3, h4⟩
    · exact absurd h2 h0
    · refine (Go.Proofs.Try.slices_Sort_int gg 0 cap x w (holds_of_blockI hb (by simpa using h4)) (Array.getElem?_eq_some_iff.1 hb).1 (by omega)).mono ?_
      rintro e w' ⟨rfl, n, os, rfl⟩
      refine ⟨rfl, ?_, grownBy_sortedI _⟩
      have hl : (sorted x).length = x.length := by simp [sorted]
      unfold OwnI
      rw [hl]
      exact ownsRow_sortedI hl hbase hb h1 h2 h3
theorem compactI (B : Nat) (v : Value) (x : List Int) (w : World) (h : OwnI w B v x) (hs : x.length ≤ 1000000) :
    Calls Try.prog 53 #[v] w fun e w' => ∃ v', e = .returned v' ∧ OwnI w' B v' (compact x) ∧ w.grownBy w' v.ownBlock := by
  by_cases h0 : x.length = 0
  · obtain rfl : x = [] := List.eq_nil_of_length_eq_zero h0
    obtain ⟨ao, cap, rfl⟩ := h.form
    refine (Go.Proofs.Try.slices_Compact_int_empty ao cap w).mono ?_
    rintro e w' ⟨rfl, rfl⟩
    exact ⟨_, rfl, h, World.grownBy.refl _ _⟩
  · have hl : (compact x).length ≤ x.length := by
      unfold compact compactUpTo
      rw [List.length_map]
      exact Nat.le_trans (List.length_filter_le _ _) (by simp)
    rcases h.2 with ⟨_, h2⟩ | ⟨gg, cap, cur, rfl, hbase, hb, h1, h2, h3, h4⟩
    · exact absurd h2 h0
    · refine (Go.Proofs.Try.slices_Compact_int gg 0 cap x w (holds_of_blockI hb (by simpa using h4)) (by omega) h1).mono ?_
      rintro e w' ⟨rfl, q, rfl⟩
      refine ⟨_, rfl, ?_, ?_⟩
      · have hr := ownsRow_putRow (q := q) (k := (compact x).length) (ys := compact x ++ List.replicate (x.length - (compact x).length) 0) h (by simp; omega) hl
        rw [List.take_append_of_le_length (Nat.le_refl _), List.take_length] at hr
        exact hr
      · have e0 : putRow (Value.int .i64) (Sort.ahead w q) gg 0 (compact x ++ List.replicate (x.length - (compact x).length) 0).toArray = grow (putRow (Value.int .i64) (Sort.ahead w q) gg 0 (compact x ++ List.replicate (x.length - (compact x).length) 0).toArray) #[] := (grow_empty _).symm
        rw [e0]
        exact grownBy_sortedI _

/-- Where ranks stands: the sorted numbers in u, the answers at g. -/
structure RkAt (w0 w : World) (u : Value) (g : Nat) (x : List Int) (k : Nat) : Prop where
  below : Below w0.heap.size w0 w
  un : OwnI w w0.heap.size u (unlike x)
  out : OwnI w w0.heap.size (.slice (some ⟨g, 0, none⟩) x.length x.length) ((List.range x.length).map fun i => if i < k then (rk x (x.getD i 0) : Int) else 0)
  ne : u.ownBlock ≠ some g
  g0 : w0.heap.size ≤ g
def RkRel (x : List Int) (u : Value) (g : Nat) (w wr : World) (iv : Value) : Prop := ∃ k : Nat, iv = .int .i64 k ∧ k ≤ x.length ∧ RkAt w wr u g x k
def Ranked (x : List Int) (w : World) (e : Ending) (w' : World) : Prop := ∃ v, e = .returned v ∧ OwnI w' w.heap.size v (castI (rkL x)) ∧ Below w.heap.size w w'
theorem mkAny (N : Nat) (hN : N ≤ 1000000) (w : World) : (Instr.makeSlice 29 (.int .i64 (N : Int)) (.int .i64 (N : Int))).run Try.prog w = .ok (.slice (some ⟨w.heap.size, 0, none⟩) N N) (w.alloc (.cells (madeCells #[.int .i64 0] N) 3)) := by
  obtain ⟨i, hi, h0, h1, h2⟩ := info_parts infoI
  have h := run_make (P := Try.prog) w 29 3 i _ Try.underlying29 hi h0 .i64 .i64 N N (by omega) (by omega) (by rw [h2]; omega) (by omega)
  rw [h1] at h
  simpa [Value.cells] using h
theorem grown_below {w0 w w' : World} {B : Nat} {v : Value} {l : List Int} (h : OwnI w B v l) (hB : w0.heap.size ≤ B) (hb : Below w0.heap.size w0 w) (hg : w.grownBy w' v.ownBlock) : Below w0.heap.size w0 w' :=
  hb.trans (((Out.refl _ w).grown (S := fun b => v.ownBlock = some b) hg (fun _ _ e => e)).below hb.size (fun i _ e => by have := (h.lt i e).1; omega))
theorem RkAt.quiet {w0 w w' : World} {u : Value} {g : Nat} {x : List Int} {k : Nat} (h : RkAt w0 w u g x k) (o : Below w.heap.size w w') : RkAt w0 w' u g x k :=
  ⟨h.below.trans (o.mono h.below.size), h.un.below o, h.out.below o, h.ne, h.g0⟩
theorem RkAt.row {w0 w : World} {u : Value} {g : Nat} {x : List Int} {k : Nat} (h : RkAt w0 w u g x k) : w.ownsRow w0.heap.size 3 1 (.slice (some ⟨g, 0, none⟩) x.length x.length) x.length (((List.range x.length).map fun i => if i < k then (rk x (x.getD i 0) : Int) else 0).map (Value.int .i64)) := by
  have := h.out
  unfold OwnI at this
  simpa using this
theorem RkAt.cell {w0 w : World} {u : Value} {g : Nat} {x : List Int} {k : Nat} (h : RkAt w0 w u g x k) (hk : k < x.length) : w.cell? ⟨g, k, none⟩ = some (.int .i64 0) := by
  rw [h.row.cellAt k (by simpa using hk)]
  simp [hk]
theorem searchI (B : Nat) (u : Value) (x : List Int) (y : Int) (w : World) (h : OwnI w B u (unlike x)) (hl : x.length ≤ 1000000) :
    Calls Try.prog 54 #[u, .int .i64 y] w fun e w' => (∃ bb, e = .returned (.tuple #[.int .i64 (rk x y), .bool bb])) ∧ Below w.heap.size w w' := by
  by_cases h0 : (unlike x).length = 0
  · obtain ⟨ao, cap, rfl⟩ := h.form
    rw [h0]
    refine (Go.Proofs.Try.slices_BinarySearch_int_empty ao cap y w).mono ?_
    rintro e w' ⟨rfl, rfl⟩
    have : rk x y = 0 := by unfold rk; rw [List.eq_nil_of_length_eq_zero h0]; rfl
    exact ⟨⟨false, by rw [this]; rfl⟩, Below.refl _ _⟩
  · have hu := unlike_len x
    obtain ⟨ao, cap, rfl, _, hA⟩ := h.ints
    obtain ⟨b, o, rfl, _, hc⟩ := hA (by omega)
    refine (Go.Proofs.Try.slices_BinarySearch_int b o (unlike x).length cap (unlike x) y w (Nat.le_refl _) (by omega) (fun j hj => ?_) ?_).mono ?_
    · rw [hc j hj]
      simp [List.getD_eq_getElem?_getD, hj]
    · rw [List.take_length]
      exact (unlike_lt x).imp fun h => Int.le_of_lt h
    · rintro e w' ⟨rfl, q, rfl⟩
      rw [List.take_length]
      exact ⟨⟨_, rfl⟩, belowN (Below.refl _ _) q⟩
theorem RkAt.put {w0 w : World} {u : Value} {g : Nat} {x : List Int} {k : Nat} (h : RkAt w0 w u g x k) (hk : k < x.length) : RkAt w0 (w.setCell ⟨g, k, none⟩ (.int .i64 (rk x x[k]))) u g x (k + 1) := by
  have o2 : Out (fun b => b = g) w (w.setCell ⟨g, k, none⟩ (.int .i64 (rk x x[k]))) := Out.setCell (S := fun b => b = g) (Out.refl _ w) (p := ⟨g, k, none⟩) (fun _ => rfl) _
  refine ⟨h.below.trans (o2.below h.below.size (fun i _ e => by subst e; exact h.g0)), ownsRow_out h.un o2 (fun b hb e => by subst e; exact h.ne hb), ?_, h.ne, h.g0⟩
  have hs : w.ownsRow w0.heap.size 3 1 (.slice (some ⟨g, 0, none⟩) x.length x.length) x.length (((List.range x.length).map fun i => if i < k then (rk x (x.getD i 0) : Int) else 0).map (Value.int .i64)) := by
    have := h.out
    unfold OwnI at this
    simpa using this
  have h1 := (hs.stored k (.int .i64 (rk x x[k]))).1
  have e : (((List.range x.length).map fun i => if i < k then (rk x (x.getD i 0) : Int) else 0).map (Value.int .i64)).set k (.int .i64 (rk x x[k])) = ((List.range x.length).map fun i => if i < k + 1 then (rk x (x.getD i 0) : Int) else 0).map (Value.int .i64) := by
    apply List.ext_getElem?
    intro i
    rw [List.getElem?_set]
    by_cases h2 : i < x.length
    · by_cases h3 : k = i
      · subst h3
        simp [h2, List.getD_eq_getElem?_getD]
      · have h4 : (i < k + 1) ↔ (i < k) := by omega
        simp [h2, h3, h4]
    · by_cases h3 : k = i
      · omega
      · simp [h2, h3]
  rw [e] at h1
  unfold OwnI
  simpa using h1

set_option maxHeartbeats 4000000 in
set_option maxRecDepth 100000 in
theorem ranksInt (v : Value) (x : List Int) (w : World) (hX : IntsAt w v x) (hl : x.length ≤ 1000000) :
    Calls Try.prog 38 #[v] w (Ranked x w) := by
  have HX := Lib.hid hX
  have HMK := Lib.hid (mkAny x.length hl)
  obtain ⟨A, cap, rfl, hcap, -⟩ := hX
  have hul := unlike_len x
  have hsl : (sorted x).length ≤ 1000000 := by simp [sorted]; exact hl
  have hmk := HMK.out
  go_enter Try.func38, Try.ntmps38
  go_wp2_with (first
    | (go_at_call 20; refine (cloneI _ x _ HX.out hl).mono ?_; rintro e w1 ⟨v1, rfl, ho, hb⟩; have O1 := Lib.hid ho; have B1 := Lib.hid hb; clear ho hb)
    | (go_at_call 52; refine (sortI w.heap.size v1 x _ O1.out hl).mono ?_; rintro e w2 ⟨rfl, ho, hg⟩; have O2 := Lib.hid ho; have B2 := Lib.hid (grown_below O1.out (Nat.le_refl _) B1.out hg); clear ho hg)
    | (go_at_call 53; refine (compactI w.heap.size v1 (sorted x) _ O2.out hsl).mono ?_; rintro e w3 ⟨v3, rfl, ho, hg⟩; have O3 : Hid (OwnI w3 w.heap.size v3 (unlike x)) := Lib.hid ho; have B3 := Lib.hid (grown_below O2.out (Nat.le_refl _) B2.out hg); have hz3 : w.heap.size ≤ w3.heap.size := B3.out.size; clear ho hg))
  clear hmk
  go_loopw [18] (fun iv wr => RkRel x v3 w3.heap.size w wr iv) (fun iv _ => x.length - (intOf iv).toNat)
  case atStart =>
    refine ⟨0, rfl, by omega, B3.out.alloc hz3 _, O3.out.below ((Below.refl _ _).alloc (Nat.le_refl _) _), ?_, fun e => by have := (O3.out.lt _ e).2; omega, hz3⟩
    have e : ((List.range x.length).map fun i => if i < 0 then (rk x (x.getD i 0) : Int) else 0) = List.replicate x.length 0 := by
      rw [made_map]
      exact List.map_congr_left (fun i _ => by simp)
    rw [e]
    unfold OwnI
    have h := World.ownsRow_lit w3 (base := w.heap.size) (e := 3) (size := 1) (madeCells #[.int .i64 0] x.length) x.length hz3 (by unfold maxLen; omega) (by simp [size_madeCells])
    rw [toList_madeCells_one] at h
    simpa using h
  case round =>
    clear B1 B2 B3 O1 O2 O3
    obtain ⟨k, rfl, hk, hR⟩ := hrel
    have R := Lib.hid hR
    have hgl : w3.heap.size < wr.heap.size := (hR.out.lt _ rfl).2
    have hwz := hR.below.size
    clear hR
    by_cases hlt : k < x.length
    · obtain ⟨A', cap', e, _, hA⟩ := HX.out
      simp only [Value.slice.injEq, true_and] at e
      obtain ⟨rfl, rfl⟩ := e
      obtain ⟨b, o, rfl, hb, hc⟩ := hA (by omega)
      have d0 := (R.out.below.cell (p := ⟨b, o + k, none⟩) hb).trans (hc k hlt)
      have P : Hid (∀ W, RkAt w W v3 w3.heap.size x k → RkAt w (W.setCell ⟨w3.heap.size, k, none⟩ (.int .i64 (rk x x[k]))) v3 w3.heap.size x (k + 1)) := Lib.hid (fun W h => h.put hlt)
      generalize x[k] = y at *
      go_wp2_with (go_at_call 54; refine (searchI w.heap.size v3 x y _ R.out.un hl).mono ?_; rintro e w4 ⟨⟨bb, rfl⟩, hb4⟩; have R4 := Lib.hid (R.out.quiet hb4); have g1 := (R.out.quiet hb4).cell hlt; have g2 := (R.out.quiet hb4).row.frozenAt k; clear hb4)
      go_roundw
      case rel => exact ⟨k + 1, by go_num, by omega, P.out _ R4.out⟩
      case measure => simp [intOf]; omega
    · obtain rfl : k = x.length := by omega
      go_wp2
      go_ret
      refine ⟨_, rfl, ?_, R.out.below⟩
      have h := R.out.out
      have e : ((List.range x.length).map fun i => if i < x.length then (rk x (x.getD i 0) : Int) else 0) = castI (rkL x) := by
        unfold castI rkL
        apply List.ext_getElem?
        intro i
        by_cases hi : i < x.length <;> simp [hi, List.getD_eq_getElem?_getD]
      rw [e] at h
      exact h
/-- Ranks. -/
theorem ranks (v : Value) (x : List Int) (w : World) (hX : IntsAt w v x) (hl : x.length ≤ 1000000) :
    Calls Try.prog 25 #[v] w (Ranked x w) := by
  have I := ranksInt v x w hX hl
  clear hX hl
  go_enter Try.func25, Try.ntmps25
  go_wp2_with (go_at_call 38; refine I.mono ?_; rintro e w1 ⟨v1, rfl, ho, hb⟩; have O1 := Lib.hid ho; have B1 := Lib.hid hb; clear ho hb)
  go_ret
  exact ⟨_, rfl, O1.out, B1.out⟩
end Go.Proofs.Ytkloaekmjnbacaa
