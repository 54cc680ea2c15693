/-
  Rows of arcs and of ints out of literals and out of rows of the call's own; Equal; wakes answers true. Conditions: none.
-/
import Derived.Test.YtdapbhnonhamhaaDagG
import Derived.Test.YtdapbhnonhamhaaDagS
namespace Go.Proofs.Ytdapbhnonhamhaa
open Go.RowKit Go.Proofs.Ytdapbhnonhamhaa.DagM

def encA (a : Arc) : List Value := [.int .i64 a.1, .int .i64 a.2.1, .int .i64 a.2.2]
theorem encA_len (a : Arc) : (encA a).length = 3 := rfl
theorem encA_one (a : Arc) : ∀ u ∈ encA a, u.oneCell' = true := by
  intro u hu
  simp [encA] at hu
  rcases hu with rfl | rfl | rfl <;> rfl
/-- The arcs L in a row of the call's own, from B on. -/
def OwnA (w : World) (B : Nat) (v : Value) (L : List Arc) : Prop := w.ownsRow B 46 3 v L.length (L.flatMap encA)
theorem arc_at (L : List Arc) (k : Nat) (h : k < L.length) (r : Nat) (hr : r < 3) : (L.flatMap encA)[k * 3 + r]? = (encA L[k])[r]? := by
  have hlen := flat_len encA encA_len L
  have h1 := flat_get encA encA_len L k r h hr
  have h2 : k * 3 + r < (L.flatMap encA).length := by rw [hlen]; omega
  rw [List.getD_eq_getElem?_getD, List.getD_eq_getElem?_getD, List.getD_eq_getElem?_getD, List.getElem?_eq_getElem h2, List.getElem?_eq_getElem h] at h1
  simp only [Option.getD_some] at h1
  rw [List.getElem?_eq_getElem h2, h1, List.getElem?_eq_getElem (by rw [encA_len]; exact hr)]
  rfl
theorem OwnA.form {w : World} {B : Nat} {v : Value} {l : List Arc} (h : OwnA w B v l) : ∃ ao cap, v = .slice ao l.length cap := by
  rcases h.2 with ⟨h1, h2⟩ | ⟨_, _, _, h, _⟩
  · exact ⟨none, 0, by rw [h2]; exact h1⟩
  · exact ⟨_, _, h⟩
theorem OwnA.arcs {w : World} {B : Nat} {v : Value} {L : List Arc} (h : OwnA w B v L) : ArcsAt w v L := by
  have h' := h
  rcases h.2 with ⟨rfl, h2⟩ | ⟨g, cap, cur, rfl, _, hg, hn, hr⟩
  · exact ⟨none, 0, by rw [h2], by omega, fun h => absurd h (by omega)⟩
  · refine ⟨_, cap, rfl, hn, fun _ => ⟨g, 0, rfl, (Array.getElem?_eq_some_iff.1 hg).1, fun k hk => ?_⟩⟩
    have e : ∀ r, r < 3 → w.cell? ⟨g, k * 3 + r, none⟩ = (encA L[k])[r]? := fun r hr => by
      rw [h'.cellAt (k * 3 + r) (by omega), arc_at L k hk r hr]
    have e0 := e 0 (by omega)
    have e1 := e 1 (by omega)
    have e2 := e 2 (by omega)
    simp only [Nat.zero_add, Nat.add_zero] at e0 e1 e2 ⊢
    exact ⟨e0, e1, e2⟩
theorem OwnA.below {w w' : World} {B : Nat} {v : Value} {l : List Arc} (h : OwnA w B v l) (o : Below w.heap.size w w') : OwnA w' B v l := ownsRow_out (S := fun _ => False) h (Out.ofBelow o) (fun _ _ e => e)
theorem OwnA.snoc {w : World} {B : Nat} {v : Value} {l : List Arc} {a : Arc} (h : w.ownsRow B 46 3 v (l.length + 1) (l.flatMap encA ++ encA a)) : OwnA w B v (l ++ [a]) := by
  unfold OwnA
  have e : (l ++ [a]).flatMap encA = l.flatMap encA ++ encA a := by simp
  rw [List.length_append, e]
  exact h
theorem lit_cell (w : World) (xs : List Value) (T j : Nat) : (w.alloc (.cells xs.toArray T)).cell? ⟨w.heap.size, j, none⟩ = xs[j]? := by
  simp
theorem arcs_lit (L : List Arc) (w : World) (T cap : Nat) (hc : L.length ≤ cap) : ArcsAt (w.alloc (.cells (L.flatMap encA).toArray T)) (.slice (some ⟨w.heap.size, 0, none⟩) L.length cap) L := by
  refine ⟨_, cap, rfl, hc, fun _ => ⟨w.heap.size, 0, rfl, by simp, fun k hk => ?_⟩⟩
  rw [lit_cell, lit_cell, lit_cell]
  have e0 := arc_at L k hk 0 (by omega)
  have e1 := arc_at L k hk 1 (by omega)
  have e2 := arc_at L k hk 2 (by omega)
  simp only [Nat.zero_add, Nat.add_zero] at e0 e1 e2 ⊢
  exact ⟨e0, e1, e2⟩
theorem ints_lit (x : List Int) (w : World) (T cap : Nat) (hc : x.length ≤ cap) : IntsAt (w.alloc (.cells (x.map (Value.int .i64)).toArray T)) (.slice (some ⟨w.heap.size, 0, none⟩) x.length cap) x := by
  refine ⟨_, cap, rfl, hc, fun _ => ⟨w.heap.size, 0, rfl, by simp, fun k hk => ?_⟩⟩
  rw [lit_cell]
  simp [hk]

theorem equalI (v u : Value) (x y : List Int) (w : World) (hX : IntsAt w v x) (hY : IntsAt w u y) (hx : x.length ≤ 1000000) (hy : y.length ≤ 1000000) :
    Calls Try.prog 11 #[v, u] w fun e w' => e = .returned (.bool (x == y)) ∧ Below w.heap.size w w' := by
  obtain ⟨A, cap, rfl, _, hA⟩ := hX
  obtain ⟨A', cap', rfl, _, hA'⟩ := hY
  by_cases h0 : x.length = y.length
  · by_cases h1 : x.length = 0
    · have h2 : y.length = 0 := by omega
      obtain rfl := List.eq_nil_of_length_eq_zero h1
      obtain rfl := List.eq_nil_of_length_eq_zero h2
      refine (Go.Proofs.Try.slices_Equal_int_empty A A' cap 0 cap' w (by omega)).mono ?_
      rintro e w' ⟨rfl, rfl⟩
      exact ⟨rfl, Below.refl _ _⟩
    · obtain ⟨b, o, rfl, _, hc⟩ := hA (by omega)
      obtain ⟨b', o', rfl, _, hc'⟩ := hA' (by omega)
      refine (Go.Proofs.Try.slices_Equal_int b o x.length cap b' o' y.length cap' x y w (Nat.le_refl _) (Nat.le_refl _) (by omega) (by omega) (fun j hj => ?_) (fun j hj => ?_)).mono ?_
      · rw [hc j hj]; simp [List.getD_eq_getElem?_getD, hj]
      · rw [hc' j hj]; simp [List.getD_eq_getElem?_getD, hj]
      · rintro e w' ⟨rfl, q, rfl⟩
        rw [List.take_length, List.take_length]
        exact ⟨rfl, belowN (Below.refl _ _) q⟩
  · refine (Go.Proofs.Try.slices_Equal_int_lens A A' x.length cap y.length cap' w h0).mono ?_
    rintro e w' ⟨rfl, rfl⟩
    refine ⟨ret_bool ?_, Below.refl _ _⟩
    have : x ≠ y := fun e => h0 (by rw [e])
    simpa using this

theorem ord_ex : ordErr 3 [(2, 0, 0), (2, 1, 0)] = 0 ∧ castI (ordRes 3 [(2, 0, 0), (2, 1, 0)]) = [2, 0, 1] := by decide +kernel
theorem cost_ex : costVal 2 [(1, 0, 3)] [5, 1] = 12 ∧ costErr 2 [(1, 0, 3)] [5, 1] = 0 := by decide +kernel
theorem loop_ex : ordErr 1 [(0, 0, 0)] = 11 := by decide +kernel
theorem rk_ex : castI (rkL [5, 9, 5, -2]) = [1, 2, 1, 0] := by
  have e1 : rk [5, 9, 5, -2] 5 = 1 := (rk_of (l := [-2]) (by decide) (fun y => by simp; omega)).symm
  have e2 : rk [5, 9, 5, -2] 9 = 2 := (rk_of (l := [-2, 5]) (by decide) (fun y => by simp; omega)).symm
  have e3 : rk [5, 9, 5, -2] (-2) = 0 := (rk_of (l := []) (by decide) (fun y => by simp; omega)).symm
  simp [castI, rkL, e1, e2, e3]

set_option maxHeartbeats 400000 in
set_option maxRecDepth 100000 in
theorem wakes (w : World) : Calls Try.prog 13 #[] w fun e w' => e = .returned (.bool true) ∧ Below w.heap.size w w' := by
  go_enter Try.func13, Try.ntmps13
  go_wp2_with (first
    | (go_at_call 9; go_loud (refine (order 3 _ [(2, 0, 0), (2, 1, 0)] _ (arcs_lit [(2, 0, 0), (2, 1, 0)] w _ 2 (by decide))).mono ?_; rintro e w1 ⟨v1, rfl, ho, hb⟩; rw [ord_ex.1]; have O1 : Hid (OwnI w1 (w.heap.size + 1) v1 [2, 0, 1]) := Lib.hid (by have h := ho.toI; rw [ord_ex.2] at h; simpa using h); have B1 : Hid (Below w.heap.size w w1) := Lib.hid (((Below.refl _ _).alloc (Nat.le_refl _) _).trans (hb.mono (by simp))); have z1 : w.heap.size + 1 ≤ w1.heap.size := (by have := hb.size; simpa using this); clear ho hb))
    | (go_at_call 28; go_loud (refine (cost 2 _ _ [(1, 0, 3)] [5, 1] _ ((arcs_lit [(1, 0, 3)] w1 _ 1 (by decide)).below ((Below.refl _ _).alloc (Nat.le_refl _) _)) (by simpa using ints_lit [5, 1] (w1.alloc _) _ 2 (by decide))).mono ?_; rintro e w2 ⟨rfl, hb⟩; rw [cost_ex.1, cost_ex.2]; have b2 : Below w1.heap.size w1 w2 := (((Below.refl _ _).alloc (Nat.le_refl _) _).alloc (by simp) _).trans (hb.mono (by simp; omega)); have O2 := Lib.hid (O1.out.below b2); have B2 : Hid (Below w.heap.size w w2) := Lib.hid (B1.out.trans (b2.mono (by omega))); have z2 : w.heap.size + 1 ≤ w2.heap.size := (by have := b2.size; omega); clear hb b2))
    | (go_at_call 11; refine (equalI _ _ [1, 2, 1, 0] [1, 2, 1, 0] _ (O4.out.ints.below ((Below.refl _ _).alloc (Nat.le_refl _) _)) (ints_lit [1, 2, 1, 0] w4 _ 4 (by decide)) (by decide) (by decide)).mono ?_; rintro e w5 ⟨rfl, hb⟩; rw [show (([1, 2, 1, 0] : List Int) == [1, 2, 1, 0]) = true from rfl]; have B5 : Hid (Below w.heap.size w w5) := Lib.hid (B4.out.trans ((((Below.refl _ _).alloc (Nat.le_refl _) _).trans (hb.mono (by simp))).mono (by omega))); have z5 : w.heap.size + 1 ≤ w5.heap.size := (by have := hb.size; simp at this; omega); clear hb)
    | (go_at_call 11; refine (equalI _ _ [2, 0, 1] [2, 0, 1] _ (O2.out.ints.below ((Below.refl _ _).alloc (Nat.le_refl _) _)) (ints_lit [2, 0, 1] w2 _ 3 (by decide)) (by decide) (by decide)).mono ?_; rintro e w3 ⟨rfl, hb⟩; rw [show (([2, 0, 1] : List Int) == [2, 0, 1]) = true from rfl]; have B3 : Hid (Below w.heap.size w w3) := Lib.hid (B2.out.trans ((((Below.refl _ _).alloc (Nat.le_refl _) _).trans (hb.mono (by simp))).mono (by omega))); have z3 : w.heap.size + 1 ≤ w3.heap.size := (by have := hb.size; simp at this; omega); clear hb)
    | (go_at_call 29; go_loud (refine (ranks _ [5, 9, 5, -2] _ (ints_lit [5, 9, 5, -2] w3 _ 4 (by decide)) (by decide)).mono ?_; rintro e w4 ⟨v4, rfl, ho, hb⟩; rw [rk_ex] at ho; have O4 := Lib.hid ho; have B4 : Hid (Below w.heap.size w w4) := Lib.hid (B3.out.trans ((((Below.refl _ _).alloc (Nat.le_refl _) _).trans (hb.mono (by simp))).mono (by omega))); have z4 : w.heap.size + 1 ≤ w4.heap.size := (by have := hb.size; simp at this; omega); clear hb ho))
    | (go_at_call 12; go_loud (refine (check 1 _ [(0, 0, 0)] _ (arcs_lit [(0, 0, 0)] w5 _ 1 (by decide))).mono ?_; rintro e w6 ⟨rfl, hb⟩; rw [loop_ex]; have B6 : Hid (Below w.heap.size w w6) := Lib.hid (B5.out.trans ((((Below.refl _ _).alloc (Nat.le_refl _) _).trans (hb.mono (by simp))).mono (by omega))); clear hb)))
  go_ret
  exact ⟨rfl, B6.out⟩
end Go.Proofs.Ytdapbhnonhamhaa
