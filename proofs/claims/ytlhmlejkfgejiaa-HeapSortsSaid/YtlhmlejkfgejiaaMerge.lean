/-
  The heap of muntinref02.One: another heap merged into it. Conditions: the two lie in blocks of their own; at most some hundred thousand things.
-/
import Derived.Test.YtlhmlejkfgejiaaPopM
import Derived.Test.YtlhmlejkfgejiaaHeapPlaysW
import Derived.Deep.LoopGhost
import Derived.LaidEqlPtr
import Derived.Handy
namespace Go.Proofs.Ytlhmlejkfgejiaa
open Go.RowKit Go.Proofs.Ytlhmlejkfgejiaa.HeapM Go.Proofs.Ytlhmlejkfgejiaa.StabM

/-- Two heaps on the way: T was pushed to the one, R is left of the other. -/
structure Two (w0 wr : World) (p : Nat) (v : Value) (q : Nat) (v2 : Value) (L : List Pr) (c : Int) (L2 : List Pr) (c2 : Int) (T R : List Pr) (va vb : Value) : Prop where
  i1 : HO.Is ltO 8 p wr va (L ++ T) (c + T.length)
  i2 : HO.Is ltO 8 q wr vb R c2
  dis : ∀ b, HO.Foot p va b → ¬ HO.Foot q vb b
  out : Out (fun b => HO.Foot p v b ∨ HO.Foot q v2 b) w0 wr
  fa : ∀ b, HO.Foot p va b → HO.Foot p v b ∨ w0.heap.size ≤ b
  fb : ∀ b, HO.Foot q vb b → HO.Foot q v2 b ∨ w0.heap.size ≤ b

section
variable {w0 wr w' : World} {p q : Nat} {v v2 va vb : Value} {L L2 T R : List Pr} {c c2 : Int}
theorem Two.below (h : Two w0 wr p v q v2 L c L2 c2 T R va vb) (o : Below wr.heap.size wr w') : Two w0 w' p v q v2 L c L2 c2 T R va vb :=
  ⟨h.i1.below o, h.i2.below o, h.dis, h.out.trans (Out.ofBelow (S := fun b => HO.Foot p v b ∨ HO.Foot q v2 b) o) (fun _ _ e => e), h.fa, h.fb⟩
theorem Two.pushed {v3 : Value} {x : Pr} (h : Two w0 wr p v q v2 L c L2 c2 T R va vb) (i3 : HO.Is ltO 8 p w' v3 ((L ++ T) ++ [(x.1, x.2)]) (c + T.length + 1)) (o3 : Out (HO.Foot p va) wr w') (f3 : ∀ b, v3.ownBlock = some b → va.ownBlock = some b ∨ wr.heap.size ≤ b) :
    Two w0 w' p v q v2 L c L2 c2 (T ++ [x]) R v3 vb := by
  have hs := h.out.size
  refine ⟨?_, h.i2.out o3 (fun b hb e => h.dis b e hb), fun b hb hq => ?_, h.out.trans o3 (fun b hb e => ?_), fun b hb => ?_, h.fb⟩
  · have e : c + ((T ++ [x]).length : Int) = c + T.length + 1 := by simp; omega
    rw [e, ← List.append_assoc]
    exact i3
  · rcases hb with hb | hb
    · exact h.dis b (Or.inl hb) hq
    · rcases f3 b hb with e | e
      · exact h.dis b (Or.inr e) hq
      · have := h.i2.foot b hq; omega
  · rcases h.fa b e with e | e
    · exact Or.inl e
    · omega
  · rcases hb with hb | hb
    · exact Or.inl (Or.inl hb)
    · rcases f3 b hb with e | e
      · exact h.fa b (Or.inr e)
      · exact Or.inr (by omega)
theorem Two.popped {v4 : Value} {R' : List Pr} (h : Two w0 wr p v q v2 L c L2 c2 T R va vb) (i4 : HO.Is ltO 8 q w' v4 R' c2) (o4 : Out (HO.Foot q vb) wr w') (f4 : ∀ b, v4.ownBlock = some b → vb.ownBlock = some b ∨ wr.heap.size ≤ b) :
    Two w0 w' p v q v2 L c L2 c2 T R' va v4 := by
  have hs := h.out.size
  refine ⟨h.i1.out o4 (fun b hb e => h.dis b hb e), i4, fun b hb hq => ?_, h.out.trans o4 (fun b hb e => ?_), h.fa, fun b hb => ?_⟩
  · rcases hq with hq | hq
    · exact h.dis b hb (Or.inl hq)
    · rcases f4 b hq with e | e
      · exact h.dis b hb (Or.inr e)
      · have := h.i1.foot b hb; omega
  · rcases h.fb b e with e | e
    · exact Or.inr e
    · omega
  · rcases hb with hb | hb
    · exact Or.inl (Or.inl hb)
    · rcases f4 b hb with e | e
      · exact h.fb b (Or.inr e)
      · exact Or.inr (by omega)
theorem Two.far {s : Nat} (h : Two w0 wr p v q v2 L c L2 c2 T R va vb) (hz : w0.heap.size ≤ s) (h1 : ¬ HO.Foot p va s) (h2 : ¬ HO.Foot q vb s) (o : Nat) (u : Value) : Two w0 (wr.setCell ⟨s, o, none⟩ u) p v q v2 L c L2 c2 T R va vb :=
  ⟨h.i1.out ((Out.refl (fun b => b = s) wr).setIn o u) (fun b hb e => h1 (e ▸ hb)), h.i2.out ((Out.refl (fun b => b = s) wr).setIn o u) (fun b hb e => h2 (e ▸ hb)), h.dis,
    h.out.trans ((Out.refl (fun b => b = s) wr).setIn o u) (fun b hb e => by omega), h.fa, h.fb⟩
theorem not_foot {v4 : Value} {z : Nat} (h : ∀ b, HO.Foot q vb b → b < z) (hf : ∀ b, v4.ownBlock = some b → vb.ownBlock = some b ∨ z + 1 ≤ b) : ¬ HO.Foot q v4 z := by
  rintro (e | e)
  · have := h z (Or.inl e); omega
  · rcases hf z e with e | e
    · have := h z (Or.inr e); omega
    · omega
end
def Merged (p : Nat) (v : Value) (L : List Pr) (c : Int) (q : Nat) (v2 : Value) (L2 : List Pr) (c2 : Int) (w : World) (e : Ending) (w' : World) : Prop :=
  e = .returned (.tuple #[]) ∧ ∃ S va vb, PopSeq ltO L2 S ∧ Two w w' p v q v2 L c L2 c2 S [] va vb
def MergeRel (N p : Nat) (v : Value) (L : List Pr) (c : Int) (q : Nat) (v2 : Value) (L2 : List Pr) (c2 : Int) (w : World) (gk : Nat) (pv ov : Value) (wr : World) : Prop :=
  ∃ (T R : List Pr) (va vb : Value), Two w wr p v q v2 L c L2 c2 T R va vb ∧
    ((∃ (s : Nat) (x : Pr), pv = .pointer (some ⟨s, 0, none⟩) ∧ ov = .bool true ∧ gk = R.length + 1 ∧ s < wr.heap.size ∧ wr.cell? ⟨s, 0, none⟩ = some (.int .i64 x.1) ∧ wr.cell? ⟨s, 1, none⟩ = some (.int .i64 x.2) ∧ ¬ HO.Foot p va s ∧ ¬ HO.Foot q vb s ∧ T.length + 1 + R.length ≤ N ∧ ∀ S, PopSeq ltO R S → PopSeq ltO L2 (T ++ x :: S)) ∨
     (ov = .bool false ∧ R = [] ∧ PopSeq ltO L2 T))
theorem two_start {w : World} {p q : Nat} {v v2 : Value} {L L2 : List Pr} {c c2 : Int} (h : HO.Is ltO 8 p w v L c) (h2 : HO.Is ltO 8 q w v2 L2 c2) (hd : ∀ b, HO.Foot p v b → ¬ HO.Foot q v2 b) : Two w w p v q v2 L c L2 c2 [] L2 v v2 :=
  ⟨by simpa using h, h2, hd, Out.refl _ _, fun b hb => Or.inl hb, fun b hb => Or.inl hb⟩

theorem infoH : (Try.prog.info? 64).map (fun i => i.size) = some 3 := by kernel_rfl
theorem info_heap : ∃ j, Try.prog.info? 64 = some j ∧ j.size = 3 := by
  have h := infoH
  cases e : Try.prog.info? 64 with
  | none => rw [e] at h; cases h
  | some j =>
    rw [e] at h
    exact ⟨j, rfl, by simpa using h⟩
theorem eql_other {w : World} {p q : Nat} {v v2 : Value} {L L2 : List Pr} {c c2 : Int} (h : HO.Is ltO 8 p w v L c) (h2 : HO.Is ltO 8 q w v2 L2 c2) (hpq : p ≠ q) :
    (binOp .eql 23 (.pointer (some ⟨p, 0, none⟩)) (.pointer (some ⟨q, 0, none⟩))).run Try.prog w = .ok (.bool false) w := by
  obtain ⟨l, h, _⟩ := h
  obtain ⟨l2, h2, _⟩ := h2
  obtain ⟨j, hj, hs⟩ := info_heap
  exact run_eql_ptr_other w Try.underlying23 hj (by omega) (fun e => hpq (by injection e)) h.blk h2.blk
theorem eql_same (w : World) (p : Nat) : (binOp .eql 23 (.pointer (some ⟨p, 0, none⟩)) (.pointer (some ⟨p, 0, none⟩))).run Try.prog w = .ok (.bool true) w := by
  obtain ⟨j, hj, _⟩ := info_heap
  exact run_eql_ptr_same w _ Try.underlying23 hj
set_option maxHeartbeats 400000 in
theorem merge_self (p : Nat) (w : World) : Calls Try.prog 26 #[.pointer (some ⟨p, 0, none⟩), .pointer (some ⟨p, 0, none⟩)] w fun e w' => e = .returned (.tuple #[]) ∧ w = w' := by
  have hq := eql_same w p
  go_enter Try.func26, Try.ntmps26
  go_wp2
  go_returns
  exact ⟨rfl, rfl⟩
set_option maxHeartbeats 400000 in
theorem merge_nil (o : Value) (w : World) : Calls Try.prog 26 #[.pointer none, o] w fun e w' => e = .returned (.tuple #[]) ∧ w = w' := by
  go_enter Try.func26, Try.ntmps26
  go_wp2
  go_returns
  exact ⟨rfl, rfl⟩
set_option maxHeartbeats 400000 in
theorem merge_none (p : Nat) (w : World) : Calls Try.prog 26 #[.pointer (some ⟨p, 0, none⟩), .pointer none] w fun e w' => e = .returned (.tuple #[]) ∧ Below w.heap.size w w' := by
  go_enter Try.func26, Try.ntmps26
  go_wp2_with (go_at_call 10; refine (HO.pop_nil _).mono ?_; rintro e w1 ⟨rfl, hb1⟩)
  refine wp_loop_rounds 1 ?_
  rw [rounds_succ]
  go_wp2
  go_end0
  exact ⟨rfl, hb1.alloc hb1.size _⟩

set_option maxHeartbeats 4000000 in
set_option maxRecDepth 100000 in
theorem merge (p : Nat) (v : Value) (L : List Pr) (c : Int) (q : Nat) (v2 : Value) (L2 : List Pr) (c2 : Int) (w : World) (h : HO.Is ltO 8 p w v L c) (h2 : HO.Is ltO 8 q w v2 L2 c2) (hd : ∀ b, HO.Foot p v b → ¬ HO.Foot q v2 b) (hc : c ≤ 400000) (hc2 : c2 ≤ 400000) :
    Calls Try.prog 26 #[.pointer (some ⟨p, 0, none⟩), .pointer (some ⟨q, 0, none⟩)] w (Merged p v L c q v2 L2 c2 w) := by
  have hpq : p ≠ q := fun e => hd p (Or.inl rfl) (Or.inl e)
  obtain ⟨N, hN0⟩ : ∃ N, N = L2.length := ⟨_, rfl⟩
  have hN1 : N ≤ 400000 := by have := h2.room; omega
  have heq := eql_other h h2 hpq
  have TW := Lib.hid (two_start h h2 hd)
  have HN0 := Lib.hid hN0
  clear h h2 hd hN0
  by_cases h0 : L2.length = 0
  · obtain rfl : L2 = [] := List.eq_nil_of_length_eq_zero h0
    clear h0
    go_enter Try.func26, Try.ntmps26
    go_wp2_with (go_at_call 10; refine (HO.pop_none q v2 c2 _ TW.out.i2).mono ?_; rintro e w1 ⟨rfl, hb1⟩; have M1 := Lib.hid (TW.out.below hb1); clear hb1)
    go_loopg [4, 5] 0 (fun gk pv ov wr => MergeRel N p v L c q v2 [] c2 w gk pv ov wr)
    case atStart => exact ⟨[], [], v, v2, M1.out.below ((Below.refl _ _).alloc (Nat.le_refl _) _), Or.inr ⟨rfl, rfl, .nil⟩⟩
    case round =>
      obtain ⟨T, R, va, vb, hM, hcase⟩ := hrel
      have M := Lib.hid hM
      have hwz := hM.out.size
      clear hM
      rcases hcase with ⟨s, x, rfl, rfl, hgk, hs, c0, c1, nf1, nf2, hN, hseq⟩ | ⟨rfl, rfl, hseq⟩
      · have SQ := Lib.hid hseq
        have N1 := Lib.hid nf1
        clear hseq nf1 nf2
        by_cases hR : R.length = 0
        · obtain rfl : R = [] := List.eq_nil_of_length_eq_zero hR
          clear hR
          go_wp2_with (first
            | (go_at_call 13; (with_reducible refine (pushX M.out.i1 (by omega) x.1 x.2).mono ?_); rintro e w2 ⟨rfl, v3, i3, o3, f3⟩; have z2 : wr.heap.size ≤ w2.heap.size := o3.size; have M2 := Lib.hid (M.out.pushed i3 o3 f3); have hz2 : w.heap.size ≤ w2.heap.size := (by omega); have b0 : w2.cell? ⟨s, 0, none⟩ = some (.int .i64 x.1) := (by rw [o3.cell _ hs N1.out]; exact c0); have b1 : w2.cell? ⟨s, 1, none⟩ = some (.int .i64 x.2) := (by rw [o3.cell _ hs N1.out]; exact c1); have hs2 : s < w2.heap.size := (by omega); clear i3 o3 f3)
            | (go_at_call 10; refine (HO.pop_none q vb c2 _ (M2.out.i2.below ((Below.refl _ _).alloc (Nat.le_refl _) _))).mono ?_; rintro e w4 ⟨rfl, hb4⟩; have z4 : w2.heap.size < w4.heap.size := (by have := hb4.size; simp at this; omega); have M4 := Lib.hid ((M2.out.below ((Below.refl _ _).alloc (Nat.le_refl _) _)).below hb4); have y0 : w4.cell? ⟨w2.heap.size, 0, none⟩ = some (.int .i64 x.1) := (by rw [hb4.cell (by simp)]; go_simp); have y1 : w4.cell? ⟨w2.heap.size, 1, none⟩ = some (.int .i64 x.2) := (by rw [hb4.cell (by simp)]; go_simp); have g0 : w4.frozen? ⟨w2.heap.size, 0, none⟩ = false := (by rw [hb4.frozen (by simp)]; go_simp); have g1 : w4.frozen? ⟨w2.heap.size, 1, none⟩ = false := (by rw [hb4.frozen (by simp)]; go_simp); have n1 : Hid (¬ HO.Foot p v3 w2.heap.size) := Lib.hid (fun e => by have := M2.out.i1.foot _ e; omega); have n2 : Hid (¬ HO.Foot q vb w2.heap.size) := Lib.hid (fun e => by have := M2.out.i2.foot _ e; omega); clear hb4))
          go_roundg 0
          case measure => omega
          case rel => exact ⟨T ++ [x], [], v3, vb, (M4.out.far hz2 n1.out n2.out 0 _).far hz2 n1.out n2.out 1 _, Or.inr ⟨rfl, rfl, SQ.out [] .nil⟩⟩
        · obtain ⟨a, ha⟩ := first_ex ordO R (by omega)
          have hal : a < R.length := ha.1
          obtain ⟨x2, hx2⟩ : ∃ x2, R.getD a default = x2 := ⟨_, rfl⟩
          have HX := Lib.hid hx2
          have HA := Lib.hid ha
          clear ha hx2 hR
          go_wp2_with (first
            | (go_at_call 13; (with_reducible refine (pushX M.out.i1 (by omega) x.1 x.2).mono ?_); rintro e w2 ⟨rfl, v3, i3, o3, f3⟩; have z2 : wr.heap.size ≤ w2.heap.size := o3.size; have M2 := Lib.hid (M.out.pushed i3 o3 f3); have hz2 : w.heap.size ≤ w2.heap.size := (by omega); have b0 : w2.cell? ⟨s, 0, none⟩ = some (.int .i64 x.1) := (by rw [o3.cell _ hs N1.out]; exact c0); have b1 : w2.cell? ⟨s, 1, none⟩ = some (.int .i64 x.2) := (by rw [o3.cell _ hs N1.out]; exact c1); have hs2 : s < w2.heap.size := (by omega); clear i3 o3 f3)
            | (go_at_call 10; refine (HO.pop_some lessO q vb R c2 _ (M2.out.i2.below ((Below.refl _ _).alloc (Nat.le_refl _) _)) (by omega) a HA.out x2 HX.out).mono ?_; rintro e w4 ⟨rfl, v4, i4, o4, f4⟩; have z4 : w2.heap.size < w4.heap.size := (by have := o4.size; simp at this; omega); have M4 := Lib.hid ((M2.out.below ((Below.refl _ _).alloc (Nat.le_refl _) _)).popped i4 o4 f4); have y0 : w4.cell? ⟨w2.heap.size, 0, none⟩ = some (.int .i64 x.1) := (by rw [o4.cell _ (by simp) (fun e => by have := M2.out.i2.foot _ e; omega)]; go_simp); have y1 : w4.cell? ⟨w2.heap.size, 1, none⟩ = some (.int .i64 x.2) := (by rw [o4.cell _ (by simp) (fun e => by have := M2.out.i2.foot _ e; omega)]; go_simp); have g0 : w4.frozen? ⟨w2.heap.size, 0, none⟩ = false := (by rw [o4.frz _ (by simp) (fun e => by have := M2.out.i2.foot _ e; omega)]; go_simp); have g1 : w4.frozen? ⟨w2.heap.size, 1, none⟩ = false := (by rw [o4.frz _ (by simp) (fun e => by have := M2.out.i2.foot _ e; omega)]; go_simp); have n1 : Hid (¬ HO.Foot p v3 w2.heap.size) := Lib.hid (fun e => by have := M2.out.i1.foot _ e; omega); have n2 : Hid (¬ HO.Foot q v4 w2.heap.size) := Lib.hid (not_foot M2.out.i2.foot (fun b hb => (f4 b hb).imp id (fun h => by simp at h; omega))); clear i4 o4 f4))
          go_roundg ((R.eraseIdx a).length + 1)
          case measure =>
            have := List.length_eraseIdx_of_lt hal
            omega
          case rel => exact ⟨T ++ [x], R.eraseIdx a, v3, v4, (M4.out.far hz2 n1.out n2.out 0 _).far hz2 n1.out n2.out 1 _, Or.inl ⟨w2.heap.size, x2, rfl, rfl, rfl, by simp; omega, by go_simp, by go_simp, n1.out, n2.out, by have := List.length_eraseIdx_of_lt hal; simp; omega, fun S hS => by
            have := SQ.out (x2 :: S) (by rw [← HX.out]; exact .cons a HA.out hS)
            simpa using this⟩⟩
      · have SQ := Lib.hid hseq
        clear hseq
        go_wp2
        go_end0
        exact ⟨rfl, T, va, vb, SQ.out, M.out⟩
  · obtain ⟨a0, ha0⟩ := first_ex ordO L2 (by omega)
    have hal0 : a0 < L2.length := ha0.1
    obtain ⟨x0, hx0⟩ : ∃ x0, L2.getD a0 default = x0 := ⟨_, rfl⟩
    have HX0 := Lib.hid hx0
    have HA0 := Lib.hid ha0
    clear ha0 hx0 h0
    go_enter Try.func26, Try.ntmps26
    go_wp2_with (go_at_call 10; refine (HO.pop_some lessO q v2 L2 c2 _ TW.out.i2 (by omega) a0 HA0.out x0 HX0.out).mono ?_; rintro e w1 ⟨rfl, v1, i1, o1, f1⟩; have M1 := Lib.hid (TW.out.popped i1 o1 f1); have z1 := o1.size; clear i1 o1 f1)
    go_loopg [4, 5] ((L2.eraseIdx a0).length + 1) (fun gk pv ov wr => MergeRel N p v L c q v2 L2 c2 w gk pv ov wr)
    case atStart => exact ⟨[], L2.eraseIdx a0, v, v1, M1.out.below ((Below.refl _ _).alloc (Nat.le_refl _) _), Or.inl ⟨w1.heap.size, x0, rfl, rfl, rfl, by simp, by go_simp, by go_simp, fun e => by have := M1.out.i1.foot _ e; omega, fun e => by have := M1.out.i2.foot _ e; omega, by have := List.length_eraseIdx_of_lt hal0; have := HN0.out; simp; omega, fun S hS => by
      rw [← HX0.out]; exact .cons a0 HA0.out hS⟩⟩
    case round =>
      obtain ⟨T, R, va, vb, hM, hcase⟩ := hrel
      have M := Lib.hid hM
      have hwz := hM.out.size
      clear hM
      rcases hcase with ⟨s, x, rfl, rfl, hgk, hs, c0, c1, nf1, nf2, hN, hseq⟩ | ⟨rfl, rfl, hseq⟩
      · have SQ := Lib.hid hseq
        have N1 := Lib.hid nf1
        clear hseq nf1 nf2
        by_cases hR : R.length = 0
        · obtain rfl : R = [] := List.eq_nil_of_length_eq_zero hR
          clear hR
          go_wp2_with (first
            | (go_at_call 13; (with_reducible refine (pushX M.out.i1 (by omega) x.1 x.2).mono ?_); rintro e w2 ⟨rfl, v3, i3, o3, f3⟩; have z2 : wr.heap.size ≤ w2.heap.size := o3.size; have M2 := Lib.hid (M.out.pushed i3 o3 f3); have hz2 : w.heap.size ≤ w2.heap.size := (by omega); have b0 : w2.cell? ⟨s, 0, none⟩ = some (.int .i64 x.1) := (by rw [o3.cell _ hs N1.out]; exact c0); have b1 : w2.cell? ⟨s, 1, none⟩ = some (.int .i64 x.2) := (by rw [o3.cell _ hs N1.out]; exact c1); have hs2 : s < w2.heap.size := (by omega); clear i3 o3 f3)
            | (go_at_call 10; refine (HO.pop_none q vb c2 _ (M2.out.i2.below ((Below.refl _ _).alloc (Nat.le_refl _) _))).mono ?_; rintro e w4 ⟨rfl, hb4⟩; have z4 : w2.heap.size < w4.heap.size := (by have := hb4.size; simp at this; omega); have M4 := Lib.hid ((M2.out.below ((Below.refl _ _).alloc (Nat.le_refl _) _)).below hb4); have y0 : w4.cell? ⟨w2.heap.size, 0, none⟩ = some (.int .i64 x.1) := (by rw [hb4.cell (by simp)]; go_simp); have y1 : w4.cell? ⟨w2.heap.size, 1, none⟩ = some (.int .i64 x.2) := (by rw [hb4.cell (by simp)]; go_simp); have g0 : w4.frozen? ⟨w2.heap.size, 0, none⟩ = false := (by rw [hb4.frozen (by simp)]; go_simp); have g1 : w4.frozen? ⟨w2.heap.size, 1, none⟩ = false := (by rw [hb4.frozen (by simp)]; go_simp); have n1 : Hid (¬ HO.Foot p v3 w2.heap.size) := Lib.hid (fun e => by have := M2.out.i1.foot _ e; omega); have n2 : Hid (¬ HO.Foot q vb w2.heap.size) := Lib.hid (fun e => by have := M2.out.i2.foot _ e; omega); clear hb4))
          go_roundg 0
          case measure => omega
          case rel => exact ⟨T ++ [x], [], v3, vb, (M4.out.far hz2 n1.out n2.out 0 _).far hz2 n1.out n2.out 1 _, Or.inr ⟨rfl, rfl, SQ.out [] .nil⟩⟩
        · obtain ⟨a, ha⟩ := first_ex ordO R (by omega)
          have hal : a < R.length := ha.1
          obtain ⟨x2, hx2⟩ : ∃ x2, R.getD a default = x2 := ⟨_, rfl⟩
          have HX := Lib.hid hx2
          have HA := Lib.hid ha
          clear ha hx2 hR
          go_wp2_with (first
            | (go_at_call 13; (with_reducible refine (pushX M.out.i1 (by omega) x.1 x.2).mono ?_); rintro e w2 ⟨rfl, v3, i3, o3, f3⟩; have z2 : wr.heap.size ≤ w2.heap.size := o3.size; have M2 := Lib.hid (M.out.pushed i3 o3 f3); have hz2 : w.heap.size ≤ w2.heap.size := (by omega); have b0 : w2.cell? ⟨s, 0, none⟩ = some (.int .i64 x.1) := (by rw [o3.cell _ hs N1.out]; exact c0); have b1 : w2.cell? ⟨s, 1, none⟩ = some (.int .i64 x.2) := (by rw [o3.cell _ hs N1.out]; exact c1); have hs2 : s < w2.heap.size := (by omega); clear i3 o3 f3)
            | (go_at_call 10; refine (HO.pop_some lessO q vb R c2 _ (M2.out.i2.below ((Below.refl _ _).alloc (Nat.le_refl _) _)) (by omega) a HA.out x2 HX.out).mono ?_; rintro e w4 ⟨rfl, v4, i4, o4, f4⟩; have z4 : w2.heap.size < w4.heap.size := (by have := o4.size; simp at this; omega); have M4 := Lib.hid ((M2.out.below ((Below.refl _ _).alloc (Nat.le_refl _) _)).popped i4 o4 f4); have y0 : w4.cell? ⟨w2.heap.size, 0, none⟩ = some (.int .i64 x.1) := (by rw [o4.cell _ (by simp) (fun e => by have := M2.out.i2.foot _ e; omega)]; go_simp); have y1 : w4.cell? ⟨w2.heap.size, 1, none⟩ = some (.int .i64 x.2) := (by rw [o4.cell _ (by simp) (fun e => by have := M2.out.i2.foot _ e; omega)]; go_simp); have g0 : w4.frozen? ⟨w2.heap.size, 0, none⟩ = false := (by rw [o4.frz _ (by simp) (fun e => by have := M2.out.i2.foot _ e; omega)]; go_simp); have g1 : w4.frozen? ⟨w2.heap.size, 1, none⟩ = false := (by rw [o4.frz _ (by simp) (fun e => by have := M2.out.i2.foot _ e; omega)]; go_simp); have n1 : Hid (¬ HO.Foot p v3 w2.heap.size) := Lib.hid (fun e => by have := M2.out.i1.foot _ e; omega); have n2 : Hid (¬ HO.Foot q v4 w2.heap.size) := Lib.hid (not_foot M2.out.i2.foot (fun b hb => (f4 b hb).imp id (fun h => by simp at h; omega))); clear i4 o4 f4))
          go_roundg ((R.eraseIdx a).length + 1)
          case measure =>
            have := List.length_eraseIdx_of_lt hal
            omega
          case rel => exact ⟨T ++ [x], R.eraseIdx a, v3, v4, (M4.out.far hz2 n1.out n2.out 0 _).far hz2 n1.out n2.out 1 _, Or.inl ⟨w2.heap.size, x2, rfl, rfl, rfl, by simp; omega, by go_simp, by go_simp, n1.out, n2.out, by have := List.length_eraseIdx_of_lt hal; simp; omega, fun S hS => by
            have := SQ.out (x2 :: S) (by rw [← HX.out]; exact .cons a HA.out hS)
            simpa using this⟩⟩
      · have SQ := Lib.hid hseq
        clear hseq
        go_wp2
        go_end0
        exact ⟨rfl, T, va, vb, SQ.out, M.out⟩
end Go.Proofs.Ytlhmlejkfgejiaa
