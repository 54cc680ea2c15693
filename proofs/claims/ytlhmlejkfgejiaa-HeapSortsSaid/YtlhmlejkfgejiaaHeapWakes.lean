/-
  The functions that the laws' heaps hold tell strict weak orders; wakes answers true. Conditions: none.
-/
import Derived.Test.YtlhmlejkfgejiaaHeapOF
import Derived.Test.YtlhmlejkfgejiaaHeapSF
import Derived.Test.YtlhmlejkfgejiaaHeapIF
import Derived.Sort.Walk0
import Derived.Shelf.Abstract
import Derived.WalkLawsBesides
namespace Go.Proofs.Ytlhmlejkfgejiaa
open Go.RowKit Go.Proofs.Ytlhmlejkfgejiaa.HeapM

def ltO (x y : Int × Int) : Bool := decide (x.1 < y.1)
def ltI (x y : Int) : Bool := decide (x < y)
def ltS (x y : ByteArray) : Bool := Op.bytesLess x.toList y.toList
def gtS (x y : ByteArray) : Bool := !Op.bytesLess x.toList y.toList && !(x.toList == y.toList)
theorem ordO : Ord ltO := ⟨fun x y h => by simp only [ltO, decide_eq_true_eq, decide_eq_false_iff_not] at *; omega, fun x y z h k => by simp only [ltO, decide_eq_false_iff_not] at *; omega⟩
theorem ordI : Ord ltI := ⟨fun x y h => by simp only [ltI, decide_eq_true_eq, decide_eq_false_iff_not] at *; omega, fun x y z h k => by simp only [ltI, decide_eq_false_iff_not] at *; omega⟩
theorem ordS : Ord ltS := by
  refine ⟨fun x y h => ?_, fun x y z h k => ?_⟩
  · simp only [ltS, bytesLess_eq, decide_eq_true_eq, decide_eq_false_iff_not, List.not_lt] at *
    exact List.le_of_lt h
  · simp only [ltS, bytesLess_eq, decide_eq_false_iff_not, List.not_lt] at *
    exact List.le_trans k h
theorem gtS_eq (x y : ByteArray) : gtS x y = ltS y x := by
  simp only [gtS, ltS, bytesLess_eq]
  by_cases h : y.toList < x.toList
  · have h1 : ¬ x.toList < y.toList := fun e => absurd (List.lt_trans h e) (List.lt_irrefl _)
    have h2 : ¬ x.toList = y.toList := fun e => by rw [e] at h; exact absurd h (List.lt_irrefl _)
    simp [h, h1, h2]
  · by_cases h1 : x.toList < y.toList
    · simp [h, h1]
    · have h2 : x.toList = y.toList := List.le_antisymm (List.not_lt.1 h) (List.not_lt.1 h1)
      simp [h2, List.lt_irrefl]
theorem ordG : Ord gtS := by
  refine ⟨fun x y h => ?_, fun x y z h k => ?_⟩
  · rw [gtS_eq] at *; exact ordS.asym _ _ h
  · rw [gtS_eq] at *; exact ordS.ntrans _ _ _ k h

theorem lessO : HO.LessAt 8 ltO := by
  refine ⟨enters_of Try.func8 (by kernel_rfl) rfl, fun W x y => ?_, ordO⟩
  unfold ltO
  go_enter Try.func8, Try.ntmps8
  go_wp2
  go_ret
  exact ⟨rfl, by go_grown⟩
theorem lessI : HI.LessAt 30 ltI := by
  refine ⟨enters_of Try.func30 (by kernel_rfl) rfl, fun W x y => ?_, ordI⟩
  unfold ltI
  go_enter Try.func30, Try.ntmps30
  go_wp2
  go_ret
  exact ⟨rfl, Below.refl _ _⟩
theorem lessS : HS.LessAt 36 ltS := by
  refine ⟨enters_of Try.func36 (by kernel_rfl) rfl, fun W x y => ?_, ordS⟩
  unfold ltS
  go_enter Try.func36, Try.ntmps36
  go_wp2
  go_ret
  exact ⟨rfl, Below.refl _ _⟩
theorem lessG : HS.LessAt 19 gtS := by
  refine ⟨enters_of Try.func19 (by kernel_rfl) rfl, fun W x y => ?_, ordG⟩
  unfold gtS
  go_enter Try.func19, Try.ntmps19
  go_wp2
  go_ret
  exact ⟨rfl, Below.refl _ _⟩

/-- The heap at p, with the row v, is the call's own, from B on; below B nothing has turned. -/
structure Mine (B : Nat) (w0 w : World) (p : Nat) (v : Value) : Prop where
  le : B ≤ w0.heap.size
  below : Below B w0 w
  p : B ≤ p
  v : ∀ b, v.ownBlock = some b → B ≤ b
theorem Mine.step {B : Nat} {w0 w w' : World} {p : Nat} {v v' : Value} (h : Mine B w0 w p v) (o : Out (fun b => b = p ∨ v.ownBlock = some b) w w') (hv : ∀ b, v'.ownBlock = some b → v.ownBlock = some b ∨ w.heap.size ≤ b) : Mine B w0 w' p v' := by
  have hs := h.below.size
  have hl := h.le
  have hp := h.p
  refine ⟨hl, h.below.trans (o.below (by omega) (fun i _ e => ?_)), hp, fun b hb => ?_⟩
  · rcases e with rfl | e
    · exact hp
    · exact h.v i e
  · rcases hv b hb with e | e
    · exact h.v b e
    · omega
theorem Mine.quiet {B : Nat} {w0 w w' : World} {p : Nat} {v : Value} (h : Mine B w0 w p v) (o : Below w.heap.size w w') : Mine B w0 w' p v :=
  ⟨h.le, h.below.trans (o.mono (Nat.le_trans h.le h.below.size)), h.p, h.v⟩

abbrev bA : ByteArray := ⟨#[97]⟩
abbrev bB : ByteArray := ⟨#[98]⟩
abbrev bC : ByteArray := ⟨#[99]⟩
theorem first1 : First ltS [bC, bA, bB] 1 := by
  refine ⟨by decide, fun b hb => ?_⟩
  match b, hb with
  | 0, _ => exact ⟨fun _ => by decide +kernel, fun h => absurd h (by decide)⟩
  | 1, _ => exact ⟨fun h => absurd h (by decide), fun h => absurd h (by decide)⟩
  | 2, _ => exact ⟨fun h => absurd h (by decide), fun _ => by decide +kernel⟩
theorem first2 : First ltS [bC, bB] 1 := by
  refine ⟨by decide, fun b hb => ?_⟩
  match b, hb with
  | 0, _ => exact ⟨fun _ => by decide +kernel, fun h => absurd h (by decide)⟩
  | 1, _ => exact ⟨fun h => absurd h (by decide), fun h => absurd h (by decide)⟩

theorem gd1 : [bC, bA, bB].getD 1 default = bA := rfl
theorem gd2 : [bC, bB].getD 1 default = bB := rfl
set_option maxHeartbeats 1000000 in
theorem wakes (w : World) : Calls Try.prog 15 #[] w fun e w' => e = .returned (.bool true) ∧ Below w.heap.size w w' := by
  go_enter Try.func15, Try.ntmps15
  go_wp2_with (first
    | (go_at_call 18; refine (HS.new (lt := ltS) _).mono ?_; rintro e w1 ⟨rfl, h1, b1⟩; have I1 := Lib.hid h1; have M1 : Hid (Mine w.heap.size w w1 w.heap.size (.slice none 0 0)) := ⟨Nat.le_refl _, b1, Nat.le_refl _, fun b hb => by simp [Value.ownBlock] at hb⟩; clear h1 b1)
    | (go_at_call 21; (with_reducible refine (HS.push lessS _ _ _ _ bC _ I1.out (by omega)).mono ?_);  rintro e w2 ⟨rfl, v2, i2, o2, f2⟩; have I2 := Lib.hid i2; have M2 := Lib.hid (M1.out.step o2 f2); clear i2 o2 f2)
    | (go_at_call 21; (with_reducible refine (HS.push lessS _ _ _ _ bA _ I2.out (by omega)).mono ?_);  rintro e w3 ⟨rfl, v3, i2, o2, f2⟩; have I3 := Lib.hid i2; have M3 := Lib.hid (M2.out.step o2 f2); clear i2 o2 f2)
    | (go_at_call 21; (with_reducible refine (HS.push lessS _ _ _ _ bB _ I3.out (by omega)).mono ?_);  rintro e w4 ⟨rfl, v4, i2, o2, f2⟩; have I4 : Hid (HS.Is ltS 36 w.heap.size w4 v4 [bC, bA, bB] 3) := i2; have M4 := Lib.hid (M3.out.step o2 f2); clear i2 o2 f2)
    | (go_at_call 24; (with_reducible refine (HS.pop_some lessS _ _ _ _ _ I4.out (by omega) 1 first1 bA gd1).mono ?_);  rintro e w5 ⟨rfl, v5, i2, o2, f2⟩; have I5 : Hid (HS.Is ltS 36 w.heap.size w5 v5 [bC, bB] 3) := i2; have M5 := Lib.hid (M4.out.step o2 f2); clear i2 o2 f2)
    | (go_at_call 37; (with_reducible refine (HS.top_x lessS I5.out first2 bB gd2).mono ?_);  rintro e w6 ⟨rfl, b6⟩; have I6 := Lib.hid (I5.out.below b6); have M6 := Lib.hid (M5.out.quiet b6); clear b6)
    | (go_at_call 33; (with_reducible refine (HI.push_nil _ _).mono ?_);  rintro e w7 ⟨rfl, b6⟩; have I7 := Lib.hid (I6.out.below b6); have M7 := Lib.hid (M6.out.quiet b6); clear b6)
    | (go_at_call 31; (with_reducible refine (HI.pop_nil _).mono ?_);  rintro e w8 ⟨rfl, b6⟩; have I8 := Lib.hid (I7.out.below b6); have M8 := Lib.hid (M7.out.quiet b6); clear b6)
    | (go_at_call 25; (with_reducible refine (HS.len _ _ _ _ _ I8.out).mono ?_);  rintro e w' ⟨rfl, rfl⟩)
    | (go_at_call 38; (with_reducible refine (HI.len_nil _).mono ?_);  rintro e w' ⟨rfl, rfl⟩))
  go_ret
  exact ⟨rfl, M8.out.below⟩
end Go.Proofs.Ytlhmlejkfgejiaa
