/-
  What the document fixes of lines, words and numbers is so: the law's 'wakes' answers true. Conditions: the library's tables are laid.
-/
import Derived.Test.YtkcjaefhmanmeaaDoorLexU
namespace Go.Proofs.YtkcjaefhmanmeaaDoor
open Go.RowKit Go.Proofs.YtkcjaefhmanmeaaDoor.LexM

theorem wordsYes (s : ByteArray) (n : Nat) (h : wdOk s.data.toList = true) (hn : (wdL s.data.toList).length = n) (hs : s.size < 4294967281) (w : World) (hT : TabL w) :
    Calls Tryd.prog 9 #[.string s] w fun e w' => (∃ A c, e = .returned (.tuple #[.slice A n c, .bool true])) ∧ Below w.heap.size w w' := by
  refine (words s w hT hs).mono ?_
  rintro e w' ⟨v, rfl, hv, hb⟩
  obtain ⟨A, c, rfl, _⟩ := hv
  rw [h, hn]
  exact ⟨⟨A, c, rfl⟩, hb⟩
theorem wordsNo (s : ByteArray) (h : wdOk s.data.toList = false) (hs : s.size < 4294967281) (w : World) (hT : TabL w) :
    Calls Tryd.prog 9 #[.string s] w fun e w' => (∃ v, e = .returned (.tuple #[v, .bool false])) ∧ Below w.heap.size w w' := by
  refine (words s w hT hs).mono ?_
  rintro e w' ⟨v, rfl, hv, hb⟩
  rw [h]
  exact ⟨⟨v, rfl⟩, hb⟩
theorem linesAt (s : ByteArray) (n : Nat) (z : Int) (h : lnE s.data.toList = z) (hn : (lnL s.data.toList).length = n) (w : World) (hT : TabL w) :
    Calls Tryd.prog 7 #[.string s] w fun e w' => (∃ A c, e = .returned (.tuple #[.slice A n c, .int .i64 z])) ∧ Below w.heap.size w w' := by
  refine (lines s w hT).mono ?_
  rintro e w' ⟨v, rfl, hv, hb⟩
  obtain ⟨A, c, rfl, _⟩ := hv
  rw [h, hn]
  exact ⟨⟨A, c, rfl⟩, hb⟩
theorem numberAt (s : ByteArray) (most z : Int) (b : Bool) (h : numOk s.data.toList most = b) (hz : numVal s.data.toList most = z) (w : World) :
    Calls Tryd.prog 11 #[.string s, .int .i64 most] w fun e w' => e = .returned (.tuple #[.int .i64 z, .bool b]) ∧ Below w.heap.size w w' := by
  rw [← h, ← hz]; exact number s most w
theorem digitsAt (n : Int) (s : ByteArray) (h : bs (Lib.itoa n) = s) (w : World) (hT : TabL w) (h0 : -9223372036854775808 ≤ n) (h1 : n ≤ 9223372036854775807) :
    Calls Tryd.prog 17 #[.int .i64 n] w fun e w' => e = .returned (.string s) ∧ Below w.heap.size w w' := by
  rw [← h]; exact digits n w hT h0 h1
theorem itoa7 : Lib.itoa (-7) = [45, 55] := by
  have h := Lib.itoa_neg 7 (by decide)
  rw [Lib.decDigits, dif_pos (by decide)] at h
  exact h
set_option maxHeartbeats 4000000 in
set_option maxRecDepth 100000 in
theorem lexWakes (w : World) (hT : TabL w) : Calls Tryd.prog 13 #[] w fun e w' => e = .returned (.bool true) ∧ Below w.heap.size w w' := by
  have C1 := wordsYes ⟨#[48, 32, 69, 32, 49]⟩ 3 (by decide +kernel) (by decide +kernel) (by decide)
  have C2 := wordsNo ⟨#[48, 32, 32, 69]⟩ (by decide +kernel) (by decide)
  have C3 := linesAt ⟨#[97, 10, 10]⟩ 2 0 (by decide +kernel) (by decide +kernel)
  have C4 := linesAt ⟨#[97]⟩ 0 4 (by decide +kernel) (by decide +kernel)
  have C5 := numberAt ⟨#[49, 50]⟩ 12 12 true (by decide +kernel) (by decide +kernel)
  have C6 := fun w hT => digitsAt (-7) ⟨#[45, 55]⟩ (by rw [itoa7]; rfl) w hT (by decide) (by decide)
  have HT := Lib.hid hT
  have D1 := Lib.hid C1
  have D2 := Lib.hid C2
  have D3 := Lib.hid C3
  have D4 := Lib.hid C4
  have D5 := Lib.hid C5
  have D6 := Lib.hid C6
  clear hT C1 C2 C3 C4 C5 C6
  go_enter Tryd.func13, Tryd.ntmps13
  go_wp2_with (first
    | (go_at_call 17; have _hz := T5; refine (D6.out _ T5.out).mono ?_; rintro e w6 ⟨rfl, b6⟩; have B6 := Lib.hid (B5.out.trans (b6.mono B5.out.size)); clear b6)
    | (go_at_call 11; have _hz := T4; refine (D5.out _).mono ?_; rintro e w5 ⟨rfl, b5⟩; have B5 := Lib.hid (B4.out.trans (b5.mono B4.out.size)); have T5 := Lib.hid (HT.out.below B5.out (Nat.le_refl _)); clear b5)
    | (go_at_call 7; have _hz := T3; refine (D4.out _ T3.out).mono ?_; rintro e w4 ⟨⟨A4, c4, rfl⟩, b4⟩; have B4 := Lib.hid (B3.out.trans (b4.mono B3.out.size)); have T4 := Lib.hid (HT.out.below B4.out (Nat.le_refl _)); clear b4)
    | (go_at_call 7; have _hz := T2; refine (D3.out _ T2.out).mono ?_; rintro e w3 ⟨⟨A3, c3, rfl⟩, b3⟩; have B3 := Lib.hid (B2.out.trans (b3.mono B2.out.size)); have T3 := Lib.hid (HT.out.below B3.out (Nat.le_refl _)); clear b3)
    | (go_at_call 9; have _hz := T1; refine (D2.out _ T1.out).mono ?_; rintro e w2 ⟨⟨v2, rfl⟩, b2⟩; have B2 := Lib.hid (B1.out.trans (b2.mono B1.out.size)); have T2 := Lib.hid (HT.out.below B2.out (Nat.le_refl _)); clear b2)
    | (go_at_call 9; refine (D1.out _ HT.out).mono ?_; rintro e w1 ⟨⟨A1, c1, rfl⟩, b1⟩; have B1 := Lib.hid b1; have T1 := Lib.hid (HT.out.below B1.out (Nat.le_refl _)); clear b1))
  go_ret
  exact ⟨rfl, B6.out⟩
end Go.Proofs.YtkcjaefhmanmeaaDoor
