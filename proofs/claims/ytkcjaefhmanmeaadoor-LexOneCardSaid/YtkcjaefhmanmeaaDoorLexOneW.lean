/-
  LexOne: the walk: at every int and every text the call answers true and turns nothing that was there. Conditions: the library's tables are laid.
-/
import Derived.Test.YtkcjaefhmanmeaaDoorLexK
namespace Go.Proofs.YtkcjaefhmanmeaaDoor
open Go.RowKit Go.Proofs.YtkcjaefhmanmeaaDoor.LexM

theorem isNum_blank (l : List UInt8) : isNum (32 :: l) = false := by
  unfold isNum canon
  have : (32 :: l).all isDigit = false := by rw [List.all_cons]; rfl
  rw [this]; simp
theorem isNum_nought (l : List UInt8) (h : l ≠ []) : isNum (48 :: l) = false := by
  refine isNum_not (Or.inr (Or.inr ⟨?_, rfl⟩))
  have := List.length_pos_iff.2 h
  rw [List.length_cons]; omega

set_option maxHeartbeats 8000000 in
set_option maxRecDepth 100000 in
theorem one_core (n : Int) (s : ByteArray) (w : World) (hT : TabL w) (k : Int) (u : Nat) (hu : k = u) (hk1 : k ≤ 9999999) (hk : max 0 n % 10000000 = k) :
    Calls Tryd.prog 6 #[.int .i64 n, .string s] w fun r w' => r = .returned (.bool true) ∧ Below w.heap.size w w' := by
  have HT := Lib.hid hT
  have k0 : 0 ≤ k := by omega
  have hN : isNum (Lib.decDigits u) = true := by rw [dec_isNum]; simp; omega
  have e1 : bs (Lib.itoa k) = bs (Lib.decDigits u) := by rw [hu, itoa_nat]
  have hsz : (bs (Lib.decDigits u)).size ≤ 7 := by
    rw [bs_size]; exact (dec_seven u).2 (by omega)
  have hv : (val (Lib.decDigits u) : Int) = k := by rw [dec_val, hu]
  have C1 : ∀ w, TabL w → _ := fun w hT => digitsAt k _ e1 w hT (by omega) (by omega)
  have C2 := numberAt (bs (Lib.decDigits u)) k k true (num_yes hN (by omega)).1 ((num_yes hN (by omega)).2.trans hv)
  have C3 := numberAt (bs (Lib.decDigits u)) (k - 1) 0 false (num_more (by rw [bs_data]; omega)).1 (num_more (by rw [bs_data]; omega)).2
  have C4 := numberAt ((⟨#[32]⟩ : ByteArray) ++ bs (Lib.decDigits u)) k 0 false (by rw [cat_one]; exact (num_no k (isNum_blank _)).1) (by rw [cat_one]; exact (num_no k (isNum_blank _)).2)
  have C5 := numberAt ((⟨#[48]⟩ : ByteArray) ++ bs (Lib.decDigits u)) 9999999 0 false (by rw [cat_one]; exact (num_no _ (isNum_nought _ (dec_ne u))).1) (by rw [cat_one]; exact (num_no _ (isNum_nought _ (dec_ne u))).2)
  generalize bs (Lib.decDigits u) = d at *
  have HC1 := Lib.hid C1
  have HC2 := Lib.hid C2
  have HC3 := Lib.hid C3
  have HC4 := Lib.hid C4
  have HC5 := Lib.hid C5
  have hw : wrap64 (k - 1) = k - 1 := by unfold wrap64; omega
  clear hT hN e1 hv C1 C2 C3 C4 C5 hu
  cases hok : numOk s.data.toList 9999999 with
  | true =>
    have hx : canon s.data.toList = true ∧ (val s.data.toList : Int) ≤ 9999999 := by
      unfold numOk isNum at hok
      simp only [Bool.and_eq_true, decide_eq_true_eq] at hok
      exact ⟨hok.1.1, hok.2⟩
    have hz : numVal s.data.toList 9999999 = val s.data.toList := by unfold numVal; rw [if_pos hok]
    have hd : bs (Lib.itoa (val s.data.toList : Int)) = s := by rw [itoa_nat, canon_dec _ hx.1, bs_list]
    have C6 := numberAt s 9999999 _ true hok hz
    obtain ⟨x, hxx⟩ : ∃ x : Int, (val s.data.toList : Int) = x := ⟨_, rfl⟩
    have x0 : 0 ≤ x := by omega
    have x1 : x ≤ 9999999 := by omega
    rw [hxx] at C6 hd
    have C7 : ∀ w, TabL w → _ := fun w hT => digitsAt x _ hd w hT (by omega) (by omega)
    have HC6 := Lib.hid C6
    have HC7 := Lib.hid C7
    clear hx hz hd hxx hok C6 C7
    go_enter Tryd.func6, Tryd.ntmps6
    go_wp2_with (first
      | (go_at_call 17; have _hz := B7; refine (HC7.out _ (HT.out.below B7.out (Nat.le_refl _))).mono ?_; rintro e w8 ⟨rfl, b8⟩; have B8 := Lib.hid (B7.out.trans (b8.mono B7.out.size)); clear b8)
      | (go_at_call 13; refine (lexWakes _ (HT.out.below B6.out (Nat.le_refl _))).mono ?_; rintro e w7 ⟨rfl, b7⟩; have B7 := Lib.hid (B6.out.trans (b7.mono B6.out.size)); clear b7)
      | (go_at_call 11; have _hz := B5; refine (HC6.out _).mono ?_; rintro e w6 ⟨rfl, b6⟩; have B6 := Lib.hid (B5.out.trans (b6.mono B5.out.size)); clear b6)
      | (go_at_call 11; have _hz := B4; refine (HC5.out _).mono ?_; rintro e w5 ⟨rfl, b5⟩; have B5 := Lib.hid (B4.out.trans (b5.mono B4.out.size)); clear b5)
      | (go_at_call 11; have _hz := B3; refine (HC4.out _).mono ?_; rintro e w4 ⟨rfl, b4⟩; have B4 := Lib.hid (B3.out.trans (b4.mono B3.out.size)); clear b4)
      | (go_at_call 11; have _hz := B2; refine (HC3.out _).mono ?_; rintro e w3 ⟨rfl, b3⟩; have B3 := Lib.hid (B2.out.trans (b3.mono B2.out.size)); clear b3)
      | (go_at_call 11; have _hz := B1; refine (HC2.out _).mono ?_; rintro e w2 ⟨rfl, b2⟩; have B2 := Lib.hid (B1.out.trans (b2.mono B1.out.size)); clear b2)
      | (go_at_call 17; refine (HC1.out _ HT.out).mono ?_; rintro e w1 ⟨rfl, b1⟩; have B1 := Lib.hid b1; clear b1))
    go_ret
    exact ⟨ret_bool (by simp), B8.out⟩
  | false =>
    have hz : numVal s.data.toList 9999999 = 0 := by unfold numVal; rw [if_neg (by rw [hok]; decide)]
    have C6 := numberAt s 9999999 _ false hok hz
    have HC6 := Lib.hid C6
    clear hz hok C6
    go_enter Tryd.func6, Tryd.ntmps6
    go_wp2_with (first
      | (go_at_call 13; refine (lexWakes _ (HT.out.below B6.out (Nat.le_refl _))).mono ?_; rintro e w7 ⟨rfl, b7⟩; have B7 := Lib.hid (B6.out.trans (b7.mono B6.out.size)); clear b7)
      | (go_at_call 11; have _hz := B5; refine (HC6.out _).mono ?_; rintro e w6 ⟨rfl, b6⟩; have B6 := Lib.hid (B5.out.trans (b6.mono B5.out.size)); clear b6)
      | (go_at_call 11; have _hz := B4; refine (HC5.out _).mono ?_; rintro e w5 ⟨rfl, b5⟩; have B5 := Lib.hid (B4.out.trans (b5.mono B4.out.size)); clear b5)
      | (go_at_call 11; have _hz := B3; refine (HC4.out _).mono ?_; rintro e w4 ⟨rfl, b4⟩; have B4 := Lib.hid (B3.out.trans (b4.mono B3.out.size)); clear b4)
      | (go_at_call 11; have _hz := B2; refine (HC3.out _).mono ?_; rintro e w3 ⟨rfl, b3⟩; have B3 := Lib.hid (B2.out.trans (b3.mono B2.out.size)); clear b3)
      | (go_at_call 11; have _hz := B1; refine (HC2.out _).mono ?_; rintro e w2 ⟨rfl, b2⟩; have B2 := Lib.hid (B1.out.trans (b2.mono B1.out.size)); clear b2)
      | (go_at_call 17; refine (HC1.out _ HT.out).mono ?_; rintro e w1 ⟨rfl, b1⟩; have B1 := Lib.hid b1; clear b1))
    go_ret
    exact ⟨ret_bool (by simp), B7.out⟩
theorem one (n : Int) (s : ByteArray) (w : World) (hT : TabL w) :
    Calls Tryd.prog 6 #[.int .i64 n, .string s] w fun r w' => r = .returned (.bool true) ∧ Below w.heap.size w w' :=
  one_core n s w hT _ (max 0 n % 10000000).toNat (by omega) (by omega) rfl
end Go.Proofs.YtkcjaefhmanmeaaDoor
