/-
  What the program's Lines, Words, Number and Digits answer. Conditions: texts of less than 2^31 bytes where they are split.
-/
import Derived.Test.YtgedcalplfnjmaaGreatDoorLexA
import Derived.Lib.SmallJoins
namespace Go.Proofs.YtgedcalplfnjmaaGreatDoor
open Go.RowKit Go.Proofs.YtgedcalplfnjmaaGreatDoor.LexM

theorem toList_data (s : ByteArray) : s.toList = s.data.toList := Lib.toList_data s
theorem suffix_iff (l : List UInt8) (c : UInt8) : Lib.hasSuffix l [c] = true ↔ ∃ t, l = t ++ [c] := by
  unfold Lib.hasSuffix
  rw [List.isSuffixOf_iff_suffix]
  exact ⟨fun ⟨t, h⟩ => ⟨t, h.symm⟩, fun ⟨t, h⟩ => ⟨t, h.symm⟩⟩
theorem trim_hit (t : List UInt8) (c : UInt8) : Lib.trimSuffix (t ++ [c]) [c] = t := by
  unfold Lib.trimSuffix
  rw [if_pos ((suffix_iff _ _).2 ⟨t, rfl⟩)]
  simp

/-- strings.CutSuffix at a text that ends with a byte; at one that doesn't. -/
theorem cutHit (t : List UInt8) (c : UInt8) (s : ByteArray) (w : World) (hs : s.data.toList = t ++ [c]) (hl : s.size ≤ 9223372036854775807) :
    Calls Tryz.prog 14 #[.string s, .string ⟨#[c]⟩] w fun e w' => e = .returned (.tuple #[.string (bs t), .bool true]) ∧ w = w' := by
  refine (Go.Proofs.Tryz.strings_CutSuffix s ⟨#[c]⟩ w hl).mono ?_
  rintro e w' ⟨rfl, rfl⟩
  have e1 : (⟨#[c]⟩ : ByteArray).data.toList = [c] := rfl
  rw [hs, e1, trim_hit, (suffix_iff _ _).2 ⟨t, rfl⟩]
  exact ⟨rfl, rfl⟩
theorem cutMiss (c : UInt8) (s : ByteArray) (w : World) (hs : Lib.hasSuffix s.data.toList [c] = false) (hl : s.size ≤ 9223372036854775807) :
    Calls Tryz.prog 14 #[.string s, .string ⟨#[c]⟩] w fun e w' => e = .returned (.tuple #[.string s, .bool false]) ∧ w = w' := by
  refine (Go.Proofs.Tryz.strings_CutSuffix s ⟨#[c]⟩ w hl).mono ?_
  rintro e w' ⟨rfl, rfl⟩
  have e1 : (⟨#[c]⟩ : ByteArray).data.toList = [c] := rfl
  rw [e1, hs]
  refine ⟨?_, rfl⟩
  have e2 : Lib.trimSuffix s.data.toList [c] = s.data.toList := by unfold Lib.trimSuffix; rw [hs]; rfl
  rw [e2]

/-- What Lines leaves. -/
def LinesP (l : List UInt8) (w : World) (e : Ending) (w' : World) : Prop := ∃ v, e = .returned (.tuple #[v, .int .i64 (lnE l)]) ∧ StrsAt w' v (lnL l) ∧ Below w.heap.size w w'
set_option maxHeartbeats 1000000 in
theorem lines (s : ByteArray) (w : World) (hT : TabL w) : Calls Tryz.prog 7 #[.string s] w (LinesP s.data.toList w) := by
  have hz := size_list s
  have HT := Lib.hid hT
  clear hT
  by_cases h1 : 1048576 < s.size
  · have e1 := lnE_long (l := s.data.toList) (by omega)
    have E := Lib.hid e1
    clear e1 hz
    go_enter Tryz.func7, Tryz.ntmps7
    go_wp2
    go_ret2
    exact ⟨_, by rw [E.out]; rfl, by rw [lnL_none (by rw [E.out]; decide)]; exact StrsAt.nil _, Below.refl _ _⟩
  · by_cases h2 : s.data.toList = []
    · have hb : (s.toList == []) = true := by rw [toList_data, h2]; rfl
      have E := Lib.hid h2
      clear h2 hz
      go_enter Tryz.func7, Tryz.ntmps7
      go_wp2
      go_ret2
      unfold LinesP
      rw [E.out]
      exact ⟨_, rfl, StrsAt.nil _, Below.refl _ _⟩
    · have hb : (s.toList == []) = false := by rw [toList_data]; simpa using h2
      cases hsuf : Lib.hasSuffix s.data.toList [10] with
      | false =>
        have hn : (ps 10 s.data.toList).2 ≠ [] := by
          rw [Ne, ps_last]
          rintro (h | h)
          · exact h2 h
          · rw [← suffix_iff, hsuf] at h; cases h
        have E := Lib.hid (lnE_open (by omega) hn)
        have S := Lib.hid hsuf
        clear hsuf h2 hn hz
        go_enter Tryz.func7, Tryz.ntmps7
        go_wp2_with (go_at_call 14; refine (cutMiss 10 s _ S.out (by omega)).mono ?_; rintro e w1 ⟨rfl, rfl⟩)
        go_ret2
        exact ⟨_, by rw [E.out.1]; rfl, by rw [E.out.2]; exact StrsAt.nil _, Below.refl _ _⟩
      | true =>
        obtain ⟨t, ht⟩ := (suffix_iff _ _).1 hsuf
        have hE := lnE_sep (t := t) (by rw [← ht]; omega)
        rw [← ht] at hE
        have E := Lib.hid hE
        have S := Lib.hid ht
        have hts : (bs t).size < 4294967281 := by
          rw [bs_size]
          have := congrArg List.length ht
          rw [List.length_append] at this
          omega
        clear hsuf h2 hE ht hz
        go_enter Tryz.func7, Tryz.ntmps7
        go_wp2_with (first
          | (go_at_call 14; refine (cutHit t 10 s _ S.out (by omega)).mono ?_; rintro e w1 ⟨rfl, rfl⟩)
          | (go_at_call 15; refine (splitW 10 _ _ HT.out hts).mono ?_; rintro e w1 ⟨v, rfl, hv, b1⟩; have V := Lib.hid hv; have B1 := Lib.hid b1; clear hv b1))
        go_ret2
        exact ⟨_, by rw [E.out.1]; rfl, by rw [E.out.2]; exact V.out, B1.out⟩

theorem bs_inj {a b : List UInt8} (h : bs a = bs b) : a = b := by
  have := congrArg (fun s : ByteArray => s.data.toList) h
  exact this
theorem containsW (L : List (List UInt8)) (x : List UInt8) (v : Value) (w : World) (hv : StrsAt w v L) (hl : L.length ≤ 9223372036854775807) :
    Calls Tryz.prog 45 #[v, .string (bs x)] w fun e w' => e = .returned (.bool (decide (x ∈ L))) ∧ Below w.heap.size w w' := by
  obtain ⟨A, cap, rfl, hc, hA⟩ := hv
  by_cases h0 : 0 < L.length
  · obtain ⟨b, o, rfl, hb, hcell⟩ := hA h0
    refine (Go.Proofs.Tryz.slices_Contains_string b o L.length cap (L.map bs) (bs x) w (by simp) hl (fun j hj => ?_)).mono ?_
    · rw [List.length_map] at hj
      rw [hcell j hj, getD_bs L j hj]
    · rintro e w' ⟨rfl, rfl⟩
      refine ⟨ret_bool ?_, Below.refl _ _⟩
      rw [List.take_of_length_le (by simp), Bool.eq_iff_iff, Lib.containsS_iff, decide_eq_true_eq, List.mem_map]
      exact ⟨fun ⟨a, ha, e⟩ => by rw [← bs_inj e]; exact ha, fun h => ⟨x, h, rfl⟩⟩
  · obtain rfl : L = [] := List.eq_nil_of_length_eq_zero (by omega)
    refine (Go.Proofs.Tryz.slices_Contains_string_empty A cap (bs x) w).mono ?_
    rintro e w' ⟨rfl, rfl⟩
    exact ⟨rfl, Below.refl _ _⟩
/-- What Words leaves. -/
def WordsP (l : List UInt8) (w : World) (e : Ending) (w' : World) : Prop := ∃ v, e = .returned (.tuple #[v, .bool (wdOk l)]) ∧ StrsAt w' v (wdL l) ∧ Below w.heap.size w w'
set_option maxHeartbeats 1000000 in
theorem words (s : ByteArray) (w : World) (hT : TabL w) (hs : s.size < 4294967281) : Calls Tryz.prog 32 #[.string s] w (WordsP s.data.toList w) := by
  have HT := Lib.hid hT
  have hz := size_list s
  have hn : (cut 32 s).length ≤ 9223372036854775807 := by
    unfold cut; rw [pieces_length]
    have := List.count_le_length (a := (32 : UInt8)) (l := s.data.toList)
    omega
  have e1 : wdOk s.data.toList = !decide ([] ∈ cut 32 s) := wdOk_mem _
  clear hT hz
  cases hm : decide ([] ∈ cut 32 s) with
  | true =>
    have E := Lib.hid e1
    have M := Lib.hid hm
    clear e1 hm
    go_enter Tryz.func32, Tryz.ntmps32
    go_wp2_with (first
      | (go_at_call 45; refine (containsW _ [] v _ V.out hn).mono ?_; rintro e w2 ⟨rfl, b2⟩; rw [M.out]; have B2 := Lib.hid b2; clear b2)
      | (go_at_call 15; refine (splitW 32 _ _ HT.out hs).mono ?_; rintro e w1 ⟨v, rfl, hv, b1⟩; have V := Lib.hid hv; have B1 := Lib.hid b1; clear hv b1))
    go_ret2
    have e2 : wdOk s.data.toList = false := by rw [E.out, M.out]; rfl
    exact ⟨_, by rw [e2]; rfl, by unfold wdL; rw [e2]; exact StrsAt.nil _, B1.out.trans (B2.out.mono B1.out.size)⟩
  | false =>
    have E := Lib.hid e1
    have M := Lib.hid hm
    clear e1 hm
    go_enter Tryz.func32, Tryz.ntmps32
    go_wp2_with (first
      | (go_at_call 45; refine (containsW _ [] v _ V.out hn).mono ?_; rintro e w2 ⟨rfl, b2⟩; rw [M.out]; have B2 := Lib.hid b2; clear b2)
      | (go_at_call 15; refine (splitW 32 _ _ HT.out hs).mono ?_; rintro e w1 ⟨v, rfl, hv, b1⟩; have V := Lib.hid hv; have B1 := Lib.hid b1; clear hv b1))
    go_ret2
    have e2 : wdOk s.data.toList = true := by rw [E.out, M.out]; rfl
    exact ⟨_, by rw [e2]; rfl, by unfold wdL; rw [e2]; exact V.out.below B2.out (Nat.le_refl _), B1.out.trans (B2.out.mono B1.out.size)⟩

theorem offAt (w : World) : PredGrows Tryz.prog 83 #[] offDigit w := by
  intro W x hx _
  show Calls Tryz.prog 83 #[.int .i32 (x : Int)] W _
  go_enter Tryz.func83, Tryz.ntmps83
  go_wp2
  all_goals
    go_ret
    refine ⟨ret_bool ?_, Below.refl _ _⟩
    rw [Bool.eq_iff_iff]
    simp [offDigit]
    try omega
theorem digitsOnly (s : ByteArray) (w : World) (q : Bool) (hq : s.data.toList.all isDigit = q) :
    Calls Tryz.prog 82 #[.string s, .func (.func 83) #[] #[]] w fun e w' => e = .returned (.bool (!q)) ∧ Below w.heap.size w w' := by
  subst hq
  refine (Go.Proofs.Tryz.strings_ContainsFunc_grows 83 #[] (enters_of Tryz.func83 (by kernel_rfl) rfl) offDigit s w (offAt w)).mono ?_
  rintro e w' ⟨rfl, hb⟩
  rw [idx_digits]
  exact ⟨rfl, hb⟩

set_option maxHeartbeats 1000000 in
theorem isNumber (s : ByteArray) (w : World) : Calls Tryz.prog 71 #[.string s] w fun e w' => e = .returned (.bool (isNum s.data.toList)) ∧ Below w.heap.size w w' := by
  have hz := size_list s
  by_cases h0 : s.data.toList = []
  · have hb : (s.toList == []) = true := by rw [toList_data, h0]; rfl
    have E := Lib.hid h0
    clear h0 hz
    go_enter Tryz.func71, Tryz.ntmps71
    go_wp2
    go_ret
    rw [E.out]
    exact ⟨rfl, Below.refl _ _⟩
  · have hb : (s.toList == []) = false := by rw [toList_data]; simpa using h0
    have hpos : 0 < s.size := by rw [hz]; exact List.length_pos_iff.2 h0
    by_cases h7 : 7 < s.size
    · have e : isNum s.data.toList = false := by
        unfold isNum
        have : decide (s.data.toList.length ≤ 7) = false := by simp; omega
        rw [this, Bool.and_false]
      have E := Lib.hid e
      clear h0 hz e
      go_enter Tryz.func71, Tryz.ntmps71
      go_wp2
      go_ret
      rw [E.out]
      exact ⟨rfl, Below.refl _ _⟩
    · have hne : s.data.toList.isEmpty = false := by
        cases h : s.data.toList with
        | nil => exact absurd h h0
        | cons a t => rfl
      have hhead : s.data.toList.head? = some (s[0]'hpos) := by
        have hp2 : 0 < s.data.toList.length := by rw [← hz]; exact hpos
        rw [List.head?_eq_getElem?, List.getElem?_eq_getElem hp2]; rfl
      have e7 : decide (s.data.toList.length ≤ 7) = true := by simp; omega
      have hN : isNum s.data.toList = (s.data.toList.all isDigit && !(decide (1 < s.data.toList.length) && (s.data.toList.head? == some 48))) := by
        unfold isNum canon
        rw [hne, e7]; simp
      rw [hhead] at hN
      obtain ⟨b0, hb0⟩ : ∃ b, s[0]'hpos = b := ⟨_, rfl⟩
      rw [hb0] at hN
      by_cases h48 : b0 = 48 ∧ 1 < s.size
      · obtain ⟨rfl, h1⟩ := h48
        have e : isNum s.data.toList = false := by
          rw [hN, decide_eq_true (by omega : 1 < s.data.toList.length)]; simp
        have E := Lib.hid e
        have hq : (((48 : UInt8).toNat : Int) == 48) = true := rfl
        clear h0 hz e hN hhead e7 hne
        go_enter Tryz.func71, Tryz.ntmps71
        go_wp2
        go_ret
        rw [E.out]
        exact ⟨rfl, Below.refl _ _⟩
      · have e : isNum s.data.toList = s.data.toList.all isDigit := by
          rw [hN]
          have : (decide (1 < s.data.toList.length) && (some b0 == some 48)) = false := by
            rw [Bool.eq_false_iff]
            intro h
            simp only [Bool.and_eq_true, decide_eq_true_eq] at h
            exact h48 ⟨by simpa using h.2, by omega⟩
          rw [this]; simp
        obtain ⟨q, hqq⟩ : ∃ q, s.data.toList.all isDigit = q := ⟨_, rfl⟩
        have D := fun w => digitsOnly s w q hqq
        rw [hqq] at e
        have E := Lib.hid e
        clear hqq
        by_cases h1 : 1 < s.size
        · have hq : ((b0.toNat : Int) == 48) = false := by
            rw [beq_eq_false_iff_ne]
            intro h
            exact h48 ⟨UInt8.toNat_inj.1 (by rw [show (48 : UInt8).toNat = 48 from rfl]; omega), h1⟩
          clear h0 hz e hN hhead e7 hne h48
          go_enter Tryz.func71, Tryz.ntmps71
          go_wp2_with (go_at_call 82; refine (D _).mono ?_; rintro e w1 ⟨rfl, b1⟩; have B1 := Lib.hid b1; clear b1)
          go_ret
          exact ⟨ret_bool E.out.symm, B1.out⟩
        · have hs1 : s.size = 1 := by omega
          clear h0 hz e hN hhead e7 hne h48
          cases hq : ((b0.toNat : Int) == 48)
          all_goals
            go_enter Tryz.func71, Tryz.ntmps71
            go_wp2_with (go_at_call 82; refine (D _).mono ?_; rintro e w1 ⟨rfl, b1⟩; have B1 := Lib.hid b1; clear b1)
            go_ret
            exact ⟨ret_bool E.out.symm, B1.out⟩

theorem atoiW (s : ByteArray) (w : World) (h : isNum s.data.toList = true) :
    Calls Tryz.prog 72 #[.string s] w fun e w' => e = .returned (.tuple #[.int .i64 (val s.data.toList : Int), .nilIface]) ∧ Below w.heap.size w w' := by
  have hc : canon s.data.toList = true ∧ s.data.toList.length ≤ 7 := by
    unfold isNum at h
    simpa using h
  refine (Go.Proofs.Tryz.strconv_Atoi s _ (by rw [size_list]; omega) (atoi_val hc.1) w).mono ?_
  rintro e w' ⟨rfl, t, rfl⟩
  exact ⟨rfl, Go.Joins.below_bytesWorld _ _ _ _ (Nat.le_refl _)⟩

set_option maxHeartbeats 1000000 in
theorem number (s : ByteArray) (most : Int) (w : World) :
    Calls Tryz.prog 57 #[.string s, .int .i64 most] w fun e w' => e = .returned (.tuple #[.int .i64 (numVal s.data.toList most), .bool (numOk s.data.toList most)]) ∧ Below w.heap.size w w' := by
  cases hN : isNum s.data.toList with
  | false =>
    have e : numOk s.data.toList most = false := by unfold numOk; rw [hN]; rfl
    have e2 : numVal s.data.toList most = 0 := by unfold numVal; rw [e]; rfl
    rw [e, e2]
    have N := Lib.hid hN
    clear e e2 hN
    go_enter Tryz.func57, Tryz.ntmps57
    go_wp2_with (go_at_call 71; refine (isNumber s _).mono ?_; rintro e w1 ⟨rfl, b1⟩; rw [N.out]; have B1 := Lib.hid b1; clear b1)
    go_ret2
    exact ⟨rfl, B1.out⟩
  | true =>
    by_cases hm : (val s.data.toList : Int) ≤ most
    · have e : numOk s.data.toList most = true := by unfold numOk; rw [hN, decide_eq_true hm]; rfl
      have e2 : numVal s.data.toList most = val s.data.toList := by unfold numVal; rw [e]; rfl
      rw [e, e2]
      have N := Lib.hid hN
      clear e e2 hN
      have C := fun w => atoiW s w N.out
      generalize val s.data.toList = x at *
      go_enter Tryz.func57, Tryz.ntmps57
      go_wp2_with (first
        | (go_at_call 71; refine (isNumber s _).mono ?_; rintro e w1 ⟨rfl, b1⟩; rw [N.out]; have B1 := Lib.hid b1; clear b1)
        | (go_at_call 72; refine (C _).mono ?_; rintro e w2 ⟨rfl, b2⟩; have B2 := Lib.hid b2; clear b2))
      go_ret2
      exact ⟨rfl, B1.out.trans (B2.out.mono B1.out.size)⟩
    · have e : numOk s.data.toList most = false := by unfold numOk; rw [decide_eq_false hm, Bool.and_false]
      have e2 : numVal s.data.toList most = 0 := by unfold numVal; rw [e]; rfl
      rw [e, e2]
      have N := Lib.hid hN
      clear e e2 hN
      have C := fun w => atoiW s w N.out
      generalize val s.data.toList = x at *
      go_enter Tryz.func57, Tryz.ntmps57
      go_wp2_with (first
        | (go_at_call 71; refine (isNumber s _).mono ?_; rintro e w1 ⟨rfl, b1⟩; rw [N.out]; have B1 := Lib.hid b1; clear b1)
        | (go_at_call 72; refine (C _).mono ?_; rintro e w2 ⟨rfl, b2⟩; have B2 := Lib.hid b2; clear b2))
      go_ret2
      exact ⟨rfl, B1.out.trans (B2.out.mono B1.out.size)⟩

theorem digits (n : Int) (w : World) (hT : TabL w) (h0 : -9223372036854775808 ≤ n) (h1 : n ≤ 9223372036854775807) :
    Calls Tryz.prog 25 #[.int .i64 n] w fun e w' => e = .returned (.string (bs (Lib.itoa n))) ∧ Below w.heap.size w w' := by
  have C := itoaW n h0 h1 w hT
  clear hT
  go_enter Tryz.func25, Tryz.ntmps25
  go_wp2_with (go_at_call 38; refine C.mono ?_; rintro e w1 ⟨rfl, b1⟩; have B1 := Lib.hid b1; clear b1)
  go_ret
  exact ⟨rfl, B1.out⟩
end Go.Proofs.YtgedcalplfnjmaaGreatDoor
