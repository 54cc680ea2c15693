/-
  What the reference's turns, direction and first answer. Conditions: texts of at most 1000000 bytes.
-/
import Derived.Test.YtgchmoabhblmcaaDoorParH
import Derived.Test.YtgchmoabhblmcaaDoorCompassC
namespace Go.Proofs.YtgchmoabhblmcaaDoor
open Go.RowKit Go.Proofs.YtgchmoabhblmcaaDoor.LexM Go.Proofs.YtgchmoabhblmcaaDoor.ParM

theorem turns_snoc (l : List UInt8) (b : UInt8) : isTurns (l ++ [b]) = (isTurns l && (decide (b = 76) || decide (b = 82))) := by simp [isTurns]
theorem not_turns {l : List UInt8} {b : UInt8} (hb : b ∈ l) (h1 : b ≠ 76) (h2 : b ≠ 82) : isTurns l = false := by
  rw [Bool.eq_false_iff]
  intro hc
  have := List.all_eq_true.1 hc b hb
  simp [h1, h2] at this
def RtRel (l : List UInt8) (w wr : World) (iv : Value) : Prop := ∃ k : Nat, iv = .int .i64 k ∧ k ≤ l.length ∧ isTurns (l.take k) = true ∧ wr = w
set_option maxHeartbeats 2000000 in
theorem refTurns (s : ByteArray) (w : World) (hs : s.size ≤ 2000000) : Calls Tryd.prog 31 #[.string s] w fun e w' => e = .returned (.bool (isTurns s.data.toList)) ∧ w = w' := by
  have HZ := Lib.hid (size_list s)
  go_enter Tryd.func31, Tryd.ntmps31
  go_wp2
  go_loopw [3] (fun iv wr => RtRel s.data.toList w wr iv) (fun iv _ => s.size - (intOf iv).toNat)
  case atStart => exact ⟨0, rfl, Nat.zero_le _, rfl, rfl⟩
  case round =>
    obtain ⟨k, rfl, hk, ht, rfl⟩ := hrel
    have hks : k ≤ s.size := by rw [HZ.out]; exact hk
    have T := Lib.hid ht
    clear ht hk
    by_cases hlt : k < s.size
    · have hb := byte_at s k hlt
      obtain ⟨b, hbe⟩ : ∃ b, s[k]'hlt = b := ⟨_, rfl⟩
      rw [hbe] at hb
      have TS := Lib.hid (take_snoc _ _ _ hb)
      have HB := Lib.hid (List.mem_of_getElem? hb)
      clear hb
      by_cases h1 : b = 76 ∨ b = 82
      · have N : Hid (isTurns (s.data.toList.take (k + 1)) = true) := Lib.hid (by
          rw [TS.out, turns_snoc, T.out]
          rcases h1 with rfl | rfl <;> decide)
        rcases h1 with rfl | rfl
        · have q1 : (((76 : UInt8).toNat : Int) == 76) = true := rfl
          have q2 : (((76 : UInt8).toNat : Int) != 76) = false := rfl
          go_wp2
          go_roundw
          case rel => exact ⟨k + 1, by go_num, by rw [← HZ.out]; omega, N.out, rfl⟩
          case measure => (simp [intOf] <;> omega)
        · have q1 : (((82 : UInt8).toNat : Int) == 76) = false := rfl
          have q2 : (((82 : UInt8).toNat : Int) != 76) = true := rfl
          have q3 : (((82 : UInt8).toNat : Int) == 82) = true := rfl
          have q4 : (((82 : UInt8).toNat : Int) != 82) = false := rfl
          go_wp2
          go_roundw
          case rel => exact ⟨k + 1, by go_num, by rw [← HZ.out]; omega, N.out, rfl⟩
          case measure => (simp [intOf] <;> omega)
      · have NO := Lib.hid (not_turns HB.out (fun e => h1 (Or.inl e)) (fun e => h1 (Or.inr e)))
        have q1 : ((b.toNat : Int) == 76) = false := by rw [byte_test b 76 76 rfl]; simpa using fun e => h1 (Or.inl e)
        have q2 : ((b.toNat : Int) != 76) = true := by simpa [bne] using q1
        have q3 : ((b.toNat : Int) == 82) = false := by rw [byte_test b 82 82 rfl]; simpa using fun e => h1 (Or.inr e)
        have q4 : ((b.toNat : Int) != 82) = true := by simpa [bne] using q3
        clear h1
        go_wp2
        go_ret
        exact ⟨ret_bool NO.out.symm, rfl⟩
    · obtain rfl : k = s.size := by omega
      have ht := T.out
      rw [HZ.out, List.take_length] at ht
      have T2 := Lib.hid ht
      clear ht
      go_wp2
      go_ret
      exact ⟨ret_bool T2.out.symm, rfl⟩

theorem letterS_list (d : Int) : (letterS d).data.toList = if d = 0 then [69] else if d = 1 then [78] else if d = 2 then [87] else if d = 3 then [83] else [] := by
  unfold letterS
  repeat' split
  all_goals rfl
def RdRelD (l : List UInt8) (w wr : World) (iv : Value) : Prop := ∃ k : Nat, iv = .int .i64 k ∧ k ≤ 4 ∧ (∀ j : Nat, j < k → dirOf l ≠ (j : Int)) ∧ Below w.heap.size w wr
theorem dir_is {l : List UInt8} {k : Nat} (hk : k < 4) : ((letterS (k : Int)).data.toList = l) ↔ dirOf l = (k : Int) := by
  rw [letterS_list]
  have hc : k = 0 ∨ k = 1 ∨ k = 2 ∨ k = 3 := by omega
  unfold dirOf
  rcases hc with rfl | rfl | rfl | rfl
  all_goals
    constructor
    · intro h; subst h; decide
    · intro h
      by_cases h0 : l = [69]
      · first | (rw [h0]; rfl) | (exfalso; rw [if_pos h0] at h; revert h; decide)
      · rw [if_neg h0] at h
        by_cases h1 : l = [78]
        · first | (rw [h1]; rfl) | (exfalso; rw [if_pos h1] at h; revert h; decide)
        · rw [if_neg h1] at h
          by_cases h2 : l = [87]
          · first | (rw [h2]; rfl) | (exfalso; rw [if_pos h2] at h; revert h; decide)
          · rw [if_neg h2] at h
            by_cases h3 : l = [83]
            · first | (rw [h3]; rfl) | (exfalso; rw [if_pos h3] at h; revert h; decide)
            · rw [if_neg h3] at h
              exfalso; revert h; decide
set_option maxHeartbeats 2000000 in
theorem refDirection (s : ByteArray) (w : World) : Calls Tryd.prog 30 #[.string s] w fun e w' => e = .returned (.int .i64 (dirOf s.data.toList)) ∧ Below w.heap.size w w' := by
  have R := Lib.hid (dirOf_range s.data.toList)
  go_enter Tryd.func30, Tryd.ntmps30
  go_wp2
  go_loopw [3] (fun iv wr => RdRelD s.data.toList w wr iv) (fun iv _ => 4 - (intOf iv).toNat)
  case atStart => exact ⟨0, rfl, by omega, fun j hj => absurd hj (by omega), Below.refl _ _⟩
  case round =>
    obtain ⟨k, rfl, hk, hno, hB⟩ := hrel
    have NO := Lib.hid hno
    have B := Lib.hid hB
    clear hno hB
    by_cases hlt : k < 4
    · have I := Lib.hid (dir_is (l := s.data.toList) hlt)
      have C := Lib.hid (rletter_any (k : Int))
      obtain ⟨d, hd⟩ : ∃ d, letterS (k : Int) = d := ⟨_, rfl⟩
      rw [hd] at I C
      clear hd
      by_cases he : dirOf s.data.toList = (k : Int)
      · have hq : (d.toList == s.toList) = true := by rw [toList_data, toList_data, beq_iff_eq]; exact I.out.2 he
        have E := Lib.hid he
        clear he
        go_wp2_with (go_at_call 41; refine (C.out _).mono ?_; rintro e w1 ⟨rfl, b1⟩; have B1 := Lib.hid (B.out.trans (b1.mono B.out.size)); clear b1)
        go_ret
        exact ⟨ret_int E.out.symm, B1.out⟩
      · have hq : (d.toList == s.toList) = false := by rw [toList_data, toList_data, beq_eq_false_iff_ne]; exact fun h => he (I.out.1 h)
        have E := Lib.hid he
        clear he
        go_wp2_with (go_at_call 41; refine (C.out _).mono ?_; rintro e w1 ⟨rfl, b1⟩; have B1 := Lib.hid (B.out.trans (b1.mono B.out.size)); clear b1)
        go_roundw
        case rel => exact ⟨k + 1, by go_num, by omega, fun j hj => by
          by_cases e : j = k
          · subst e; exact E.out
          · exact NO.out j (by omega), B1.out⟩
        case measure => (simp [intOf] <;> omega)
    · have hd : dirOf s.data.toList = -1 := by
        rcases R.out with h | ⟨h1, h2⟩
        · exact h
        · exfalso
          exact NO.out (dirOf s.data.toList).toNat (by omega) (by omega)
      have D := Lib.hid hd
      clear hd
      go_wp2
      go_ret
      exact ⟨ret_int D.out.symm, B.out⟩
end Go.Proofs.YtgchmoabhblmcaaDoor
