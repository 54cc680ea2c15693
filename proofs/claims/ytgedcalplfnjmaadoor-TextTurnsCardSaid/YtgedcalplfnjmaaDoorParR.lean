/-
  What the reference's turns, direction and first answer. Conditions: texts of at most 1000000 bytes.
-/
import Derived.Test.YtgedcalplfnjmaaDoorParH
import Derived.Test.YtgedcalplfnjmaaDoorCompassC
namespace Go.Proofs.YtgedcalplfnjmaaDoor
open Go.RowKit Go.Proofs.YtgedcalplfnjmaaDoor.LexM Go.Proofs.YtgedcalplfnjmaaDoor.ParM

theorem turns_snoc (l : List UInt8) (b : UInt8) : isTurns (l ++ [b]) = (isTurns l && (decide (b = 76) || decide (b = 82))) := by simp [isTurns]
theorem not_turns {l : List UInt8} {b : UInt8} (hb : b ∈ l) (h1 : b ≠ 76) (h2 : b ≠ 82) : isTurns l = false := by
  rw [Bool.eq_false_iff]
  intro hc
  have := List.all_eq_true.1 hc b hb
  simp [h1, h2] at this
def RtRel (l : List UInt8) (w wr : World) (iv : Value) : Prop := ∃ k : Nat, iv = .int .i64 k ∧ k ≤ l.length ∧ isTurns (l.take k) = true ∧ wr = w
set_option maxHeartbeats 2000000 in
theorem refTurns (s : ByteArray) (w : World) (hs : s.size ≤ 2000000) : Calls Tryd.prog 17 #[.string s] w fun e w' => e = .returned (.bool (isTurns s.data.toList)) ∧ w = w' := by
  have HZ := Lib.hid (size_list s)
  go_enter Tryd.func17, Tryd.ntmps17
  go_wp2
  go_loopw [3] (fun iv wr => RtRel s.data.toList w wr iv) (fun iv _ => s.size - (intOf iv).toNat)
  case atStart => exact ⟨0, rfl, Nat.zero_le _, rfl, rfl⟩
  case round =>
    obtain ⟨k, rfl, hk, ht, rfl⟩ := hrel
    have hks : k ≤ s.size := by rw [HZ.out]; exact hk
    have T := Lib.hid ht
    clear ht hk
    by_cases hlt : k < s.size
    · have hb := byte_at s k hlt
      obtain ⟨b, hbe⟩ : ∃ b, s[k]'hlt = b := ⟨_, rfl⟩
      rw [hbe] at hb
      have TS := Lib.hid (take_snoc _ _ _ hb)
      have HB := Lib.hid (List.mem_of_getElem? hb)
      clear hb
      by_cases h1 : b = 76 ∨ b = 82
      · have N : Hid (isTurns (s.data.toList.take (k + 1)) = true) := Lib.hid (by
          rw [TS.out, turns_snoc, T.out]
          rcases h1 with rfl | rfl <;> decide)
        rcases h1 with rfl | rfl
        · have q1 : (((76 : UInt8).toNat : Int) == 76) = true := rfl
          have q2 : (((76 : UInt8).toNat : Int) != 76) = false := rfl
          go_wp2
          go_roundw
          case rel => exact ⟨k + 1, by go_num, by rw [← HZ.out]; omega, N.out, rfl⟩
          case measure => (simp [intOf] <;> omega)
        · have q1 : (((82 : UInt8).toNat : Int) == 76) = false := rfl
          have q2 : (((82 : UInt8).toNat : Int) != 76) = true := rfl
          have q3 : (((82 : UInt8).toNat : Int) == 82) = true := rfl
          have q4 : (((82 : UInt8).toNat : Int) != 82) = false := rfl
          go_wp2
          go_roundw
          case rel => exact ⟨k + 1, by go_num, by rw [← HZ.out]; omega, N.out, rfl⟩
          case measure => (simp [intOf] <;> omega)
      · have NO := Lib.hid (not_turns HB.out (fun e => h1 (Or.inl e)) (fun e => h1 (Or.inr e)))
        have q1 : ((b.toNat : Int) == 76) = false := by rw [byte_test b 76 76 rfl]; simpa using fun e => h1 (Or.inl e)
        have q2 : ((b.toNat : Int) != 76) = true := by simpa [bne] using q1
        have q3 : ((b.toNat : Int) == 82) = false := by rw [byte_test b 82 82 rfl]; simpa using fun e => h1 (Or.inr e)
        have q4 : ((b.toNat : Int) != 82) = true := by simpa [bne] using q3
        clear h1
        go_wp2
        go_ret
        exact ⟨ret_bool NO.out.symm, rfl⟩
    · obtain rfl : k = s.size := by omega
      have ht := T.out
      rw [HZ.out, List.take_length] at ht
      have T2 := Lib.hid ht
      clear ht
      go_wp2
      go_ret
      exact ⟨ret_bool T2.out.symm, rfl⟩

theorem letterS_list (d : Int) : (letterS d).data.toList = if d = 0 then [69] else if d = 1 then [78] else if d = 2 then [87] else if d = 3 then [83] else [] := by
  unfold letterS
  repeat' split
  all_goals rfl
def RdRelD (l : List UInt8) (w wr : World) (iv : Value) : Prop := ∃ k : Nat, iv = .int .i64 k ∧ k ≤ 4 ∧ (∀ j : Nat, j < k → dirOf l ≠ (j : Int)) ∧ Below w.heap.size w wr
theorem dir_is {l : List UInt8} {k : Nat} (hk : k < 4) : ((letterS (k : Int)).data.toList = l) ↔ dirOf l = (k : Int) := by
  rw [letterS_list]
  have hc : k = 0 ∨ k = 1 ∨ k = 2 ∨ k = 3 := by omega
  unfold dirOf
  rcases hc with rfl | rfl | rfl | rfl
  all_goals
    constructor
    · intro h; subst h; decide
    · intro h
      by_cases h0 : l = [69]
      · first | (rw [h0]; rfl) | (exfalso; rw [if_pos h0] at h; revert h; decide)
      · rw [if_neg h0] at h
        by_cases h1 : l = [78]
        · first | (rw [h1]; rfl) | (exfalso; rw [if_pos h1] at h; revert h; decide)
        · rw [if_neg h1] at h
          by_cases h2 : l = [87]
          · first | (rw [h2]; rfl) | (exfalso; rw [if_pos h2] at h; revert h; decide)
          · rw [if_neg h2] at h
            by_cases h3 : l = [83]
            · first | (rw [h3]; rfl) | (exfalso; rw [if_pos h3] at h; revert h; decide)
            · rw [if_neg h3] at h
              exfalso; revert h; decide

end Go.Proofs.YtgedcalplfnjmaaDoor
