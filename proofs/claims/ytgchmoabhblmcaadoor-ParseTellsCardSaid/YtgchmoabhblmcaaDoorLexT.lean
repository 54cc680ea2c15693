/-
  The reference's Number and Digits answer what the program's do. Conditions: none.
-/
import Derived.Test.YtgchmoabhblmcaaDoorLexS
namespace Go.Proofs.YtgchmoabhblmcaaDoor
open Go.RowKit Go.Proofs.YtgchmoabhblmcaaDoor.LexM

theorem isNum_of {l : List UInt8} (h0 : 1 ≤ l.length) (h7 : l.length ≤ 7) (hb : l.length = 1 ∨ l.head? ≠ some 48) : isNum l = l.all isDigit := by
  have hne : l.isEmpty = false := by cases l with | nil => simp at h0 | cons _ _ => rfl
  unfold isNum canon
  rw [hne, decide_eq_true h7]
  rcases hb with hb | hb
  · have : decide (1 < l.length) = false := by rw [hb]; rfl
    rw [this]; simp
  · have : (l.head? == some 48) = false := by simpa using hb
    rw [this]; simp
theorem isNum_not {l : List UInt8} (h : l = [] ∨ 7 < l.length ∨ (1 < l.length ∧ l.head? = some 48)) : isNum l = false := by
  unfold isNum canon
  rcases h with rfl | h | ⟨h1, h2⟩
  · rfl
  · rw [decide_eq_false (p := l.length ≤ 7) (by omega), Bool.and_false]
  · rw [decide_eq_true h1, h2]; simp
theorem head_at (s : ByteArray) (h : 0 < s.size) : s.data.toList.head? = some (s[0]'h) := by
  rw [List.head?_eq_getElem?]; exact byte_at s 0 h
theorem num_no {l : List UInt8} (most : Int) (h : isNum l = false) : numOk l most = false ∧ numVal l most = 0 := by
  have e : numOk l most = false := by unfold numOk; rw [h]; rfl
  exact ⟨e, by unfold numVal; rw [e]; rfl⟩
theorem num_yes {l : List UInt8} {most : Int} (h : isNum l = true) (hm : (val l : Int) ≤ most) : numOk l most = true ∧ numVal l most = val l := by
  have e : numOk l most = true := by unfold numOk; rw [h, decide_eq_true hm]; rfl
  exact ⟨e, by unfold numVal; rw [e]; rfl⟩
theorem num_more {l : List UInt8} {most : Int} (hm : ¬ (val l : Int) ≤ most) : numOk l most = false ∧ numVal l most = 0 := by
  have e : numOk l most = false := by unfold numOk; rw [decide_eq_false hm, Bool.and_false]
  exact ⟨e, by unfold numVal; rw [e]; rfl⟩

def RnRel (l : List UInt8) (w wr : World) (nv iv : Value) : Prop := ∃ (k v : Nat), iv = .int .i64 k ∧ nv = .int .i64 v ∧ k ≤ l.length ∧ (l.take k).all isDigit = true ∧ v = val (l.take k) ∧ Below w.heap.size w wr
set_option maxHeartbeats 8000000 in
set_option maxRecDepth 100000 in
theorem refNumber_core (s : ByteArray) (most : Int) (w : World) (b0 : UInt8) (hp : 0 < s.size) (h7 : s.size ≤ 7) (hb0 : s[0]'hp = b0) (hs : s.size = 1 ∨ (1 < s.size ∧ ((b0.toNat : Int) == 48) = false)) (hN : isNum s.data.toList = s.data.toList.all isDigit) :
    Calls Tryd.prog 29 #[.string s, .int .i64 most] w fun e w' => e = .returned (.tuple #[.int .i64 (numVal s.data.toList most), .bool (numOk s.data.toList most)]) ∧ Below w.heap.size w w' := by
  have HZ := Lib.hid (size_list s)
  have N := Lib.hid hN
  clear hN
  rcases hs with h1 | ⟨h1, hq0⟩
  all_goals
    go_enter Tryd.func29, Tryd.ntmps29
    go_wp2
    go_loopw [6, 7] (fun nv iv wr => RnRel s.data.toList w wr nv iv) (fun _ iv _ => s.size - (intOf iv).toNat)
    case atStart => exact ⟨0, 0, rfl, rfl, Nat.zero_le _, by simp, by simp [val], Below.refl _ _⟩
    case round =>
      obtain ⟨k, v, rfl, rfl, hk, hd, hv, hB⟩ := hrel
      have hks : k ≤ s.size := by rw [HZ.out]; exact hk
      have D := Lib.hid hd
      have V := Lib.hid hv
      have B := Lib.hid hB
      have hvl : v < 10 ^ k := by
        have := val_lt _ hd
        rw [← hv, List.length_take, Nat.min_eq_left hk] at this
        exact this
      have hv7 : v < 10000000 := Nat.lt_of_lt_of_le hvl (show 10 ^ k ≤ 10 ^ 7 from Nat.pow_le_pow_right (by decide) (by omega))
      clear hd hv hB hk hvl
      by_cases hlt : k < s.size
      · have hb := byte_at s k hlt
        obtain ⟨b, hbe⟩ : ∃ b, s[k]'hlt = b := ⟨_, rfl⟩
        rw [hbe] at hb
        have T := Lib.hid (take_snoc _ _ _ hb)
        have HB := Lib.hid hb
        have hb8 := b.toNat_lt
        clear hb
        by_cases hg : 48 ≤ b.toNat ∧ b.toNat ≤ 57
        · obtain ⟨g1, g2⟩ := hg
          have hdig : isDigit b = true := by simp [isDigit, g1, g2]
          have DG := Lib.hid hdig
          obtain ⟨x, hx⟩ : ∃ x : Nat, b.toNat = x := ⟨_, rfl⟩
          have HX := Lib.hid hx
          have hx1 : (b.toNat : Int) = x := by rw [hx]
          rw [hx] at g1 g2
          clear hdig hx hb8
          go_wp2
          go_roundw
          case rel =>
            refine ⟨k + 1, 10 * v + x - 48, by go_num, ?_, by rw [← HZ.out]; omega, ?_, ?_, B.out⟩
            · go_num
            · rw [T.out, List.all_append, D.out]; simp [DG.out]
            · rw [T.out, val_snoc, HX.out, ← V.out]; omega
          case measure => (simp [intOf] <;> omega)
        · have hall : s.data.toList.all isDigit = false := by
            rw [List.all_eq_false]
            exact ⟨b, List.mem_of_getElem? HB.out, by simp [isDigit]; omega⟩
          have X := Lib.hid (num_no most (N.out.trans hall))
          clear hall
          rcases (by omega : b.toNat < 48 ∨ (48 ≤ b.toNat ∧ 57 < b.toNat)) with g | ⟨g1, g2⟩
          all_goals
            go_wp2
            go_ret2
            exact ⟨by rw [X.out.1, X.out.2]; rfl, B.out⟩
      · obtain hk2 : k = s.size := by omega
        have hd := D.out
        have hv := V.out
        rw [hk2, HZ.out, List.take_length] at hd hv
        have hn : isNum s.data.toList = true := N.out.trans hd
        by_cases hm : (v : Int) ≤ most
        · have X := Lib.hid (num_yes hn (by rw [← hv]; exact hm))
          have HV := Lib.hid hv
          clear hd hv hn
          subst hk2
          go_wp2
          go_ret2
          exact ⟨by rw [X.out.1, X.out.2, ← HV.out]; rfl, B.out⟩
        · have X := Lib.hid (num_more (by rw [← hv]; exact hm))
          clear hd hv hn
          subst hk2
          go_wp2
          go_ret2
          exact ⟨by rw [X.out.1, X.out.2]; rfl, B.out⟩
set_option maxHeartbeats 4000000 in
theorem refNumber (s : ByteArray) (most : Int) (w : World) :
    Calls Tryd.prog 29 #[.string s, .int .i64 most] w fun e w' => e = .returned (.tuple #[.int .i64 (numVal s.data.toList most), .bool (numOk s.data.toList most)]) ∧ Below w.heap.size w w' := by
  have hz := size_list s
  by_cases h0 : s.size = 0
  · have X := Lib.hid (num_no most (isNum_not (Or.inl (List.eq_nil_of_length_eq_zero (by omega : s.data.toList.length = 0)))))
    clear hz
    go_enter Tryd.func29, Tryd.ntmps29
    go_wp2
    go_ret2
    exact ⟨by rw [X.out.1, X.out.2]; rfl, Below.refl _ _⟩
  · by_cases h7 : 7 < s.size
    · have X := Lib.hid (num_no most (isNum_not (Or.inr (Or.inl (by omega : 7 < s.data.toList.length)))))
      clear hz
      go_enter Tryd.func29, Tryd.ntmps29
      go_wp2
      go_ret2
      exact ⟨by rw [X.out.1, X.out.2]; rfl, Below.refl _ _⟩
    · have hp : 0 < s.size := by omega
      have hh := head_at s hp
      obtain ⟨b0, hb0⟩ : ∃ b, s[0]'hp = b := ⟨_, rfl⟩
      rw [hb0] at hh
      by_cases h1 : s.size = 1
      · exact refNumber_core s most w b0 hp (by omega) hb0 (Or.inl h1) (isNum_of (by omega) (by omega) (Or.inl (by omega)))
      · by_cases h48 : b0 = 48
        · subst h48
          have X := Lib.hid (num_no most (isNum_not (Or.inr (Or.inr ⟨(by omega : 1 < s.data.toList.length), hh⟩))))
          have hq : (((48 : UInt8).toNat : Int) == 48) = true := rfl
          have h1' : 1 < s.size := by omega
          clear hz hh h1 h0
          go_enter Tryd.func29, Tryd.ntmps29
          go_wp2
          go_ret2
          exact ⟨by rw [X.out.1, X.out.2]; rfl, Below.refl _ _⟩
        · exact refNumber_core s most w b0 hp (by omega) hb0 (Or.inr ⟨by omega, by rw [byte_test b0 48 48 rfl]; simpa using h48⟩) (isNum_of (by omega) (by omega) (Or.inr (by rw [hh]; simpa using h48)))
end Go.Proofs.YtgchmoabhblmcaaDoor
