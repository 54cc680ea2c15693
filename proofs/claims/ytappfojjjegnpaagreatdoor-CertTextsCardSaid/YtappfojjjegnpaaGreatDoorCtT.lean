/-
  What the reference's Number answers. Conditions: texts of at most 600 bytes.
-/
import Derived.Test.YtappfojjjegnpaaGreatDoorCtS
import Derived.Test.YtappfojjjegnpaaGreatDoorCtK
namespace Go.Proofs.YtappfojjjegnpaaGreatDoor
open Go.RowKit Go.Proofs.YtappfojjjegnpaaGreatDoor.LexM

/-- What the reference's Number leaves. -/
def NumR (l : List UInt8) (w : World) (e : Ending) (w' : World) : Prop := ∃ v : Int, e = .returned (.tuple #[.int .i64 v, .bool (isInt l)]) ∧ (isInt l = true → v = intVal l) ∧ In63 v ∧ Below w.heap.size w w'
def RmRel (l : List UInt8) (off : Nat) (w wr : World) (vv iv : Value) : Prop := ∃ (i j : Nat) (v : Int), iv = .int .i64 i ∧ vv = .int .i64 v ∧ i = off + j ∧ j ≤ (digs l).length ∧ ((digs l).take j).all isDigit = true ∧ v = sgn l * val ((digs l).take j) ∧ In63 v ∧ Below w.heap.size w wr
theorem digs_drop (l : List UInt8) : digs l = l.drop (if neg l = true then 1 else 0) := by
  unfold digs; split
  · rw [List.drop_one]
  · rw [List.drop_zero]
theorem in63_0 : In63 0 := by unfold In63; omega
theorem num_ret {l : List UInt8} {w w' : World} (h : isInt l = false) (hb : Below w.heap.size w w') : NumR l w (.returned (.tuple #[.int .i64 0, .bool false])) w' :=
  ⟨0, by rw [h], (by rw [h]; intro hc; cases hc), in63_0, hb⟩

set_option maxHeartbeats 8000000 in
set_option maxRecDepth 100000 in
theorem refNumberC_pos (s : ByteArray) (w : World) (hp : 0 < s.size) (h20 : s.size ≤ 20) (b0 : UInt8) (hb0 : s[0]'hp = b0) (hn : b0 ≠ 45) :
    Calls Tryz.prog 16 #[.string s] w (NumR s.data.toList w) := by
  have hz := size_list s
  have hneg : neg s.data.toList = false := by
    unfold neg
    rw [head_at s hp, hb0]
    simpa using hn
  have hd : digs s.data.toList = s.data.toList := by unfold digs; rw [hneg]; rfl
  have hs : sgn s.data.toList = 1 := by unfold sgn; rw [hneg]; rfl
  have D := Lib.hid hd
  have SG := Lib.hid hs
  have HZ := Lib.hid hz
  have hq0 : ((b0.toNat : Int) == 45) = false := by rw [byte_test b0 45 45 rfl]; simpa using hn
  have hq9 : ((0 : Int) == (s.size : Int)) = false := by rw [beq_eq_false_iff_ne]; omega
  clear hneg hd hs hz hn
  go_enter Tryz.func16, Tryz.ntmps16
  go_wp2
  go_loopw [4, 5] (fun vv iv wr => RmRel s.data.toList 0 w wr vv iv) (fun _ iv _ => s.size - (intOf iv).toNat)
  case atStart => exact ⟨0, 0, 0, rfl, rfl, rfl, Nat.zero_le _, by simp, by rw [SG.out]; simp [val], in63_0, Below.refl _ _⟩
  case round =>
    obtain ⟨i, j, v, rfl, rfl, hij, hj, hdg, hv, hI, hB⟩ := hrel
    obtain rfl : i = j := by omega
    have hjs : i ≤ s.size := by rw [HZ.out]; rw [D.out] at hj; exact hj
    have DG := Lib.hid hdg
    have V := Lib.hid hv
    have B := Lib.hid hB
    rw [SG.out] at hv
    have hv0 : 0 ≤ v := by omega
    obtain ⟨hI0, hI1⟩ := hI
    clear hdg hv hB hj hij
    by_cases hlt : i < s.size
    · have hb := byte_at s i hlt
      obtain ⟨b, hbe⟩ : ∃ b, s[i]'hlt = b := ⟨_, rfl⟩
      rw [hbe] at hb
      have T := Lib.hid (take_snoc _ _ _ hb)
      have HB := Lib.hid hb
      have hb8 := b.toNat_lt
      have hm : b ∈ digs s.data.toList := by rw [D.out]; exact List.mem_of_getElem? hb
      have HM := Lib.hid hm
      clear hb hm
      by_cases hg : 48 ≤ b.toNat ∧ b.toNat ≤ 57
      · obtain ⟨g1, g2⟩ := hg
        have hdig : isDigit b = true := by simp [isDigit, g1, g2]
        have DB := Lib.hid hdig
        obtain ⟨x, hx⟩ : ∃ x : Nat, b.toNat = x := ⟨_, rfl⟩
        have HX := Lib.hid hx
        have hx1 : (b.toNat : Int) = x := by rw [hx]
        rw [hx] at g1 g2
        have step : Hid (sgn s.data.toList * val ((digs s.data.toList).take (i + 1)) = 10 * v + ((x : Int) - 48)) := Lib.hid (by
          rw [D.out, T.out, sgn_snoc _ _ _ hdig, SG.out, hx1]
          have := V.out
          rw [D.out, SG.out] at this
          omega)
        have dall : Hid (((digs s.data.toList).take (i + 1)).all isDigit = true) := Lib.hid (by
          have h := DG.out
          rw [D.out] at h ⊢
          rw [T.out, List.all_append, h]; simp [hdig])
        have split_ : Hid (digs s.data.toList = (digs s.data.toList).take (i + 1) ++ (digs s.data.toList).drop (i + 1)) := Lib.hid (List.take_append_drop _ _).symm
        clear hdig hx hb8
        by_cases hbig : In63 (10 * v + ((x : Int) - 48))
        · obtain ⟨i0, i1⟩ := hbig
          rcases (by omega : v < 922337203685477580 ∨ (v = 922337203685477580 ∧ x ≤ 55)) with h1 | ⟨rfl, h1⟩
          · have hq1 : (v == 922337203685477580) = false := by rw [beq_eq_false_iff_ne]; omega
            go_wp2
            go_roundw
            case rel => exact ⟨i + 1, i + 1, 10 * v + ((x : Int) - 48), by go_num, by go_num, by omega, by rw [D.out, ← HZ.out]; omega, dall.out, step.out.symm, ⟨i0, i1⟩, B.out⟩
            case measure => (simp [intOf] <;> omega)
          · have hx7 : ¬ (7 : Int) < (x : Int) - 48 := by omega
            go_wp2
            go_roundw
            case rel => exact ⟨i + 1, i + 1, 10 * 922337203685477580 + ((x : Int) - 48), by go_num, by go_num, by omega, by rw [D.out, ← HZ.out]; omega, dall.out, step.out.symm, ⟨i0, i1⟩, B.out⟩
            case measure => (simp [intOf] <;> omega)
        · have hno := not_int_great split_.out (by rw [step.out]; exact hbig)
          have NO := Lib.hid hno
          have hbig2 : 922337203685477580 < v ∨ (v = 922337203685477580 ∧ 55 < x) := by unfold In63 at hbig; omega
          clear hno hbig
          rcases hbig2 with h1 | ⟨rfl, h1⟩
          · go_wp2
            go_ret2
            exact num_ret NO.out B.out
          · have hx7 : (7 : Int) < (x : Int) - 48 := by omega
            go_wp2
            go_ret2
            exact num_ret NO.out B.out
      · have hno := not_int_digit HM.out (by simp [isDigit]; omega)
        have NO := Lib.hid hno
        clear hno
        rcases (by omega : b.toNat < 48 ∨ (48 ≤ b.toNat ∧ 57 < b.toNat)) with g | ⟨g1, g2⟩
        all_goals
          go_wp2
          go_ret2
          exact num_ret NO.out B.out
    · obtain hk2 : i = s.size := by omega
      have hv := V.out
      rw [List.take_of_length_le (by rw [D.out, ← HZ.out, hk2]; exact Nat.le_refl _)] at hv
      have E := Lib.hid (int_end hv ⟨hI0, hI1⟩)
      have C := Lib.hid (refDigits v)
      have hbs : Hid (∀ d : ByteArray, bs (Lib.itoa v) = d → (d.toList == s.toList) = isInt s.data.toList) := Lib.hid (fun d hd => by
        rw [E.out.1, toList_data, toList_data, ← hd, bs_data, Bool.eq_iff_iff, beq_iff_eq, decide_eq_true_eq])
      obtain ⟨d, hd⟩ : ∃ d, bs (Lib.itoa v) = d := ⟨_, rfl⟩
      have HD := Lib.hid (hbs.out d hd)
      have C2 : Hid (∀ w, Calls Tryz.prog 18 #[.int .i64 v] w fun e w' => e = .returned (.string d) ∧ Below w.heap.size w w') := Lib.hid (fun w => by rw [← hd]; exact C.out w hI0 hI1)
      subst hk2
      clear hv hd hbs C
      go_wp2_with (go_at_call 18; refine (C2.out _).mono ?_; rintro e w1 ⟨rfl, b1⟩; have B1 := Lib.hid (B.out.trans (b1.mono B.out.size)); clear b1)
      go_ret2
      exact ⟨v, by rw [← HD.out]; rfl, fun h => (E.out.2 h).symm, ⟨hI0, hI1⟩, B1.out⟩
set_option maxHeartbeats 8000000 in
set_option maxRecDepth 100000 in
theorem refNumberC_neg (s : ByteArray) (w : World) (hp : 0 < s.size) (h20 : s.size ≤ 20) (hp1 : 1 < s.size) (hb0 : s[0]'hp = 45) :
    Calls Tryz.prog 16 #[.string s] w (NumR s.data.toList w) := by
  have hz := size_list s
  have hneg : neg s.data.toList = true := by
    unfold neg
    rw [head_at s hp, hb0]; rfl
  have hd : digs s.data.toList = s.data.toList.drop 1 := by unfold digs; rw [if_pos hneg, List.drop_one]
  have hs : sgn s.data.toList = -1 := by unfold sgn; rw [if_pos hneg]
  have D := Lib.hid hd
  have SG := Lib.hid hs
  have HZ := Lib.hid hz
  have hq0 : (((45 : UInt8).toNat : Int) == 45) = true := rfl
  have hq9 : ((1 : Int) == (s.size : Int)) = false := by rw [beq_eq_false_iff_ne]; omega
  clear hneg hd hs hz
  go_enter Tryz.func16, Tryz.ntmps16
  go_wp2
  go_loopw [4, 5] (fun vv iv wr => RmRel s.data.toList 1 w wr vv iv) (fun _ iv _ => s.size - (intOf iv).toNat)
  case atStart => exact ⟨1, 0, 0, rfl, rfl, rfl, Nat.zero_le _, by simp, by rw [SG.out]; simp [val], in63_0, Below.refl _ _⟩
  case round =>
    obtain ⟨i, j, v, rfl, rfl, hij, hj, hdg, hv, hI, hB⟩ := hrel
    obtain rfl : i = j + 1 := by omega
    have hjs : j + 1 ≤ s.size := by
      have hz := HZ.out
      rw [D.out, List.length_drop] at hj
      omega
    have DG := Lib.hid hdg
    have V := Lib.hid hv
    have B := Lib.hid hB
    rw [SG.out] at hv
    have hv0 : v ≤ 0 := by omega
    obtain ⟨hI0, hI1⟩ := hI
    clear hdg hv hB hj hij
    by_cases hlt : j + 1 < s.size
    · have hb := byte_at s (j + 1) hlt
      obtain ⟨b, hbe⟩ : ∃ b, s[j + 1]'hlt = b := ⟨_, rfl⟩
      rw [hbe] at hb
      have hb2 : (digs s.data.toList)[j]? = some b := by rw [D.out, List.getElem?_drop, Nat.add_comm]; exact hb
      have T := Lib.hid (take_snoc _ _ _ hb2)
      have hb8 := b.toNat_lt
      have hm : b ∈ digs s.data.toList := List.mem_of_getElem? hb2
      have HM := Lib.hid hm
      clear hb hb2 hm
      by_cases hg : 48 ≤ b.toNat ∧ b.toNat ≤ 57
      · obtain ⟨g1, g2⟩ := hg
        have hdig : isDigit b = true := by simp [isDigit, g1, g2]
        have DB := Lib.hid hdig
        obtain ⟨x, hx⟩ : ∃ x : Nat, b.toNat = x := ⟨_, rfl⟩
        have HX := Lib.hid hx
        have hx1 : (b.toNat : Int) = x := by rw [hx]
        rw [hx] at g1 g2
        have step : Hid (sgn s.data.toList * val ((digs s.data.toList).take (j + 1)) = 10 * v + -1 * ((x : Int) - 48)) := Lib.hid (by
          rw [T.out, sgn_snoc _ _ _ hdig, SG.out, hx1]
          have := V.out
          rw [SG.out] at this
          omega)
        have dall : Hid (((digs s.data.toList).take (j + 1)).all isDigit = true) := Lib.hid (by
          rw [T.out, List.all_append, DG.out]; simp [hdig])
        have split_ : Hid (digs s.data.toList = (digs s.data.toList).take (j + 1) ++ (digs s.data.toList).drop (j + 1)) := Lib.hid (List.take_append_drop _ _).symm
        clear hdig hx hb8
        by_cases hbig : In63 (10 * v + -1 * ((x : Int) - 48))
        · obtain ⟨i0, i1⟩ := hbig
          rcases (by omega : -922337203685477580 < v ∨ (v = -922337203685477580 ∧ x ≤ 56)) with h1 | ⟨rfl, h1⟩
          · have hq1 : (v == -922337203685477580) = false := by rw [beq_eq_false_iff_ne]; omega
            go_wp2
            go_roundw
            case rel => exact ⟨j + 2, j + 1, 10 * v + -1 * ((x : Int) - 48), by go_num, by go_num, by omega, by rw [D.out, List.length_drop, ← HZ.out]; omega, dall.out, step.out.symm, ⟨i0, i1⟩, B.out⟩
            case measure => (simp [intOf] <;> omega)
          · have hx7 : ¬ (8 : Int) < (x : Int) - 48 := by omega
            go_wp2
            go_roundw
            case rel => exact ⟨j + 2, j + 1, 10 * -922337203685477580 + -1 * ((x : Int) - 48), by go_num, by go_num, by omega, by rw [D.out, List.length_drop, ← HZ.out]; omega, dall.out, step.out.symm, ⟨i0, i1⟩, B.out⟩
            case measure => (simp [intOf] <;> omega)
        · have hno := not_int_great split_.out (by rw [step.out]; exact hbig)
          have NO := Lib.hid hno
          have hbig2 : v < -922337203685477580 ∨ (v = -922337203685477580 ∧ 56 < x) := by unfold In63 at hbig; omega
          clear hno hbig
          rcases hbig2 with h1 | ⟨rfl, h1⟩
          · go_wp2
            go_ret2
            exact num_ret NO.out B.out
          · have hx7 : (8 : Int) < (x : Int) - 48 := by omega
            go_wp2
            go_ret2
            exact num_ret NO.out B.out
      · have hno := not_int_digit HM.out (by simp [isDigit]; omega)
        have NO := Lib.hid hno
        clear hno
        rcases (by omega : b.toNat < 48 ∨ (48 ≤ b.toNat ∧ 57 < b.toNat)) with g | ⟨g1, g2⟩
        all_goals
          go_wp2
          go_ret2
          exact num_ret NO.out B.out
    · obtain hk2 : j + 1 = s.size := by omega
      have hv := V.out
      rw [List.take_of_length_le (by rw [D.out, List.length_drop, ← HZ.out]; omega)] at hv
      have E := Lib.hid (int_end hv ⟨hI0, hI1⟩)
      have C := Lib.hid (refDigits v)
      have hbs : Hid (∀ d : ByteArray, bs (Lib.itoa v) = d → (d.toList == s.toList) = isInt s.data.toList) := Lib.hid (fun d hd => by
        rw [E.out.1, toList_data, toList_data, ← hd, bs_data, Bool.eq_iff_iff, beq_iff_eq, decide_eq_true_eq])
      obtain ⟨d, hd⟩ : ∃ d, bs (Lib.itoa v) = d := ⟨_, rfl⟩
      have HD := Lib.hid (hbs.out d hd)
      have C2 : Hid (∀ w, Calls Tryz.prog 18 #[.int .i64 v] w fun e w' => e = .returned (.string d) ∧ Below w.heap.size w w') := Lib.hid (fun w => by rw [← hd]; exact C.out w hI0 hI1)
      clear hv hd hbs C
      go_wp2_with (go_at_call 18; refine (C2.out _).mono ?_; rintro e w1 ⟨rfl, b1⟩; have B1 := Lib.hid (B.out.trans (b1.mono B.out.size)); clear b1)
      go_ret2
      exact ⟨v, by rw [← HD.out]; rfl, fun h => (E.out.2 h).symm, ⟨hI0, hI1⟩, B1.out⟩
set_option maxHeartbeats 4000000 in
theorem refNumberC (s : ByteArray) (w : World) : Calls Tryz.prog 16 #[.string s] w (NumR s.data.toList w) := by
  have hz := size_list s
  by_cases h0 : s.size = 0
  · have X := Lib.hid (not_int_len (Or.inl (List.eq_nil_of_length_eq_zero (by omega : s.data.toList.length = 0))))
    clear hz
    go_enter Tryz.func16, Tryz.ntmps16
    go_wp2
    go_ret2
    exact num_ret X.out (Below.refl _ _)
  · by_cases h20 : 20 < s.size
    · have X := Lib.hid (not_int_len (Or.inr (Or.inl (by omega : 20 < s.data.toList.length))))
      clear hz
      go_enter Tryz.func16, Tryz.ntmps16
      go_wp2
      go_ret2
      exact num_ret X.out (Below.refl _ _)
    · have hp : 0 < s.size := by omega
      by_cases h45 : s[0]'hp = 45
      · by_cases h1 : 1 < s.size
        · exact refNumberC_neg s w hp (by omega) h1 h45
        · have hl : s.data.toList = [45] := by
            have hb := byte_at s 0 hp
            rw [h45] at hb
            match hm : s.data.toList, hz with
            | [], _ => rw [hm] at hb; cases hb
            | [a], _ => rw [hm] at hb; simp at hb; rw [hb]
            | a :: b :: r, hz => simp at hz; omega
          have X := Lib.hid (not_int_len (Or.inr (Or.inr hl)))
          have hs1 : s.size = 1 := by omega
          have hq0 : (((45 : UInt8).toNat : Int) == 45) = true := rfl
          have hq9 : ((1 : Int) == (s.size : Int)) = true := by rw [beq_iff_eq]; omega
          clear hz hl h0 h1
          go_enter Tryz.func16, Tryz.ntmps16
          go_wp2
          go_ret2
          exact num_ret X.out (Below.refl _ _)
      · exact refNumberC_pos s w hp (by omega) _ rfl h45
end Go.Proofs.YtappfojjjegnpaaGreatDoor
