/-
  The reference's Digits are those of the library's Itoa. Conditions: none.
-/
import Derived.Test.YtgchmoabhblmcaaGreatDoorLexT
import Derived.Lib.ItoaMem
namespace Go.Proofs.YtgchmoabhblmcaaGreatDoor
open Go.RowKit Go.Proofs.YtgchmoabhblmcaaGreatDoor.LexM

/-- A text of one byte that was made of a row of one. -/
theorem oneByte (w : World) (b : UInt8) (n : Int) (hn : n = b.toNat) :
    (convert 38 9 (.slice (some ⟨w.heap.size, 0, none⟩) 1 1)).run Tryz.prog (w.alloc (.cells #[.int .u8 n] 5)) = .ok (.string ⟨#[b]⟩) (w.alloc (.cells #[.int .u8 n] 5)) := by
  subst hn
  have h := run_convert_bytes_back (P := Tryz.prog) (w.alloc (.cells #[.int .u8 (b.toNat : Int)] 5)) 38 9 5 ⟨w.heap.size, 0, none⟩ 1 [b] Tryz.underlying38 Tryz.underlying5 Tryz.underlying9 (fun j hj => by
    obtain rfl : j = 0 := by simp at hj; omega
    go_simp)
  exact h
theorem cat_one (b : UInt8) (t : List UInt8) : (⟨#[b]⟩ : ByteArray) ++ bs t = bs (b :: t) := by
  have : bs ((⟨#[b]⟩ : ByteArray) ++ bs t).data.toList = _ := bs_list _
  rw [← this]
  congr 1

/-- Where the reference's digits stand: v is still to be told. -/
def DgAt (u v : Nat) (t : List UInt8) : Prop := (if v = 0 then t else Lib.decDigits v ++ t) = Lib.decDigits u
theorem DgAt.step {u v : Nat} {t : List UInt8} (h : DgAt u v t) (hv : 0 < v) : DgAt u (v / 10) (UInt8.ofNat (48 + v % 10) :: t) := by
  unfold DgAt at h ⊢
  rw [if_neg (by omega)] at h
  by_cases h10 : v < 10
  · rw [if_pos (by omega), ← h, Lib.decDigits, dif_pos h10, Nat.mod_eq_of_lt h10]; rfl
  · rw [if_neg (by omega), ← h, Lib.decDigits.eq_1 v, dif_neg h10]; simp
theorem DgAt.start (u : Nat) : DgAt u (u / 10) [UInt8.ofNat (48 + u % 10)] := by
  unfold DgAt
  by_cases h10 : u < 10
  · rw [if_pos (by omega), Lib.decDigits, dif_pos h10, Nat.mod_eq_of_lt h10]
  · rw [if_neg (by omega), Lib.decDigits.eq_1 u, dif_neg h10]
theorem DgAt.len {u v : Nat} {t : List UInt8} (h : DgAt u v t) (hu : u < 18446744073709551616) : (bs t).size ≤ 20 := by
  have hl : (Lib.decDigits u).length ≤ 20 := by
    rw [Lib.decDigits_length]
    exact nDigits_le 19 u (by omega)
  unfold DgAt at h
  have := congrArg List.length h
  rw [bs_size]
  split at this
  · omega
  · rw [List.length_append] at this; omega
def RdRel (u : Nat) (w wr : World) (nv sv : Value) : Prop := ∃ (a : Int) (v : Nat) (t : List UInt8), nv = .int .i64 a ∧ a = v ∧ a ≤ 9223372036854775807 ∧ sv = .string (bs t) ∧ DgAt u v t ∧ Below w.heap.size w wr
theorem dig_byte (v : Nat) (n : Int) (h : n = v) : 48 + n % 10 = ((UInt8.ofNat (48 + v % 10)).toNat : Int) := by rw [dig_nat _ (by omega)]; omega

theorem quo_ten (n : Int) (h0 : 0 ≤ n) (h1 : n ≤ 9223372036854775807) : wrap64 (n.tdiv 10) = n / 10 := by
  rw [Int.tdiv_eq_ediv_of_nonneg h0]; unfold wrap64; omega
set_option maxHeartbeats 4000000 in
set_option maxRecDepth 100000 in
theorem refDigits_pos (u : Nat) (n : Int) (hnu : n = u) (w : World) (n1 : n ≤ 9223372036854775807) :
    Calls Tryz.prog 28 #[.int .i64 n] w fun e w' => e = .returned (.string (bs (Lib.decDigits u))) ∧ Below w.heap.size w w' := by
  have hq : (n == -9223372036854775808) = false := by rw [beq_eq_false_iff_ne]; omega
  have n0 : 0 ≤ n := by omega
  have HN := Lib.hid hnu
  have N1 := Lib.hid n1
  have hl : decide (n < 0) = false := by rw [decide_eq_false_iff_not]; omega
  have hw := quo_ten n n0 n1
  have cv := oneByte w (UInt8.ofNat (48 + u % 10)) (48 + n % 10) (dig_byte u n hnu)
  generalize hc : UInt8.ofNat (48 + u % 10) = c at cv
  have HC := Lib.hid hc
  clear hnu n1 hc
  go_enter Tryz.func28, Tryz.ntmps28
  go_wp2
  go_loopw [0, 4] (fun nv sv wr => RdRel u w wr nv sv) (fun nv _ _ => (intOf nv).toNat)
  case atStart =>
    have hs := DgAt.start u
    rw [HC.out] at hs
    have hn := HN.out
    have h1 := N1.out
    exact ⟨n / 10, u / 10, [c], by go_num, by omega, by omega, rfl, hs, (Below.refl _ _).alloc (Nat.le_refl _) _⟩
  case round =>
    obtain ⟨a, v, t, rfl, ha, ha1, rfl, hD, hB⟩ := hrel
    have a0 : 0 ≤ a := by omega
    have A := Lib.hid ha
    have A1 := Lib.hid ha1
    have D := Lib.hid hD
    have B := Lib.hid hB
    have hwz := hB.size
    have htl := hD.len (by have := HN.out; have := N1.out; omega)
    by_cases hv : 0 < a
    · have S := Lib.hid (hD.step (by omega))
      have cv2 := oneByte wr (UInt8.ofNat (48 + v % 10)) (48 + a % 10) (dig_byte v a ha)
      generalize hc2 : UInt8.ofNat (48 + v % 10) = d at cv2
      have HD := Lib.hid hc2
      have hw2 := quo_ten a a0 ha1
      clear ha ha1 hD hB hc2 cv
      go_wp2
      go_roundw
      case rel =>
        have hs := S.out
        rw [HD.out] at hs
        have h0 := A.out
        have h1 := A1.out
        exact ⟨a / 10, v / 10, d :: t, by go_num, by omega, by omega, by rw [← cat_one], hs, B.out.alloc hwz _⟩
      case measure => (simp [intOf] <;> omega)
    · have hv0 : v = 0 := by omega
      have h := hD
      unfold DgAt at h
      rw [if_pos hv0] at h
      have H := Lib.hid h
      clear ha ha1 hD hB h cv
      go_wp2
      go_ret
      exact ⟨ret_string (by rw [← H.out]), B.out⟩

theorem itoa_nat (u : Nat) : Lib.itoa (u : Int) = Lib.decDigits u := Lib.itoa_nonneg u
set_option maxHeartbeats 4000000 in
set_option maxRecDepth 100000 in
theorem refDigits (n : Int) (w : World) (h0 : -9223372036854775808 ≤ n) (h1 : n ≤ 9223372036854775807) :
    Calls Tryz.prog 28 #[.int .i64 n] w fun e w' => e = .returned (.string (bs (Lib.itoa n))) ∧ Below w.heap.size w w' := by
  by_cases hm : n = -9223372036854775808
  · subst hm
    have e : Lib.itoa (-9223372036854775808) = [45, 57, 50, 50, 51, 51, 55, 50, 48, 51, 54, 56, 53, 52, 55, 55, 53, 56, 48, 56] := by
      have h := canon_dec [57, 50, 50, 51, 51, 55, 50, 48, 51, 54, 56, 53, 52, 55, 55, 53, 56, 48, 56] (by decide +kernel)
      have hv : val [57, 50, 50, 51, 51, 55, 50, 48, 51, 54, 56, 53, 52, 55, 55, 53, 56, 48, 56] = 9223372036854775808 := by decide +kernel
      rw [hv] at h
      have := Lib.itoa_neg 9223372036854775808 (by decide)
      rw [h] at this
      exact this
    have E := Lib.hid e
    clear e h0 h1
    go_enter Tryz.func28, Tryz.ntmps28
    go_wp2
    go_ret
    exact ⟨ret_string (by rw [E.out]; rfl), Below.refl _ _⟩
  · by_cases hn : 0 ≤ n
    · obtain ⟨u, hu⟩ : ∃ u : Nat, n = u := ⟨n.toNat, by omega⟩
      have e : Lib.itoa n = Lib.decDigits u := by rw [hu]; exact itoa_nat u
      rw [e]
      exact refDigits_pos u n hu w h1
    · obtain ⟨u, hu⟩ : ∃ u : Nat, -n = u := ⟨(-n).toNat, by omega⟩
      have e : Lib.itoa n = 45 :: Lib.decDigits u := by
        have := Lib.itoa_neg u (by omega)
        rw [← hu, Int.neg_neg] at this
        exact this
      have hsz : (bs (Lib.decDigits u)).size ≤ 20 := by
        rw [bs_size, Lib.decDigits_length]
        exact nDigits_le 19 u (by omega)
      have C := fun w => refDigits_pos u (-n) hu w (by omega)
      have hq : (n == -9223372036854775808) = false := by rw [beq_eq_false_iff_ne]; exact hm
      have hw : wrap64 (-n) = -n := by unfold wrap64; omega
      have E := Lib.hid e
      have hlt : n < 0 := by omega
      clear e hu hm h0 h1 hn
      go_enter Tryz.func28, Tryz.ntmps28
      go_wp2_with (go_at_call 28; refine (C _).mono ?_; rintro e w1 ⟨rfl, b1⟩; have B1 := Lib.hid b1; clear b1)
      go_ret
      exact ⟨ret_string (by rw [E.out, ← cat_one]), B1.out⟩
end Go.Proofs.YtgchmoabhblmcaaGreatDoor
