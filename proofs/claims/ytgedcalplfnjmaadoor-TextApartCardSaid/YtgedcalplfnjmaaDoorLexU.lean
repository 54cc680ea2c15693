/-
  The reference's Digits are those of the library's Itoa. Conditions: none.
-/
import Derived.Test.YtgedcalplfnjmaaDoorLexT
import Derived.Lib.ItoaMem
namespace Go.Proofs.YtgedcalplfnjmaaDoor
open Go.RowKit Go.Proofs.YtgedcalplfnjmaaDoor.LexM

/-- A text of one byte that was made of a row of one. -/
theorem oneByte (w : World) (b : UInt8) (n : Int) (hn : n = b.toNat) :
    (convert 36 9 (.slice (some ⟨w.heap.size, 0, none⟩) 1 1)).run Tryd.prog (w.alloc (.cells #[.int .u8 n] 5)) = .ok (.string ⟨#[b]⟩) (w.alloc (.cells #[.int .u8 n] 5)) := by
  subst hn
  have h := run_convert_bytes_back (P := Tryd.prog) (w.alloc (.cells #[.int .u8 (b.toNat : Int)] 5)) 36 9 5 ⟨w.heap.size, 0, none⟩ 1 [b] Tryd.underlying36 Tryd.underlying5 Tryd.underlying9 (fun j hj => by
    obtain rfl : j = 0 := by simp at hj; omega
    go_simp)
  exact h
theorem cat_one (b : UInt8) (t : List UInt8) : (⟨#[b]⟩ : ByteArray) ++ bs t = bs (b :: t) := by
  have : bs ((⟨#[b]⟩ : ByteArray) ++ bs t).data.toList = _ := bs_list _
  rw [← this]
  congr 1

/-- Where the reference's digits stand: v is still to be told. -/
def DgAt (u v : Nat) (t : List UInt8) : Prop := (if v = 0 then t else Lib.decDigits v ++ t) = Lib.decDigits u
theorem DgAt.step {u v : Nat} {t : List UInt8} (h : DgAt u v t) (hv : 0 < v) : DgAt u (v / 10) (UInt8.ofNat (48 + v % 10) :: t) := by
  unfold DgAt at h ⊢
  rw [if_neg (by omega)] at h
  by_cases h10 : v < 10
  · rw [if_pos (by omega), ← h, Lib.decDigits, dif_pos h10, Nat.mod_eq_of_lt h10]; rfl
  · rw [if_neg (by omega), ← h, Lib.decDigits.eq_1 v, dif_neg h10]; simp
theorem DgAt.start (u : Nat) : DgAt u (u / 10) [UInt8.ofNat (48 + u % 10)] := by
  unfold DgAt
  by_cases h10 : u < 10
  · rw [if_pos (by omega), Lib.decDigits, dif_pos h10, Nat.mod_eq_of_lt h10]
  · rw [if_neg (by omega), Lib.decDigits.eq_1 u, dif_neg h10]
theorem DgAt.len {u v : Nat} {t : List UInt8} (h : DgAt u v t) (hu : u < 18446744073709551616) : (bs t).size ≤ 20 := by
  have hl : (Lib.decDigits u).length ≤ 20 := by
    rw [Lib.decDigits_length]
    exact nDigits_le 19 u (by omega)
  unfold DgAt at h
  have := congrArg List.length h
  rw [bs_size]
  split at this
  · omega
  · rw [List.length_append] at this; omega
def RdRel (u : Nat) (w wr : World) (nv sv : Value) : Prop := ∃ (a : Int) (v : Nat) (t : List UInt8), nv = .int .i64 a ∧ a = v ∧ a ≤ 9223372036854775807 ∧ sv = .string (bs t) ∧ DgAt u v t ∧ Below w.heap.size w wr
theorem dig_byte (v : Nat) (n : Int) (h : n = v) : 48 + n % 10 = ((UInt8.ofNat (48 + v % 10)).toNat : Int) := by rw [dig_nat _ (by omega)]; omega

theorem quo_ten (n : Int) (h0 : 0 ≤ n) (h1 : n ≤ 9223372036854775807) : wrap64 (n.tdiv 10) = n / 10 := by
  rw [Int.tdiv_eq_ediv_of_nonneg h0]; unfold wrap64; omega

theorem itoa_nat (u : Nat) : Lib.itoa (u : Int) = Lib.decDigits u := Lib.itoa_nonneg u

end Go.Proofs.YtgedcalplfnjmaaDoor
