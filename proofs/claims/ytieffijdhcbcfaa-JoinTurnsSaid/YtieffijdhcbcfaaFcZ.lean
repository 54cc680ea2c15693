/-
  What the reference's Edge answers: some edge, or none. Conditions: cells that may be, at most 1000.
-/
import Derived.Test.YtieffijdhcbcfaaFcC
import Derived.Deep.QuietTactic
namespace Go.Proofs.Ytieffijdhcbcfaa
open Go.RowKit Go.Proofs.Ytieffijdhcbcfaa.GrM Go.Proofs.Ytieffijdhcbcfaa.FcM

def EgP (L : List Int) (n : Nat) (w : World) (e : Ending) (w' : World) : Prop :=
  (e = .returned (.tuple #[.int .i64 0, .int .i64 0, .bool false]) ∨ ∃ v d : Nat, v < n ∧ d < 4 ∧ nxG L v d ≠ -1 ∧ e = .returned (.tuple #[.int .i64 v, .int .i64 d, .bool true])) ∧ Below w.heap.size w w'
def EgRel (n : Nat) (w wr : World) (iv : Value) : Prop := ∃ i : Nat, iv = .int .i64 i ∧ i ≤ 4 * n ∧ Below w.heap.size w wr
set_option maxHeartbeats 8000000 in
set_option maxRecDepth 100000 in
theorem refEdge (lv : Value) (L : List Int) (n a b : Nat) (w : World) (hL : CelAt w lv L n) (hn : n ≤ 1000) (ha : a ≤ 1000) (hb : b ≤ 1000) (hg : GoodG L n) :
    Calls Try.prog 17 #[lv, .int .i64 a, .int .i64 b] w (EgP L n w) := by
  have HL := Lib.hid hL
  have HG := Lib.hid hg
  obtain ⟨A0, c0, e⟩ := hL.form
  subst e
  clear hL hg
  go_enter Try.func17, Try.ntmps17
  go_wp2_with fail
  go_loopw [9] (fun iv wr => EgRel n w wr iv) (fun iv _ => 4 * n - (intOf iv).toNat)
  case atStart => exact ⟨0, rfl, Nat.zero_le _, Below.refl _ _⟩
  case round =>
    obtain ⟨i, rfl, hi, hB⟩ := hrel
    have B := Lib.hid hB
    by_cases hlt : i < 4 * n
    · have hnp : 0 < n := by omega
      have q0 : decide ((i : Int) < 4 * (n : Int)) = true := decide_eq_true (by omega)
      obtain ⟨k, hk⟩ : ∃ k, (4 * (a % n) + b % 4 + i) % (4 * n) = k := ⟨_, rfl⟩
      have hk4 : k < 4 * n := by rw [← hk]; exact Nat.mod_lt _ (by omega)
      obtain ⟨a1, ha1⟩ : ∃ a1, a % n = a1 := ⟨_, rfl⟩
      obtain ⟨b1, hb1⟩ : ∃ b1, b % 4 = b1 := ⟨_, rfl⟩
      have han : a1 < n := by rw [← ha1]; exact Nat.mod_lt _ hnp
      have hbn : b1 < 4 := by omega
      rw [ha1, hb1] at hk
      have ha' : (a : Int).tmod (n : Int) = (a1 : Int) := by rw [Int.tmod_eq_emod_of_nonneg (by omega), ← ha1]; rfl
      have hb' : (b : Int).tmod 4 = (b1 : Int) := by rw [Int.tmod_eq_emod_of_nonneg (by omega)]; omega
      have hk' : (4 * (a1 : Int) + (b1 : Int) + (i : Int)).tmod (4 * (n : Int)) = (k : Int) := by
        rw [Int.tmod_eq_emod_of_nonneg (by omega), ← hk]; push_cast; rfl
      obtain ⟨v, hv⟩ : ∃ v, k / 4 = v := ⟨_, rfl⟩
      obtain ⟨d, hd⟩ : ∃ d, k % 4 = d := ⟨_, rfl⟩
      have hv' : (k : Int).tdiv 4 = (v : Int) := by rw [Int.tdiv_eq_ediv_of_nonneg (by omega)]; omega
      have hd' : (k : Int).tmod 4 = (d : Int) := by rw [Int.tmod_eq_emod_of_nonneg (by omega)]; omega
      have hvn : v < n := by omega
      have hd4 : d < 4 := by omega
      have hmx : max (n : Int) 1 = (n : Int) := by omega
      obtain ⟨bb, o9, c', e, hbb, hx, -⟩ := (HL.out.below hB (Nat.le_refl _)).nth hvn
      simp only [Value.slice.injEq, true_and] at e
      obtain ⟨rfl, rfl⟩ := e
      have f0 := hx d hd4
      have hs := HG.out.side hvn hd4
      obtain ⟨z, hz⟩ : ∃ z, nxG L v d = z := ⟨_, rfl⟩
      rw [hz] at f0 hs
      have HZ := Lib.hid hz
      have hz2 : z = -1 ∨ 0 ≤ z := by
        rcases hs with h | h
        · exact Or.inl h.1
        · exact Or.inr h.1
      clear hx hs hz ha1 hb1 hk hB hv hd
      rcases hz2 with hz2 | hz2
      · subst hz2
        go_wp2_with fail
        exact ⟨⟨i + 1, by go_num, by omega, B.out⟩, by (simp [intOf] <;> omega)⟩
      · have q1 : decide (0 ≤ z) = true := decide_eq_true hz2
        go_wp2_with fail
        go_ret3
        exact ⟨Or.inr ⟨v, d, hvn, hd4, by rw [HZ.out]; omega, rfl⟩, B.out⟩
    · have hin : i = 4 * n := by omega
      subst hin
      have q0 : decide (4 * (n : Int) < 4 * (n : Int)) = false := decide_eq_false (by omega)
      clear hB
      go_wp2_with fail
      go_ret3
      exact ⟨Or.inl rfl, B.out⟩
end Go.Proofs.Ytieffijdhcbcfaa
