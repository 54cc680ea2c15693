/-
  What the code's behind answers: the dart behind a dart, and how one turns. Conditions: the ways read as the program lays them.
-/
import Derived.Test.YtieffijdhcbcfaaFcM
import Derived.Test.YtieffijdhcbcfaaNzDb
import Derived.Test.YtieffijdhcbcfaaNzDc
namespace Go.Proofs.Ytieffijdhcbcfaa
open Go.RowKit Go.Proofs.Ytieffijdhcbcfaa.GrM Go.Proofs.Ytieffijdhcbcfaa.FcM



theorem ixW0 (w : World) : (Instr.index 46 (.agg #[.int .i64 1, .int .i64 0, .int .i64 (-1), .int .i64 (-2)]) (.int .i64 0)).run Try.prog w = .ok (.int .i64 1) w := by kernel_rfl
theorem ixW1 (w : World) : (Instr.index 46 (.agg #[.int .i64 1, .int .i64 0, .int .i64 (-1), .int .i64 (-2)]) (.int .i64 1)).run Try.prog w = .ok (.int .i64 0) w := by kernel_rfl
theorem ixW2 (w : World) : (Instr.index 46 (.agg #[.int .i64 1, .int .i64 0, .int .i64 (-1), .int .i64 (-2)]) (.int .i64 2)).run Try.prog w = .ok (.int .i64 (-1)) w := by kernel_rfl
theorem ixW3 (w : World) : (Instr.index 46 (.agg #[.int .i64 1, .int .i64 0, .int .i64 (-1), .int .i64 (-2)]) (.int .i64 3)).run Try.prog w = .ok (.int .i64 (-2)) w := by kernel_rfl
theorem ixW (i : Nat) (hi : i < 4) (w : World) : (Instr.index 46 (.agg #[.int .i64 1, .int .i64 0, .int .i64 (-1), .int .i64 (-2)]) (.int .i64 (i : Int))).run Try.prog w = .ok (.int .i64 (1 - (i : Int))) w := by
  have hc : i = 0 ∨ i = 1 ∨ i = 2 ∨ i = 3 := by omega
  rcases hc with rfl | rfl | rfl | rfl
  · exact ixW0 w
  · exact ixW1 w
  · exact ixW2 w
  · exact ixW3 w
theorem left_way {d i : Nat} (hd : d < 4) (hi : i < 4) : leftI (d : Int) (1 - (i : Int)) = (((d + ordI i) % 4 : Nat) : Int) := by
  rw [leftI_t (by omega) (by omega)]
  have hc : i = 0 ∨ i = 1 ∨ i = 2 ∨ i = 3 := by omega
  rcases hc with rfl | rfl | rfl | rfl <;> unfold ordI <;> simp <;> omega
def dartV (k : Nat) : Value := .agg #[.int .i64 ((k / 4 : Nat) : Int), .int .i64 ((k % 4 : Nat) : Int)]
def BhRel (w0 : World) (W : Nat) (iv : Value) (wr : World) : Prop := ∃ i : Nat, iv = .int .i64 i ∧ i ≤ W ∧ Below w0.heap.size w0 wr
def BhP (v : Value) (w : World) (e : Ending) (w' : World) : Prop := e = .returned v ∧ Below w.heap.size w w'



end Go.Proofs.Ytieffijdhcbcfaa
