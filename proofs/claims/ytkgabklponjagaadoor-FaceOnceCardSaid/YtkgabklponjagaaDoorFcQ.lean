/-
  Four numbers compared with four others: two arrays. Conditions: none.
-/
import Derived.Test.YtkgabklponjagaaDoorBase
import Derived.ChangeKeysEq
namespace Go.Proofs.YtkgabklponjagaaDoor
open Go.RowKit

theorem eqIn1 (w : World) (d : Nat) (a b : Int) : (Op.equalIn (d + 1) 3 (.int .i64 a) (.int .i64 b)).run Tryd.prog w = .ok (a == b) w := run_equalIn_int w d 3 .i64 .i64 a b Tryd.underlying3
theorem plainInt12 : Tryd.prog.plainKey 3 = true := by kernel_rfl
theorem part4 (w : World) (x0 x1 x2 x3 : Int) : ∀ i, i < 4 → (part 3 #[.int .i64 x0, .int .i64 x1, .int .i64 x2, .int .i64 x3] i).run Tryd.prog w = .ok (.int .i64 (if i = 0 then x0 else if i = 1 then x1 else if i = 2 then x2 else x3)) w := by
  intro i hi
  have : i = 0 ∨ i = 1 ∨ i = 2 ∨ i = 3 := by omega
  rcases this with rfl | rfl | rfl | rfl
  · exact run_part_plain w plainInt12 rfl
  · exact run_part_plain w plainInt12 rfl
  · exact run_part_plain w plainInt12 rfl
  · exact run_part_plain w plainInt12 rfl
theorem neq4 (w : World) (a0 a1 a2 a3 b0 b1 b2 b3 : Int) : (binOp .neq 55 (.agg #[.int .i64 a0, .int .i64 a1, .int .i64 a2, .int .i64 a3]) (.agg #[.int .i64 b0, .int .i64 b1, .int .i64 b2, .int .i64 b3])).run Tryd.prog w = .ok (.bool (!(a0 == b0 && a1 == b1 && a2 == b2 && a3 == b3))) w := by
  rw [run_neq_struct]
  have hu := Tryd.underlying55
  have p0 := part4 w a0 a1 a2 a3
  have q0 := part4 w b0 b1 b2 b3
  rw [show (10000 : Nat) = 9999 + 1 from rfl, Op.equalIn]
  simp [run_underlying hu, List.range', p0 0, p0 1, p0 2, p0 3, q0 0, q0 1, q0 2, q0 3, eqIn1 _ 9998]
  by_cases h0 : a0 = b0 <;> by_cases h1 : a1 = b1 <;> by_cases h2 : a2 = b2 <;> by_cases h3 : a3 = b3 <;> simp [h0, h1, h2, h3]
end Go.Proofs.YtkgabklponjagaaDoor
