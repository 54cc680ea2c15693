/-
  Solve and Supply leave what they are asked to. Conditions: none.
-/
import Derived.Test.YtkloaekmjnbacaaFlowDa
import Derived.Test.YtkloaekmjnbacaaFlowDb
import Derived.Test.YtkloaekmjnbacaaFlowDc
import Derived.Test.YtkloaekmjnbacaaNetN
namespace Go.Proofs.Ytkloaekmjnbacaa
theorem flowDone : SolveSpec := solveSpec (find nextSpec) search newNetwork
end Go.Proofs.Ytkloaekmjnbacaa
