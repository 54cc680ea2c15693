/-
  Solve and Supply leave what they are asked to. Conditions: none.
-/
import Derived.Test.YtdpacaomkahgfaaGreatDoorCrDa
import Derived.Test.YtdpacaomkahgfaaGreatDoorCrDb
import Derived.Test.YtdpacaomkahgfaaGreatDoorCrDc
import Derived.Test.YtdpacaomkahgfaaGreatDoorCrN
namespace Go.Proofs.YtdpacaomkahgfaaGreatDoor
theorem flowDone : SolveSpec := solveSpec (find nextSpec) search newNetwork
end Go.Proofs.YtdpacaomkahgfaaGreatDoor
