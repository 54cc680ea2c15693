/-
  The compass functions' walks, the third part: the given answers, and the signs of life. Conditions: none but what each theorem states.
-/
import Derived.Test.YtgedcalplfnjmaaDoorCompassB
namespace Go.Proofs.YtgedcalplfnjmaaDoor
open Go.RowKit









end Go.Proofs.YtgedcalplfnjmaaDoor
