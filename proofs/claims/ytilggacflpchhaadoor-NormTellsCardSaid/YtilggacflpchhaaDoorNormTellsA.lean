/-
  NormTells: its argument opened. Conditions: the borders read as the program lays them.
-/
import Derived.Test.YtilggacflpchhaaDoorNormTellsW
import Derived.Test.YtilggacflpchhaaDoorNzPb
namespace Go.Proofs.YtilggacflpchhaaDoor
open Go.RowKit Go.ChangeShapes Go.WideShapes Go.Deep Go.Proofs.YtilggacflpchhaaDoor.LexM

set_option maxRecDepth 100000 in
theorem tells11_arg {H : Type} {enc : TypeId × Value → H} {w : World} {v : Value} {d : DataW H} {p : List MemPlace} {spare : Nat → Bool} {held : Bool} {b0 : Nat} (hT : BorT w)
    (hv : Value.okWide Tryd.prog w .any b0 26 v) (h : DataW.Trod enc Tryd.prog w 0 spare held 26 v d p) :
    Calls Tryd.prog 3 #[v] w fun e w' => e = .returned (.bool true) ∧ Below w.heap.size w w' := by
  obtain ⟨bv, B, A, n, cap, D, A2, n2, cap2, D2, rfl, hB, hD, hY⟩ := raw_open8 hv h
  exact tells11 bv B A n cap D A2 n2 cap2 D2 w hT hB hD hY
end Go.Proofs.YtilggacflpchhaaDoor
