/-
  One int appended to a row of the call's own. Conditions: none.
-/
import Derived.Test.YtdapbhnonhamhaaDagT
namespace Go.Proofs.Ytdapbhnonhamhaa
open Go.RowKit Go.Proofs.Ytdapbhnonhamhaa.DagM

theorem newsI (w : World) (t : TypeId) (x : Int) (b : Nat) (hb : w.heap.size = b) : ∀ j z, [Value.int .i64 x][j]? = some z → (w.alloc (.cells #[.int .i64 x] t)).cell? ((⟨b, 0, none⟩ : Addr).add j) = some z := by
  intro j z hz
  have hj : j = 0 := by have := List.getElem?_eq_some_iff.1 hz; simp at this; omega
  subst hj hb
  simp at hz
  subst hz
  go_simp
theorem oneI (x : Int) : ∀ z ∈ [Value.int .i64 x], z.oneCell' = true := by
  intro z hz
  simp at hz
  subst hz
  rfl
theorem OwnI.snoc {w : World} {B : Nat} {v : Value} {l : List Int} {x : Int} (h : w.ownsRow B 3 1 v (l.length + 1) (l.map (Value.int .i64) ++ [.int .i64 x])) : OwnI w B v (l ++ [x]) := by
  unfold OwnI
  rw [List.length_append, List.map_append]
  exact h
theorem int_app {w0 w w' : World} {v v' : Value} {K : List Int} {a : Int} (hB : Below w0.heap.size w0 w) (hO : OwnI w w0.heap.size v K) (hown : w'.ownsRow w0.heap.size 3 1 v' (K.length + 1) (K.map (Value.int .i64) ++ [.int .i64 a])) (hgrow : w.grownBy w' v.ownBlock) :
    OwnI w' w0.heap.size v' (K ++ [a]) ∧ Below w0.heap.size w0 w' :=
  ⟨OwnI.snoc hown, hB.trans (((Out.refl _ w).grown (S := fun b => v.ownBlock = some b) hgrow (fun _ _ e => e)).below hB.size (fun i _ e => (World.ownsRow.lt hO i e).1))⟩
end Go.Proofs.Ytdapbhnonhamhaa
