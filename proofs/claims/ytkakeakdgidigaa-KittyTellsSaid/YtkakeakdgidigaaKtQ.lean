/-
  A map from ints to places, of the call's own: made, looked up, set. Conditions: none.
-/
import Derived.Test.YtkakeakdgidigaaKtB
import Derived.Maps.OwnOps
import Derived.Deep.RegionHeld3
namespace Go.Proofs.Ytkakeakdgidigaa
open Go.RowKit Go.Maps Go.WideElems Go.Proofs.Ytkakeakdgidigaa.KtM

theorem keyI15 : Keyed Try.prog 3 := int_keyed Try.underlying3
theorem zeroI15 (w : World) : (zeroValue 3).run Try.prog w = .ok (.int .i64 0) w := by kernel_rfl
def Fit64 (v : Int) : Prop := -9223372036854775808 ≤ v ∧ v ≤ 9223372036854775807
theorem wfY64 {v : Int} (h : Fit64 v) : (Lit.int .i64 v).wf = true := by
  unfold Lit.wf
  rw [Bool.and_eq_true]
  exact ⟨decide_eq_true h.1, decide_eq_true h.2⟩
/-- Block b holds a map that gives f. -/
def MpAt (w : World) (b n : Nat) (f : Int → Option Nat) : Prop :=
  ∃ D : DataW Unit, w.ownsMap Try.prog 3 (plainElem Try.prog 3) b n D ∧ Maps.IsMap D ∧
    ∀ v, Fit64 v → (f v = none → Maps.has D (.int .i64 v) = false) ∧ ∀ i, f v = some i → ∀ z, D.atKey (.int .i64 v) z = .lit (.int .i64 (i : Int))
theorem MpAt.made (w : World) : MpAt (w.alloc (.map #[] 0)) w.heap.size 0 (fun _ => none) :=
  ⟨.map [], World.ownsMap_made w _ _ _, Maps.isMap_empty, fun v _ => ⟨fun _ => rfl, fun i h => by cases h⟩⟩
theorem MpAt.lt {w : World} {b n : Nat} {f : Int → Option Nat} (h : MpAt w b n f) : b < w.heap.size := by
  obtain ⟨D, h, _⟩ := h
  exact h.lt
theorem MpAt.blk {w w' : World} {b n : Nat} {f : Int → Option Nat} (h : MpAt w b n f) (e : w'.heap[b]? = w.heap[b]?) : MpAt w' b n f := by
  obtain ⟨D, ⟨es, clock, hb, r⟩, g⟩ := h
  exact ⟨D, ⟨es, clock, e.trans hb, r⟩, g⟩
theorem MpAt.below {w w' : World} {b n C : Nat} {f : Int → Option Nat} (h : MpAt w b n f) (o : Below C w w') (hC : w.heap.size ≤ C) : MpAt w' b n f :=
  h.blk (o.block b (Nat.lt_of_lt_of_le h.lt hC))
def optV (o : Option Nat) : Value := .tuple #[.int .i64 ((o.getD 0 : Nat) : Int), .bool o.isSome]
theorem MpAt.look {w : World} {b n : Nat} {f : Int → Option Nat} (h : MpAt w b n f) {v : Int} (hv : Fit64 v) :
    (Instr.lookup 58 (.map (some b)) (.int .i64 v) true).run Try.prog w = .ok (optV (f v)) w := by
  obtain ⟨D, ⟨es, clock, hb, F, _, hD⟩, hm, hf⟩ := h
  obtain ⟨f1, f2⟩ := hf v hv
  have hkey := keyOf_int_mk Try.underlying3 (wfY64 hv)
  subst hD
  rcases Maps.fit_look true keyI15 Try.underlying58 (zeroI15 w) hb F hkey with ⟨hr, _, hat⟩ | ⟨e0, y, _, _, hr, hR, hat, _⟩
  · rw [hr]
    cases e : f v with
    | none => rfl
    | some i =>
      have a1 := f2 i e (.lit (.bool true))
      rw [hat] at a1
      cases a1
  · rw [hr]
    obtain ⟨a, ea, ey, _⟩ := plainElem_int_inv Try.underlying3 hR
    cases e : f v with
    | none =>
      have a1 := Maps.atKey_of_not_has (f1 e) (.lit (.bool true))
      rw [hat, ey] at a1
      cases a1
    | some i =>
      have a1 := f2 i e (.lit (.bool true))
      rw [hat, ey] at a1
      simp only [DataW.lit.injEq, Lit.int.injEq, true_and] at a1
      rw [ea, a1]
      rfl
theorem MpAt.put {w : World} {b n : Nat} {f : Int → Option Nat} (h : MpAt w b n f) {v : Int} (hv : Fit64 v) {i : Nat} (hi : i ≤ 1000000) (hn : n ≤ 1000000) :
    ∃ w', (Instr.mapUpdate 58 (.map (some b)) (.int .i64 v) (.int .i64 (i : Int))).run Try.prog w = .ok () w' ∧ MpAt w' b (n + 1) (setM f v i) ∧ w.grownBy w' (some b) := by
  obtain ⟨D, ho, hm, hf⟩ := h
  have hkey := keyOf_int_mk Try.underlying3 (wfY64 hv)
  obtain ⟨w', hr, ho2, hg⟩ := ho.update keyI15 Try.underlying58 (by unfold maxLen; omega) hkey (plainElem_int (a := (i : Int)) Try.underlying3 (wfY64 ⟨by omega, by omega⟩))
  refine ⟨w', hr, ⟨_, ho2, hm.put _ _, fun u hu => ?_⟩, hg⟩
  by_cases e : u = v
  · subst e
    refine ⟨fun h => ?_, fun j hj z => ?_⟩
    · unfold setM at h
      rw [if_pos rfl] at h
      cases h
    · unfold setM at hj
      rw [if_pos rfl] at hj
      obtain rfl : i = j := by injection hj
      exact Maps.atKey_put_same hm (keyI15.key hkey) _ _
  · have hne : (Lit.int .i64 u : Lit) ≠ .int .i64 v := fun h => e (by injection h)
    have es : setM f v i u = f u := by unfold setM; rw [if_neg e]
    rw [es]
    obtain ⟨f1, f2⟩ := hf u hu
    exact ⟨fun h => (Maps.has_put_other hne _).trans (f1 h), fun j hj z => (Maps.atKey_put_other hne _ z).trans (f2 j hj z)⟩
end Go.Proofs.Ytkakeakdgidigaa
