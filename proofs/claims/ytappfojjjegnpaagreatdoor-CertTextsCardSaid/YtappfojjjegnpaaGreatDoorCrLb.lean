/-
  The reference's Fit. Conditions: the graph may be; as many numbers as nodes.
  The reference's Fit and Cost; Make. Conditions: the graph may be; all numbers are near.
  One int appended to a row of the call's own. Conditions: none.
  The reference's Ranks answers what the program's does. Conditions: at most a thousand numbers.
  right: of what solves a dag it answers true. Conditions: that.
-/
import Derived.Test.YtappfojjjegnpaaGreatDoorCrLa
import Derived.IntWalk
import Derived.Test.YtappfojjjegnpaaGreatDoorCqF
import Derived.Deep.RegionHeld3
namespace Go.Proofs.YtappfojjjegnpaaGreatDoor
open Go.RowKit Go.Proofs.YtappfojjjegnpaaGreatDoor.DagM

def FtRel (x : List Int) (L : List Arc) (w wr : World) (iv : Value) : Prop := ∃ k : Nat, iv = .int .i64 k ∧ k ≤ L.length ∧ fitB x (L.take k) = true ∧ Below w.heap.size w wr


end Go.Proofs.YtappfojjjegnpaaGreatDoor

namespace Go.Proofs.YtappfojjjegnpaaGreatDoor
open Go.RowKit Go.Proofs.YtappfojjjegnpaaGreatDoor.DagM

def RcRel (x : List Int) (L : List Arc) (w wr : World) (sv iv : Value) : Prop := ∃ k : Nat, iv = .int .i64 k ∧ k ≤ L.length ∧ sv = .int .i64 (costSum x (L.take k)) ∧ 0 ≤ costSum x (L.take k) ∧ costSum x (L.take k) ≤ 2000000000000 * (k : Int) ∧ Below w.heap.size w wr
theorem fit_at (x : List Int) (L : List Arc) (h : fitB x L = true) (k : Nat) (hk : k < L.length) : fitA x L[k] = true := by
  unfold fitB at h
  exact List.all_eq_true.1 h _ (List.getElem_mem hk)

end Go.Proofs.YtappfojjjegnpaaGreatDoor

namespace Go.Proofs.YtappfojjjegnpaaGreatDoor
open Go.RowKit Go.Proofs.YtappfojjjegnpaaGreatDoor.DagM

theorem newsI (w : World) (t : TypeId) (x : Int) (b : Nat) (hb : w.heap.size = b) : ∀ j z, [Value.int .i64 x][j]? = some z → (w.alloc (.cells #[.int .i64 x] t)).cell? ((⟨b, 0, none⟩ : Addr).add j) = some z := by
  intro j z hz
  have hj : j = 0 := by have := List.getElem?_eq_some_iff.1 hz; simp at this; omega
  subst hj hb
  simp at hz
  subst hz
  go_simp
theorem oneI (x : Int) : ∀ z ∈ [Value.int .i64 x], z.oneCell' = true := by
  intro z hz
  simp at hz
  subst hz
  rfl
theorem OwnI.snoc {w : World} {B : Nat} {v : Value} {l : List Int} {x : Int} (h : w.ownsRow B 3 1 v (l.length + 1) (l.map (Value.int .i64) ++ [.int .i64 x])) : OwnI w B v (l ++ [x]) := by
  unfold OwnI
  rw [List.length_append, List.map_append]
  exact h
theorem int_app {w0 w w' : World} {v v' : Value} {K : List Int} {a : Int} (hB : Below w0.heap.size w0 w) (hO : OwnI w w0.heap.size v K) (hown : w'.ownsRow w0.heap.size 3 1 v' (K.length + 1) (K.map (Value.int .i64) ++ [.int .i64 a])) (hgrow : w.grownBy w' v.ownBlock) :
    OwnI w' w0.heap.size v' (K ++ [a]) ∧ Below w0.heap.size w0 w' :=
  ⟨OwnI.snoc hown, hB.trans (((Out.refl _ w).grown (S := fun b => v.ownBlock = some b) hgrow (fun _ _ e => e)).below hB.size (fun i _ e => (World.ownsRow.lt hO i e).1))⟩
end Go.Proofs.YtappfojjjegnpaaGreatDoor

namespace Go.Proofs.YtappfojjjegnpaaGreatDoor
open Go.RowKit Go.Proofs.YtappfojjjegnpaaGreatDoor.DagM

/-- The unlike numbers of the first k of x that are less than a. -/
structure LsOf (x : List Int) (a : Int) (k : Nat) (Ls : List Int) : Prop where
  nd : Ls.Nodup
  iff : ∀ y, y ∈ Ls ↔ y ∈ x.take k ∧ y < a
  len : Ls.length ≤ k
theorem LsOf.step {x : List Int} {a : Int} {k : Nat} {Ls : List Int} (h : LsOf x a k Ls) (hk : k < x.length) :
    LsOf x a (k + 1) (if (decide (a ≤ x[k]) || Ls.any (fun y => y == x[k])) = true then Ls else Ls ++ [x[k]]) := by
  have ht : ∀ y, y ∈ x.take (k + 1) ↔ y ∈ x.take k ∨ y = x[k] := fun y => by rw [List.take_succ_eq_append_getElem hk, List.mem_append, List.mem_singleton]
  by_cases h1 : a ≤ x[k]
  · rw [if_pos (by simp [h1])]
    refine ⟨h.nd, fun y => ?_, by have := h.len; omega⟩
    rw [h.iff, ht]
    constructor
    · rintro ⟨h2, h3⟩; exact ⟨Or.inl h2, h3⟩
    · rintro ⟨h2 | h2, h3⟩
      · exact ⟨h2, h3⟩
      · subst h2; omega
  · by_cases h2 : x[k] ∈ Ls
    · rw [if_pos (by simp [h2])]
      refine ⟨h.nd, fun y => ?_, by have := h.len; omega⟩
      rw [h.iff, ht]
      constructor
      · rintro ⟨h3, h4⟩; exact ⟨Or.inl h3, h4⟩
      · rintro ⟨h3 | h3, h4⟩
        · exact ⟨h3, h4⟩
        · subst h3; exact (h.iff _).1 h2
    · rw [if_neg (by simp [h1, h2] <;> omega)]
      refine ⟨List.nodup_append.2 ⟨h.nd, by simp, fun u hu v hv e => h2 (by rw [List.mem_singleton.1 hv] at e; exact e ▸ hu)⟩, fun y => ?_, by have := h.len; simp; omega⟩
      rw [List.mem_append, h.iff, ht, List.mem_singleton]
      constructor
      · rintro (⟨h3, h4⟩ | h3)
        · exact ⟨Or.inl h3, h4⟩
        · subst h3; exact ⟨Or.inr rfl, by omega⟩
      · rintro ⟨h3 | h3, h4⟩
        · exact Or.inl ⟨h3, h4⟩
        · exact Or.inr h3
theorem LsOf.rk {x : List Int} {a : Int} {Ls : List Int} (h : LsOf x a x.length Ls) : Ls.length = rk x a := rk_of h.nd (fun y => by rw [h.iff, List.take_length])
def RrRel (x : List Int) (w wr : World) (ov iv : Value) : Prop := ∃ k : Nat, iv = .int .i64 k ∧ k ≤ x.length ∧ Below w.heap.size w wr ∧ OwnN wr w.heap.size ov ((x.take k).map (rk x))
def MdRel (x : List Int) (a : Int) (wi wr : World) (lv iv : Value) : Prop := ∃ (k : Nat) (Ls : List Int), iv = .int .i64 k ∧ k ≤ x.length ∧ Below wi.heap.size wi wr ∧ OwnI wr wi.heap.size lv Ls ∧ LsOf x a k Ls
def InRel (Ls : List Int) (a b : Int) (wm wr : World) (mv iv : Value) : Prop := ∃ j : Nat, iv = .int .i64 j ∧ j ≤ Ls.length ∧ mv = .bool (decide (a ≤ b) || (Ls.take j).any (fun y => y == b)) ∧ Below wm.heap.size wm wr
theorem any_part {Ls : List Int} {j : Nat} {b : Int} (h : (Ls.take j).any (fun y => y == b) = true) : Ls.any (fun y => y == b) = true := by
  rw [List.any_eq_true] at h ⊢
  obtain ⟨y, hy, e⟩ := h
  exact ⟨y, List.mem_of_mem_take hy, e⟩
theorem val_get {x : List Int} {k : Nat} (h : k < x.length) : val x k = x[k] := by simp [val, List.getD_eq_getElem?_getD, h]

theorem newsNb2 (w : World) (t : TypeId) (x b : Nat) (hb : w.heap.size = b) : ∀ j z, [encNat x][j]? = some z → (w.alloc (.cells #[.int .i64 (x : Int)] t)).cell? ((⟨b, 0, none⟩ : Addr).add j) = some z := by
  subst hb
  exact newsN w t x

end Go.Proofs.YtappfojjjegnpaaGreatDoor

namespace Go.Proofs.YtappfojjjegnpaaGreatDoor
open Go.RowKit Go.Proofs.YtappfojjjegnpaaGreatDoor.DagM

def RiRel (L : List Arc) (w4 wr : World) (iv : Value) : Prop := ∃ k : Nat, iv = .int .i64 k ∧ k ≤ L.length ∧ Below w4.heap.size w4 wr


end Go.Proofs.YtappfojjjegnpaaGreatDoor
