/-
  leadsTo: of each node where its arcs lead. Conditions: the graph may be.
  longestWays: by an order in which all comes ahead of what it leads to, of each node how many arcs the longest way to it has. Conditions: that order.
  Layers: what it answers. Span: the greatest less the least. Conditions: Span's numbers are within a million.
-/
import Derived.Test.YtappfojjjegnpaaGreatDoorCqE
import Derived.Test.YtappfojjjegnpaaGreatDoorCqW
import Derived.StillTailTactics
import Derived.Test.YtappfojjjegnpaaGreatDoorCqG
namespace Go.Proofs.YtappfojjjegnpaaGreatDoor
open Go.RowKit Go.Proofs.YtappfojjjegnpaaGreatDoor.DagM

def Leads (N : Nat) (L : List Arc) (w : World) (e : Ending) (w' : World) : Prop := ∃ g V, e = .returned (.slice (some ⟨g, 0, none⟩) N N) ∧ RwsAt w w' g N V (outs (ends L))
def LdRel (N : Nat) (L : List Arc) (g : Nat) (w wr : World) (iv : Value) : Prop := ∃ (k : Nat) (V : Nat → Value), iv = .int .i64 k ∧ k ≤ L.length ∧ RwsAt w wr g N V (outs (ends (L.take k)))


end Go.Proofs.YtappfojjjegnpaaGreatDoor

namespace Go.Proofs.YtappfojjjegnpaaGreatDoor
open Go.RowKit Go.Proofs.YtappfojjjegnpaaGreatDoor.DagM

/-- An order of all N nodes: all that leads to a node comes ahead of it. -/
structure Ahead (E : EndL) (N : Nat) (P : List Nat) : Prop where
  len : P.length = N
  lt : ∀ v ∈ P, v < N
  fresh : ∀ k (h : k < P.length) w, (P[k], w) ∈ E → w < N ∧ w ∉ P.take k ++ [P[k]]
def Longest (E : EndL) (N : Nat) (P : List Nat) (w : World) (e : Ending) (w' : World) : Prop := ∃ g x, e = .returned (.slice (some ⟨g, 0, none⟩) N N) ∧ XsAt w w' g N x ∧ LaySt E P x
def LwRel (E : EndL) (N : Nat) (P : List Nat) (w wr : World) (iv : Value) : Prop := ∃ (k : Nat) (x : Nat → Nat), iv = .int .i64 k ∧ k ≤ P.length ∧ XsAt w wr w.heap.size N x ∧ LaySt E (P.take k) x
def LvRel (E : EndL) (N : Nat) (Q : List Nat) (v : Nat) (B : List Nat) (w wr : World) (iv : Value) : Prop := ∃ (j : Nat) (x : Nat → Nat), iv = .int .i64 j ∧ j ≤ B.length ∧ XsAt w wr w.heap.size N x ∧ LayIn E Q v (B.take j) x


end Go.Proofs.YtappfojjjegnpaaGreatDoor

namespace Go.Proofs.YtappfojjjegnpaaGreatDoor
open Go.RowKit Go.Proofs.YtappfojjjegnpaaGreatDoor.DagM

/-- What Layers leaves: the layers d, if the graph is a dag; its error. -/
def Layered (n : Int) (L : List Arc) (w : World) (e : Ending) (w' : World) : Prop :=
  (ordErr n L = 0 ∧ ∃ v d, e = .returned (.tuple #[v, .int .i64 0]) ∧ OwnN w' w.heap.size v ((List.range n.toNat).map d) ∧ Lay (ends L) d ∧ (∀ u, d u ≤ n.toNat) ∧ Below w.heap.size w w') ∨
  (ordErr n L ≠ 0 ∧ e = .returned (.tuple #[.slice none 0 0, .int .i64 (ordErr n L)]) ∧ Below w.heap.size w w')
theorem ends_lt {n : Int} {L : List Arc} (h : May n L) : ∀ e ∈ ends L, e.1 < n.toNat ∧ e.2 < n.toNat := by
  intro e he
  obtain ⟨a, ha, rfl⟩ := List.mem_map.1 he
  have := h.ok a ha
  simp only
  omega
/-- The order of a dag is one in which all comes ahead of what it leads to. -/
theorem ahead_of {n : Int} {L : List Arc} (h0 : ordErr n L = 0) : Ahead (ends L) n.toNat (ordRes n L) ∧ ∀ e ∈ ends L, e.1 ∈ ordRes n L := by
  have hM := ordErr_may h0
  have hG := (topo_gr (E := ends L) (n := n.toNat)).1
  have hl := gr_len hG
  rw [ordErr_ok hM] at h0
  have hlen : ¬ (topo (ends L) n.toNat).length < n.toNat := fun h => by rw [if_pos h] at h0; omega
  have e : ordRes n L = topo (ends L) n.toNat := by
    unfold ordRes
    rw [if_pos ((mayB_iff n L).2 hM), if_neg hlen]
  rw [e]
  refine ⟨⟨by omega, gr_lt hG, fun k hk w hw => ⟨(ends_lt hM _ hw).2, ?_⟩⟩, fun e he => ?_⟩
  · have h1 : (topo (ends L) n.toNat).take (k + 1) = (topo (ends L) n.toNat).take k ++ [(topo (ends L) n.toNat)[k]] := List.take_succ_eq_append_getElem hk
    have h2 := gr_take hG (k + 1)
    rw [h1] at h2
    exact gr_fresh h2 hw
  · have hs := (gr_nodup hG)
    apply Classical.byContradiction
    intro hno
    have := pigeon (n := n.toNat) (P := e.1 :: topo (ends L) n.toNat) (List.nodup_cons.2 ⟨hno, hs⟩) (fun v hv => by
      rcases List.mem_cons.1 hv with rfl | hv
      · exact (ends_lt hM _ he).1
      · exact gr_lt hG v hv)
    simp at this
    omega



end Go.Proofs.YtappfojjjegnpaaGreatDoor
