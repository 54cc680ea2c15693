/-
  Layers of a dag: what it leaves, in one form. Conditions: the graph is a dag.
-/
import Derived.Test.YtdapbhnonhamhaaLayR
namespace Go.Proofs.Ytdapbhnonhamhaa
open Go.RowKit Go.Proofs.Ytdapbhnonhamhaa.DagM

def LayOk (n : Nat) (L : List Arc) (w : World) (e : Ending) (w' : World) : Prop := ∃ v d, e = .returned (.tuple #[v, .int .i64 0]) ∧ OwnN w' w.heap.size v ((List.range n).map d) ∧ Lay (ends L) d ∧ (∀ u, d u ≤ n) ∧ Below w.heap.size w w'
theorem layersOk (n : Nat) (v : Value) (L : List Arc) (w : World) (hA : ArcsAt w v L) (h0 : ordErr n L = 0) :
    Calls Try.prog 15 #[.int .i64 n, v] w (LayOk n L w) := by
  refine (layers n v L w hA).mono fun e w' h => ?_
  rcases h with ⟨_, v1, d1, h⟩ | ⟨h1, _⟩
  · rw [Int.toNat_natCast] at h
    exact ⟨v1, d1, h⟩
  · exact absurd h0 h1
theorem lay_near {n : Nat} {d : Nat → Nat} (h : ∀ u, d u ≤ n) (hn : n ≤ 1000000) : ∀ y ∈ castI ((List.range n).map d), -1000000 ≤ y ∧ y ≤ 1000000 := by
  intro y hy
  obtain ⟨x, hx, rfl⟩ := List.mem_map.1 hy
  obtain ⟨u, _, rfl⟩ := List.mem_map.1 hx
  have := h u
  omega
end Go.Proofs.Ytdapbhnonhamhaa
