/-
  A row's first arcs; what raw leaves. Conditions: none.
-/
import Derived.Test.YtdapbhnonhamhaaDagT
namespace Go.Proofs.Ytdapbhnonhamhaa
open Go.RowKit Go.Proofs.Ytdapbhnonhamhaa.DagM

theorem ArcsAt.take {w : World} {A : Option Addr} {n cap : Nat} {L : List Arc} (h : ArcsAt w (.slice A n cap) L) {m : Nat} (hm : m ≤ L.length) : ArcsAt w (.slice A m cap) (L.take m) := by
  obtain ⟨A', cap', e, hc, hA⟩ := h
  simp only [Value.slice.injEq] at e
  obtain ⟨rfl, rfl, rfl⟩ := e
  refine ⟨A, cap, by rw [List.length_take, Nat.min_eq_left hm], by rw [List.length_take, Nat.min_eq_left hm]; omega, fun h0 => ?_⟩
  obtain ⟨b, o, rfl, hb, hcell⟩ := hA (by rw [List.length_take, Nat.min_eq_left hm] at h0; omega)
  refine ⟨b, o, rfl, hb, fun k hk => ?_⟩
  have hk2 : k < L.length := by rw [List.length_take] at hk; omega
  rw [List.getElem_take]
  exact hcell k hk2
def Some20 (w : World) (e : Ending) (w' : World) : Prop := ∃ v L, e = .returned v ∧ OwnA w' w.heap.size v L ∧ L.length ≤ 20 ∧ Below w.heap.size w w'
end Go.Proofs.Ytdapbhnonhamhaa
