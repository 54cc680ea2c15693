/-
  The heap of muntin/flow.visit: which of two items comes ahead, two items exchanged. Conditions: the function that the heap holds tells a strict weak order.
  The heap of muntin/flow.visit: two items exchanged. Conditions: both places lie in the row.
  The heap of muntin/flow.visit: an item rises, an item sinks. Conditions: the row is a heap but for that item.
  The heap of muntin/flow.visit: the top dropped, one thing pushed. Conditions: at most a million things; the row is a heap.
  The heap of muntin/flow.visit: one thing pushed. Conditions: at most a million were pushed.
  The heap of muntin/flow.visit: a new one, how many, the top, the least one popped, a nil one. Conditions: at most a million were pushed.
  The heap of muntin/flow.visit: the least one popped, a nil heap. Conditions: at most a million were pushed.
-/
import Derived.Test.YtappfojjjegnpaaGreatDoorCqH
import Derived.BigRegion
import Derived.Deep.RegionWith
import Derived.Shelf.Abstract
import Derived.LoopTactic
import Derived.Handy
namespace Go.Proofs.YtappfojjjegnpaaGreatDoor.HV
open Go.RowKit Go.Proofs.YtappfojjjegnpaaGreatDoor.HeapM

/-- An item's cells. -/
def enc (x : (Int × Int × Int) × Int) : List Value := [.int .i64 x.1.1, .int .i64 x.1.2.1, .int .i64 x.1.2.2] ++ [.int .i64 x.2]
theorem enc_len (x : (Int × Int × Int) × Int) : (enc x).length = 4 := rfl

/-- What the heap's function tells. -/
structure LessAt (fn : Nat) (lt : (Int × Int × Int) → (Int × Int × Int) → Bool) : Prop where
  eg : ∀ args w, (callFunc fn args).run Tryz.prog w = .ok (.enter fn args) w
  calls : ∀ (W : World) (x y : (Int × Int × Int)), Calls Tryz.prog fn #[(.agg #[.int .i64 x.1, .int .i64 x.2.1, .int .i64 x.2.2]), (.agg #[.int .i64 y.1, .int .i64 y.2.1, .int .i64 y.2.2])] W fun e W' => e = .returned (.bool (lt x y)) ∧ Below W.heap.size W W'
  ord : Ord lt
variable {fn : Nat} {lt : (Int × Int × Int) → (Int × Int × Int) → Bool}


theorem cells_at {w : World} {T E p n g cap : Nat} {f : Value} {l : List ((Int × Int × Int) × Int)} {c : Int} (h : HeapMem w T E 4 p f (.slice (some ⟨g, 0, none⟩) n cap) l.length (l.flatMap enc) c) (hn : n = l.length) (i : Nat) (hi : i < l.length) (r : Nat) (hr : r < 4) : w.cell? ⟨g, i * 4 + r, none⟩ = some ((enc (at_ l i)).getD r default) := by
  subst hn
  have hm : i * 4 + r < l.length * 4 := by omega
  rw [h.cell _ hm, flat_get enc enc_len l i r hi hr]
  rfl


end Go.Proofs.YtappfojjjegnpaaGreatDoor.HV

namespace Go.Proofs.YtappfojjjegnpaaGreatDoor.HV
open Go.RowKit Go.Proofs.YtappfojjjegnpaaGreatDoor.HeapM

theorem runSet_swap (l : List ((Int × Int × Int) × Int)) (i j : Nat) (hi : i < l.length) (hj : j < l.length) : runSet (runSet (l.flatMap enc) (i * 4) (enc (at_ l j))) (j * 4) (enc (at_ l i)) = (sw l i j).flatMap enc := by
  rw [flat_set enc enc_len l i hi, flat_set enc enc_len _ j (by simpa using hj)]
  rfl


end Go.Proofs.YtappfojjjegnpaaGreatDoor.HV

namespace Go.Proofs.YtappfojjjegnpaaGreatDoor.HV
open Go.RowKit Go.Proofs.YtappfojjjegnpaaGreatDoor.HeapM
variable {fn : Nat} {lt : (Int × Int × Int) → (Int × Int × Int) → Bool}











end Go.Proofs.YtappfojjjegnpaaGreatDoor.HV

namespace Go.Proofs.YtappfojjjegnpaaGreatDoor.HV
open Go.RowKit Go.Proofs.YtappfojjjegnpaaGreatDoor.HeapM
variable {fn : Nat} {lt : (Int × Int × Int) → (Int × Int × Int) → Bool}


def Foot (p : Nat) (v : Value) (b : Nat) : Prop := b = p ∨ v.ownBlock = some b






theorem shorter {w : World} {T E p g n m cap : Nat} {f : Value} {xs : List Value} {c : Int} (h : HeapMem w T E 4 p f (.slice (some ⟨g, 0, none⟩) n cap) n xs c) (hm : m ≤ n) : HeapMem (w.setCell ⟨p, 1, none⟩ (.slice (some ⟨g, 0, none⟩) m cap)) T E 4 p f (.slice (some ⟨g, 0, none⟩) m cap) m (xs.take (m * 4)) c :=
  HeapMem.rowed h.blk (ownsRow_shorter h.row hm) h.apart
theorem zeros_len : ([.int .i64 0, .int .i64 0, .int .i64 0, .int .i64 0] : List Value).length = 4 := rfl


end Go.Proofs.YtappfojjjegnpaaGreatDoor.HV

namespace Go.Proofs.YtappfojjjegnpaaGreatDoor.HV
open Go.RowKit Go.Proofs.YtappfojjjegnpaaGreatDoor.HeapM
variable {fn : Nat} {lt : (Int × Int × Int) → (Int × Int × Int) → Bool}

theorem enc_one (x : (Int × Int × Int) × Int) : ∀ u ∈ enc x, u.oneCell' = true := by
  intro u hu
  simp [enc] at hu
  rcases hu with rfl | rfl | rfl | rfl <;> rfl
theorem news_at (w : World) (T : TypeId) (x : (Int × Int × Int) × Int) (b : Nat) (hb : w.heap.size = b) : ∀ j u, (enc x)[j]? = some u → ((w.alloc (.cells (enc x).toArray T)).drew).cell? ((⟨b, 0, none⟩ : Addr).add j) = some u := by
  intro j u hu
  subst hb
  have hj : ((⟨w.heap.size, 0, none⟩ : Addr).add j) = ⟨w.heap.size, j, none⟩ := by unfold Addr.add; split <;> simp_all
  rw [hj]
  have : ((w.alloc (.cells (enc x).toArray T)).drew).heap[w.heap.size]? = some (.cells (enc x).toArray T (0, 0)) := heap_alloc_new w _
  simp only [World.cell?, this]
  simpa using hu

theorem mem_snoc {W : World} {T E p : Nat} {f v : Value} {l : List ((Int × Int × Int) × Int)} {y : (Int × Int × Int) × Int} {d : Int} (h : HeapMem W T E 4 p f v (l.length + 1) (l.flatMap enc ++ enc y) d) : HeapMem W T E 4 p f v (l ++ [y]).length ((l ++ [y]).flatMap enc) d := by
  have e1 : (l ++ [y]).length = l.length + 1 := by simp
  have e2 : (l ++ [y]).flatMap enc = l.flatMap enc ++ enc y := by simp
  rw [e1, e2]
  exact h



end Go.Proofs.YtappfojjjegnpaaGreatDoor.HV

namespace Go.Proofs.YtappfojjjegnpaaGreatDoor.HV
open Go.RowKit Go.Proofs.YtappfojjjegnpaaGreatDoor.HeapM
variable {fn : Nat} {lt : (Int × Int × Int) → (Int × Int × Int) → Bool}











/-- An answer that leaves all that was there. -/
def Told (r : Value) (w : World) (e : Ending) (w' : World) : Prop := e = .returned r ∧ Below w.heap.size w w'



end Go.Proofs.YtappfojjjegnpaaGreatDoor.HV

namespace Go.Proofs.YtappfojjjegnpaaGreatDoor.HV
open Go.RowKit Go.Proofs.YtappfojjjegnpaaGreatDoor.HeapM
variable {fn : Nat} {lt : (Int × Int × Int) → (Int × Int × Int) → Bool}








end Go.Proofs.YtappfojjjegnpaaGreatDoor.HV
