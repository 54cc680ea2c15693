/-
  Append to a row of the call's own, as one step of a region that draws its order; a row made shorter. Conditions: the bounds of a row.
-/
import Derived.Test.YtkgknbjcllcndaaHeapLib
import Derived.Deep.RegionLaw
import Derived.Test.YtkgknbjcllcndaaAppend
namespace Go
theorem ownsRow_form {w : World} {base : Nat} {e : TypeId} {size n : Nat} {v : Value} {xs : List Value} (h : w.ownsRow base e size v n xs) (h0 : 0 < n) : ∃ g cap, v = .slice (some ⟨g, 0, none⟩) n cap ∧ base ≤ g ∧ g < w.heap.size ∧ n ≤ cap := by
  rcases h.2 with ⟨_, h2⟩ | ⟨g, cap, cur, hv, hg, hh, hn, hc, r⟩
  · omega
  · exact ⟨g, cap, hv, hg, (Array.getElem?_eq_some_iff.1 hh).1, hn⟩
theorem ownsRow_shorter {w : World} {base : Nat} {e : TypeId} {size n m g cap : Nat} {xs : List Value} (h : w.ownsRow base e size (.slice (some ⟨g, 0, none⟩) n cap) n xs) (hm : m ≤ n) : w.ownsRow base e size (.slice (some ⟨g, 0, none⟩) m cap) m (xs.take (m * size)) := by
  obtain ⟨h1, h2⟩ := h
  have hms : m * size ≤ n * size := Nat.mul_le_mul_right _ hm
  refine ⟨by rw [List.length_take, h1]; omega, ?_⟩
  rcases h2 with ⟨h2, _⟩ | ⟨g', cap', cur, hv, hg, hh, hn, hc, hz, ht⟩
  · simp at h2
  · simp only [Value.slice.injEq, Option.some.injEq, Addr.mk.injEq, and_true, true_and] at hv
    obtain ⟨rfl, rfl⟩ := hv
    exact Or.inr ⟨g, cap, cur, rfl, hg, hh, by omega, hc, hz, by rw [← ht, List.take_take]; congr 1; omega⟩
end Go
namespace Go.Proofs.Ytkgknbjcllcndaa
open Go.RowKit
/-- Behind the append: the heap's block as it was, the longer row. -/
structure Longer (W w1 : World) (T E k p : Nat) (f v : Value) (n : Nat) (xs : List Value) (c : Int) (g cap : Nat) : Prop where
  blk : w1.heap[p]? = some (.cells #[f, v, .int .i64 c] T (0, 0))
  row : w1.ownsRow 0 E k (.slice (some ⟨g, 0, none⟩) n cap) n xs
  grow : W.grownBy w1 v.ownBlock
  apart : g ≠ p
  fresh : v.ownBlock = some g ∨ W.heap.size ≤ g
variable {W w1 : World} {T E k p : Nat} {f v : Value} {n : Nat} {xs : List Value} {c : Int} {g cap : Nat}
theorem Longer.k1 (h : Longer W w1 T E k p f v n xs c g cap) : w1.cell? ⟨p, 1, none⟩ = some v := by simp [World.cell?, h.blk]
theorem Longer.k2 (h : Longer W w1 T E k p f v n xs c g cap) : w1.cell? ⟨p, 2, none⟩ = some (.int .i64 c) := by simp [World.cell?, h.blk]
theorem Longer.e1 (h : Longer W w1 T E k p f v n xs c g cap) : w1.frozen? ⟨p, 1, none⟩ = false := by simp only [World.frozen?, h.blk]; simp
theorem Longer.e2 (h : Longer W w1 T E k p f v n xs c g cap) : w1.frozen? ⟨p, 2, none⟩ = false := by simp only [World.frozen?, h.blk]; simp
/-- Behind the two stores: the heap with its longer row, one more pushed. -/
theorem Longer.mem (h : Longer W w1 T E k p f v n xs c g cap) (d : Int) : HeapMem ((w1.setCell ⟨p, 1, none⟩ (.slice (some ⟨g, 0, none⟩) n cap)).setCell ⟨p, 2, none⟩ (.int .i64 d)) T E k p f (.slice (some ⟨g, 0, none⟩) n cap) n xs d :=
  (HeapMem.rowed h.blk h.row (fun e => h.apart (by simpa [Value.ownBlock] using e))).count d

theorem step_push {P : Program} {ops : Array Oper} {o : Oper} {a : Act} {w W : World} {K : Act → World → Prop} {Q : Exit → Act → World → Prop} {F : Prop}
    (hg : o.guard = none) (s x : Operand) (t : TypeId) (hop : o.op = Op.call { callee := Callee.builtin Builtin.append, args := #[s, x], argTypes := #[t, t] })
    (T E : TypeId) (i : TypeInfo) (z : Value) (k bytes : Nat) (h1 : P.underlying t = some (.slice E)) (h2 : P.info? E = some i) (h3 : i.zero = some z) (h4 : i.size = k) (h5 : i.bytes = bytes) (h6 : z.cells.size = k) (h7 : 0 < k)
    (p n : Nat) (f v : Value) (xs : List Value) (c : Int) (h : HeapMem w T E k p f v n xs c) (hb : RowKit.Below w.heap.size w W) (hs : a.eval s = v)
    (ad : Addr) (cp : Nat) (news : List Value) (hx : a.eval x = .slice (some ad) 1 cp) (hn : news.length = k) (hc : ∀ j u, news[j]? = some u → W.cell? (ad.add j) = some u) (h1c : ∀ u ∈ news, u.oneCell' = true)
    (b1 : n + 1 ≤ maxLen) (b2 : (n + 1) * bytes ≤ 140737488355328)
    (hK : ∀ g cap w1, Longer W w1 T E k p f v (n + 1) (xs ++ news) c g cap → K (a.put o.dst (.slice (some ⟨g, 0, none⟩) (n + 1) cap)) w1) :
    if Region.wanted o (yielded ops a.tmps) = true then Oper.wp P o a W K Q else F := by
  have H := h.below hb
  refine step_append_fresh hg s x t hop 0 E i z k bytes h1 h2 h3 h4 h5 h6 h7 v n xs hs H.row ad 1 cp news hx (by rw [hn, Nat.one_mul]) hc h1c b1 b2 (Nat.zero_le _) fun v' w1 hown hgrow hfr => ?_
  obtain ⟨g, cap, rfl, _, hgs, _⟩ := ownsRow_form hown (by omega)
  have hf := hfr g rfl
  refine hK g cap w1 ⟨(hgrow.block p H.lt (fun e => h.apart e.symm)).trans H.blk, hown, hgrow, fun e => ?_, hf⟩
  subst e
  rcases hf with hf | hf
  · exact h.apart hf
  · have := H.lt; omega
end Go.Proofs.Ytkgknbjcllcndaa
