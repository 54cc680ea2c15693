/-
  HeapMerges: the closures, lists that grow, where both heaps and both lists stand. Conditions: none.
-/
import Derived.Test.YtlhmlejkfgejiaaMerge
import Derived.Test.YtlhmlejkfgejiaaStabE
namespace Go.Proofs.Ytlhmlejkfgejiaa
open Go.RowKit Go.Proofs.Ytlhmlejkfgejiaa.HeapM Go.Proofs.Ytlhmlejkfgejiaa.StabM Go.Proofs.Ytlhmlejkfgejiaa.Stab

theorem cmp1 : CmpAt 27 := by
  refine ⟨enters_of Try.func27 (by kernel_rfl) rfl, fun W x y hx hy => ?_⟩
  obtain ⟨x1, x2⟩ := hx
  obtain ⟨y1, y2⟩ := hy
  go_enter Try.func27, Try.ntmps27
  go_wp2
  go_ret
  exact ⟨rfl, by go_grown⟩
theorem cmp2 : CmpAt 28 := by
  refine ⟨enters_of Try.func28 (by kernel_rfl) rfl, fun W x y hx hy => ?_⟩
  obtain ⟨x1, x2⟩ := hx
  obtain ⟨y1, y2⟩ := hy
  go_enter Try.func28, Try.ntmps28
  go_wp2
  go_ret
  exact ⟨rfl, by go_grown⟩

/-- A list whose keys are small, what stands beside them from z on and rising. -/
structure Good (z : Int) (L : List Pr) : Prop where
  bd : Bd L
  pc : PC L
  lo : ∀ x ∈ L, z ≤ x.2
  hi : ∀ x ∈ L, x.2 < z + L.length
theorem Good.nil (z : Int) : Good z [] := ⟨fun _ h => (by cases h), List.Pairwise.nil, fun _ h => (by cases h), fun _ h => (by cases h)⟩
theorem Good.snoc {z : Int} {L : List Pr} (h : Good z L) (k : Int) (h1 : -1000 ≤ k) (h2 : k ≤ 1000) : Good z (L ++ [(k, z + L.length)]) := by
  refine ⟨fun x hx => ?_, ?_, fun x hx => ?_, fun x hx => ?_⟩
  · rcases List.mem_append.1 hx with hx | hx
    · exact h.bd x hx
    · simp at hx; subst hx; exact ⟨h1, h2⟩
  · unfold PC
    rw [List.pairwise_append]
    refine ⟨h.pc, List.pairwise_singleton _ _, fun x hx y hy => ?_⟩
    simp at hy
    subst hy
    intro _
    exact h.hi x hx
  · rcases List.mem_append.1 hx with hx | hx
    · exact h.lo x hx
    · simp at hx; subst hx; show z ≤ z + L.length; omega
  · rcases List.mem_append.1 hx with hx | hx
    · have := h.hi x hx; simp; omega
    · simp at hx; subst hx; simp; omega
theorem pc_app {L M : List Pr} (h1 : PC L) (h2 : PC M) (h : ∀ x ∈ L, ∀ y ∈ M, x.2 < y.2) : PC (L ++ M) := by
  unfold PC
  rw [List.pairwise_append]
  exact ⟨h1, h2, fun x hx y hy _ => h x hx y hy⟩

/-- Where the two heaps and the two lists stand. -/
structure Four (w0 wr : World) (p : Nat) (v : Value) (q : Nat) (v2 : Value) (L L2 : List Pr) (c c2 : Int) (l m : Value) (K M : List Pr) : Prop where
  i1 : HO.Is ltO 8 p wr v L c
  i2 : HO.Is ltO 8 q wr v2 L2 c2
  dis : ∀ b, HO.Foot p v b → ¬ HO.Foot q v2 b
  m1 : Mine w0.heap.size w0 wr p v
  m2 : Mine w0.heap.size w0 wr q v2
  rl : OwnL wr w0.heap.size l K
  rm : OwnL wr w0.heap.size m M
  ne : ∀ b, l.ownBlock = some b → m.ownBlock ≠ some b
section
variable {w0 wr w' : World} {p q : Nat} {v v2 l m : Value} {L L2 K M : List Pr} {c c2 : Int}
theorem Four.below (h : Four w0 wr p v q v2 L L2 c c2 l m K M) (o : Below wr.heap.size wr w') : Four w0 w' p v q v2 L L2 c c2 l m K M :=
  ⟨h.i1.below o, h.i2.below o, h.dis, h.m1.quiet o, h.m2.quiet o, h.rl.below o, h.rm.below o, h.ne⟩
theorem OwnL.outf {fn p : Nat} {lt : Pr → Pr → Bool} {B : Nat} {lv : Value} (h : OwnL wr B lv K) (i : HO.Is lt fn p wr v L c) (o : Out (HO.Foot p v) wr w') : OwnL w' B lv K :=
  ownsRow_out h o (fun b hb hf => foot_ne i h b hf hb)
/-- One pushed to the first. -/
theorem Four.push1 {v3 : Value} {x : Pr} (h : Four w0 wr p v q v2 L L2 c c2 l m K M) (i3 : HO.Is ltO 8 p w' v3 (L ++ [x]) (c + 1)) (o3 : Out (HO.Foot p v) wr w') (f3 : ∀ b, v3.ownBlock = some b → v.ownBlock = some b ∨ wr.heap.size ≤ b) :
    Four w0 w' p v3 q v2 (L ++ [x]) L2 (c + 1) c2 l m K M := by
  refine ⟨i3, h.i2.out o3 (fun b hb e => h.dis b e hb), fun b hb hq => ?_, h.m1.step o3 f3, h.m2.other o3 (fun b _ e => ?_), h.rl.outf h.i1 o3, h.rm.outf h.i1 o3, h.ne⟩
  · rcases hb with hb | hb
    · exact h.dis b (Or.inl hb) hq
    · rcases f3 b hb with e | e
      · exact h.dis b (Or.inr e) hq
      · have := h.i2.foot b hq; omega
  · rcases e with rfl | e
    · exact h.m1.p
    · exact h.m1.v b e
/-- One pushed to the second. -/
theorem Four.push2 {v3 : Value} {x : Pr} (h : Four w0 wr p v q v2 L L2 c c2 l m K M) (i3 : HO.Is ltO 8 q w' v3 (L2 ++ [x]) (c2 + 1)) (o3 : Out (HO.Foot q v2) wr w') (f3 : ∀ b, v3.ownBlock = some b → v2.ownBlock = some b ∨ wr.heap.size ≤ b) :
    Four w0 w' p v q v3 L (L2 ++ [x]) c (c2 + 1) l m K M := by
  refine ⟨h.i1.out o3 (fun b hb e => h.dis b hb e), i3, fun b hb hq => ?_, h.m1.other o3 (fun b _ e => ?_), h.m2.step o3 f3, h.rl.outf h.i2 o3, h.rm.outf h.i2 o3, h.ne⟩
  · rcases hq with hq | hq
    · exact h.dis b hb (Or.inl hq)
    · rcases f3 b hq with e | e
      · exact h.dis b hb (Or.inr e)
      · have := h.i1.foot b hb; omega
  · rcases e with rfl | e
    · exact h.m2.p
    · exact h.m2.v b e
/-- The first list has another row. -/
theorem Four.list1 {l' : Value} {K' : List Pr} (h : Four w0 wr p v q v2 L L2 c c2 l m K M) (o : Out (fun b => l.ownBlock = some b) wr w') (r : OwnL w' w0.heap.size l' K') (hf : ∀ b, l'.ownBlock = some b → l.ownBlock = some b ∨ wr.heap.size ≤ b) :
    Four w0 w' p v q v2 L L2 c c2 l' m K' M := by
  refine ⟨h.i1.out o (foot_ne h.i1 h.rl), h.i2.out o (foot_ne h.i2 h.rl), h.dis, h.m1.other o (fun b _ hb => (h.rl.lt b hb).1), h.m2.other o (fun b _ hb => (h.rl.lt b hb).1), r, ownsRow_out h.rm o (fun b hb e => h.ne b e hb), fun b hb e => ?_⟩
  rcases hf b hb with e1 | e1
  · exact h.ne b e1 e
  · have := (h.rm.lt b e).2; omega
theorem Four.list2 {m' : Value} {M' : List Pr} (h : Four w0 wr p v q v2 L L2 c c2 l m K M) (o : Out (fun b => m.ownBlock = some b) wr w') (r : OwnL w' w0.heap.size m' M') (hf : ∀ b, m'.ownBlock = some b → m.ownBlock = some b ∨ wr.heap.size ≤ b) :
    Four w0 w' p v q v2 L L2 c c2 l m' K M' := by
  refine ⟨h.i1.out o (foot_ne h.i1 h.rm), h.i2.out o (foot_ne h.i2 h.rm), h.dis, h.m1.other o (fun b _ hb => (h.rm.lt b hb).1), h.m2.other o (fun b _ hb => (h.rm.lt b hb).1), ownsRow_out h.rl o (fun b hb e => h.ne b hb e), r, fun b hb e => ?_⟩
  rcases hf b e with e1 | e1
  · exact h.ne b hb e1
  · have := (h.rl.lt b hb).2; omega
/-- The second heap merged into the first. -/
theorem Four.merged {S : List Pr} {va vb : Value} (h : Four w0 wr p v q v2 L L2 c c2 l m K M) (t : Two wr w' p v q v2 L c L2 c2 S [] va vb) : Four w0 w' p va q vb (L ++ S) [] (c + S.length) c2 l m K M := by
  have hB : ∀ b, HO.Foot p v b ∨ HO.Foot q v2 b → w0.heap.size ≤ b := by
    rintro b ((rfl | e) | (rfl | e))
    · exact h.m1.p
    · exact h.m1.v b e
    · exact h.m2.p
    · exact h.m2.v b e
  have hs := h.m1.below.size
  refine ⟨t.i1, t.i2, t.dis, ⟨h.m1.le, h.m1.below.trans (t.out.below hs (fun b _ e => hB b e)), h.m1.p, fun b hb => ?_⟩, ⟨h.m1.le, h.m1.below.trans (t.out.below hs (fun b _ e => hB b e)), h.m2.p, fun b hb => ?_⟩, ?_, ?_, h.ne⟩
  · rcases t.fa b (Or.inr hb) with e | e
    · exact hB b (Or.inl e)
    · omega
  · rcases t.fb b (Or.inr hb) with e | e
    · exact hB b (Or.inr e)
    · omega
  · exact ownsRow_out h.rl t.out (fun b hb e => by rcases e with e | e; exact foot_ne h.i1 h.rl b e hb; exact foot_ne h.i2 h.rl b e hb)
  · exact ownsRow_out h.rm t.out (fun b hb e => by rcases e with e | e; exact foot_ne h.i1 h.rm b e hb; exact foot_ne h.i2 h.rm b e hb)
end
end Go.Proofs.Ytlhmlejkfgejiaa
