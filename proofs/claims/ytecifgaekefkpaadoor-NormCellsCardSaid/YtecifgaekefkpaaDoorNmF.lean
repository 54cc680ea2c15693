/-
  What is true of memory while the reference's Of makes a norm. Conditions: none.
-/
import Derived.Test.YtecifgaekefkpaaDoorNmE
namespace Go.Proofs.YtecifgaekefkpaaDoor
open Go.RowKit Go.Proofs.YtecifgaekefkpaaDoor.LexM Go.Proofs.YtecifgaekefkpaaDoor.ParM Go.Proofs.YtecifgaekefkpaaDoor.GrM Go.Proofs.YtecifgaekefkpaaDoor.NmM

/-- Rows of different kinds never share a block. -/
theorem rowne {w : World} {B1 B2 k1 k2 n1 n2 : Nat} {e1 e2 : TypeId} {v1 v2 : Value} {x1 x2 : List Value} (h1 : w.ownsRow B1 e1 k1 v1 n1 x1) (h2 : w.ownsRow B2 e2 k2 v2 n2 x2) (hT : e1 ≠ e2) {b : Nat} (hb : v1.ownBlock = some b) : v2.ownBlock ≠ some b := by
  rcases h1.2 with ⟨q, _⟩ | ⟨g, c1, c2, hv, _, hgk, _⟩
  · rw [q] at hb; cases hb
  · have hg' : g = b := by rw [hv] at hb; simpa [Value.ownBlock] using hb
    subst hg'
    exact own_kind h2 hgk hT
theorem rsT_c : 32 ≠ 51 := by decide
theorem rsT_e : 32 ≠ 72 := by decide
theorem rsT_z : 32 ≠ 3 := by decide
theorem nmT_r : 43 ≠ 32 := by decide
/-- The reference's norm under way. -/
structure OfS (B nb m : Nat) (w1 wr : World) (c0 f0 w0 cv fv ev wv : Value) (s : NSt) (F : List Int) (k : Nat) (V : Nat → Value) (W : Nat → List Int) (i : Nat) : Prop where
  nm : NmAt wr B cv ev s m
  fst : OwnZ wr B fv F k
  out : wr.ownsRow B 32 1 wv i ((List.range i).map V)
  row : ∀ j, j < i → OwnZ wr B (V j) (W j) (W j).length
  bx : NmB wr nb c0 f0 ev w0
  bel : Below B w1 wr
section
variable {B nb m : Nat} {w1 wr w' : World} {c0 f0 w0 cv fv ev wv : Value} {s s' : NSt} {F : List Int} {k : Nat} {V : Nat → Value} {W : Nat → List Int} {i : Nat}
theorem OfS.below (h : OfS B nb m w1 wr c0 f0 w0 cv fv ev wv s F k V W i) (hB : B ≤ wr.heap.size) (b : Below wr.heap.size wr w') : OfS B nb m w1 w' c0 f0 w0 cv fv ev wv s F k V W i :=
  ⟨h.nm.below b (Nat.le_refl _), h.fst.below b (Nat.le_refl _), ownsRow_out (S := fun _ => False) h.out (Out.ofBelow b) (fun _ _ e => e), fun j hj => (h.row j hj).below b (Nat.le_refl _), h.bx.below b (Nat.le_refl _), h.bel.trans (b.mono hB)⟩
/-- What turns the cells' or the ends' row alone. -/
theorem OfS.past (h : OfS B nb m w1 wr c0 f0 w0 cv fv ev wv s F k V W i) (hB : B ≤ wr.heap.size) {cv' : Value} {S : Nat → Prop} (o : Out S wr w') (hS : ∀ b, S b → cv.ownBlock = some b ∨ ev.ownBlock = some b) (hn : NmAt w' B cv' ev s' m) : OfS B nb m w1 w' c0 f0 w0 cv' fv ev wv s' F k V W i := by
  have nz : ∀ {v : Value} {x : List Int} {n : Nat}, OwnZ wr B v x n → OwnZ w' B v x n := fun hz => ⟨hz.1, ownsRow_out hz.2 o (fun b hb e => by
    rcases hS b e with e | e
    · exact rowne hz.2 h.nm.cel intT_c hb e
    · exact rowne hz.2 h.nm.ends intT_e hb e)⟩
  refine ⟨hn, nz h.fst, ownsRow_out h.out o (fun b hb e => ?_), fun j hj => nz (h.row j hj), ?_, h.bel.trans (o.below hB (fun b _ e => ?_))⟩
  · rcases hS b e with e | e
    · exact rowne h.out h.nm.cel rsT_c hb e
    · exact rowne h.out h.nm.ends rsT_e hb e
  · exact (o.block nb h.bx.lt (fun e => by
      rcases hS nb e with e | e
      · exact ne_nm h.nm.cel h.bx cellT_n e
      · exact ne_nm h.nm.ends h.bx endT_n e)).trans h.bx
  · rcases hS b e with e | e
    · exact (World.ownsRow.lt h.nm.cel b e).1
    · exact (World.ownsRow.lt h.nm.ends b e).1
/-- What is told in the norm's own box. -/
theorem OfS.boxed (h : OfS B nb m w1 wr c0 f0 w0 cv fv ev wv s F k V W i) (hx : B ≤ nb) (j : Nat) (u : Value) {c1 f1 w2 : Value} (hj : (#[c0, f0, ev, w0] : Array Value).setIfInBounds j u = #[c1, f1, ev, w2]) : OfS B nb m w1 (wr.setCell ⟨nb, j, none⟩ u) c1 f1 w2 cv fv ev wv s F k V W i := by
  have nz : ∀ {v : Value} {x : List Int} {n : Nat}, OwnZ wr B v x n → OwnZ (wr.setCell ⟨nb, j, none⟩ u) B v x n := fun hz => ⟨hz.1, ownsRow_setCell_other hz.2 (ne_nm hz.2 h.bx intT_n) _⟩
  refine ⟨⟨ownsRow_setCell_other h.nm.cel (ne_nm h.nm.cel h.bx cellT_n) _, ownsRow_setCell_other h.nm.ends (ne_nm h.nm.ends h.bx endT_n) _⟩, nz h.fst, ownsRow_setCell_other h.out (ne_nm h.out h.bx nmT_r) _, fun q hq => nz (h.row q hq), ?_, h.bel.setCell (p := ⟨nb, j, none⟩) hx _⟩
  unfold NmB
  have e := h.bx
  unfold NmB at e
  rw [heap_setCell_at e, hj]
/-- The cells' row grown. -/
theorem OfS.grownC {v5 : Value} (h : OfS B nb m w1 wr c0 f0 w0 cv fv ev wv s F k V W i) (hB : B ≤ wr.heap.size) (hg : wr.grownBy w' cv.ownBlock) (ho : OwnG w' B v5 s'.L s'.n) (he : s'.en = s.en) : OfS B nb m w1 w' c0 f0 w0 v5 fv ev wv s' F k V W i := by
  have o : Out (fun b => cv.ownBlock = some b) wr w' := (Out.refl _ wr).grown hg (fun _ _ e => e)
  refine h.past hB o (fun b e => Or.inl e) ⟨ho, ?_⟩
  rw [he]
  exact ownsRow_out h.nm.ends o (fun b hb e => rowne h.nm.ends h.nm.cel cellT_e hb e)
/-- Two cells joined: another row. -/
theorem OfS.joined {v2 : Value} {M : List Int} (h : OfS B nb m w1 wr c0 f0 w0 cv fv ev wv s F k V W i) (hB : B ≤ wr.heap.size) (r : LstR cv M s.n wr v2 w') : OfS B nb m w1 w' c0 f0 w0 v2 fv ev wv { s with L := M } F k V W i := by
  obtain ⟨r1, r2, r3⟩ := r
  have hb := h.below hB r3
  refine ⟨⟨ownG_rebase r1 (fun b e => ?_), hb.nm.ends⟩, hb.fst, hb.out, hb.row, hb.bx, hb.bel⟩
  rcases r2 b e with q | q
  · exact (World.ownsRow.lt h.nm.cel b q).1
  · omega
/-- An end told where it stands. -/
theorem OfS.told {g ce : Nat} (h : OfS B nb m w1 wr c0 f0 w0 cv fv ev wv s F k V W i) (hB : B ≤ wr.heap.size) (e : ev = .slice (some ⟨g, 0, none⟩) m ce) (j : Nat) (x : Int) :
    OfS B nb m w1 (wr.setCell ⟨g, j, none⟩ (.int .i64 x)) c0 f0 w0 cv fv ev wv { s with en := s.en.set j x } F k V W i := by
  have hev : ev.ownBlock = some g := by rw [e]; rfl
  refine h.past hB (S := fun b => b = g) (Out.setCell (S := fun b => b = g) (Out.refl _ wr) (p := ⟨g, j, none⟩) (fun _ => rfl) _) (fun b hb => Or.inr (by rw [hb]; exact hev)) ⟨ownsRow_setCell_other h.nm.cel (rowne h.nm.ends h.nm.cel cellT_e hev) _, ?_⟩
  have he := h.nm.ends
  rw [e] at he
  show (wr.setCell ⟨g, j, none⟩ (.int .i64 x)).ownsRow B 72 2 ev m ((s.en.set j x).map intV)
  rw [e, List.map_set]
  exact (World.ownsRow.stored he j (.int .i64 x)).1
/-- A first cell more. -/
theorem OfS.grownF {v5 : Value} {x : Int} (h : OfS B nb m w1 wr c0 f0 w0 cv fv ev wv s F k V W 0) (hB : B ≤ wr.heap.size) (hg : wr.grownBy w' fv.ownBlock) (ho : OwnZ w' B v5 (F ++ [x]) (k + 1)) : OfS B nb m w1 w' c0 f0 w0 cv v5 ev wv s (F ++ [x]) (k + 1) V W 0 := by
  have o : Out (fun b => fv.ownBlock = some b) wr w' := (Out.refl _ wr).grown hg (fun _ _ e => e)
  refine ⟨⟨ownsRow_out h.nm.cel o (fun b hb e => rowne h.nm.cel h.fst.2 (fun q => intT_c q.symm) hb e), ownsRow_out h.nm.ends o (fun b hb e => rowne h.nm.ends h.fst.2 (fun q => intT_e q.symm) hb e)⟩, ho, ownsRow_out h.out o (fun b hb e => rowne h.out h.fst.2 rsT_z hb e), fun j hj => absurd hj (by omega), ?_, h.bel.trans (o.below hB (fun b _ e => (World.ownsRow.lt h.fst.2 b e).1))⟩
  exact (o.block nb h.bx.lt (fun e => ne_nm h.fst.2 h.bx intT_n e)).trans h.bx
/-- A way more. -/
theorem OfS.grownW {v5 : Value} (h : OfS B nb m w1 wr c0 f0 w0 cv fv ev wv s F k V W i) (hB : B ≤ wr.heap.size) (hg : wr.grownBy w' wv.ownBlock) (ho : w'.ownsRow B 32 1 v5 (i + 1) ((List.range (i + 1)).map V)) (hz : OwnZ wr B (V i) (W i) (W i).length) : OfS B nb m w1 w' c0 f0 w0 cv fv ev v5 s F k V W (i + 1) := by
  have o : Out (fun b => wv.ownBlock = some b) wr w' := (Out.refl _ wr).grown hg (fun _ _ e => e)
  have nz : ∀ {v : Value} {x : List Int} {q : Nat}, OwnZ wr B v x q → OwnZ w' B v x q := fun hy => ⟨hy.1, ownsRow_out hy.2 o (fun b hb e => rowne hy.2 h.out (fun q => rsT_z q.symm) hb e)⟩
  refine ⟨⟨ownsRow_out h.nm.cel o (fun b hb e => rowne h.nm.cel h.out (fun q => rsT_c q.symm) hb e), ownsRow_out h.nm.ends o (fun b hb e => rowne h.nm.ends h.out (fun q => rsT_e q.symm) hb e)⟩, nz h.fst, ho, fun j hj => ?_, ?_, h.bel.trans (o.below hB (fun b _ e => (World.ownsRow.lt h.out b e).1))⟩
  · by_cases e : j = i
    · subst e; exact nz hz
    · exact nz (h.row j (by omega))
  · exact (o.block nb h.bx.lt (fun e => ne_nm h.out h.bx nmT_r e)).trans h.bx
theorem OfS.swapV (h : OfS B nb m w1 wr c0 f0 w0 cv fv ev wv s F k V W i) {V' : Nat → Value} (hV : ∀ j, j < i → V' j = V j) : OfS B nb m w1 wr c0 f0 w0 cv fv ev wv s F k V' W i :=
  ⟨h.nm, h.fst, by rw [show (List.range i).map V' = (List.range i).map V from List.map_congr_left (fun j hj => hV j (List.mem_range.1 hj))]; exact h.out, fun j hj => by rw [hV j hj]; exact h.row j hj, h.bx, h.bel⟩
theorem NmAt.right {w : World} {B m : Nat} {cv ev : Value} {s : NSt} (h : NmAt w B cv ev s m) : RightN s (2 * m) := ⟨h.cel.len, by have := h.ends.1; rw [List.length_map] at this; omega⟩
/-- What turns a row of ints that is none of these. -/
theorem OfS.beside (h : OfS B nb m w1 wr c0 f0 w0 cv fv ev wv s F k V W i) (hB : B ≤ wr.heap.size) {C : Nat} (hC : B ≤ C) {zv : Value} {z : List Int} {n : Nat} (hz : OwnZ wr C zv z n) (hg : wr.grownBy w' zv.ownBlock) (hF : ∀ b, fv.ownBlock = some b → b < C) (hV : ∀ j, j < i → ∀ b, (V j).ownBlock = some b → b < C) :
    OfS B nb m w1 w' c0 f0 w0 cv fv ev wv s F k V W i := by
  have o : Out (fun b => zv.ownBlock = some b) wr w' := (Out.refl _ wr).grown hg (fun _ _ e => e)
  have nz : ∀ {v : Value} {x : List Int} {q : Nat}, OwnZ wr B v x q → (∀ b, v.ownBlock = some b → b < C) → OwnZ w' B v x q := fun hy hl => ⟨hy.1, ownsRow_out hy.2 o (fun b hb e => by have h1 := (World.ownsRow.lt hz.2 b e).1; have h2 := hl b hb; omega)⟩
  refine ⟨⟨ownsRow_out h.nm.cel o (fun b hb e => rowne h.nm.cel hz.2 (fun q => intT_c q.symm) hb e), ownsRow_out h.nm.ends o (fun b hb e => rowne h.nm.ends hz.2 (fun q => intT_e q.symm) hb e)⟩, nz h.fst hF, ownsRow_out h.out o (fun b hb e => rowne h.out hz.2 rsT_z hb e), fun j hj => nz (h.row j hj) (hV j hj), ?_, h.bel.trans (o.below hB (fun b _ e => by have h1 := (World.ownsRow.lt hz.2 b e).1; omega))⟩
  exact (o.block nb h.bx.lt (fun e => ne_nm hz.2 h.bx intT_n e)).trans h.bx
end
end Go.Proofs.YtecifgaekefkpaaDoor
