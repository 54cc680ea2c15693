/-
  What the reference's box answers: a box's cells and ends. Conditions: at most 10000 cells; the edges lie below the base.
-/
import Derived.Test.YtecifgaekefkpaaDoorNmB
import Derived.Test.YtecifgaekefkpaaDoorNzPa
import Derived.Test.YtecifgaekefkpaaDoorNmS
import Derived.Test.YtecifgaekefkpaaDoorNzRb
import Derived.BigRegion
namespace Go.Proofs.YtecifgaekefkpaaDoor
open Go.RowKit Go.Proofs.YtecifgaekefkpaaDoor.LexM Go.Proofs.YtecifgaekefkpaaDoor.ParM Go.Proofs.YtecifgaekefkpaaDoor.GrM Go.Proofs.YtecifgaekefkpaaDoor.NmM

/-- The norm under way: its cells, in a row of the call's own, its ends, two a edge. -/
structure NmAt (w : World) (B : Nat) (cv ev : Value) (s : NSt) (m : Nat) : Prop where
  cel : OwnG w B cv s.L s.n
  ends : w.ownsRow B 72 2 ev m (s.en.map intV)
theorem NmAt.below {w w' : World} {B C m : Nat} {cv ev : Value} {s : NSt} (h : NmAt w B cv ev s m) (b : Below C w w') (hC : w.heap.size ≤ C) : NmAt w' B cv ev s m :=
  ⟨h.cel.below b hC, ownsRow_out (S := fun _ => False) h.ends (Out.ofBelow (b.mono hC)) (fun _ _ e => e)⟩
/-- A norm in a box of its own. -/
def NmB (w : World) (xb : Nat) (cv fv ev wv : Value) : Prop := w.heap[xb]? = some (.cells #[cv, fv, ev, wv] 43 (0, 0))
theorem NmB.lt {w : World} {xb : Nat} {cv fv ev wv : Value} (h : NmB w xb cv fv ev wv) : xb < w.heap.size := (Array.getElem?_eq_some_iff.1 h).1
theorem NmB.at_ {w : World} {xb : Nat} {cv fv ev wv : Value} (h : NmB w xb cv fv ev wv) : w.cell? ⟨xb, 0, none⟩ = some cv ∧ w.cell? ⟨xb, 1, none⟩ = some fv ∧ w.cell? ⟨xb, 2, none⟩ = some ev ∧ w.cell? ⟨xb, 3, none⟩ = some wv := by
  unfold NmB at h
  exact ⟨by simp [World.cell?, h], by simp [World.cell?, h], by simp [World.cell?, h], by simp [World.cell?, h]⟩
theorem NmB.fr {w : World} {xb : Nat} {cv fv ev wv : Value} (h : NmB w xb cv fv ev wv) (j : Nat) : w.frozen? ⟨xb, j, none⟩ = false := by
  unfold NmB at h
  simp only [World.frozen?, h]
  simp
theorem NmB.below {w w' : World} {xb C : Nat} {cv fv ev wv : Value} (h : NmB w xb cv fv ev wv) (b : Below C w w') (hC : w.heap.size ≤ C) : NmB w' xb cv fv ev wv := (b.block _ (Nat.lt_of_lt_of_le h.lt hC)).trans h
theorem NmB.set0 {w : World} {xb : Nat} {cv fv ev wv : Value} (h : NmB w xb cv fv ev wv) (u : Value) : NmB (w.setCell ⟨xb, 0, none⟩ u) xb u fv ev wv := by
  unfold NmB at h ⊢
  rw [heap_setCell_at h]; rfl
theorem ownG_rebase {w : World} {B n : Nat} {v : Value} {L : List Int} (h : OwnG w 0 v L n) (hb : ∀ b, v.ownBlock = some b → B ≤ b) : OwnG w B v L n := by
  refine ⟨h.1, ?_⟩
  rcases h.2 with q | ⟨g, cap, cur, hv, _, r⟩
  · exact Or.inl q
  · exact Or.inr ⟨g, cap, cur, hv, hb g (by rw [hv]; rfl), r⟩
theorem cellT_n : 43 ≠ 51 := by decide
theorem endT_n : 43 ≠ 72 := by decide
theorem cellT_e : 72 ≠ 51 := by decide
theorem intT_n : 43 ≠ 3 := by decide
theorem intT_c : 3 ≠ 51 := by decide
theorem intT_e : 3 ≠ 72 := by decide
theorem ne_nm {w : World} {B k n xb : Nat} {e : TypeId} {v : Value} {xs : List Value} {cv fv ev wv : Value} (h : w.ownsRow B e k v n xs) (hx : NmB w xb cv fv ev wv) (hT : 43 ≠ e) : v.ownBlock ≠ some xb := own_kind h hx hT
theorem shapeT_c : 29 ≠ 51 := by decide
theorem shapeT_e : 29 ≠ 72 := by decide
/-- What is true of memory while a box's cells are laid. -/
structure BxS (S0 : Nat → Prop) (B xb sb rb m : Nat) (fv ev wv bv edv : Value) (w wr : World) (cb cv : Value) (s : NSt) : Prop where
  nm : NmAt wr B cv ev s m
  bx : NmB wr xb cb fv ev wv
  sh : ShB wr sb bv edv
  rs : NmB wr rb (.slice none 0 0) (.slice none 0 0) (.slice none 0 0) (.slice none 0 0)
  bel : Below B w wr
  out : Out S0 w wr
  cS : ∀ b, cv.ownBlock = some b → S0 b ∨ w.heap.size ≤ b
  eS : ∀ b, ev.ownBlock = some b → S0 b
section
variable {S0 : Nat → Prop} {B xb sb rb m : Nat} {fv ev wv bv edv : Value} {w wr w' : World} {cb cv : Value} {s s' : NSt}
theorem BxS.below (h : BxS S0 B xb sb rb m fv ev wv bv edv w wr cb cv s) (hB : B ≤ wr.heap.size) (b : Below wr.heap.size wr w') : BxS S0 B xb sb rb m fv ev wv bv edv w w' cb cv s :=
  ⟨h.nm.below b (Nat.le_refl _), h.bx.below b (Nat.le_refl _), h.sh.below b (Nat.le_refl _), h.rs.below b (Nat.le_refl _), h.bel.trans (b.mono hB), h.out.trans (Out.ofBelow (S := fun _ => False) b) (fun _ _ e => e.elim), h.cS, h.eS⟩
/-- The row of cells grown. -/
theorem BxS.grown {v5 : Value} (h : BxS S0 B xb sb rb m fv ev wv bv edv w wr cb cv s) (hB : B ≤ wr.heap.size) (hg : wr.grownBy w' cv.ownBlock) (hfr : ∀ b, v5.ownBlock = some b → cv.ownBlock = some b ∨ wr.heap.size ≤ b) (ho : OwnG w' B v5 s'.L s'.n) (he : s'.en = s.en) : BxS S0 B xb sb rb m fv ev wv bv edv w w' cb v5 s' := by
  have keep : ∀ (p : Nat) (cur : Array Value) (T : TypeId) (fz : Nat × Nat), wr.heap[p]? = some (Obj.cells cur T fz) → T ≠ 51 → w'.heap[p]? = wr.heap[p]? := fun p cur T fz hp hT =>
    hg.block p (Array.getElem?_eq_some_iff.1 hp).1 (fun e => own_kind h.nm.cel hp hT e.symm)
  refine ⟨⟨ho, ?_⟩, (keep _ _ _ _ h.bx cellT_n).trans h.bx, (keep _ _ _ _ h.sh shapeT_c).trans h.sh, (keep _ _ _ _ h.rs cellT_n).trans h.rs, h.bel.grown hg hB (fun q hq => (World.ownsRow.lt h.nm.cel q hq).1), h.out.grown hg (fun k hk e => by rcases h.cS k e with h1 | h1; exact h1; omega), fun b hb => by have hs := h.out.size; rcases hfr b hb with h1 | h1; exact h.cS b h1; exact Or.inr (by omega), h.eS⟩
  rw [he]
  refine ownsRow_block h.nm.ends (fun q hq => ?_)
  rcases h.nm.ends.2 with ⟨rfl, _⟩ | ⟨g, c1, c2, rfl, _, hgk, _⟩
  · cases hq
  · have : g = q := by simpa [Value.ownBlock] using hq
    subst this
    exact keep _ _ _ _ hgk cellT_e
/-- The box holds the row. -/
theorem BxS.held (h : BxS S0 B xb sb rb m fv ev wv bv edv w wr cb cv s) (hx : B ≤ xb) (hx2 : w.heap.size ≤ xb) (h1 : xb ≠ sb) (h2 : xb ≠ rb) : BxS S0 B xb sb rb m fv ev wv bv edv w (wr.setCell ⟨xb, 0, none⟩ cv) cv cv s := by
  have other : ∀ q, q ≠ xb → (wr.setCell ⟨xb, 0, none⟩ cv).heap[q]? = wr.heap[q]? := fun q hq => Below.heap_setCell _ _ _ _ hq
  refine ⟨⟨ownsRow_setCell_other h.nm.cel (ne_nm h.nm.cel h.bx cellT_n) _, ownsRow_setCell_other h.nm.ends (ne_nm h.nm.ends h.bx endT_n) _⟩, h.bx.set0 _, (other _ (fun e => h1 e.symm)).trans h.sh, (other _ (fun e => h2 e.symm)).trans h.rs, h.bel.setCell (p := ⟨xb, 0, none⟩) hx _, h.out.setCell (p := ⟨xb, 0, none⟩) (fun e => by change xb < _ at e; omega) _, h.cS, h.eS⟩
theorem BxS.foot (h : BxS S0 B xb sb rb m fv ev wv bv edv w wr cb cv s) {g ce : Nat} (e : ev = .slice (some ⟨g, 0, none⟩) m ce) : B ≤ g ∧ g < wr.heap.size ∧ g ≠ xb ∧ g ≠ sb ∧ g ≠ rb ∧ cv.ownBlock ≠ some g := by
  have ho : ev.ownBlock = some g := by rw [e]; rfl
  have hl := World.ownsRow.lt h.nm.ends g ho
  refine ⟨hl.1, hl.2, fun q => ?_, fun q => ?_, fun q => ?_, fun q => ?_⟩
  · subst q; exact ne_nm h.nm.ends h.bx endT_n ho
  · subst q; exact own_kind h.nm.ends h.sh shapeT_e ho
  · subst q; exact ne_nm h.nm.ends h.rs endT_n ho
  · rcases h.nm.ends.2 with ⟨q2, _⟩ | ⟨g', c1, c2, hv, _, hgk, _⟩
    · rw [q2] at ho; cases ho
    · have hg' : g' = g := by rw [hv] at ho; simpa [Value.ownBlock] using ho
      subst hg'
      exact own_kind h.nm.cel hgk cellT_e q
/-- An end told where it stands. -/
theorem BxS.told (h : BxS S0 B xb sb rb m fv ev wv bv edv w wr cb cv s) {g ce : Nat} (e : ev = .slice (some ⟨g, 0, none⟩) m ce) (j : Nat) (x : Int) :
    BxS S0 B xb sb rb m fv ev wv bv edv w (wr.setCell ⟨g, j, none⟩ (.int .i64 x)) cb cv { s with en := s.en.set j x } := by
  obtain ⟨h1, h2, h3, h4, h5, h6⟩ := h.foot e
  have other : ∀ q, q ≠ g → (wr.setCell ⟨g, j, none⟩ (.int .i64 x)).heap[q]? = wr.heap[q]? := fun q hq => Below.heap_setCell _ _ _ _ hq
  have he := h.nm.ends
  rw [e] at he
  have hs := (World.ownsRow.stored he j (.int .i64 x)).1
  refine ⟨⟨ownsRow_setCell_other h.nm.cel h6 _, ?_⟩, (other _ (fun q => h3 q.symm)).trans h.bx, (other _ (fun q => h4 q.symm)).trans h.sh, (other _ (fun q => h5 q.symm)).trans h.rs, h.bel.setCell (p := ⟨g, j, none⟩) h1 _, h.out.setCell (p := ⟨g, j, none⟩) (fun _ => h.eS g (by rw [e]; rfl)) _, h.cS, h.eS⟩
  show (wr.setCell ⟨g, j, none⟩ (.int .i64 x)).ownsRow B 72 2 ev m ((s.en.set j x).map intV)
  rw [e, List.map_set]
  exact hs
/-- Two cells joined: another row. -/
theorem BxS.joined {v2 : Value} {M : List Int} (h : BxS S0 B xb sb rb m fv ev wv bv edv w wr cb cv s) (hB : B ≤ wr.heap.size) (r : LstR cv M s.n wr v2 w') : BxS S0 B xb sb rb m fv ev wv bv edv w w' cb v2 { s with L := M } := by
  obtain ⟨r1, r2, r3⟩ := r
  have hb := h.below hB r3
  refine ⟨⟨ownG_rebase r1 (fun b e => ?_), hb.nm.ends⟩, hb.bx, hb.sh, hb.rs, hb.bel, hb.out, fun b e => ?_, h.eS⟩
  · rcases r2 b e with q | q
    · exact (World.ownsRow.lt h.nm.cel b q).1
    · omega
  · have hs := h.out.size
    rcases r2 b e with q | q
    · exact h.cS b q
    · exact Or.inr (by omega)
end
/-- A row of ints beside it. -/
theorem OwnZ.held {w : World} {C n xb : Nat} {v : Value} {x : List Int} {cv fv ev wv : Value} (h : OwnZ w C v x n) (hx : NmB w xb cv fv ev wv) (u : Value) : OwnZ (w.setCell ⟨xb, 0, none⟩ u) C v x n :=
  ⟨h.1, ownsRow_setCell_other h.2 (ne_nm h.2 hx intT_n) _⟩
theorem OwnZ.past {w w' : World} {C B n k : Nat} {v cv : Value} {x : List Int} {L : List Int} (h : OwnZ w C v x n) (hc : OwnG w B cv L k) (hg : w.grownBy w' cv.ownBlock) : OwnZ w' C v x n := by
  refine ⟨h.1, ownsRow_block h.2 (fun q hq => ?_)⟩
  rcases h.2.2 with ⟨q2, _⟩ | ⟨g, c1, c2, hv, _, hgk, _⟩
  · rw [q2] at hq; cases hq
  · have hg' : g = q := by rw [hv] at hq; simpa [Value.ownBlock] using hq
    subst hg'
    exact hg.block g (Array.getElem?_eq_some_iff.1 hgk).1 (fun e => own_kind hc hgk intT_c e.symm)
theorem OwnZ.told {w : World} {C B n m g : Nat} {v ev : Value} {x : List Int} {y : List Value} (h : OwnZ w C v x n) (he : w.ownsRow B 72 2 ev m y) (e : ev.ownBlock = some g) (j : Nat) (u : Value) : OwnZ (w.setCell ⟨g, j, none⟩ u) C v x n := by
  refine ⟨h.1, ownsRow_setCell_other h.2 (fun q => ?_) _⟩
  rcases h.2.2 with ⟨q2, _⟩ | ⟨g', c1, c2, hv, _, hgk, _⟩
  · rw [q2] at q; cases q
  · have hg' : g' = g := by rw [hv] at q; simpa [Value.ownBlock] using q
    subst hg'
    exact own_kind he hgk intT_e e
end Go.Proofs.YtecifgaekefkpaaDoor
