/-
  What the reference's box answers: a box's cells and ends. Conditions: at most 10000 cells; the edges lie below the base.
  What the reference's box answers: a box's cells and ends. Conditions: at most 9000 cells; the edges lie below the base.
  What is true of memory while the reference's Of makes a norm. Conditions: none.
  What the reference's Of answers. Conditions: a shape that may be written, at most 4096 cells.
-/
import Derived.Test.YtbdkkkpgjcfdgaaDoorVzN1
import Derived.Test.YtbdkkkpgjcfdgaaDoorNzPa
import Derived.Test.YtbdkkkpgjcfdgaaDoorNzRb
import Derived.BigRegion
import Derived.Test.YtbdkkkpgjcfdgaaDoorVzN2
import Derived.OrdersHeld
namespace Go.Proofs.YtbdkkkpgjcfdgaaDoor
open Go.RowKit Go.Proofs.YtbdkkkpgjcfdgaaDoor.LexM Go.Proofs.YtbdkkkpgjcfdgaaDoor.ParM Go.Proofs.YtbdkkkpgjcfdgaaDoor.GrM Go.Proofs.YtbdkkkpgjcfdgaaDoor.NmM

/-- The norm under way: its cells, in a row of the call's own, its ends, two a edge. -/
structure NmAt (w : World) (B : Nat) (cv ev : Value) (s : NSt) (m : Nat) : Prop where
  cel : OwnG w B cv s.L s.n
  ends : w.ownsRow B 83 2 ev m (s.en.map intV)
theorem NmAt.below {w w' : World} {B C m : Nat} {cv ev : Value} {s : NSt} (h : NmAt w B cv ev s m) (b : Below C w w') (hC : w.heap.size ≤ C) : NmAt w' B cv ev s m :=
  ⟨h.cel.below b hC, ownsRow_out (S := fun _ => False) h.ends (Out.ofBelow (b.mono hC)) (fun _ _ e => e)⟩
/-- A norm in a box of its own. -/
def NmB (w : World) (xb : Nat) (cv fv ev wv : Value) : Prop := w.heap[xb]? = some (.cells #[cv, fv, ev, wv] 45 (0, 0))
theorem NmB.lt {w : World} {xb : Nat} {cv fv ev wv : Value} (h : NmB w xb cv fv ev wv) : xb < w.heap.size := (Array.getElem?_eq_some_iff.1 h).1
theorem NmB.at_ {w : World} {xb : Nat} {cv fv ev wv : Value} (h : NmB w xb cv fv ev wv) : w.cell? ⟨xb, 0, none⟩ = some cv ∧ w.cell? ⟨xb, 1, none⟩ = some fv ∧ w.cell? ⟨xb, 2, none⟩ = some ev ∧ w.cell? ⟨xb, 3, none⟩ = some wv := by
  unfold NmB at h
  exact ⟨by simp [World.cell?, h], by simp [World.cell?, h], by simp [World.cell?, h], by simp [World.cell?, h]⟩
theorem NmB.fr {w : World} {xb : Nat} {cv fv ev wv : Value} (h : NmB w xb cv fv ev wv) (j : Nat) : w.frozen? ⟨xb, j, none⟩ = false := by
  unfold NmB at h
  simp only [World.frozen?, h]
  simp
theorem NmB.below {w w' : World} {xb C : Nat} {cv fv ev wv : Value} (h : NmB w xb cv fv ev wv) (b : Below C w w') (hC : w.heap.size ≤ C) : NmB w' xb cv fv ev wv := (b.block _ (Nat.lt_of_lt_of_le h.lt hC)).trans h
theorem NmB.set0 {w : World} {xb : Nat} {cv fv ev wv : Value} (h : NmB w xb cv fv ev wv) (u : Value) : NmB (w.setCell ⟨xb, 0, none⟩ u) xb u fv ev wv := by
  unfold NmB at h ⊢
  rw [heap_setCell_at h]; rfl
theorem ownG_rebase {w : World} {B n : Nat} {v : Value} {L : List Int} (h : OwnG w 0 v L n) (hb : ∀ b, v.ownBlock = some b → B ≤ b) : OwnG w B v L n := by
  refine ⟨h.1, ?_⟩
  rcases h.2 with q | ⟨g, cap, cur, hv, _, r⟩
  · exact Or.inl q
  · exact Or.inr ⟨g, cap, cur, hv, hb g (by rw [hv]; rfl), r⟩
theorem cellT_n : 45 ≠ 54 := by decide
theorem endT_n : 45 ≠ 83 := by decide
theorem cellT_e : 83 ≠ 54 := by decide
theorem intT_n : 45 ≠ 3 := by decide
theorem intT_c : 3 ≠ 54 := by decide
theorem intT_e : 3 ≠ 83 := by decide
theorem ne_nm {w : World} {B k n xb : Nat} {e : TypeId} {v : Value} {xs : List Value} {cv fv ev wv : Value} (h : w.ownsRow B e k v n xs) (hx : NmB w xb cv fv ev wv) (hT : 45 ≠ e) : v.ownBlock ≠ some xb := own_kind h hx hT
theorem shapeT_c : 36 ≠ 54 := by decide
theorem shapeT_e : 36 ≠ 83 := by decide
/-- What is true of memory while a box's cells are laid. -/
structure BxS (S0 : Nat → Prop) (B xb sb rb m : Nat) (fv ev wv bv edv : Value) (w wr : World) (cb cv : Value) (s : NSt) : Prop where
  nm : NmAt wr B cv ev s m
  bx : NmB wr xb cb fv ev wv
  sh : ShB wr sb bv edv
  rs : NmB wr rb (.slice none 0 0) (.slice none 0 0) (.slice none 0 0) (.slice none 0 0)
  bel : Below B w wr
  out : Out S0 w wr
  cS : ∀ b, cv.ownBlock = some b → S0 b ∨ w.heap.size ≤ b
  eS : ∀ b, ev.ownBlock = some b → S0 b
section
variable {S0 : Nat → Prop} {B xb sb rb m : Nat} {fv ev wv bv edv : Value} {w wr w' : World} {cb cv : Value} {s s' : NSt}
theorem BxS.below (h : BxS S0 B xb sb rb m fv ev wv bv edv w wr cb cv s) (hB : B ≤ wr.heap.size) (b : Below wr.heap.size wr w') : BxS S0 B xb sb rb m fv ev wv bv edv w w' cb cv s :=
  ⟨h.nm.below b (Nat.le_refl _), h.bx.below b (Nat.le_refl _), h.sh.below b (Nat.le_refl _), h.rs.below b (Nat.le_refl _), h.bel.trans (b.mono hB), h.out.trans (Out.ofBelow (S := fun _ => False) b) (fun _ _ e => e.elim), h.cS, h.eS⟩
/-- The row of cells grown. -/
theorem BxS.grown {v5 : Value} (h : BxS S0 B xb sb rb m fv ev wv bv edv w wr cb cv s) (hB : B ≤ wr.heap.size) (hg : wr.grownBy w' cv.ownBlock) (hfr : ∀ b, v5.ownBlock = some b → cv.ownBlock = some b ∨ wr.heap.size ≤ b) (ho : OwnG w' B v5 s'.L s'.n) (he : s'.en = s.en) : BxS S0 B xb sb rb m fv ev wv bv edv w w' cb v5 s' := by
  have keep : ∀ (p : Nat) (cur : Array Value) (T : TypeId) (fz : Nat × Nat), wr.heap[p]? = some (Obj.cells cur T fz) → T ≠ 54 → w'.heap[p]? = wr.heap[p]? := fun p cur T fz hp hT =>
    hg.block p (Array.getElem?_eq_some_iff.1 hp).1 (fun e => own_kind h.nm.cel hp hT e.symm)
  refine ⟨⟨ho, ?_⟩, (keep _ _ _ _ h.bx cellT_n).trans h.bx, (keep _ _ _ _ h.sh shapeT_c).trans h.sh, (keep _ _ _ _ h.rs cellT_n).trans h.rs, h.bel.grown hg hB (fun q hq => (World.ownsRow.lt h.nm.cel q hq).1), h.out.grown hg (fun k hk e => by rcases h.cS k e with h1 | h1; exact h1; omega), fun b hb => by have hs := h.out.size; rcases hfr b hb with h1 | h1; exact h.cS b h1; exact Or.inr (by omega), h.eS⟩
  rw [he]
  refine ownsRow_block h.nm.ends (fun q hq => ?_)
  rcases h.nm.ends.2 with ⟨rfl, _⟩ | ⟨g, c1, c2, rfl, _, hgk, _⟩
  · cases hq
  · have : g = q := by simpa [Value.ownBlock] using hq
    subst this
    exact keep _ _ _ _ hgk cellT_e
/-- The box holds the row. -/
theorem BxS.held (h : BxS S0 B xb sb rb m fv ev wv bv edv w wr cb cv s) (hx : B ≤ xb) (hx2 : w.heap.size ≤ xb) (h1 : xb ≠ sb) (h2 : xb ≠ rb) : BxS S0 B xb sb rb m fv ev wv bv edv w (wr.setCell ⟨xb, 0, none⟩ cv) cv cv s := by
  have other : ∀ q, q ≠ xb → (wr.setCell ⟨xb, 0, none⟩ cv).heap[q]? = wr.heap[q]? := fun q hq => Below.heap_setCell _ _ _ _ hq
  refine ⟨⟨ownsRow_setCell_other h.nm.cel (ne_nm h.nm.cel h.bx cellT_n) _, ownsRow_setCell_other h.nm.ends (ne_nm h.nm.ends h.bx endT_n) _⟩, h.bx.set0 _, (other _ (fun e => h1 e.symm)).trans h.sh, (other _ (fun e => h2 e.symm)).trans h.rs, h.bel.setCell (p := ⟨xb, 0, none⟩) hx _, h.out.setCell (p := ⟨xb, 0, none⟩) (fun e => by change xb < _ at e; omega) _, h.cS, h.eS⟩
theorem BxS.foot (h : BxS S0 B xb sb rb m fv ev wv bv edv w wr cb cv s) {g ce : Nat} (e : ev = .slice (some ⟨g, 0, none⟩) m ce) : B ≤ g ∧ g < wr.heap.size ∧ g ≠ xb ∧ g ≠ sb ∧ g ≠ rb ∧ cv.ownBlock ≠ some g := by
  have ho : ev.ownBlock = some g := by rw [e]; rfl
  have hl := World.ownsRow.lt h.nm.ends g ho
  refine ⟨hl.1, hl.2, fun q => ?_, fun q => ?_, fun q => ?_, fun q => ?_⟩
  · subst q; exact ne_nm h.nm.ends h.bx endT_n ho
  · subst q; exact own_kind h.nm.ends h.sh shapeT_e ho
  · subst q; exact ne_nm h.nm.ends h.rs endT_n ho
  · rcases h.nm.ends.2 with ⟨q2, _⟩ | ⟨g', c1, c2, hv, _, hgk, _⟩
    · rw [q2] at ho; cases ho
    · have hg' : g' = g := by rw [hv] at ho; simpa [Value.ownBlock] using ho
      subst hg'
      exact own_kind h.nm.cel hgk cellT_e q
/-- An end told where it stands. -/
theorem BxS.told (h : BxS S0 B xb sb rb m fv ev wv bv edv w wr cb cv s) {g ce : Nat} (e : ev = .slice (some ⟨g, 0, none⟩) m ce) (j : Nat) (x : Int) :
    BxS S0 B xb sb rb m fv ev wv bv edv w (wr.setCell ⟨g, j, none⟩ (.int .i64 x)) cb cv { s with en := s.en.set j x } := by
  obtain ⟨h1, h2, h3, h4, h5, h6⟩ := h.foot e
  have other : ∀ q, q ≠ g → (wr.setCell ⟨g, j, none⟩ (.int .i64 x)).heap[q]? = wr.heap[q]? := fun q hq => Below.heap_setCell _ _ _ _ hq
  have he := h.nm.ends
  rw [e] at he
  have hs := (World.ownsRow.stored he j (.int .i64 x)).1
  refine ⟨⟨ownsRow_setCell_other h.nm.cel h6 _, ?_⟩, (other _ (fun q => h3 q.symm)).trans h.bx, (other _ (fun q => h4 q.symm)).trans h.sh, (other _ (fun q => h5 q.symm)).trans h.rs, h.bel.setCell (p := ⟨g, j, none⟩) h1 _, h.out.setCell (p := ⟨g, j, none⟩) (fun _ => h.eS g (by rw [e]; rfl)) _, h.cS, h.eS⟩
  show (wr.setCell ⟨g, j, none⟩ (.int .i64 x)).ownsRow B 83 2 ev m ((s.en.set j x).map intV)
  rw [e, List.map_set]
  exact hs
/-- Two cells joined: another row. -/
theorem BxS.joined {v2 : Value} {M : List Int} (h : BxS S0 B xb sb rb m fv ev wv bv edv w wr cb cv s) (hB : B ≤ wr.heap.size) (r : LstR cv M s.n wr v2 w') : BxS S0 B xb sb rb m fv ev wv bv edv w w' cb v2 { s with L := M } := by
  obtain ⟨r1, r2, r3⟩ := r
  have hb := h.below hB r3
  refine ⟨⟨ownG_rebase r1 (fun b e => ?_), hb.nm.ends⟩, hb.bx, hb.sh, hb.rs, hb.bel, hb.out, fun b e => ?_, h.eS⟩
  · rcases r2 b e with q | q
    · exact (World.ownsRow.lt h.nm.cel b q).1
    · omega
  · have hs := h.out.size
    rcases r2 b e with q | q
    · exact h.cS b q
    · exact Or.inr (by omega)
end
/-- A row of ints beside it. -/
theorem OwnZn.held {w : World} {C n xb : Nat} {v : Value} {x : List Int} {cv fv ev wv : Value} (h : OwnZn w C v x n) (hx : NmB w xb cv fv ev wv) (u : Value) : OwnZn (w.setCell ⟨xb, 0, none⟩ u) C v x n :=
  ⟨h.1, ownsRow_setCell_other h.2 (ne_nm h.2 hx intT_n) _⟩
theorem OwnZn.past {w w' : World} {C B n k : Nat} {v cv : Value} {x : List Int} {L : List Int} (h : OwnZn w C v x n) (hc : OwnG w B cv L k) (hg : w.grownBy w' cv.ownBlock) : OwnZn w' C v x n := by
  refine ⟨h.1, ownsRow_block h.2 (fun q hq => ?_)⟩
  rcases h.2.2 with ⟨q2, _⟩ | ⟨g, c1, c2, hv, _, hgk, _⟩
  · rw [q2] at hq; cases hq
  · have hg' : g = q := by rw [hv] at hq; simpa [Value.ownBlock] using hq
    subst hg'
    exact hg.block g (Array.getElem?_eq_some_iff.1 hgk).1 (fun e => own_kind hc hgk intT_c e.symm)
theorem OwnZn.told {w : World} {C B n m g : Nat} {v ev : Value} {x : List Int} {y : List Value} (h : OwnZn w C v x n) (he : w.ownsRow B 83 2 ev m y) (e : ev.ownBlock = some g) (j : Nat) (u : Value) : OwnZn (w.setCell ⟨g, j, none⟩ u) C v x n := by
  refine ⟨h.1, ownsRow_setCell_other h.2 (fun q => ?_) _⟩
  rcases h.2.2 with ⟨q2, _⟩ | ⟨g', c1, c2, hv, _, hgk, _⟩
  · rw [q2] at q; cases q
  · have hg' : g' = g := by rw [hv] at q; simpa [Value.ownBlock] using q
    subst hg'
    exact own_kind he hgk intT_e e
end Go.Proofs.YtbdkkkpgjcfdgaaDoor

namespace Go.Proofs.YtbdkkkpgjcfdgaaDoor
open Go.RowKit Go.Proofs.YtbdkkkpgjcfdgaaDoor.LexM Go.Proofs.YtbdkkkpgjcfdgaaDoor.ParM Go.Proofs.YtbdkkkpgjcfdgaaDoor.GrM Go.Proofs.YtbdkkkpgjcfdgaaDoor.NmM

theorem more_cells {w : World} {B n q : Nat} {v : Value} {L K : List Int} (h : w.ownsRow B 54 8 v (n + q) (L.map intV ++ K.map intV)) : OwnG w B v (L ++ K) (n + q) := by
  unfold OwnG
  rw [List.map_append]
  exact h
theorem nm_step {w : World} {B m rb j : Nat} {cv ev : Value} {s : NSt} {cur : Array Value} (h : NmAt w B cv ev s m) (hr : w.heap[rb]? = some (.cells cur 45 (0, 0))) (u : Value) :
    NmAt (w.setCell ⟨rb, j, none⟩ u) B cv ev s m ∧ ∃ cur', (w.setCell ⟨rb, j, none⟩ u).heap[rb]? = some (.cells cur' 45 (0, 0)) :=
  ⟨⟨ownsRow_setCell_other h.cel (own_kind h.cel hr cellT_n) _, ownsRow_setCell_other h.ends (own_kind h.ends hr endT_n) _⟩, _, heap_setCell_at hr _ _⟩
theorem nm_out {S0 : Nat → Prop} {B xb sb rb m : Nat} {fv ev wv bv edv : Value} {w wr : World} {cb cv : Value} {s : NSt} (h : BxS S0 B xb sb rb m fv ev wv bv edv w wr cb cv s) (hB : B ≤ rb) (hw : w.heap.size ≤ rb) (u0 u1 u2 u3 : Value) :
    NmAt ((((wr.setCell ⟨rb, 0, none⟩ u0).setCell ⟨rb, 1, none⟩ u1).setCell ⟨rb, 2, none⟩ u2).setCell ⟨rb, 3, none⟩ u3) B cv ev s m ∧ Below B w ((((wr.setCell ⟨rb, 0, none⟩ u0).setCell ⟨rb, 1, none⟩ u1).setCell ⟨rb, 2, none⟩ u2).setCell ⟨rb, 3, none⟩ u3) ∧
      Out S0 w ((((wr.setCell ⟨rb, 0, none⟩ u0).setCell ⟨rb, 1, none⟩ u1).setCell ⟨rb, 2, none⟩ u2).setCell ⟨rb, 3, none⟩ u3) := by
  obtain ⟨a0, _, b0⟩ := nm_step (j := 0) h.nm h.rs u0
  obtain ⟨a1, _, b1⟩ := nm_step (j := 1) a0 b0 u1
  obtain ⟨a2, _, b2⟩ := nm_step (j := 2) a1 b1 u2
  obtain ⟨a3, _, _⟩ := nm_step (j := 3) a2 b2 u3
  exact ⟨a3, (((h.bel.setCell (p := ⟨rb, 0, none⟩) hB _).setCell (p := ⟨rb, 1, none⟩) hB _).setCell (p := ⟨rb, 2, none⟩) hB _).setCell (p := ⟨rb, 3, none⟩) hB _,
    (((h.out.setCell (p := ⟨rb, 0, none⟩) (fun e => by change rb < _ at e; omega) _).setCell (p := ⟨rb, 1, none⟩) (fun e => by change rb < _ at e; omega) _).setCell (p := ⟨rb, 2, none⟩) (fun e => by change rb < _ at e; omega) _).setCell (p := ⟨rb, 3, none⟩) (fun e => by change rb < _ at e; omega) _⟩
theorem ends_form {w : World} {B m : Nat} {v : Value} {e : TypeId} {k : Nat} {xs : List Value} (h : w.ownsRow B e k v m xs) : ∃ ao cap, v = .slice ao m cap := by
  rcases h.2 with ⟨h1, h2⟩ | ⟨_, _, _, h, _⟩
  · exact ⟨none, 0, by rw [h2]; exact h1⟩
  · exact ⟨_, _, h⟩
theorem ownG_zero {w : World} {B n : Nat} {v : Value} {L : List Int} (h : OwnG w B v L n) : OwnG w 0 v L n := h.base (Nat.zero_le _)
theorem chK_n {way : Int} {l : List Int} {s : NSt} {c : Int} : ∀ i, (chK way l s c i).1.n = s.n + i
  | 0 => rfl
  | i + 1 => by
    have := chK_n (way := way) (l := l) (s := s) (c := c) i
    show (chK way l s c i).1.n + 1 = _
    omega
def BxP (w : World) (B m : Nat) (cv fv ev wv : Value) (E : List Edg) (v : Nat) (s : NSt) (e : Ending) (w' : World) : Prop :=
  ∃ cv', e = .returned (.agg #[cv', fv, ev, wv]) ∧ NmAt w' B cv' ev (bxN E v s) m ∧ Below B w w' ∧ Out (fun b => cv.ownBlock = some b ∨ ev.ownBlock = some b) w w' ∧ (∀ b, cv'.ownBlock = some b → (cv.ownBlock = some b ∨ ev.ownBlock = some b) ∨ w.heap.size ≤ b)
/-- The state of box's outer loop. -/
def BxD (S0 : Nat → Prop) (B xb sb rb m c : Nat) (fv ev wv bv edv : Value) (w wr : World) (E : List Edg) (v : Nat) (s : NSt) (dv : Value) : Prop :=
  ∃ (d : Nat) (A : Option Addr) (cp : Nat), dv = .int .i64 d ∧ d ≤ 4 ∧ BxS S0 B xb sb rb m fv ev wv bv edv w wr (.slice A (bxK E v c s d).n cp) (.slice A (bxK E v c s d).n cp) (bxK E v c s d)
/-- The state of box's inner loop. -/
def BxI (S0 : Nat → Prop) (B xb sb rb m : Nat) (fv ev wv bv edv : Value) (w wr : World) (way fr : Int) (l : List Int) (q : Nat) (lv : Value) (sd : NSt) (fv' iv : Value) : Prop :=
  ∃ (i : Nat) (A : Option Addr) (cp : Nat), iv = .int .i64 i ∧ i ≤ q ∧ fv' = .int .i64 (chK way l sd fr i).2 ∧ BxS S0 B xb sb rb m fv ev wv bv edv w wr (.slice A (chK way l sd fr i).1.n cp) (.slice A (chK way l sd fr i).1.n cp) (chK way l sd fr i).1 ∧ OwnZn wr B lv l q
set_option maxHeartbeats 16000000 in
set_option maxRecDepth 100000 in
theorem refBox {w0 w : World} {B m : Nat} {cv fv ev wv bv edv : Value} {s : NSt} {E : List Edg} (v : Nat) (h : NmAt w B cv ev s m) (hB : B ≤ w.heap.size) (hE : EdsAt w0 edv E) (h0 : w0.heap.size ≤ B) (hw : Below B w0 w) (hm : m = E.length) (hr : RightN s (2 * m))
    (hl : E.length ≤ 4096) (hok : OkEs E) (hn : s.n + 4 + sidesK E v 4 ≤ 9000)
    (hf : ∃ A n c, fv = .slice A n c) (hv : ∃ A n c, wv = .slice A n c) :
    Calls Tryd.prog 29 #[.agg #[cv, fv, ev, wv], .agg #[bv, edv], .int .i64 v] w (BxP w B m cv fv ev wv E v s) := by
  obtain ⟨i0, hi, hz0, hz1, hz2⟩ := info_c8
  obtain ⟨L0, n0, en0⟩ := s
  obtain ⟨Af, nf, kf, rfl⟩ := hf
  obtain ⟨Aw, nw, kw, rfl⟩ := hv
  obtain ⟨Ae, ke, e⟩ := ends_form h.ends
  subst e
  have H := Lib.hid h
  obtain ⟨A, cp, e⟩ := h.cel.form
  subst e
  obtain ⟨S0, hS0⟩ : ∃ S0 : Nat → Prop, S0 = fun b => (Value.slice A n0 cp).ownBlock = some b ∨ (Value.slice Ae m ke).ownBlock = some b := ⟨_, rfl⟩
  have HS0 := Lib.hid hS0
  clear hS0
  have ON := Lib.hid (fun (d : Int) w1 (b : Below B w0 w1) => refOn bv _ E v d w1 (hE.below b h0) hl hok)
  have HR := Lib.hid hr
  have HM := Lib.hid hm
  have HW := Lib.hid hw
  have HN := Lib.hid hn
  have HL := Lib.hid hl
  have hn9 : n0 + 4 ≤ 9000 := by have : n0 + 4 + sidesK E v 4 ≤ 9000 := hn; omega
  have HB := Lib.hid hB
  have N4 : Hid (∀ w, Calls Tryd.prog 19 #[.int .i64 4] w fun r w' => (∃ g, r = .returned (.slice (some ⟨g, 0, none⟩) 4 4) ∧ OwnG w' w.heap.size (.slice (some ⟨g, 0, none⟩) 4 4) (newG 4) 4) ∧ Below w.heap.size w w') := Lib.hid (fun w => refNew 4 w (by decide))
  have N1 : Hid (∀ w, Calls Tryd.prog 19 #[.int .i64 1] w fun r w' => (∃ g, r = .returned (.slice (some ⟨g, 0, none⟩) 1 1) ∧ OwnG w' w.heap.size (.slice (some ⟨g, 0, none⟩) 1 1) (newG 1) 1) ∧ Below w.heap.size w w') := Lib.hid (fun w => refNew 1 w (by decide))
  clear h hE hw hm hr hl hok hn h0 hB
  go_enter Tryd.func29, Tryd.ntmps29
  go_upto_region 1 with (fail)
  obtain ⟨wb, hwb⟩ : ∃ W, W = (((w.alloc (.cells #[.slice A n0 cp, (.slice Af nf kf : Value), .slice Ae m ke, .slice Aw nw kw] 45)).alloc (.cells #[bv, edv] 36)).alloc (.cells #[.slice none 0 0, .slice none 0 0, .slice none 0 0, .slice none 0 0] 45)) := ⟨_, rfl⟩
  have S0 : Hid (BxS S0 B w.heap.size (w.heap.size + 1) (w.heap.size + 2) m (.slice Af nf kf) (.slice Ae m ke) (.slice Aw nw kw) bv edv w wb (.slice A n0 cp) (.slice A n0 cp) ⟨L0, n0, en0⟩) := Lib.hid (by
    have hb3 : Below w.heap.size w wb := by rw [hwb]; exact (((Below.refl _ _).alloc (Nat.le_refl _) _).alloc (by simp) _).alloc (by simp; omega) _
    refine ⟨H.out.below hb3 (Nat.le_refl _), ?_, ?_, ?_, hb3.mono HB.out, Out.ofBelow hb3, fun b e => Or.inl (by rw [HS0.out]; exact Or.inl e), fun b e => by rw [HS0.out]; exact Or.inr e⟩
    · unfold NmB
      rw [hwb, Below.heap_alloc _ _ _ (by simp; omega), Below.heap_alloc _ _ _ (by simp)]
      exact heap_alloc_new w _
    · unfold ShB
      rw [hwb, Below.heap_alloc _ _ _ (by simp)]
      have := heap_alloc_new (w.alloc (.cells #[.slice A n0 cp, (.slice Af nf kf : Value), .slice Ae m ke, .slice Aw nw kw] 45)) (.cells #[bv, edv] 36)
      simpa using this
    · unfold NmB
      rw [hwb]
      have := heap_alloc_new ((w.alloc (.cells #[.slice A n0 cp, (.slice Af nf kf : Value), .slice Ae m ke, .slice Aw nw kw] 45)).alloc (.cells #[bv, edv] 36)) (.cells #[.slice none 0 0, .slice none 0 0, .slice none 0 0, .slice none 0 0] 45)
      simpa using this)
  rw [← hwb]
  clear hwb
  have hx1 : B ≤ w.heap.size := HB.out
  obtain ⟨xb, hxb⟩ : ∃ x, x = w.heap.size := ⟨_, rfl⟩
  obtain ⟨sb, hsb⟩ : ∃ x, x = w.heap.size + 1 := ⟨_, rfl⟩
  obtain ⟨rb, hrb⟩ : ∃ x, x = w.heap.size + 2 := ⟨_, rfl⟩
  have hne1 : Hid (B ≤ xb ∧ xb ≠ sb ∧ xb ≠ rb ∧ rb ≠ sb ∧ B ≤ rb ∧ w.heap.size ≤ xb ∧ w.heap.size ≤ rb) := Lib.hid (by omega)
  rw [← hrb, ← hsb, ← hxb] at S0
  rw [← hrb, ← hsb, ← hxb]
  clear hx1 hxb hsb hrb H
  obtain ⟨x0, x1, x2, x3⟩ := S0.out.bx.at_
  have xl := S0.out.bx.lt
  go_upto_region 3 with (go_at_call 19; refine (N4.out _).mono ?_; rintro e w1 ⟨⟨g1, rfl, o1⟩, b1⟩; have O1 := Lib.hid o1; have B1 := Lib.hid b1; clear o1 b1)
  have hBw : B ≤ wb.heap.size := Nat.le_trans HB.out S0.out.bel.size
  have S1 := Lib.hid (S0.out.below hBw B1.out)
  clear x0 x1 x2 x3 xl
  obtain ⟨x0, x1, x2, x3⟩ := S1.out.bx.at_
  have xl := S1.out.bx.lt
  have xf := S1.out.bx.fr 0
  have hBw1 : B ≤ w1.heap.size := Nat.le_trans hBw B1.out.size
  clear hBw S0
  go_wp2_with (at_builtin; refine wpList_append_fresh rfl (.tmp 22) (.tmp 23) 30 rfl B 54 i0 (.agg #[.int .i64 0, .int .i64 0, .int .i64 0, .int .i64 0, .int .i64 0, .int .i64 0, .int .i64 0, .int .i64 0]) 8 64 Tryd.underlying30 hi hz0 hz1 hz2 rfl (by decide) (.slice A n0 cp) n0 (L0.map intV) rfl S1.out.nm.cel ⟨g1, 0, none⟩ 4 4 ((newG 4).map intV) rfl rfl (O1.out.cells rfl) (allI _) (by unfold maxLen; omega) (by omega) hBw1 ?_; intro v5 w5 hown hgrow hfr; have o5 := more_cells hown; obtain ⟨a5, c5, e5⟩ := o5.form; subst e5; have S5 := Lib.hid (S1.out.grown (s' := ⟨L0 ++ newG 4, n0 + 4, en0⟩) hBw1 hgrow hfr o5 rfl); have hB5 : B ≤ w5.heap.size := (by have := hgrow.size; omega); clear hown hgrow hfr o5 x0 x1 x2 x3 xl xf; obtain ⟨x0, x1, x2, x3⟩ := S5.out.bx.at_; have xl := S5.out.bx.lt; have xf := S5.out.bx.fr 0)
  have S6 := Lib.hid (S5.out.held hne1.out.1 hne1.out.2.2.2.2.2.1 hne1.out.2.1 hne1.out.2.2.1)
  clear x0 x1 x2 x3 xl xf S5 S1 O1 B1 hBw1
  go_loopw [9] (fun dv wr => BxD S0 B xb sb rb m n0 (.slice Af nf kf) (.slice Ae m ke) (.slice Aw nw kw) bv edv w wr E v ⟨L0 ++ newG 4, n0 + 4, en0⟩ dv) (fun dv _ => 4 - (intOf dv).toNat)
  case atStart => exact ⟨0, a5, c5, rfl, by omega, S6.out⟩
  case round =>
    clear S6 hB5
    obtain ⟨d, A7, c7, rfl, hd, hS⟩ := hrel
    have S7 := Lib.hid hS
    obtain ⟨x0, x1, x2, x3⟩ := hS.bx.at_
    have xl := hS.bx.lt
    have hB7 : B ≤ wr.heap.size := Nat.le_trans HB.out hS.bel.size
    clear hS
    by_cases hd4 : d < 4
    · have q0 : decide (d < 4) = true := decide_eq_true hd4
      have q0' : decide ((d : Int) < 4) = true := decide_eq_true (by omega)
      obtain ⟨sd, hsd⟩ : ∃ z, bxK E v n0 ⟨L0 ++ newG 4, n0 + 4, en0⟩ d = z := ⟨_, rfl⟩
      have HSD := Lib.hid hsd
      rw [hsd] at S7
      rw [hsd] at x0
      clear hsd
      go_upto_region 7 with (fail)
      go_cut [10] from 39 to 39 (fun x wx => x = .int .i64 (frC n0 d) ∧ Below wr.heap.size wr wx)
      case first =>
        have hc : d = 0 ∨ d = 1 ∨ d = 2 ∨ d = 3 := by omega
        rcases hc with rfl | rfl | rfl | rfl
        all_goals
          go_wp2_with fail
          go_meet
          exact ⟨by simp [frC], (Below.refl _ _).alloc (Nat.le_refl _) _⟩
      case rest =>
        obtain ⟨rfl, h8⟩ := hcut
        obtain ⟨w8, hw8⟩ : ∃ W, W = wc := ⟨_, rfl⟩
        subst hw8
        have S8 := Lib.hid (S7.out.below hB7 h8)
        have hB8 : B ≤ w8.heap.size := Nat.le_trans hB7 h8.size
        clear h8 S7 hB7 x0 x1 x2 x3 xl
        obtain ⟨fr, hfr⟩ : ∃ z, frC n0 d = z := ⟨_, rfl⟩
        have HFR := Lib.hid hfr
        rw [hfr]
        clear hfr
        go_upto_region 8 with (fail)
        go_cut [11] from 51 to 51 (fun x wx => x = .int .i64 (toC n0 d) ∧ Below w8.heap.size w8 wx)
        case first =>
          have hc : d = 0 ∨ d = 1 ∨ d = 2 ∨ d = 3 := by omega
          rcases hc with rfl | rfl | rfl | rfl
          all_goals
            go_wp2_with fail
            go_meet
            exact ⟨by simp [toC], (Below.refl _ _).alloc (Nat.le_refl _) _⟩
        case rest =>
          obtain ⟨rfl, h9⟩ := hcut
          obtain ⟨w9, hw9⟩ : ∃ W, W = wc := ⟨_, rfl⟩
          subst hw9
          have S9 := Lib.hid (S8.out.below hB8 h9)
          have hB9 : B ≤ w9.heap.size := Nat.le_trans hB8 h9.size
          clear h9 S8 hB8
          obtain ⟨tc, htc⟩ : ∃ z, toC n0 d = z := ⟨_, rfl⟩
          have HTC := Lib.hid htc
          rw [htc]
          clear htc
          go_upto_region 9 with (fail)
          go_cut [12] from 55 to 55 (fun x wx => x = .int .i64 (wyC d) ∧ Below w9.heap.size w9 wx)
          case first =>
            have hc : d = 0 ∨ d = 1 ∨ d = 2 ∨ d = 3 := by omega
            rcases hc with rfl | rfl | rfl | rfl
            all_goals
              go_wp2_with fail
              go_meet
              exact ⟨by simp [wyC], (Below.refl _ _).alloc (Nat.le_refl _) _⟩
          case rest =>
            obtain ⟨rfl, h10⟩ := hcut
            obtain ⟨w10, hw10⟩ : ∃ W, W = wc := ⟨_, rfl⟩
            subst hw10
            have S10 := Lib.hid (S9.out.below hB9 h10)
            have hB10 : B ≤ w10.heap.size := Nat.le_trans hB9 h10.size
            clear h10 S9 hB9
            obtain ⟨wy, hwy⟩ : ∃ z, wyC d = z := ⟨_, rfl⟩
            have HWY := Lib.hid hwy
            rw [hwy]
            clear hwy
            obtain ⟨y0, y1⟩ := S10.out.sh.at_
            have yl := S10.out.sh.lt
            have BZ : Hid (Below B w0 w10) := Lib.hid (HW.out.trans S10.out.bel)
            go_upto_region 11 with (go_at_call 28; refine (ON.out (d : Int) _ BZ.out).mono ?_; rintro e w11 ⟨⟨A11, c11, n11, rfl, o11, hn11⟩, b11⟩; have O11 := Lib.hid (o11.base hB10); have HL11 : Hid ((onL E v d).length = n11) := Lib.hid o11.1; have B11 := Lib.hid b11; clear o11 b11)
            have S11 := Lib.hid (S10.out.below hB10 B11.out)
            have hB11 : B ≤ w11.heap.size := Nat.le_trans hB10 B11.out.size
            clear y0 y1 yl BZ S10 B11 hB10
            obtain ⟨l, hl⟩ : ∃ z, onL E v d = z := ⟨_, rfl⟩
            have LM : Hid (∀ i, i < n11 → ∃ t : Nat, l.getD i 0 = (t : Int) ∧ t / 2 < m) := Lib.hid (fun i hi => by
              have hlen := HL11.out
              have hmem : (onL E v d).getD i 0 ∈ onL E v d := by
                rw [List.getD_eq_getElem?_getD, List.getElem?_eq_getElem (by omega)]
                exact List.getElem_mem _
              rw [← hl]
              obtain ⟨q, hq, h1⟩ := onK_mem.1 hmem
              have hmm := HM.out
              rcases on1_mem.1 h1 with ⟨e, _⟩ | ⟨e, _⟩
              · exact ⟨2 * q, by omega, by omega⟩
              · exact ⟨2 * q + 1, by omega, by omega⟩)
            have hbd : sd.n + n11 ≤ 9000 := by
              have h1 : (bxK E v n0 ⟨L0 ++ newG 4, n0 + 4, en0⟩ d).n = (n0 + 4) + sidesK E v d :=
                (bxK_right (s := ⟨L0 ++ newG 4, n0 + 4, en0⟩) (m := 2 * m) ⟨by show (L0 ++ newG 4).length = (n0 + 4) * 8; rw [List.length_append, new_len]; have : L0.length = n0 * 8 := HR.out.1; omega, HR.out.2⟩ d).2
              rw [HSD.out] at h1
              have h2 : n0 + 4 + sidesK E v 4 ≤ 9000 := HN.out
              have h3 : sidesK E v (d + 1) ≤ sidesK E v 4 := sidesK_mono hd4
              have h4 : sidesK E v (d + 1) = sidesK E v d + (onL E v d).length := rfl
              have h5 := HL11.out
              omega
            rw [hl] at O11 HL11
            have HLL := Lib.hid hl
            clear hl
            go_wp2_with fail
            go_loopw [10, 14] (fun fv' iv wr => BxI S0 B xb sb rb m (.slice Af nf kf) (.slice Ae m ke) (.slice Aw nw kw) bv edv w wr wy fr l n11 (.slice A11 n11 c11) sd fv' iv) (fun _ iv _ => n11 - (intOf iv).toNat)
            case atStart => exact ⟨0, A7, c7, rfl, Nat.zero_le _, rfl, S11.out, O11.out⟩
            case round =>
              clear S11 hB11 O11
              obtain ⟨i, A12, c12, rfl, hin, rfl, hS, hO⟩ := hrel
              have CH : Hid (chK wy l sd fr (i + 1) = (joiN (putE (moN (chK wy l sd fr i).1) (l.getD i 0) (chK wy l sd fr i).1.n) (chK wy l sd fr i).2 wy (chK wy l sd fr i).1.n (-1), ((chK wy l sd fr i).1.n : Int))) := Lib.hid rfl
              have hzn : (chK wy l sd fr i).1.n = sd.n + i := chK_n i
              obtain ⟨⟨⟨ZL, zn, ze⟩, f⟩, hz⟩ : ∃ z, chK wy l sd fr i = z := ⟨_, rfl⟩
              rw [hz] at hS CH hzn
              rw [hz]
              have hzn' : zn = sd.n + i := hzn
              have HZ := Lib.hid hz
              have S12 := Lib.hid hS
              have O12 := Lib.hid hO
              obtain ⟨x0, x1, x2, x3⟩ := hS.bx.at_
              have xl := hS.bx.lt
              have hB12 : B ≤ wr.heap.size := Nat.le_trans HB.out hS.bel.size
              have hz9 : zn ≤ 9000 := by omega
              clear hS hO hz hzn
              by_cases hlt : i < n11
              · have q1 : decide (i < n11) = true := decide_eq_true hlt
                have hz8 : zn + 1 ≤ 9000 := by omega
                clear hzn'
                go_upto_region 16 with (go_at_call 19; refine (N1.out _).mono ?_; rintro e w13 ⟨⟨g13, rfl, o13⟩, b13⟩; have O13 := Lib.hid o13; have B13 := Lib.hid b13; clear o13 b13)
                have S13 := Lib.hid (S12.out.below hB12 B13.out)
                have Z13 := Lib.hid (O12.out.below B13.out (Nat.le_refl _))
                have hB13 : B ≤ w13.heap.size := Nat.le_trans hB12 B13.out.size
                clear x0 x1 x2 x3 xl S12 O12
                obtain ⟨x0, x1, x2, x3⟩ := S13.out.bx.at_
                have xl := S13.out.bx.lt
                have xf := S13.out.bx.fr 0
                go_upto_region 17 with (at_builtin; refine wpList_append_fresh rfl (.tmp 71) (.tmp 72) 30 rfl B 54 i0 (.agg #[.int .i64 0, .int .i64 0, .int .i64 0, .int .i64 0, .int .i64 0, .int .i64 0, .int .i64 0, .int .i64 0]) 8 64 Tryd.underlying30 hi hz0 hz1 hz2 rfl (by decide) (.slice A12 zn c12) zn (ZL.map intV) rfl S13.out.nm.cel ⟨g13, 0, none⟩ 1 1 ((newG 1).map intV) rfl rfl (O13.out.cells rfl) (allI _) (by unfold maxLen; omega) (by omega) hB13 ?_; intro v5 w5 hown hgrow hfr; have o5 := more_cells hown; obtain ⟨a5, c5, e5⟩ := o5.form; subst e5; have S14 := Lib.hid (S13.out.grown (s' := ⟨ZL ++ freeC, zn + 1, ze⟩) hB13 hgrow hfr o5 rfl); have Z14 := Lib.hid (Z13.out.past S13.out.nm.cel hgrow); have hB14 : B ≤ w5.heap.size := (by have := hgrow.size; omega); clear hown hgrow hfr o5 x0 x1 x2 x3 xl xf; obtain ⟨x0, x1, x2, x3⟩ := S14.out.bx.at_; have xl := S14.out.bx.lt; have xf := S14.out.bx.fr 0)
                have S15 := Lib.hid (S14.out.held hne1.out.1 hne1.out.2.2.2.2.2.1 hne1.out.2.1 hne1.out.2.2.1)
                have Z15 := Lib.hid (Z14.out.held S14.out.bx (.slice a5 (zn + 1) c5))
                obtain ⟨w15, hw15⟩ : ∃ W, W = w5.setCell ⟨xb, 0, none⟩ (.slice a5 (zn + 1) c5) := ⟨_, rfl⟩
                rw [← hw15] at S15 Z15
                rw [← hw15]
                have hB15 : B ≤ w15.heap.size := by rw [hw15]; simpa [World.setCell] using hB14
                clear hw15 x0 x1 x2 x3 xl xf S14 Z14 S13 Z13 hB14 hB13 O13 B13 hB12
                obtain ⟨x0, x1, x2, x3⟩ := S15.out.bx.at_
                have xl := S15.out.bx.lt
                obtain ⟨t, ht, htm⟩ := LM.out i hlt
                obtain ⟨g11, e11⟩ : ∃ g, A11 = some ⟨g, 0, none⟩ := by
                  obtain ⟨g, cap, hv, _⟩ := ownsRow_form Z15.out.2 (by omega)
                  simp only [Value.slice.injEq, true_and] at hv
                  exact ⟨g, hv.1⟩
                subst e11
                have f0 := Z15.out.at_ hlt
                rw [ht] at f0
                have HT := Lib.hid ht
                obtain ⟨ge, eev⟩ : ∃ g, Ae = some ⟨g, 0, none⟩ := by
                  obtain ⟨g, cap, hv, _⟩ := ownsRow_form S15.out.nm.ends (by omega)
                  simp only [Value.slice.injEq, true_and] at hv
                  exact ⟨g, hv.1⟩
                subst eev
                obtain ⟨a, ha⟩ : ∃ a : Nat, (t : Int) / 2 = (a : Int) := ⟨t / 2, by omega⟩
                obtain ⟨r, hr⟩ : ∃ r : Nat, (t : Int) % 2 = (r : Int) := ⟨t % 2, by omega⟩
                have ham : a < m := by omega
                have hr2 : r < 2 := by omega
                have hat : Hid (a * 2 + r = t) := Lib.hid (by omega)
                have HE2 : w15.ownsRow B 83 2 (.slice (some ⟨ge, 0, none⟩) m ke) m (ze.map intV) := S15.out.nm.ends
                have hle : (ze.map intV).length = m * 2 := HE2.1
                have ha' : (t : Int).tdiv 2 = (a : Int) := by rw [Int.tdiv_eq_ediv_of_nonneg (by omega)]; exact ha
                have hr' : (t : Int).tmod 2 = (r : Int) := by rw [Int.tmod_eq_emod_of_nonneg (by omega)]; exact hr
                obtain ⟨y0, j0⟩ : ∃ y, w15.cell? ⟨ge, a * 2 + r, none⟩ = some y := ⟨_, by rw [World.ownsRow.cellAt HE2 (a * 2 + r) (by omega), List.getElem?_eq_getElem (by omega)]⟩
                have j1 := World.ownsRow.frozenAt HE2 (a * 2 + r)
                have zl11 := (World.ownsRow.lt Z15.out.2 g11 rfl).2
                have zle := (World.ownsRow.lt HE2 ge rfl).2
                have hix : a * 2 + r = (l.getD i 0).toNat := by rw [HT.out, Int.toNat_natCast]; exact hat.out
                have s16 := (S15.out.told rfl (a * 2 + r) (zn : Int)).below (by simpa [World.setCell] using hB15) (Below.refl _ _).drew
                have z16 := (Z15.out.told HE2 rfl (a * 2 + r) (.int .i64 (zn : Int))).below (Below.refl _ _).drew (Nat.le_refl _)
                have S16 : Hid (BxS S0 B xb sb rb m (.slice Af nf kf) (.slice (some ⟨ge, 0, none⟩) m ke) (.slice Aw nw kw) bv edv w (w15.setCell ⟨ge, a * 2 + r, none⟩ (.int .i64 (zn : Int))).drew (.slice a5 (zn + 1) c5) (.slice a5 (zn + 1) c5) ⟨ZL ++ freeC, zn + 1, ze.set (l.getD i 0).toNat (zn : Int)⟩) := Lib.hid (by rw [← hix]; exact s16)
                have Z16 := Lib.hid z16
                have hB16 : Hid (B ≤ (w15.setCell ⟨ge, a * 2 + r, none⟩ (.int .i64 (zn : Int))).drew.heap.size) := Lib.hid (by simpa [World.setCell] using hB15)
                have hm4 : m ≤ 4096 := by have := HM.out; have := HL.out; omega
                have cw1 : IntKind.i64.wrap (a : Int) = (a : Int) := IntWalk.i64_in _ (by omega)
                have cw2 : IntKind.i64.wrap (r : Int) = (r : Int) := IntWalk.i64_in _ (by omega)
                clear ht htm hle HE2 hix s16 z16 S15 Z15 hm4
                go_region
                obtain ⟨w16, hw16⟩ : ∃ W, W = (w15.setCell ⟨ge, a * 2 + r, none⟩ (.int .i64 (zn : Int))).drew := ⟨_, rfl⟩
                rw [← hw16] at S16 Z16 hB16
                rw [← hw16]
                clear hw16 cw1 cw2 ha hr ha' hr' j0 j1 f0 x0 x1 x2 x3 xl zl11 zle hB15
                obtain ⟨x0, x1, x2, x3⟩ := S16.out.bx.at_
                have xl := S16.out.bx.lt
                go_upto_region 19 with (go_at_call 30; refine (refJoinAny (L := ZL ++ freeC) (n := zn + 1) (ownG_zero S16.out.nm.cel) (by omega) f wy (zn : Int) (-1)).mono ?_; rintro e w17 ⟨A17, c17, rfl, r17⟩; have S17 := Lib.hid (S16.out.joined hB16.out r17); have Z17 := Lib.hid (Z16.out.below r17.2.2 (Nat.le_refl _)); clear r17 x0 x1 x2 x3 xl; obtain ⟨x0, x1, x2, x3⟩ := S17.out.bx.at_; have xl := S17.out.bx.lt; have xf := S17.out.bx.fr 0)
                have S18 := Lib.hid (S17.out.held hne1.out.1 hne1.out.2.2.2.2.2.1 hne1.out.2.1 hne1.out.2.2.1)
                have Z18 := Lib.hid (Z17.out.held S17.out.bx (.slice A17 (zn + 1) c17))
                clear x0 x1 x2 x3 xl xf S17 Z17 S16 Z16 hB16
                go_wp2_with fail
                go_roundw
                case rel => exact ⟨i + 1, A17, c17, by go_num, by omega, by rw [CH.out], by rw [CH.out]; exact S18.out, Z18.out⟩
                case measure => (simp [intOf] <;> omega)
              · have hin2 : i = n11 := by omega
                have q1 : decide (i < n11) = false := decide_eq_false hlt
                have EB : Hid (bxK E v n0 ⟨L0 ++ newG 4, n0 + 4, en0⟩ (d + 1) = joiN ⟨ZL, zn, ze⟩ f wy tc (-1)) := Lib.hid (by
                  show sdN E v n0 (bxK E v n0 ⟨L0 ++ newG 4, n0 + 4, en0⟩ d) d = _
                  unfold sdN
                  rw [HSD.out, HLL.out, HWY.out, HFR.out, HTC.out, HL11.out, ← hin2, HZ.out])
                clear hzn' hin2
                go_wp2_with (go_at_call 30; refine (refJoinAny (L := ZL) (n := zn) (ownG_zero S12.out.nm.cel) (by omega) f wy tc (-1)).mono ?_; rintro e w17 ⟨A17, c17, rfl, r17⟩; have S17 := Lib.hid (S12.out.joined hB12 r17); clear r17 x0 x1 x2 x3 xl; obtain ⟨x0, x1, x2, x3⟩ := S17.out.bx.at_; have xl := S17.out.bx.lt; have xf := S17.out.bx.fr 0)
                have S18 := Lib.hid (S17.out.held hne1.out.1 hne1.out.2.2.2.2.2.1 hne1.out.2.1 hne1.out.2.2.1)
                go_roundw
                case rel => exact ⟨d + 1, A17, c17, by go_num, by omega, by rw [EB.out]; exact S18.out⟩
                case measure => (simp [intOf] <;> omega)
    · have hd5 : d = 4 := by omega
      subst hd5
      have q0 : decide (4 < 4) = false := by decide
      obtain ⟨r0, r1, r2, r3⟩ := S7.out.rs.at_
      have rl := S7.out.rs.lt
      have hrb := hne1.out.2.2
      have rf0 := S7.out.rs.fr 0
      have rf1 := S7.out.rs.fr 1
      have rf2 := S7.out.rs.fr 2
      have rf3 := S7.out.rs.fr 3
      have FN := Lib.hid (nm_out S7.out hne1.out.2.2.2.2.1 hne1.out.2.2.2.2.2.2 (.slice A7 (bxK E v n0 ⟨L0 ++ newG 4, n0 + 4, en0⟩ 4).n c7) (.slice Af nf kf) (.slice Ae m ke) (.slice Aw nw kw))
      go_wp2_with fail
      refine bodyPost_ret (v := .agg #[.slice A7 (bxK E v n0 ⟨L0 ++ newG 4, n0 + 4, en0⟩ 4).n c7, .slice Af nf kf, .slice Ae m ke, .slice Aw nw kw]) (by simp [results, Tryd.results29, go_sem, r0, r1, r2, r3]) rfl ⟨_, rfl, FN.out.1, FN.out.2.1, by rw [HS0.out] at FN; exact FN.out.2.2, by have h := S7.out.cS; rw [HS0.out] at h; exact h⟩
end Go.Proofs.YtbdkkkpgjcfdgaaDoor

namespace Go.Proofs.YtbdkkkpgjcfdgaaDoor
open Go.RowKit Go.Proofs.YtbdkkkpgjcfdgaaDoor.LexM Go.Proofs.YtbdkkkpgjcfdgaaDoor.ParM Go.Proofs.YtbdkkkpgjcfdgaaDoor.GrM Go.Proofs.YtbdkkkpgjcfdgaaDoor.NmM

/-- Rows of different kinds never share a block. -/
theorem rowne {w : World} {B1 B2 k1 k2 n1 n2 : Nat} {e1 e2 : TypeId} {v1 v2 : Value} {x1 x2 : List Value} (h1 : w.ownsRow B1 e1 k1 v1 n1 x1) (h2 : w.ownsRow B2 e2 k2 v2 n2 x2) (hT : e1 ≠ e2) {b : Nat} (hb : v1.ownBlock = some b) : v2.ownBlock ≠ some b := by
  rcases h1.2 with ⟨q, _⟩ | ⟨g, c1, c2, hv, _, hgk, _⟩
  · rw [q] at hb; cases hb
  · have hg' : g = b := by rw [hv] at hb; simpa [Value.ownBlock] using hb
    subst hg'
    exact own_kind h2 hgk hT
theorem rsT_c : 41 ≠ 54 := by decide
theorem rsT_e : 41 ≠ 83 := by decide
theorem rsT_z : 41 ≠ 3 := by decide
theorem nmT_r : 45 ≠ 41 := by decide
/-- The reference's norm under way. -/
structure OfS (B nb m : Nat) (w1 wr : World) (c0 f0 w0 cv fv ev wv : Value) (s : NSt) (F : List Int) (k : Nat) (V : Nat → Value) (W : Nat → List Int) (i : Nat) : Prop where
  nm : NmAt wr B cv ev s m
  fst : OwnZn wr B fv F k
  out : wr.ownsRow B 41 1 wv i ((List.range i).map V)
  row : ∀ j, j < i → OwnZn wr B (V j) (W j) (W j).length
  bx : NmB wr nb c0 f0 ev w0
  bel : Below B w1 wr
section
variable {B nb m : Nat} {w1 wr w' : World} {c0 f0 w0 cv fv ev wv : Value} {s s' : NSt} {F : List Int} {k : Nat} {V : Nat → Value} {W : Nat → List Int} {i : Nat}
theorem OfS.below (h : OfS B nb m w1 wr c0 f0 w0 cv fv ev wv s F k V W i) (hB : B ≤ wr.heap.size) (b : Below wr.heap.size wr w') : OfS B nb m w1 w' c0 f0 w0 cv fv ev wv s F k V W i :=
  ⟨h.nm.below b (Nat.le_refl _), h.fst.below b (Nat.le_refl _), ownsRow_out (S := fun _ => False) h.out (Out.ofBelow b) (fun _ _ e => e), fun j hj => (h.row j hj).below b (Nat.le_refl _), h.bx.below b (Nat.le_refl _), h.bel.trans (b.mono hB)⟩
/-- What turns the cells' or the ends' row alone. -/
theorem OfS.past (h : OfS B nb m w1 wr c0 f0 w0 cv fv ev wv s F k V W i) (hB : B ≤ wr.heap.size) {cv' : Value} {S : Nat → Prop} (o : Out S wr w') (hS : ∀ b, S b → cv.ownBlock = some b ∨ ev.ownBlock = some b) (hn : NmAt w' B cv' ev s' m) : OfS B nb m w1 w' c0 f0 w0 cv' fv ev wv s' F k V W i := by
  have nz : ∀ {v : Value} {x : List Int} {n : Nat}, OwnZn wr B v x n → OwnZn w' B v x n := fun hz => ⟨hz.1, ownsRow_out hz.2 o (fun b hb e => by
    rcases hS b e with e | e
    · exact rowne hz.2 h.nm.cel intT_c hb e
    · exact rowne hz.2 h.nm.ends intT_e hb e)⟩
  refine ⟨hn, nz h.fst, ownsRow_out h.out o (fun b hb e => ?_), fun j hj => nz (h.row j hj), ?_, h.bel.trans (o.below hB (fun b _ e => ?_))⟩
  · rcases hS b e with e | e
    · exact rowne h.out h.nm.cel rsT_c hb e
    · exact rowne h.out h.nm.ends rsT_e hb e
  · exact (o.block nb h.bx.lt (fun e => by
      rcases hS nb e with e | e
      · exact ne_nm h.nm.cel h.bx cellT_n e
      · exact ne_nm h.nm.ends h.bx endT_n e)).trans h.bx
  · rcases hS b e with e | e
    · exact (World.ownsRow.lt h.nm.cel b e).1
    · exact (World.ownsRow.lt h.nm.ends b e).1
/-- What is told in the norm's own box. -/
theorem OfS.boxed (h : OfS B nb m w1 wr c0 f0 w0 cv fv ev wv s F k V W i) (hx : B ≤ nb) (j : Nat) (u : Value) {c1 f1 w2 : Value} (hj : (#[c0, f0, ev, w0] : Array Value).setIfInBounds j u = #[c1, f1, ev, w2]) : OfS B nb m w1 (wr.setCell ⟨nb, j, none⟩ u) c1 f1 w2 cv fv ev wv s F k V W i := by
  have nz : ∀ {v : Value} {x : List Int} {n : Nat}, OwnZn wr B v x n → OwnZn (wr.setCell ⟨nb, j, none⟩ u) B v x n := fun hz => ⟨hz.1, ownsRow_setCell_other hz.2 (ne_nm hz.2 h.bx intT_n) _⟩
  refine ⟨⟨ownsRow_setCell_other h.nm.cel (ne_nm h.nm.cel h.bx cellT_n) _, ownsRow_setCell_other h.nm.ends (ne_nm h.nm.ends h.bx endT_n) _⟩, nz h.fst, ownsRow_setCell_other h.out (ne_nm h.out h.bx nmT_r) _, fun q hq => nz (h.row q hq), ?_, h.bel.setCell (p := ⟨nb, j, none⟩) hx _⟩
  unfold NmB
  have e := h.bx
  unfold NmB at e
  rw [heap_setCell_at e, hj]
/-- The cells' row grown. -/
theorem OfS.grownC {v5 : Value} (h : OfS B nb m w1 wr c0 f0 w0 cv fv ev wv s F k V W i) (hB : B ≤ wr.heap.size) (hg : wr.grownBy w' cv.ownBlock) (ho : OwnG w' B v5 s'.L s'.n) (he : s'.en = s.en) : OfS B nb m w1 w' c0 f0 w0 v5 fv ev wv s' F k V W i := by
  have o : Out (fun b => cv.ownBlock = some b) wr w' := (Out.refl _ wr).grown hg (fun _ _ e => e)
  refine h.past hB o (fun b e => Or.inl e) ⟨ho, ?_⟩
  rw [he]
  exact ownsRow_out h.nm.ends o (fun b hb e => rowne h.nm.ends h.nm.cel cellT_e hb e)
/-- Two cells joined: another row. -/
theorem OfS.joined {v2 : Value} {M : List Int} (h : OfS B nb m w1 wr c0 f0 w0 cv fv ev wv s F k V W i) (hB : B ≤ wr.heap.size) (r : LstR cv M s.n wr v2 w') : OfS B nb m w1 w' c0 f0 w0 v2 fv ev wv { s with L := M } F k V W i := by
  obtain ⟨r1, r2, r3⟩ := r
  have hb := h.below hB r3
  refine ⟨⟨ownG_rebase r1 (fun b e => ?_), hb.nm.ends⟩, hb.fst, hb.out, hb.row, hb.bx, hb.bel⟩
  rcases r2 b e with q | q
  · exact (World.ownsRow.lt h.nm.cel b q).1
  · omega
/-- An end told where it stands. -/
theorem OfS.told {g ce : Nat} (h : OfS B nb m w1 wr c0 f0 w0 cv fv ev wv s F k V W i) (hB : B ≤ wr.heap.size) (e : ev = .slice (some ⟨g, 0, none⟩) m ce) (j : Nat) (x : Int) :
    OfS B nb m w1 (wr.setCell ⟨g, j, none⟩ (.int .i64 x)) c0 f0 w0 cv fv ev wv { s with en := s.en.set j x } F k V W i := by
  have hev : ev.ownBlock = some g := by rw [e]; rfl
  refine h.past hB (S := fun b => b = g) (Out.setCell (S := fun b => b = g) (Out.refl _ wr) (p := ⟨g, j, none⟩) (fun _ => rfl) _) (fun b hb => Or.inr (by rw [hb]; exact hev)) ⟨ownsRow_setCell_other h.nm.cel (rowne h.nm.ends h.nm.cel cellT_e hev) _, ?_⟩
  have he := h.nm.ends
  rw [e] at he
  show (wr.setCell ⟨g, j, none⟩ (.int .i64 x)).ownsRow B 83 2 ev m ((s.en.set j x).map intV)
  rw [e, List.map_set]
  exact (World.ownsRow.stored he j (.int .i64 x)).1
/-- A first cell more. -/
theorem OfS.grownF {v5 : Value} {x : Int} (h : OfS B nb m w1 wr c0 f0 w0 cv fv ev wv s F k V W 0) (hB : B ≤ wr.heap.size) (hg : wr.grownBy w' fv.ownBlock) (ho : OwnZn w' B v5 (F ++ [x]) (k + 1)) : OfS B nb m w1 w' c0 f0 w0 cv v5 ev wv s (F ++ [x]) (k + 1) V W 0 := by
  have o : Out (fun b => fv.ownBlock = some b) wr w' := (Out.refl _ wr).grown hg (fun _ _ e => e)
  refine ⟨⟨ownsRow_out h.nm.cel o (fun b hb e => rowne h.nm.cel h.fst.2 (fun q => intT_c q.symm) hb e), ownsRow_out h.nm.ends o (fun b hb e => rowne h.nm.ends h.fst.2 (fun q => intT_e q.symm) hb e)⟩, ho, ownsRow_out h.out o (fun b hb e => rowne h.out h.fst.2 rsT_z hb e), fun j hj => absurd hj (by omega), ?_, h.bel.trans (o.below hB (fun b _ e => (World.ownsRow.lt h.fst.2 b e).1))⟩
  exact (o.block nb h.bx.lt (fun e => ne_nm h.fst.2 h.bx intT_n e)).trans h.bx
/-- A way more. -/
theorem OfS.grownW {v5 : Value} (h : OfS B nb m w1 wr c0 f0 w0 cv fv ev wv s F k V W i) (hB : B ≤ wr.heap.size) (hg : wr.grownBy w' wv.ownBlock) (ho : w'.ownsRow B 41 1 v5 (i + 1) ((List.range (i + 1)).map V)) (hz : OwnZn wr B (V i) (W i) (W i).length) : OfS B nb m w1 w' c0 f0 w0 cv fv ev v5 s F k V W (i + 1) := by
  have o : Out (fun b => wv.ownBlock = some b) wr w' := (Out.refl _ wr).grown hg (fun _ _ e => e)
  have nz : ∀ {v : Value} {x : List Int} {q : Nat}, OwnZn wr B v x q → OwnZn w' B v x q := fun hy => ⟨hy.1, ownsRow_out hy.2 o (fun b hb e => rowne hy.2 h.out (fun q => rsT_z q.symm) hb e)⟩
  refine ⟨⟨ownsRow_out h.nm.cel o (fun b hb e => rowne h.nm.cel h.out (fun q => rsT_c q.symm) hb e), ownsRow_out h.nm.ends o (fun b hb e => rowne h.nm.ends h.out (fun q => rsT_e q.symm) hb e)⟩, nz h.fst, ho, fun j hj => ?_, ?_, h.bel.trans (o.below hB (fun b _ e => (World.ownsRow.lt h.out b e).1))⟩
  · by_cases e : j = i
    · subst e; exact nz hz
    · exact nz (h.row j (by omega))
  · exact (o.block nb h.bx.lt (fun e => ne_nm h.out h.bx nmT_r e)).trans h.bx
theorem OfS.swapV (h : OfS B nb m w1 wr c0 f0 w0 cv fv ev wv s F k V W i) {V' : Nat → Value} (hV : ∀ j, j < i → V' j = V j) : OfS B nb m w1 wr c0 f0 w0 cv fv ev wv s F k V' W i :=
  ⟨h.nm, h.fst, by rw [show (List.range i).map V' = (List.range i).map V from List.map_congr_left (fun j hj => hV j (List.mem_range.1 hj))]; exact h.out, fun j hj => by rw [hV j hj]; exact h.row j hj, h.bx, h.bel⟩
theorem NmAt.right {w : World} {B m : Nat} {cv ev : Value} {s : NSt} (h : NmAt w B cv ev s m) : RightN s (2 * m) := ⟨h.cel.len, by have := h.ends.1; rw [List.length_map] at this; omega⟩
/-- What turns a row of ints that is none of these. -/
theorem OfS.beside (h : OfS B nb m w1 wr c0 f0 w0 cv fv ev wv s F k V W i) (hB : B ≤ wr.heap.size) {C : Nat} (hC : B ≤ C) {zv : Value} {z : List Int} {n : Nat} (hz : OwnZn wr C zv z n) (hg : wr.grownBy w' zv.ownBlock) (hF : ∀ b, fv.ownBlock = some b → b < C) (hV : ∀ j, j < i → ∀ b, (V j).ownBlock = some b → b < C) :
    OfS B nb m w1 w' c0 f0 w0 cv fv ev wv s F k V W i := by
  have o : Out (fun b => zv.ownBlock = some b) wr w' := (Out.refl _ wr).grown hg (fun _ _ e => e)
  have nz : ∀ {v : Value} {x : List Int} {q : Nat}, OwnZn wr B v x q → (∀ b, v.ownBlock = some b → b < C) → OwnZn w' B v x q := fun hy hl => ⟨hy.1, ownsRow_out hy.2 o (fun b hb e => by have h1 := (World.ownsRow.lt hz.2 b e).1; have h2 := hl b hb; omega)⟩
  refine ⟨⟨ownsRow_out h.nm.cel o (fun b hb e => rowne h.nm.cel hz.2 (fun q => intT_c q.symm) hb e), ownsRow_out h.nm.ends o (fun b hb e => rowne h.nm.ends hz.2 (fun q => intT_e q.symm) hb e)⟩, nz h.fst hF, ownsRow_out h.out o (fun b hb e => rowne h.out hz.2 rsT_z hb e), fun j hj => nz (h.row j hj) (hV j hj), ?_, h.bel.trans (o.below hB (fun b _ e => by have h1 := (World.ownsRow.lt hz.2 b e).1; omega))⟩
  exact (o.block nb h.bx.lt (fun e => ne_nm hz.2 h.bx intT_n e)).trans h.bx
end
end Go.Proofs.YtbdkkkpgjcfdgaaDoor

namespace Go.Proofs.YtbdkkkpgjcfdgaaDoor
open Go.RowKit Go.Proofs.YtbdkkkpgjcfdgaaDoor.LexM Go.Proofs.YtbdkkkpgjcfdgaaDoor.ParM Go.Proofs.YtbdkkkpgjcfdgaaDoor.GrM Go.Proofs.YtbdkkkpgjcfdgaaDoor.NmM

theorem info_e2 : ∃ i, Tryd.prog.info? 83 = some i ∧ i.zero = some (.agg #[.int .i64 0, .int .i64 0]) ∧ i.size = 2 ∧ i.bytes = 16 := by
  have h : (Tryd.prog.info? 83).map (fun i => (i.zero, i.size, i.bytes)) = some (some (.agg #[.int .i64 0, .int .i64 0]), 2, 16) := by kernel_rfl
  cases e : Tryd.prog.info? 83 with
  | none => rw [e] at h; cases h
  | some i =>
    rw [e] at h
    simp only [Option.map_some, Option.some.injEq, Prod.mk.injEq] at h
    exact ⟨i, rfl, h.1, h.2.1, h.2.2⟩
theorem mkE2 (N : Nat) (hN : N ≤ 10000) (w : World) : (Instr.makeSlice 42 (.int .i64 (N : Int)) (.int .i64 (N : Int))).run Tryd.prog w = .ok (.slice (some ⟨w.heap.size, 0, none⟩) N N) (w.alloc (.cells (madeCells #[.int .i64 0, .int .i64 0] (N * 2)) 83)) := by
  obtain ⟨i, hi, h0, h1, h2⟩ := info_e2
  have h := run_make (P := Tryd.prog) w 42 83 i _ Tryd.underlying42 hi h0 .i64 .i64 N N (by omega) (by omega) (by rw [h2]; omega) (by omega)
  rw [h1] at h
  simpa [Value.cells] using h
theorem made_two (N : Nat) : (madeCells #[(.int .i64 0 : Value), .int .i64 0] (N * 2)).toList = (List.replicate (2 * N) (0 : Int)).map intV := by
  apply List.ext_getElem?
  intro i
  by_cases h : i < N * 2
  · have hm : i % 2 = 0 ∨ i % 2 = 1 := by omega
    rcases hm with e | e <;> simp [madeCells, h, e, intV, show i < 2 * N by omega]
  · simp [madeCells, h, show ¬ i < 2 * N by omega]
theorem of_start {w1 wr : World} {nb m : Nat} {ev : Value} (he : ev = .slice (some ⟨w1.heap.size, 0, none⟩) m m) (h1 : wr.heap[w1.heap.size]? = some (.cells (madeCells #[.int .i64 0, .int .i64 0] (m * 2)) 83 (0, 0))) (hb : NmB wr nb (.slice none 0 0) (.slice none 0 0) ev (.slice none 0 0)) (b : Below w1.heap.size w1 wr) (hm : m ≤ 10000) (V : Nat → Value) (W : Nat → List Int) :
    OfS w1.heap.size nb m w1 wr (.slice none 0 0) (.slice none 0 0) (.slice none 0 0) (.slice none 0 0) (.slice none 0 0) ev (.slice none 0 0) ⟨[], 0, List.replicate (2 * m) 0⟩ [] 0 V W 0 := by
  refine ⟨⟨OwnG.nil _ _, ?_⟩, OwnZn.nil _ _, World.ownsRow_nil _ _ _ _, fun j hj => absurd hj (by omega), hb, b⟩
  rw [he]
  refine ⟨by simp; omega, Or.inr ⟨w1.heap.size, m, _, rfl, Nat.le_refl _, h1, Nat.le_refl _, by unfold maxLen; omega, by simp [size_madeCells], ?_⟩⟩
  rw [made_two, List.take_of_length_le (by simp; omega)]
theorem OfS.b0 {B nb m : Nat} {w1 wr : World} {c0 f0 w0 cv fv ev wv : Value} {s : NSt} {F : List Int} {k : Nat} {V : Nat → Value} {W : Nat → List Int} {i : Nat} (h : OfS B nb m w1 wr c0 f0 w0 cv fv ev wv s F k V W i) (hx : B ≤ nb) (u : Value) : OfS B nb m w1 (wr.setCell ⟨nb, 0, none⟩ u) u f0 w0 cv fv ev wv s F k V W i := h.boxed hx 0 u (by simp)
theorem OfS.b1 {B nb m : Nat} {w1 wr : World} {c0 f0 w0 cv fv ev wv : Value} {s : NSt} {F : List Int} {k : Nat} {V : Nat → Value} {W : Nat → List Int} {i : Nat} (h : OfS B nb m w1 wr c0 f0 w0 cv fv ev wv s F k V W i) (hx : B ≤ nb) (u : Value) : OfS B nb m w1 (wr.setCell ⟨nb, 1, none⟩ u) c0 u w0 cv fv ev wv s F k V W i := h.boxed hx 1 u (by simp)
theorem OfS.b2 {B nb m : Nat} {w1 wr : World} {c0 f0 w0 cv fv ev wv : Value} {s : NSt} {F : List Int} {k : Nat} {V : Nat → Value} {W : Nat → List Int} {i : Nat} (h : OfS B nb m w1 wr c0 f0 w0 cv fv ev wv s F k V W i) (hx : B ≤ nb)  : OfS B nb m w1 (wr.setCell ⟨nb, 2, none⟩ ev) c0 f0 w0 cv fv ev wv s F k V W i := h.boxed hx 2 ev (by simp)
theorem OfS.b3 {B nb m : Nat} {w1 wr : World} {c0 f0 w0 cv fv ev wv : Value} {s : NSt} {F : List Int} {k : Nat} {V : Nat → Value} {W : Nat → List Int} {i : Nat} (h : OfS B nb m w1 wr c0 f0 w0 cv fv ev wv s F k V W i) (hx : B ≤ nb) (u : Value) : OfS B nb m w1 (wr.setCell ⟨nb, 3, none⟩ u) c0 f0 u cv fv ev wv s F k V W i := h.boxed hx 3 u (by simp)
theorem cntV_mono {B : List Bool} {E : List Edg} {a b : Nat} (h : a ≤ b) : cntV B E a ≤ cntV B E b := by
  induction b with
  | zero => have : a = 0 := by omega
            subst this; exact Nat.le_refl _
  | succ b ih =>
    by_cases e : a = b + 1
    · subst e; exact Nat.le_refl _
    · have := ih (by omega)
      rw [cntV]; omega
/-- The reference's ways. -/
noncomputable def bdE (E : List Edg) (s : NSt) (i k : Nat) : NSt × Int × Int × List Int := bdK i (E.getD i noE).2.2.2 (egK E s i).1 (s.en.getD (2 * i) 0) (E.getD i noE).2.2.1 k
noncomputable def wyE (E : List Edg) (s : NSt) (i : Nat) : List Int := (bdE E s i (nbE E i)).2.2.2 ++ [s.en.getD (2 * i + 1) 0]
def VtR (B : List Bool) (E : List Edg) (nB m nb : Nat) (ev : Value) (V : Nat → Value) (W : Nat → List Int) (w1 wr : World) (iv : Value) : Prop :=
  ∃ (k : Nat) (A : Option Addr) (cp : Nat) (Af : Option Addr) (cf : Nat), iv = .int .i64 k ∧ k ≤ nB ∧ OfS w1.heap.size nb m w1 wr (.slice A (vxK B E k).1.n cp) (.slice Af k cf) (.slice none 0 0) (.slice A (vxK B E k).1.n cp) (.slice Af k cf) ev (.slice none 0 0) (vxK B E k).1 (vxK B E k).2 k V W 0
def PtR (E : List Edg) (v c m nb k : Nat) (s : NSt) (F : List Int) (xv fv ev : Value) (V : Nat → Value) (W : Nat → List Int) (w1 wr : World) (dv : Value) : Prop :=
  ∃ d : Nat, dv = .int .i64 d ∧ d ≤ 4 ∧ OfS w1.heap.size nb m w1 wr xv fv (.slice none 0 0) xv fv ev (.slice none 0 0) (ptK E v c s d) F k V W 0
def PiR (l : List Int) (n c m nb k : Nat) (s : NSt) (F : List Int) (xv fv ev lv : Value) (V : Nat → Value) (W : Nat → List Int) (w1 wr : World) (iv : Value) : Prop :=
  ∃ i : Nat, iv = .int .i64 i ∧ i ≤ n ∧ OfS w1.heap.size nb m w1 wr xv fv (.slice none 0 0) xv fv ev (.slice none 0 0) (ptE l c s i) F k V W 0 ∧ OwnZn wr w1.heap.size lv l n
def OfP (B : List Bool) (E : List Edg) (w : World) (e : Ending) (w' : World) : Prop :=
  ∃ cv fv ev wv V, e = .returned (.agg #[cv, fv, ev, wv]) ∧ OwnG w' w.heap.size cv (egK E (vxK B E B.length).1 E.length).1.L (egK E (vxK B E B.length).1 E.length).1.n ∧ OwnZn w' w.heap.size fv (vxK B E B.length).2 B.length ∧
    w'.ownsRow w.heap.size 41 1 wv E.length ((List.range E.length).map V) ∧ (∀ j, j < E.length → OwnZn w' w.heap.size (V j) (wyE E (vxK B E B.length).1 j) (wyE E (vxK B E B.length).1 j).length) ∧ (∃ A c, ev = .slice A E.length c) ∧ Below w.heap.size w w'
theorem bdK_m {i : Int} {bl : List UInt8} {s : NSt} {a d : Int} : ∀ k, (bdK i bl s a d k).1.n = s.n + k ∧ (bdK i bl s a d k).1.en = s.en ∧ (bdK i bl s a d k).2.2.2.length = k + 1
  | 0 => ⟨rfl, rfl, rfl⟩
  | k + 1 => by
    obtain ⟨h1, h2, h3⟩ := bdK_m (i := i) (bl := bl) (s := s) (a := a) (d := d) k
    refine ⟨?_, h2, ?_⟩
    · show (bdK i bl s a d k).1.n + 1 = _
      omega
    · show ((bdK i bl s a d k).2.2.2 ++ [_]).length = _
      rw [List.length_append, h3]; rfl
theorem egK_m {E : List Edg} {s : NSt} : ∀ i, (egK E s i).1.n = s.n + bndK E i ∧ (egK E s i).1.en = s.en
  | 0 => ⟨rfl, rfl⟩
  | i + 1 => by
    obtain ⟨h1, h2⟩ := egK_m (E := E) (s := s) i
    obtain ⟨h3, h4, _⟩ := bdK_m (i := (i : Int)) (bl := (E.getD i noE).2.2.2) (s := (egK E s i).1) (a := s.en.getD (2 * i) 0) (d := (E.getD i noE).2.2.1) (E.getD i noE).2.2.2.length
    refine ⟨?_, h4.trans h2⟩
    show (bdK (i : Int) (E.getD i noE).2.2.2 (egK E s i).1 (s.en.getD (2 * i) 0) (E.getD i noE).2.2.1 (E.getD i noE).2.2.2.length).1.n = _
    rw [h3, h1, bndK]
    unfold nbE
    omega
def EtR (E : List Edg) (s : NSt) (F : List Int) (nB nE nb : Nat) (fv ev : Value) (W : Nat → List Int) (w1 wr : World) (iv : Value) : Prop :=
  ∃ (i : Nat) (A : Option Addr) (cp : Nat) (Aw : Option Addr) (cw : Nat) (V : Nat → Value), iv = .int .i64 i ∧ i ≤ nE ∧ OfS w1.heap.size nb nE w1 wr (.slice A (egK E s i).1.n cp) fv (.slice Aw i cw) (.slice A (egK E s i).1.n cp) fv ev (.slice Aw i cw) (egK E s i).1 F nB V W i
def BtR (E : List Edg) (s : NSt) (F : List Int) (nB nE nb i C nl : Nat) (fv ev wv : Value) (V : Nat → Value) (W : Nat → List Int) (w1 wr : World) (av dv yv kv : Value) : Prop :=
  ∃ (k z : Nat) (A : Option Addr) (cp : Nat) (Az : Option Addr) (cz : Nat), kv = .int .i64 k ∧ k ≤ nl ∧ av = .int .i64 (bdE E s i k).2.1 ∧ dv = .int .i64 z ∧ (z : Int) = (bdE E s i k).2.2.1 ∧ z < 4 ∧ yv = .slice Az (k + 1) cz ∧
    OfS w1.heap.size nb nE w1 wr (.slice A (bdE E s i k).1.n cp) fv wv (.slice A (bdE E s i k).1.n cp) fv ev wv (bdE E s i k).1 F nB V W i ∧ OwnZn wr C yv (bdE E s i k).2.2.2 (k + 1)
theorem newsR (w : World) (t : TypeId) (x : Value) (b : Nat) (hb : w.heap.size = b) : ∀ j z, [x][j]? = some z → (w.alloc (.cells #[x] t)).cell? ((⟨b, 0, none⟩ : Addr).add j) = some z := by
  intro j z hz
  have hj : j = 0 := by have := List.getElem?_eq_some_iff.1 hz; simp at this; omega
  subst hj hb
  simp at hz
  subst hz
  go_simp
theorem OwnZn.one (w : World) (x : Int) : OwnZn (w.alloc (.cells #[.int .i64 x] 3)) w.heap.size (.slice (some ⟨w.heap.size, 0, none⟩) 1 1) [x] 1 :=
  ⟨rfl, rfl, Or.inr ⟨w.heap.size, 1, _, rfl, Nat.le_refl _, heap_alloc_new w _, Nat.le_refl _, by unfold maxLen; omega, rfl, rfl⟩⟩
set_option maxHeartbeats 16000000 in
set_option maxRecDepth 100000 in
theorem refOf {w : World} (bv ev0 : Value) (B : List Bool) (E : List Edg) (hB : BlsAt w bv B) (hE : EdsAt w ev0 E) (hM : May B E) (hc : cntN B E ≤ 4096) (hok : OkEs E) :
    Calls Tryd.prog 12 #[.agg #[bv, ev0]] w (OfP B E w) := by
  obtain ⟨i0, hi, hz0, hz1, hz2⟩ := info_z
  obtain ⟨ic, hci, hc0, hc1, hc2⟩ := info_c8
  obtain ⟨AB, cB, e⟩ := hB.form
  subst e
  obtain ⟨AE, cE, e⟩ := hE.form
  subst e
  have HB := Lib.hid hB
  have HE := Lib.hid hE
  have HM := Lib.hid hM
  have HOK := Lib.hid hok
  have hbl := hM.vs
  have hel := hM.es
  have ON := Lib.hid (fun (v d : Int) w1 (b : Below w.heap.size w w1) => refOn (.slice AB B.length cB) _ E v d w1 (hE.below b (Nat.le_refl _)) hel hok)
  unfold OfP
  obtain ⟨nB, hnB⟩ : ∃ n, B.length = n := ⟨_, rfl⟩
  obtain ⟨nE, hnE⟩ : ∃ n, E.length = n := ⟨_, rfl⟩
  rw [hnB] at HB hbl ON ⊢
  rw [hnE] at HE hel ON ⊢
  have NB := Lib.hid hnB
  have NE := Lib.hid hnE
  have CV : Hid (∀ k, k ≤ nB → (vxK B E k).1.n = cntV B E k ∧ cntV B E k ≤ 4096) := Lib.hid (fun k hk => ⟨(vxK_m B E k).1, by
    have h1 : cntV B E k ≤ cntV B E B.length := cntV_mono (by omega)
    unfold cntN at hc
    omega⟩)
  have CE : Hid (∀ k, k ≤ nE → cntV B E nB + bndK E k ≤ 4096) := Lib.hid (fun k hk => by
    have h1 := bndK_le (E := E) (i := k) (by omega)
    rw [bndK_all] at h1
    unfold cntN at hc
    rw [hnB] at hc
    omega)
  have hmk := mkE2 nE (by omega)
  clear hB hE hM hc hok hnB hnE
  go_enter Tryd.func12, Tryd.ntmps12
  go_upto_region 1 with (fail)
  obtain ⟨w1, hw1⟩ : ∃ W, W = ((w.alloc (.cells #[.slice AB nB cB, .slice AE nE cE] 36)).alloc (.cells #[.slice none 0 0, .slice none 0 0, .slice none 0 0, .slice none 0 0] 45)) := ⟨_, rfl⟩
  have SB : Hid (ShB w1 w.heap.size (.slice AB nB cB) (.slice AE nE cE)) := Lib.hid (by rw [hw1]; unfold ShB; rw [Below.heap_alloc _ _ _ (by simp)]; exact heap_alloc_new w _)
  have RB : Hid (NmB w1 (w.heap.size + 1) (.slice none 0 0) (.slice none 0 0) (.slice none 0 0) (.slice none 0 0)) := Lib.hid (by rw [hw1]; exact heap_two w _ _)
  have B1 : Hid (Below w.heap.size w w1) := Lib.hid (by rw [hw1]; exact ((Below.refl _ _).alloc (Nat.le_refl _) _).alloc (by simp) _)
  rw [← hw1]
  obtain ⟨rb, hrb⟩ : ∃ x, x = w.heap.size + 1 := ⟨_, rfl⟩
  rw [← hrb] at RB ⊢
  obtain ⟨sb, hsb⟩ : ∃ x, x = w.heap.size := ⟨_, rfl⟩
  rw [← hsb] at SB ⊢
  have RBW : Hid (w.heap.size ≤ rb ∧ rb < w1.heap.size) := Lib.hid ⟨by omega, RB.out.lt⟩
  clear hw1 hrb hsb
  obtain ⟨x0, x1⟩ := SB.out.at_
  have xl := SB.out.lt
  go_upto_region 2 with (fail)
  obtain ⟨ev, hev⟩ : ∃ ev, ev = Value.slice (some ⟨w1.heap.size, 0, none⟩) nE nE := ⟨_, rfl⟩
  obtain ⟨w2, hw2⟩ : ∃ W, W = ((w1.alloc (.cells (madeCells #[.int .i64 0, .int .i64 0] (nE * 2)) 83)).alloc (.cells #[.slice none 0 0, .slice none 0 0, .slice (some ⟨w1.heap.size, 0, none⟩) nE nE, .slice none 0 0] 45)) := ⟨_, rfl⟩
  obtain ⟨W, hW⟩ : ∃ W : Nat → List Int, W = wyE E (vxK B E nB).1 := ⟨_, rfl⟩
  have b2 : Below w1.heap.size w1 w2 := by rw [hw2]; exact ((Below.refl _ _).alloc (Nat.le_refl _) _).alloc (by simp) _
  have O2 : Hid (OfS w1.heap.size (w1.heap.size + 1) nE w1 w2 (.slice none 0 0) (.slice none 0 0) (.slice none 0 0) (.slice none 0 0) (.slice none 0 0) ev (.slice none 0 0) ⟨[], 0, List.replicate (2 * nE) 0⟩ [] 0 (fun _ => .slice none 0 0) W 0) := Lib.hid (of_start hev (by rw [hw2, Below.heap_alloc _ _ _ (by simp)]; exact heap_alloc_new w1 _) (by rw [hw2, hev]; exact heap_two w1 _ _) b2 (by omega) _ _)
  rw [← hw2]
  obtain ⟨nb, hnb⟩ : ∃ x, x = w1.heap.size + 1 := ⟨_, rfl⟩
  have NBB : Hid (w1.heap.size ≤ nb) := Lib.hid (by omega)
  rw [← hnb] at O2 ⊢
  have HWW := Lib.hid hW
  rw [← hev]
  obtain ⟨ge, hge⟩ : ∃ g, ev = Value.slice (some ⟨g, 0, none⟩) nE nE := ⟨_, hev⟩
  have SZ : Hid (∀ wr, Below w1.heap.size w1 wr → w1.heap.size ≤ wr.heap.size ∧ wr.cell? ⟨sb, 0, none⟩ = some (.slice AB nB cB) ∧ wr.cell? ⟨sb, 1, none⟩ = some (.slice AE nE cE) ∧ sb < wr.heap.size ∧ Below w.heap.size w wr) := Lib.hid (fun wr b => by
    have h := SB.out.below b (Nat.le_refl _)
    exact ⟨b.size, h.at_.1, h.at_.2, h.lt, B1.out.trans (b.mono B1.out.size)⟩)
  clear hw2 b2 hnb hW hev x0 x1 xl hmk SB
  subst hge
  go_wp2_with fail
  go_loopw [4] (fun iv wr => VtR B E nB nE nb (.slice (some ⟨ge, 0, none⟩) nE nE) (fun _ => .slice none 0 0) W w1 wr iv) (fun iv _ => nB - (intOf iv).toNat)
  case atStart => exact ⟨0, none, 0, none, 0, rfl, Nat.zero_le _, by show OfS _ _ _ _ _ _ _ _ _ _ _ _ ⟨[], 0, List.replicate (2 * E.length) 0⟩ _ _ _ _ _; rw [NE.out]; exact O2.out⟩
  case round =>
    clear O2
    obtain ⟨k, A, cp, Af, cf, rfl, hk, hO⟩ := hrel
    obtain ⟨v1, v2⟩ := CV.out k hk
    have VX : Hid (vxK B E (k + 1) = (if B.getD k false = true then bxN E k (vxK B E k).1 else ptN E k (vxK B E k).1, (vxK B E k).2 ++ [((vxK B E k).1.n : Int)])) := Lib.hid rfl
    obtain ⟨⟨s, F⟩, hsF⟩ : ∃ z, vxK B E k = z := ⟨_, rfl⟩
    have HSF := Lib.hid hsF
    rw [hsF] at hO v1 VX
    obtain ⟨n, hn⟩ : ∃ n, s.n = n := ⟨_, rfl⟩
    have SN := Lib.hid hn
    have O3 : Hid (OfS w1.heap.size nb nE w1 wr (.slice A n cp) (.slice Af k cf) (.slice none 0 0) (.slice A n cp) (.slice Af k cf) (.slice (some ⟨ge, 0, none⟩) nE nE) (.slice none 0 0) s F k (fun _ => .slice none 0 0) W 0) := Lib.hid (by rw [← hn]; exact hO)
    have hn4 : n ≤ 4096 := by have h : s.n = cntV B E k := v1; omega
    have V1 : Hid (s.n = cntV B E k) := Lib.hid v1
    clear hO v1 v2 hsF hn
    obtain ⟨hwB, x0, x1, xl, BW⟩ := SZ.out wr O3.out.bel
    have HB3 := Lib.hid BW
    clear BW
    obtain ⟨y0, y1, y2, y3⟩ := O3.out.bx.at_
    have yl := O3.out.bx.lt
    have yf1 := O3.out.bx.fr 1
    by_cases hlt : k < nB
    · have q0 : decide (k < nB) = true := decide_eq_true hlt
      have hkB : k < B.length := by have := NB.out; omega
      go_upto_region 7 with (at_builtin; go_must (refine wpList_append_fresh rfl (.tmp 33) (.tmp 35) 41 rfl w1.heap.size 3 i0 (.int .i64 0) 1 8 Tryd.underlying41 hi hz0 hz1 hz2 rfl (by decide) (.slice Af k cf) k (F.map intV) rfl (O3.out.fst.below ((Below.refl _ _).alloc (Nat.le_refl _) _) (Nat.le_refl _)).2 ⟨wr.heap.size, 0, none⟩ 1 1 [intV (n : Int)] rfl rfl (newsZ _ _ _ _ rfl) (oneZ _) (by unfold maxLen; omega) (by omega) (by simp; omega) ?_; intro v5 w5 hown hgrow hfr; have o5 := OwnZn.more O3.out.fst.1 hown; obtain ⟨a5, c5, e5⟩ := o5.form; subst e5; have O5 := Lib.hid ((O3.out.below hwB ((Below.refl _ _).alloc (Nat.le_refl _) _)).grownF (by simp; omega) hgrow o5); have hwB5 : w1.heap.size ≤ w5.heap.size := (by have h := hgrow.size; simp at h; omega); clear hown hgrow hfr o5 y0 y1 y2 y3 yl yf1; obtain ⟨y0, y1, y2, y3⟩ := O5.out.bx.at_; have yl := O5.out.bx.lt; have yf1 := O5.out.bx.fr 1))
      have O6 : Hid (OfS w1.heap.size nb nE w1 (w5.setCell ⟨nb, 1, none⟩ (.slice a5 (k + 1) c5)) (.slice A n cp) (.slice a5 (k + 1) c5) (.slice none 0 0) (.slice A n cp) (.slice a5 (k + 1) c5) (.slice (some ⟨ge, 0, none⟩) nE nE) (.slice none 0 0) s (F ++ [(n : Int)]) (k + 1) (fun _ => .slice none 0 0) W 0) := Lib.hid (O5.out.b1 NBB.out _)
      obtain ⟨w6, hw6⟩ : ∃ Wq, Wq = w5.setCell ⟨nb, 1, none⟩ (.slice a5 (k + 1) c5) := ⟨_, rfl⟩
      rw [← hw6] at O6
      rw [← hw6]
      clear hw6 O5 O3 y0 y1 y2 y3 yl yf1 x0 x1 xl HB3 hwB hwB5
      obtain ⟨hwB6, x0, x1, xl, BW6⟩ := SZ.out w6 O6.out.bel
      obtain ⟨bb, obb, rfl, hbb, z0⟩ := HB.out.one hkB
      have f0 := (BW6.cell (p := ⟨bb, obb + k, none⟩) hbb).trans z0
      have hbw := Nat.lt_of_lt_of_le hbb BW6.size
      obtain ⟨t, ht⟩ : ∃ t, B.getD k false = t := ⟨_, rfl⟩
      have HT := Lib.hid ht
      rw [ht] at f0
      have B6 := Lib.hid BW6
      clear ht z0 BW6 hbb
      obtain ⟨y0, y1, y2, y3⟩ := O6.out.bx.at_
      have yl := O6.out.bx.lt
      cases t
      · have EVX : Hid (vxK B E (k + 1) = (ptN E k s, F ++ [(n : Int)])) := Lib.hid (by rw [VX.out, HT.out, ← SN.out]; rfl)
        go_upto_region 10 with (go_at_call 19; refine (refNew 1 _ (by decide)).mono ?_; rintro e w7 ⟨⟨g7, rfl, o7⟩, b7⟩; have O7 := Lib.hid o7; have P7 := Lib.hid (O6.out.below hwB6 b7); have hwB7 : w1.heap.size ≤ w7.heap.size := Nat.le_trans hwB6 b7.size; clear o7 b7 y0 y1 y2 y3 yl x0 x1 xl f0 hbw; obtain ⟨y0, y1, y2, y3⟩ := P7.out.bx.at_; have yl := P7.out.bx.lt; have yf := P7.out.bx.fr 0)
        go_upto_region 11 with (at_builtin; go_must (refine wpList_append_fresh rfl (.tmp 49) (.tmp 50) 30 rfl w1.heap.size 54 ic (.agg #[.int .i64 0, .int .i64 0, .int .i64 0, .int .i64 0, .int .i64 0, .int .i64 0, .int .i64 0, .int .i64 0]) 8 64 Tryd.underlying30 hci hc0 hc1 hc2 rfl (by decide) (.slice A n cp) n (s.L.map intV) rfl (by have h := P7.out.nm.cel; rw [SN.out] at h; exact h) ⟨g7, 0, none⟩ 1 1 ((newG 1).map intV) rfl rfl (O7.out.cells rfl) (allI _) (by unfold maxLen; omega) (by omega) hwB7 ?_; intro v8 w8 hown hgrow hfr; have o8 := more_cells hown; obtain ⟨a8, c8, e8⟩ := o8.form; subst e8; have O8 := Lib.hid (P7.out.grownC (s' := moN s) hwB7 hgrow (by show OwnG _ _ _ (s.L ++ freeC) (s.n + 1); rw [SN.out]; exact o8) rfl); have hwB8 : w1.heap.size ≤ w8.heap.size := (by have := hgrow.size; omega); clear hown hgrow hfr o8 y0 y1 y2 y3 yl yf; obtain ⟨y0, y1, y2, y3⟩ := O8.out.bx.at_; have yl := O8.out.bx.lt; have yf := O8.out.bx.fr 0))
        have O9 := Lib.hid (O8.out.b0 NBB.out (.slice a8 (n + 1) c8))
        obtain ⟨w9, hw9⟩ : ∃ Wq, Wq = w8.setCell ⟨nb, 0, none⟩ (.slice a8 (n + 1) c8) := ⟨_, rfl⟩
        rw [← hw9] at O9
        rw [← hw9]
        clear hw9 O8 P7 O7 O6 y0 y1 y2 y3 yl yf hwB6 hwB7 hwB8
        go_wp2_with fail
        go_loopw [7] (fun dv wr => PtR E k n nE nb (k + 1) (moN s) (F ++ [(n : Int)]) (.slice a8 (n + 1) c8) (.slice a5 (k + 1) c5) (.slice (some ⟨ge, 0, none⟩) nE nE) (fun _ => .slice none 0 0) W w1 wr dv) (fun dv _ => 4 - (intOf dv).toNat)
        case atStart => exact ⟨0, rfl, by omega, O9.out⟩
        case round =>
          clear O9
          obtain ⟨d, rfl, hd, hO⟩ := hrel
          have O10 := Lib.hid hO
          obtain ⟨hwB, x0, x1, xl, BW⟩ := SZ.out _ hO.bel
          have B10 := Lib.hid BW
          clear hO BW
          by_cases hd4 : d < 4
          · have q1 : decide (d < 4) = true := decide_eq_true hd4
            have q1' : decide ((d : Int) < 4) = true := decide_eq_true (by omega)
            go_upto_region 15 with (go_at_call 28; go_must (refine (ON.out (k : Int) (d : Int) _ B10.out).mono ?_; rintro e w11 ⟨⟨A11, c11, n11, rfl, o11, hn11⟩, b11⟩; have Z11 := Lib.hid (o11.base hwB); have HL11 : Hid ((onL E (k : Int) (d : Int)).length = n11) := Lib.hid o11.1; have O11 := Lib.hid (O10.out.below hwB b11); clear o11 b11 x0 x1 xl))
            obtain ⟨sd, hsd⟩ : ∃ z, ptK E (k : Int) (n : Int) (moN s) d = z := ⟨_, rfl⟩
            have HSD := Lib.hid hsd
            rw [hsd] at O11
            obtain ⟨l, hl⟩ : ∃ z, onL E (k : Int) (d : Int) = z := ⟨_, rfl⟩
            have LM : Hid (∀ i, i < n11 → ∃ t : Nat, l.getD i 0 = (t : Int) ∧ t / 2 < nE) := Lib.hid (fun i hi => by
              have hlen := HL11.out
              have hmem : (onL E (k : Int) (d : Int)).getD i 0 ∈ onL E (k : Int) (d : Int) := by
                rw [List.getD_eq_getElem?_getD, List.getElem?_eq_getElem (by omega)]
                exact List.getElem_mem _
              rw [← hl]
              obtain ⟨q, hq, h1⟩ := onK_mem.1 hmem
              have hmm := NE.out
              rcases on1_mem.1 h1 with ⟨e, _⟩ | ⟨e, _⟩
              · exact ⟨2 * q, by omega, by omega⟩
              · exact ⟨2 * q + 1, by omega, by omega⟩)
            rw [hl] at Z11 HL11
            have HLL := Lib.hid hl
            clear hl hsd O10 B10
            go_wp2_with fail
            go_loopw [9] (fun iv wr => PiR l n11 n nE nb (k + 1) sd (F ++ [(n : Int)]) (.slice a8 (n + 1) c8) (.slice a5 (k + 1) c5) (.slice (some ⟨ge, 0, none⟩) nE nE) (.slice A11 n11 c11) (fun _ => .slice none 0 0) W w1 wr iv) (fun iv _ => n11 - (intOf iv).toNat)
            case atStart => exact ⟨0, rfl, Nat.zero_le _, O11.out, Z11.out⟩
            case round =>
              clear O11 Z11 hwB
              obtain ⟨i, rfl, hin, hO, hZ⟩ := hrel
              have O12 := Lib.hid hO
              have Z12 := Lib.hid hZ
              have hwB : w1.heap.size ≤ wr.heap.size := hO.bel.size
              have PI : Hid (ptE l (n : Int) sd (i + 1) = putE (ptE l (n : Int) sd i) (l.getD i 0) (n : Int)) := Lib.hid rfl
              obtain ⟨⟨ZL, zn, ze⟩, hz⟩ : ∃ z, ptE l (n : Int) sd i = z := ⟨_, rfl⟩
              rw [hz] at O12 PI
              have HZ := Lib.hid hz
              clear hO hZ hz
              by_cases hlt3 : i < n11
              · have q2 : decide (i < n11) = true := decide_eq_true hlt3
                obtain ⟨t, ht, htm⟩ := LM.out i hlt3
                obtain ⟨g11, e11⟩ : ∃ g, A11 = some ⟨g, 0, none⟩ := by
                  obtain ⟨g, cap, hv, _⟩ := ownsRow_form Z12.out.2 (by omega)
                  simp only [Value.slice.injEq, true_and] at hv
                  exact ⟨g, hv.1⟩
                subst e11
                have f0 := Z12.out.at_ hlt3
                rw [ht] at f0
                have HTT := Lib.hid ht
                obtain ⟨a, ha⟩ : ∃ a : Nat, (t : Int) / 2 = (a : Int) := ⟨t / 2, by omega⟩
                obtain ⟨r, hr⟩ : ∃ r : Nat, (t : Int) % 2 = (r : Int) := ⟨t % 2, by omega⟩
                have ham : a < nE := by omega
                have hr2 : r < 2 := by omega
                have hat : a * 2 + r = t := by omega
                have HE2 : wr.ownsRow w1.heap.size 83 2 (.slice (some ⟨ge, 0, none⟩) nE nE) nE (ze.map intV) := O12.out.nm.ends
                have hle : (ze.map intV).length = nE * 2 := HE2.1
                have ha' : (t : Int).tdiv 2 = (a : Int) := by rw [Int.tdiv_eq_ediv_of_nonneg (by omega)]; exact ha
                have hr' : (t : Int).tmod 2 = (r : Int) := by rw [Int.tmod_eq_emod_of_nonneg (by omega)]; exact hr
                obtain ⟨y0, j0⟩ : ∃ y, wr.cell? ⟨ge, a * 2 + r, none⟩ = some y := ⟨_, by rw [World.ownsRow.cellAt HE2 (a * 2 + r) (by omega), List.getElem?_eq_getElem (by omega)]⟩
                have j1 := World.ownsRow.frozenAt HE2 (a * 2 + r)
                have zl11 := (World.ownsRow.lt Z12.out.2 g11 rfl).2
                have zle := (World.ownsRow.lt HE2 ge rfl).2
                have hix : a * 2 + r = (l.getD i 0).toNat := by rw [HTT.out, Int.toNat_natCast]; exact hat
                have o13 := (O12.out.told hwB rfl (a * 2 + r) (n : Int)).below (by simpa [World.setCell] using hwB) (Below.refl _ _).drew
                have O13 : Hid (OfS w1.heap.size nb nE w1 (wr.setCell ⟨ge, a * 2 + r, none⟩ (.int .i64 (n : Int))).drew (.slice a8 (n + 1) c8) (.slice a5 (k + 1) c5) (.slice none 0 0) (.slice a8 (n + 1) c8) (.slice a5 (k + 1) c5) (.slice (some ⟨ge, 0, none⟩) nE nE) (.slice none 0 0) (ptE l (n : Int) sd (i + 1)) (F ++ [(n : Int)]) (k + 1) (fun _ => .slice none 0 0) W 0) := Lib.hid (by rw [PI.out]; unfold putE; rw [← hix]; exact o13)
                have Z13 := Lib.hid ((Z12.out.told HE2 rfl (a * 2 + r) (.int .i64 (n : Int))).below (Below.refl _ _).drew (Nat.le_refl _))
                have cw1 : IntKind.i64.wrap (a : Int) = (a : Int) := IntWalk.i64_in _ (by omega)
                have cw2 : IntKind.i64.wrap (r : Int) = (r : Int) := IntWalk.i64_in _ (by omega)
                obtain ⟨-, -, u2, -⟩ := O12.out.bx.at_
                have ul := O12.out.bx.lt
                clear ht htm hle HE2 hix o13 hat
                go_upto_region 18 with (fail)
                go_region
                clear j0 j1 f0 u2 ul zl11 zle cw1 cw2 ha hr ha' hr'
                go_wp2_with fail
                go_roundw
                case rel => exact ⟨i + 1, by go_num, by omega, O13.out, Z13.out⟩
                case measure => (simp [intOf] <;> omega)
              · have hin2 : i = n11 := by omega
                have q2 : decide (i < n11) = false := decide_eq_false hlt3
                have EK : Hid (ptK E (k : Int) (n : Int) (moN s) (d + 1) = ⟨ZL, zn, ze⟩) := Lib.hid (by
                  show ptE (onL E (k : Int) (d : Int)) _ _ _ = _
                  rw [HLL.out, HL11.out, ← hin2, HSD.out, HZ.out])
                clear hin2
                go_wp2_with fail
                go_roundw
                case rel => exact ⟨d + 1, by go_num, by omega, by rw [EK.out]; exact O12.out⟩
                case measure => (simp [intOf] <;> omega)
          · have hd5 : d = 4 := by omega
            have q1 : decide (d < 4) = false := decide_eq_false hd4
            have q1' : decide ((d : Int) < 4) = false := decide_eq_false (by omega)
            rw [hd5] at O10
            have PN : Hid ((ptN E (k : Int) s).n = n + 1) := Lib.hid (by
              have h := (ptK_n (E := E) (v := (k : Int)) (c := (s.n : Int)) (s := moN s) 4).1
              show (ptK E (k : Int) s.n (moN s) 4).n = _
              rw [h, ← SN.out]; rfl)
            have PK : Hid (ptN E (k : Int) s = ptK E (k : Int) (n : Int) (moN s) 4) := Lib.hid (by unfold ptN; rw [SN.out])
            clear hd5
            go_wp2_with fail
            go_roundw
            case rel => exact ⟨k + 1, a8, c8, a5, c5, by go_num, by omega, by rw [EVX.out]; show OfS _ _ _ _ _ (.slice a8 (ptN E (k : Int) s).n c8) _ _ (.slice a8 (ptN E (k : Int) s).n c8) _ _ _ _ _ _ _ _ _; rw [PN.out, PK.out]; exact O10.out⟩
            case measure => (simp [intOf] <;> omega)
      · have EVX : Hid (vxK B E (k + 1) = (bxN E k s, F ++ [(n : Int)])) := Lib.hid (by rw [VX.out, HT.out, ← SN.out]; rfl)
        have hcn := (CV.out (k + 1) (by omega)).2
        have BX := Lib.hid (refBox (w0 := w1) (bv := .slice (some ⟨bb, obb, none⟩) nB cB) (fv := .slice a5 (k + 1) c5) (wv := .slice none 0 0) k O6.out.nm hwB6 (HE.out.below B1.out (Nat.le_refl _)) (Nat.le_refl _) O6.out.bel NE.out.symm O6.out.nm.right (by rw [NE.out]; exact hel) HOK.out (by rw [V1.out]; rw [cntV] at hcn; unfold vtxC at hcn; rw [HT.out, if_pos rfl] at hcn; omega) ⟨_, _, _, rfl⟩ ⟨_, _, _, rfl⟩)
        go_wp2_with (go_at_call 29; go_must (refine BX.out.mono ?_; rintro e w7 ⟨cv7, rfl, nm7, b7, o7, -⟩; obtain ⟨a7, c7, e7⟩ := nm7.cel.form; subst e7; have O7 := Lib.hid (O6.out.past hwB6 o7 (fun b e => e) nm7); clear nm7 b7 o7 y0 y1 y2 y3 yl x0 x1 xl f0 hbw; obtain ⟨y0, y1, y2, y3⟩ := O7.out.bx.at_; have yl := O7.out.bx.lt; have yf0 := O7.out.bx.fr 0; have yf1 := O7.out.bx.fr 1; have yf2 := O7.out.bx.fr 2; have yf3 := O7.out.bx.fr 3; obtain ⟨n7, hn7⟩ : ∃ n, (bxN E (k : Int) s).n = n := ⟨_, rfl⟩; have N7 := Lib.hid hn7; rw [hn7] at O7; rw [hn7]; clear hn7))
        have O8 := Lib.hid ((((O7.out.b0 NBB.out (.slice a7 n7 c7)).b1 NBB.out (.slice a5 (k + 1) c5)).b2 NBB.out).b3 NBB.out (.slice none 0 0))
        go_roundw
        case rel => exact ⟨k + 1, a7, c7, a5, c5, by go_num, by omega, by rw [EVX.out]; show OfS _ _ _ _ _ (.slice a7 (bxN E (k : Int) s).n c7) _ _ (.slice a7 (bxN E (k : Int) s).n c7) _ _ _ _ _ _ _ _ _; rw [N7.out]; exact O8.out⟩
        case measure => (simp [intOf] <;> omega)
    · have hkn : k = nB := by omega
      have q0 : decide (k < nB) = false := decide_eq_false hlt
      have FN := (CV.out nB (Nat.le_refl _)).1
      rw [hkn] at HSF V1
      have HS1 : Hid ((vxK B E nB).1 = s ∧ (vxK B E nB).2 = F) := Lib.hid (by rw [HSF.out]; exact ⟨rfl, rfl⟩)
      have W1 : Hid (W = wyE E s) := Lib.hid (by rw [HWW.out, HSF.out])
      rw [hkn] at O3
      clear hkn FN
      obtain ⟨fv, hfv⟩ : ∃ fv, fv = Value.slice Af nB cf := ⟨_, rfl⟩
      rw [← hfv] at O3
      have FF := Lib.hid hfv
      have N0 : Hid (s.n ≤ 4096 ∧ ∀ i, i ≤ nE → s.n + bndK E i ≤ 4096) := Lib.hid ⟨by rw [SN.out]; exact hn4, fun i hi => by rw [V1.out]; exact CE.out i hi⟩
      rw [← SN.out] at O3
      clear hfv y0 y1 y2 y3 yl yf1
      go_wp2_with fail
      clear x0 x1 xl
      go_loopw [10] (fun iv wr => EtR E s F nB nE nb fv (.slice (some ⟨ge, 0, none⟩) nE nE) W w1 wr iv) (fun iv _ => nE - (intOf iv).toNat)
      case atStart => exact ⟨0, A, cp, none, 0, fun _ => .slice none 0 0, rfl, Nat.zero_le _, O3.out⟩
      case round =>
        clear O3 HB3 hwB
        obtain ⟨i, A1, cp1, Aw, cw, V, rfl, hiN, hO⟩ := hrel
        have O4 := Lib.hid hO
        obtain ⟨hwB, x0, x1, xl, BW⟩ := SZ.out _ hO.bel
        obtain ⟨y0, y1, y2, y3⟩ := hO.bx.at_
        have yl := hO.bx.lt
        clear hO
        by_cases hlt2 : i < nE
        · have q1 : decide (i < nE) = true := decide_eq_true hlt2
          have hiE : i < E.length := by have := NE.out; omega
          obtain ⟨be, oe, rfl, hbe, z0, z1, z2, z3⟩ := HE.out.one hiE
          have EF : Hid (∀ wq, Below w1.heap.size w1 wq → wq.cell? ⟨be, oe + i * 4 + 2, none⟩ = some (.int .i64 E[i].2.2.1) ∧ wq.cell? ⟨be, oe + i * 4 + 3, none⟩ = some (.string (bs E[i].2.2.2)) ∧ be < wq.heap.size) := Lib.hid (fun wq b => by
            have B := (SZ.out wq b).2.2.2.2
            exact ⟨(B.cell (p := ⟨be, oe + i * 4 + 2, none⟩) hbe).trans z2, (B.cell (p := ⟨be, oe + i * 4 + 3, none⟩) hbe).trans z3, Nat.lt_of_lt_of_le hbe B.size⟩)
          have GE : Hid (E.getD i noE = E[i]) := Lib.hid (by rw [List.getD_eq_getElem?_getD, List.getElem?_eq_getElem hiE]; rfl)
          have hok := HM.out.ok E[i] (List.getElem_mem hiE)
          have hle := bend_le HM.out.bs (List.getElem_mem hiE)
          have hsz : (bs E[i].2.2.2).size = E[i].2.2.2.length := bs_size _
          have hnb : nbE E i = E[i].2.2.2.length := by unfold nbE; rw [GE.out]
          obtain ⟨d0, hd0⟩ : ∃ d : Nat, (d : Int) = E[i].2.2.1 := ⟨E[i].2.2.1.toNat, by have := hok.2.2.2.2.1; omega⟩
          have hd4 : d0 < 4 := by have := hok.2.2.2.2.2.1; omega
          obtain ⟨em1, em2⟩ := egK_m (E := E) (s := s) i
          have BD0 : Hid (bdE E s i 0 = ((egK E s i).1, s.en.getD (2 * i) 0, (d0 : Int), [s.en.getD (2 * i) 0])) := Lib.hid (by show ((egK E s i).1, s.en.getD (2 * i) 0, (E.getD i noE).2.2.1, [s.en.getD (2 * i) 0]) = _; rw [GE.out, ← hd0])
          obtain ⟨bl, hbl2⟩ : ∃ b, E[i].2.2.2 = b := ⟨_, rfl⟩
          have BDS : Hid (∀ k, bdE E s i (k + 1) = (joiN (moN (bdE E s i k).1) (bdE E s i k).2.1 (bdE E s i k).2.2.1 (bdE E s i k).1.n i, ((bdE E s i k).1.n : Int), ((bdE E s i k).2.2.1 + addT (bl.getD k 0)) % 4, (bdE E s i k).2.2.2 ++ [((bdE E s i k).1.n : Int)])) := Lib.hid (fun k => by
            rw [← hbl2, ← GE.out]; rfl)
          have BDM : Hid (∀ k, k ≤ bl.length → (bdE E s i k).1.n ≤ 4096 ∧ (bdE E s i k).1.en = s.en ∧ (bdE E s i k).2.2.2.length = k + 1) := Lib.hid (fun k hk => by
            obtain ⟨m1, m2, m3⟩ := bdK_m (i := (i : Int)) (bl := (E.getD i noE).2.2.2) (s := (egK E s i).1) (a := s.en.getD (2 * i) 0) (d := (E.getD i noE).2.2.1) k
            have h1 := N0.out.2 (i + 1) (by omega)
            rw [bndK, hnb, hbl2] at h1
            exact ⟨by show (bdK _ _ _ _ _ _).1.n ≤ 4096; rw [m1, em1]; omega, m2.trans em2, m3⟩)
          have EGN : Hid (egK E s (i + 1) = (joiN (bdE E s i bl.length).1 (bdE E s i bl.length).2.1 (bdE E s i bl.length).2.2.1 (s.en.getD (2 * i + 1) 0) i, (egK E s i).2 ++ [wyE E s i])) := Lib.hid (by
            rw [← hbl2, ← hnb]; rfl)
          have WYE : Hid (wyE E s i = (bdE E s i bl.length).2.2.2 ++ [s.en.getD (2 * i + 1) 0]) := Lib.hid (by unfold wyE; rw [hnb, hbl2])
          have EN0 : Hid ((egK E s i).1.en = s.en) := Lib.hid em2
          have EN1 : Hid (s.en.length = nE * 2) := Lib.hid (by have h := O4.out.nm.ends.1; rw [List.length_map, em2] at h; exact h)
          rw [hbl2] at EF hsz hle
          rw [← hd0] at EF
          have HZL := Lib.hid hsz
          have hzs : (bs bl).size ≤ 4096 := by rw [hsz]; exact hle
          have BDA : Hid (∀ k (h : k < (bs bl).size), bl.getD k 0 = (bs bl)[k]'h) := Lib.hid (fun k h => by
            have h1 := byte_at (bs bl) k h
            rw [bs_data] at h1
            rw [List.getD_eq_getElem?_getD, h1]; rfl)
          clear z0 z1 z2 z3 hok hle hsz hnb hd0 em1 em2 hbl2 hbe
          generalize bs bl = sk at *
          obtain ⟨f2, f3, fl⟩ := EF.out _ O4.out.bel
          have HE2 : wr.ownsRow w1.heap.size 83 2 (.slice (some ⟨ge, 0, none⟩) nE nE) nE (s.en.map intV) := by have h := O4.out.nm.ends; rw [EN0.out] at h; exact h
          obtain ⟨a0, ha0⟩ : ∃ z, s.en.getD (2 * i) 0 = z := ⟨_, rfl⟩
          have e0 : wr.cell? ⟨ge, i * 2, none⟩ = some (.int .i64 a0) := by
            rw [World.ownsRow.cellAt HE2 (i * 2) (by have := EN1.out; omega), List.getElem?_map, List.getElem?_eq_getElem (by have := EN1.out; omega), ← ha0, List.getD_eq_getElem?_getD, Nat.mul_comm 2 i, List.getElem?_eq_getElem (by have := EN1.out; omega)]; rfl
          have zle := (World.ownsRow.lt HE2 ge rfl).2
          have HA0 := Lib.hid ha0
          rw [ha0] at BD0
          clear ha0 HE2
          obtain ⟨n4, hn4'⟩ : ∃ n, (egK E s i).1.n = n := ⟨_, rfl⟩
          rw [hn4'] at O4 y0
          have N4 := Lib.hid hn4'
          clear hn4'
          obtain ⟨wo, hwo⟩ : ∃ Wq, Wq = wr := ⟨_, rfl⟩
          subst hwo
          go_upto_region 25 with (fail)
          obtain ⟨wx, hwx⟩ : ∃ Wq, Wq = (wo.alloc (.cells #[.int .i64 a0] 3)) := ⟨_, rfl⟩
          have bx : Below wo.heap.size wo wx := by rw [hwx]; exact (Below.refl _ _).alloc (Nat.le_refl _) _
          have OX := Lib.hid (O4.out.below hwB bx)
          have ZX : Hid (OwnZn wx wo.heap.size (.slice (some ⟨wo.heap.size, 0, none⟩) 1 1) [a0] 1) := Lib.hid (by rw [hwx]; exact OwnZn.one wo a0)
          have HFV : Hid ((∀ b, fv.ownBlock = some b → b < wo.heap.size) ∧ ∀ j, j < i → ∀ b, (V j).ownBlock = some b → b < wo.heap.size) := Lib.hid ⟨fun b hb => (O4.out.fst.2.lt b hb).2, fun j hj b hb => ((O4.out.row j hj).2.lt b hb).2⟩
          have WOB := Lib.hid hwB
          rw [← hwx]
          clear hwx bx O4 x0 x1 xl y0 y1 y2 y3 yl f2 f3 fl e0 zle hwB BW
          go_wp2_with fail
          go_loopw [11, 12, 13, 14] (fun av dv yv kv wr => BtR E s F nB nE nb i wo.heap.size sk.size fv (.slice (some ⟨ge, 0, none⟩) nE nE) (.slice Aw i cw) V W w1 wr av dv yv kv) (fun _ _ _ kv _ => sk.size - (intOf kv).toNat)
          case atStart => exact ⟨0, d0, A1, cp1, some ⟨wo.heap.size, 0, none⟩, 1, rfl, Nat.zero_le _, by rw [BD0.out], rfl, by rw [BD0.out], hd4, rfl, by rw [BD0.out]; show OfS _ _ _ _ _ (.slice A1 (egK E s i).1.n cp1) _ _ (.slice A1 (egK E s i).1.n cp1) _ _ _ _ _ _ _ _ _; rw [N4.out]; exact OX.out, by rw [BD0.out]; exact ZX.out⟩
          case round =>
            clear OX ZX
            obtain ⟨k5, z, A5, cp5, Az, cz, rfl, hk5, rfl, rfl, hz, hz4, rfl, hO, hZ⟩ := hrel
            have NXT := Lib.hid (BDS.out k5)
            obtain ⟨bm1, bm2, bm3⟩ := BDM.out k5 (by rw [← HZL.out]; exact hk5)
            obtain ⟨⟨⟨ZL, zn, ze⟩, at_, dd, wl⟩, hbd⟩ : ∃ q, bdE E s i k5 = q := ⟨_, rfl⟩
            have HBD := Lib.hid hbd
            rw [hbd] at hO hZ hz NXT bm1 bm2 bm3
            rw [hbd]
            have hz' : (z : Int) = dd := hz
            have hzn : zn ≤ 4096 := bm1
            have ZEN : Hid (ze = s.en) := Lib.hid bm2
            have WLL : Hid (wl.length = k5 + 1) := Lib.hid bm3
            have O5 : Hid (OfS w1.heap.size nb nE w1 wr (.slice A5 zn cp5) fv (.slice Aw i cw) (.slice A5 zn cp5) fv (.slice (some ⟨ge, 0, none⟩) nE nE) (.slice Aw i cw) ⟨ZL, zn, ze⟩ F nB V W i) := Lib.hid hO
            have Z5 : Hid (OwnZn wr wo.heap.size (.slice Az (k5 + 1) cz) wl (k5 + 1)) := Lib.hid hZ
            rw [← hz'] at NXT HBD
            have HK5 := Lib.hid hk5
            clear bm1 bm2 bm3 hbd hz hO hZ hz'
            obtain ⟨hwB, x0, x1, xl, -⟩ := SZ.out _ O5.out.bel
            obtain ⟨y0, y1, y2, y3⟩ := O5.out.bx.at_
            have yl := O5.out.bx.lt
            obtain ⟨f2, f3, fl⟩ := EF.out _ O5.out.bel
            by_cases hlt5 : k5 < sk.size
            · have q2 : decide (k5 < sk.size) = true := decide_eq_true hlt5
              go_upto_region 30 with (go_at_call 19; refine (refNew 1 _ (by decide)).mono ?_; rintro e w7 ⟨⟨g7, rfl, o7⟩, b7⟩; have N7 := Lib.hid o7; have O7 := Lib.hid (O5.out.below hwB b7); have Z7 := Lib.hid (Z5.out.below b7 (Nat.le_refl _)); have hwB7 : w1.heap.size ≤ w7.heap.size := Nat.le_trans hwB b7.size; clear o7 b7 x0 x1 xl y0 y1 y2 y3 yl f2 f3 fl; obtain ⟨y0, y1, y2, y3⟩ := O7.out.bx.at_; have yl := O7.out.bx.lt; have yf := O7.out.bx.fr 0)
              go_upto_region 31 with (at_builtin; go_must (refine wpList_append_fresh rfl (.tmp 119) (.tmp 120) 30 rfl w1.heap.size 54 ic (.agg #[.int .i64 0, .int .i64 0, .int .i64 0, .int .i64 0, .int .i64 0, .int .i64 0, .int .i64 0, .int .i64 0]) 8 64 Tryd.underlying30 hci hc0 hc1 hc2 rfl (by decide) (.slice A5 zn cp5) zn (ZL.map intV) rfl O7.out.nm.cel ⟨g7, 0, none⟩ 1 1 ((newG 1).map intV) rfl rfl (N7.out.cells rfl) (allI _) (by unfold maxLen; omega) (by omega) hwB7 ?_; intro v8 w8 hown hgrow hfr; have o8 := more_cells hown; obtain ⟨a8, c8, e8⟩ := o8.form; subst e8; have O8 := Lib.hid (O7.out.grownC (s' := ⟨ZL ++ freeC, zn + 1, ze⟩) hwB7 hgrow o8 rfl); have Z8 := Lib.hid (Z7.out.past O7.out.nm.cel hgrow); have hwB8 : w1.heap.size ≤ w8.heap.size := (by have := hgrow.size; omega); clear hown hgrow hfr o8 y0 y1 y2 y3 yl yf; obtain ⟨y0, y1, y2, y3⟩ := O8.out.bx.at_; have yl := O8.out.bx.lt; have yf := O8.out.bx.fr 0))
              have O9 := Lib.hid (O8.out.b0 NBB.out (.slice a8 (zn + 1) c8))
              have Z9 := Lib.hid (Z8.out.held O8.out.bx (.slice a8 (zn + 1) c8))
              obtain ⟨w9, hw9⟩ : ∃ Wq, Wq = w8.setCell ⟨nb, 0, none⟩ (.slice a8 (zn + 1) c8) := ⟨_, rfl⟩
              rw [← hw9] at O9 Z9
              rw [← hw9]
              have hwB9 : w1.heap.size ≤ w9.heap.size := O9.out.bel.size
              clear hw9 O8 Z8 O7 Z7 N7 O5 Z5 y0 y1 y2 y3 yl yf hwB7 hwB8
              obtain ⟨y0, y1, y2, y3⟩ := O9.out.bx.at_
              have yl := O9.out.bx.lt
              go_upto_region 33 with (go_at_call 30; go_must (refine (refJoinAny (L := ZL ++ freeC) (n := zn + 1) (ownG_zero O9.out.nm.cel) (by omega) at_ (z : Int) (zn : Int) (i : Int)).mono ?_; rintro e w10 ⟨A10, c10, rfl, r10⟩; have O10 := Lib.hid (O9.out.joined hwB9 r10); have Z10 := Lib.hid (Z9.out.below r10.2.2 (Nat.le_refl _)); have hwB10 : w1.heap.size ≤ w10.heap.size := Nat.le_trans hwB9 r10.2.2.size; clear r10 y0 y1 y2 y3 yl; obtain ⟨y0, y1, y2, y3⟩ := O10.out.bx.at_; have yl := O10.out.bx.lt; have yf := O10.out.bx.fr 0))
              have JN : Hid (joiN (moN ⟨ZL, zn, ze⟩) at_ (z : Int) (zn : Int) (i : Int) = ⟨(joiO (ZL ++ freeC) (zn + 1) at_ (z : Int) (zn : Int) (i : Int)).2, zn + 1, ze⟩) := Lib.hid rfl
              have O11 := Lib.hid (O10.out.b0 NBB.out (.slice A10 (zn + 1) c10))
              have Z11 := Lib.hid (Z10.out.held O10.out.bx (.slice A10 (zn + 1) c10))
              obtain ⟨w11, hw11⟩ : ∃ Wq, Wq = w10.setCell ⟨nb, 0, none⟩ (.slice A10 (zn + 1) c10) := ⟨_, rfl⟩
              rw [← hw11] at O11 Z11
              rw [← hw11]
              have hwB11 : w1.heap.size ≤ w11.heap.size := O11.out.bel.size
              clear hw11 O9 Z9 O10 Z10 y0 y1 y2 y3 yl yf hwB9 hwB10
              have OA := Lib.hid (O11.out.below hwB11 ((Below.refl _ _).alloc (Nat.le_refl _) (.cells #[.int .i64 (zn : Int)] 3)))
              have ZA := Lib.hid (Z11.out.below ((Below.refl _ _).alloc (Nat.le_refl _) (.cells #[.int .i64 (zn : Int)] 3)) (Nat.le_refl _))
              have hk9 : k5 ≤ 5000 := by omega
              go_upto_region 34 with (at_builtin; go_must (refine wpList_append_fresh rfl (.tmp 135) (.tmp 137) 41 rfl wo.heap.size 3 i0 (.int .i64 0) 1 8 Tryd.underlying41 hi hz0 hz1 hz2 rfl (by decide) (.slice Az (k5 + 1) cz) (k5 + 1) (wl.map intV) rfl ZA.out.2 ⟨w11.heap.size, 0, none⟩ 1 1 [intV (zn : Int)] rfl rfl (newsZ _ _ _ _ rfl) (oneZ _) (by unfold maxLen; omega) (by omega) (by have h1 := (World.ownsRow.lt Z11.out.2); have h2 := WOB.out; obtain ⟨g, c, e, hg1, hg2, -⟩ := ownsRow_form Z11.out.2 (by omega); simp; omega) ?_; intro v12 w12 hown hgrow hfr; have o12 : OwnZn w12 wo.heap.size v12 (wl ++ [(zn : Int)]) (k5 + 1 + 1) := OwnZn.more WLL.out hown; obtain ⟨a12, c12, e12⟩ := o12.form; subst e12; have Z13 := Lib.hid o12; have O13 := Lib.hid (OA.out.beside (by simp; omega) WOB.out ZA.out hgrow HFV.out.1 HFV.out.2); clear hown hgrow hfr o12))
              clear OA ZA O11 Z11 hwB11
              obtain ⟨hwB13, x0, x1, xl, -⟩ := SZ.out _ O13.out.bel
              obtain ⟨f2, f3, fl⟩ := EF.out _ O13.out.bel
              obtain ⟨b, hbe⟩ : ∃ b, sk[k5]'hlt5 = b := ⟨_, rfl⟩
              have hbg := BDA.out k5 hlt5
              rw [hbe] at hbg
              rw [hbg, JN.out] at NXT
              clear hbg
              by_cases h1 : b = 76
              · obtain ⟨y, hy⟩ : ∃ y : Nat, ((z : Int) + 1) % 4 = (y : Int) := ⟨(((z : Int) + 1) % 4).toNat, by omega⟩
                have NY : Hid ((y : Int) = ((z : Int) + addT b) % 4) := Lib.hid (by rw [h1, addT_l, hy])
                have hy2 : ((z : Int) + 1).tmod 4 = (y : Int) := by rw [Int.tmod_eq_emod_of_nonneg (by omega)]; exact hy
                have hy4 : y < 4 := by omega
                subst h1
                have q3 : (((76 : UInt8).toNat : Int) == 76) = true := rfl
                go_wp2_with fail
                go_roundw
                case rel => exact ⟨k5 + 1, y, A10, c10, a12, c12, by go_num, by have := HK5.out; omega, by rw [NXT.out], by first | rfl | (simp [hy]) | (rw [hy]), by rw [NXT.out]; exact NY.out, hy4, rfl, by rw [NXT.out]; exact O13.out, by rw [NXT.out]; exact Z13.out⟩
                case measure => (simp [intOf] <;> omega)
              · obtain ⟨y, hy⟩ : ∃ y : Nat, ((z : Int) + 3) % 4 = (y : Int) := ⟨(((z : Int) + 3) % 4).toNat, by omega⟩
                have NY : Hid ((y : Int) = ((z : Int) + addT b) % 4) := Lib.hid (by rw [addT_r h1, hy])
                have hy2 : ((z : Int) + 3).tmod 4 = (y : Int) := by rw [Int.tmod_eq_emod_of_nonneg (by omega)]; exact hy
                have hy4 : y < 4 := by omega
                have q3 : ((b.toNat : Int) == 76) = false := by rw [byte_test b 76 76 rfl]; simpa using h1
                clear h1
                go_wp2_with fail
                go_roundw
                case rel => exact ⟨k5 + 1, y, A10, c10, a12, c12, by go_num, by have := HK5.out; omega, by rw [NXT.out], by first | rfl | (simp [hy]) | (rw [hy]), by rw [NXT.out]; exact NY.out, hy4, rfl, by rw [NXT.out]; exact O13.out, by rw [NXT.out]; exact Z13.out⟩
                case measure => (simp [intOf] <;> omega)
            · have hkn5 : k5 = bl.length := by rw [← HZL.out]; omega
              have q2 : decide (k5 < sk.size) = false := decide_eq_false hlt5
              have EGX := EGN.out
              have WYX := WYE.out
              rw [← hkn5, HBD.out] at EGX WYX
              obtain ⟨a1, ha1⟩ : ∃ q, s.en.getD (2 * i + 1) 0 = q := ⟨_, rfl⟩
              rw [ha1] at EGX WYX
              have EX := Lib.hid EGX
              have WX := Lib.hid WYX
              have HE2 : wr.ownsRow w1.heap.size 83 2 (.slice (some ⟨ge, 0, none⟩) nE nE) nE (s.en.map intV) := by have h := O5.out.nm.ends; rw [show (⟨ZL, zn, ze⟩ : NSt).en = s.en from ZEN.out] at h; exact h
              have e1 : wr.cell? ⟨ge, i * 2 + 1, none⟩ = some (.int .i64 a1) := by
                rw [World.ownsRow.cellAt HE2 (i * 2 + 1) (by have := EN1.out; omega), List.getElem?_map, List.getElem?_eq_getElem (by have := EN1.out; omega), ← ha1, List.getD_eq_getElem?_getD, Nat.mul_comm 2 i, List.getElem?_eq_getElem (by have := EN1.out; omega)]; rfl
              have zle := (World.ownsRow.lt HE2 ge rfl).2
              have ngn : ge ≠ nb := fun e => ne_nm HE2 O5.out.bx endT_n (by rw [e]; rfl)
              clear hkn5 EGX WYX ha1 HE2
              have yf := O5.out.bx.fr 0
              go_upto_region 37 with (fail)
              have hS0 : wr.drew.cell? ⟨nb, 2, none⟩ = some (.slice (some ⟨ge, 0, none⟩) nE nE) ∧ wr.drew.cell? ⟨ge, i * 2 + 1, none⟩ = some (.int .i64 a1) := ⟨y2, e1⟩
              refine wp_region_held_drew (S := fun w' => w'.cell? ⟨nb, 2, none⟩ = some (.slice (some ⟨ge, 0, none⟩) nE nE) ∧ w'.cell? ⟨ge, i * 2 + 1, none⟩ = some (.int .i64 a1)) (by kernel_rfl) hS0 (fun hHeld => ?_)
              clear hS0
              refine wpAnyH_take (i := 0) (v := ?_) rfl (by kernel_rfl) (by kernel_rfl) (by kernel_rfl) (fun _ _ _ h => h) (Or.inl ⟨by rfl, ?_⟩) (by assumption) ?_
              rotate_left
              · (intro w' hSw; (try dsimp only at hSw); go_simp; try with_reducible rfl)
              refine wpAnyH_take (i := 2) (v := ?_) rfl (by kernel_rfl) (by kernel_rfl) (by kernel_rfl) (fun _ _ _ h => h) (Or.inl ⟨by rfl, ?_⟩) (by assumption) ?_
              rotate_left
              · (intro w' hSw; (try dsimp only at hSw); go_simp; try with_reducible rfl)
              refine wpAnyH_take (i := 3) (v := ?_) rfl (by kernel_rfl) (by kernel_rfl) (by kernel_rfl) (fun _ _ _ h => h) (Or.inl ⟨by rfl, ?_⟩) (by assumption) ?_
              rotate_left
              · (intro w' hSw; (try dsimp only at hSw); go_simp; try with_reducible rfl)
              refine wpAnyH_take (i := 4) (v := ?_) rfl (by kernel_rfl) (by kernel_rfl) (by kernel_rfl) (fun _ _ _ h => h) (Or.inl ⟨by rfl, ?_⟩) (by assumption) ?_
              rotate_left
              · (intro w' hSw; (try dsimp only at hSw); go_simp; try with_reducible rfl)
              refine wpAnyH_take (i := 5) (v := ?_) rfl (by kernel_rfl) (by kernel_rfl) (by kernel_rfl) (fun _ _ _ h => h) (Or.inl ⟨by rfl, ?_⟩) (by assumption) ?_
              rotate_left
              · (intro w' hSw; (try dsimp only at hSw); go_simp; try with_reducible rfl)
              refine wpAnyH_take (i := 6) (v := ?_) rfl (by kernel_rfl) (by kernel_rfl) (by kernel_rfl) (fun _ _ _ h => h) (Or.inl ⟨by rfl, ?_⟩) (by assumption) ?_
              rotate_left
              · (intro w' hSw; (try dsimp only at hSw); go_simp; try with_reducible rfl)
              refine wpAnyH_take (i := 7) (v := ?_) rfl (by kernel_rfl) (by kernel_rfl) (by kernel_rfl) (fun _ _ _ h => h) (Or.inl ⟨by rfl, ?_⟩) (by assumption) ?_
              rotate_left
              · (intro w' hSw; (try dsimp only at hSw); go_simp; try with_reducible rfl)
              refine wpAnyH_take (i := 8) (v := ?_) rfl (by kernel_rfl) (by kernel_rfl) (by kernel_rfl) (fun _ _ _ h => h) (Or.inl ⟨by rfl, ?_⟩) (by assumption) ?_
              rotate_left
              · (intro w' hSw; (try dsimp only at hSw); go_simp; try with_reducible rfl)
              refine wpAnyH_take (i := 9) (v := ?_) rfl (by kernel_rfl) (by kernel_rfl) (by kernel_rfl) (fun _ _ _ h => h) (Or.inl ⟨by rfl, ?_⟩) (by assumption) ?_
              rotate_left
              · (intro w' hSw; (try dsimp only at hSw); go_simp; try with_reducible rfl)
              refine wpAnyH_take (i := 10) (v := ?_) rfl (by kernel_rfl) (by kernel_rfl) (by kernel_rfl) (fun _ _ _ h => h) (Or.inl ⟨by rfl, ?_⟩) (by assumption) ?_
              rotate_left
              · (intro w' hSw; (try dsimp only at hSw); go_simp; try with_reducible rfl)
              refine wpAnyH_ready (rs := [1]) (by kernel_rfl) (by simp) ?_
              refine AllReadyH.cons rfl (fun K hK => ?_) AllReadyH.nil
              go_simp
              refine hK.out _ _ hHeld (fun hHeld2 => ?_)
              clear hK K
              refine wpAnyH_ready (rs := [11]) (by kernel_rfl) (by simp) ?_
              refine AllReadyH.cons rfl (fun K hK => ?_) AllReadyH.nil
              go_simp
              have OD := O5.out.below hwB (Below.refl _ _).drew
              refine (refJoinAny (L := ZL) (n := zn) (ownG_zero OD.nm.cel) (by omega) at_ (z : Int) a1 (i : Int)).mono ?_
              rintro e w10 ⟨A10, c10, rfl, r10⟩
              have O10 := Lib.hid (OD.joined hwB r10)
              have Z10 := Lib.hid ((Z5.out.below (Below.refl _ _).drew (Nat.le_refl _)).below r10.2.2 (Nat.le_refl _))
              have hwB10 : w1.heap.size ≤ w10.heap.size := Nat.le_trans hwB r10.2.2.size
              have s2 : w10.cell? ⟨nb, 2, none⟩ = some (.slice (some ⟨ge, 0, none⟩) nE nE) := (r10.2.2.cell (p := ⟨nb, 2, none⟩) yl).trans y2
              have s3 : w10.cell? ⟨ge, i * 2 + 1, none⟩ = some (.int .i64 a1) := (r10.2.2.cell (p := ⟨ge, i * 2 + 1, none⟩) zle).trans e1
              clear r10 OD
              refine hK.out _ _ ⟨s2, s3⟩ (fun hHeld3 => ?_)
              clear hK K y0 y1 y2 y3 yl yf
              obtain ⟨y0, y1, y2, y3⟩ := O10.out.bx.at_
              have yl := O10.out.bx.lt
              have yf := O10.out.bx.fr 0
              refine wpAnyH_take (i := 12) (v := ?_) rfl (by kernel_rfl) (by kernel_rfl) (by kernel_rfl) (fun _ _ _ h => h) (Or.inl ⟨by rfl, ?_⟩) (by assumption) ?_
              rotate_left
              · (intro w' hSw; (try dsimp only at hSw); go_simp; try with_reducible rfl)
              refine wpAnyH_take (i := 13) (v := ?_) rfl (by kernel_rfl) (by kernel_rfl) (by kernel_rfl) (fun _ _ _ h => h) (Or.inl ⟨by rfl, ?_⟩) (by assumption) ?_
              rotate_left
              · (intro w' hSw; (try dsimp only at hSw); go_simp; try with_reducible rfl)
              refine wpAnyH_take (i := 14) (v := ?_) rfl (by kernel_rfl) (by kernel_rfl) (by kernel_rfl) (fun _ _ _ h => h) (Or.inl ⟨by rfl, ?_⟩) (by assumption) ?_
              rotate_left
              · (intro w' hSw; (try dsimp only at hSw); go_simp; try with_reducible rfl)
              refine wpAnyH_take (i := 15) (v := ?_) rfl (by kernel_rfl) (by kernel_rfl) (by kernel_rfl) (fun _ _ _ h => h) (Or.inl ⟨by rfl, ?_⟩) (by assumption) ?_
              rotate_left
              · (intro w' hSw; (try dsimp only at hSw); go_simp; try with_reducible rfl)
              refine wpAnyH_ready (rs := [16]) (by kernel_rfl) (by simp) ?_
              refine AllReadyH.cons rfl (fun K hK => ?_) AllReadyH.nil
              go_simp
              refine hK.out _ _ ⟨by go_simp, (World.cell?_setCell_far _ _ _ _ (fun e => ngn e.symm)).trans s3⟩ (fun hHeld4 => ?_)
              clear hK K
              refine wpAnyH_done (by kernel_rfl) ?_ _
              have JN : Hid (joiN ⟨ZL, zn, ze⟩ at_ (z : Int) a1 (i : Int) = ⟨(joiO ZL zn at_ (z : Int) a1 (i : Int)).2, zn, ze⟩) := Lib.hid rfl
              have O11 := Lib.hid (O10.out.b0 NBB.out (.slice A10 zn c10))
              have Z11 := Lib.hid (Z10.out.held O10.out.bx (.slice A10 zn c10))
              have s4 : (w10.setCell ⟨nb, 0, none⟩ (.slice A10 zn c10)).cell? ⟨ge, i * 2 + 1, none⟩ = some (.int .i64 a1) := (World.cell?_setCell_far _ _ _ _ (fun e => ngn e.symm)).trans s3
              obtain ⟨w11, hw11⟩ : ∃ Wq, Wq = w10.setCell ⟨nb, 0, none⟩ (.slice A10 zn c10) := ⟨_, rfl⟩
              rw [← hw11] at O11 Z11 s4
              rw [← hw11]
              have hwB11 : w1.heap.size ≤ w11.heap.size := O11.out.bel.size
              have zle11 := (World.ownsRow.lt O11.out.nm.ends ge rfl).2
              clear hw11 O10 Z10 y0 y1 y2 y3 yl yf hwB10 s2 s3 hHeld hHeld2 hHeld3 hHeld4 e1 zle x0 x1 xl f2 f3 fl O5 Z5
              obtain ⟨y0, y1, y2, y3⟩ := O11.out.bx.at_
              have yl := O11.out.bx.lt
              have OA := Lib.hid (O11.out.below hwB11 ((Below.refl _ _).alloc (Nat.le_refl _) (.cells #[.int .i64 a1] 3)))
              have ZA := Lib.hid (Z11.out.below ((Below.refl _ _).alloc (Nat.le_refl _) (.cells #[.int .i64 a1] 3)) (Nat.le_refl _))
              have hk9 : k5 ≤ 5000 := by omega
              go_upto_region 39 with (at_builtin; go_must (refine wpList_append_fresh rfl (.tmp 170) (.tmp 177) 41 rfl wo.heap.size 3 i0 (.int .i64 0) 1 8 Tryd.underlying41 hi hz0 hz1 hz2 rfl (by decide) (.slice Az (k5 + 1) cz) (k5 + 1) (wl.map intV) rfl ZA.out.2 ⟨w11.heap.size, 0, none⟩ 1 1 [intV a1] rfl rfl (newsZ _ _ _ _ rfl) (oneZ _) (by unfold maxLen; omega) (by omega) (by obtain ⟨g, c, e, hg1, hg2, -⟩ := ownsRow_form Z11.out.2 (by omega); simp; omega) ?_; intro v12 w12 hown hgrow hfr; have o12 : OwnZn w12 wo.heap.size v12 (wl ++ [a1]) (k5 + 1 + 1) := OwnZn.more WLL.out hown; obtain ⟨a12, c12, e12⟩ := o12.form; subst e12; have Z13 := Lib.hid o12; have O13 := Lib.hid (OA.out.beside (by simp; omega) WOB.out ZA.out hgrow HFV.out.1 HFV.out.2); clear hown hgrow hfr o12))
              clear OA ZA O11 Z11 y0 y1 y2 y3 yl s4 zle11
              have hwB13 : w1.heap.size ≤ w12.heap.size := O13.out.bel.size
              obtain ⟨y0, y1, y2, y3⟩ := O13.out.bx.at_
              have yl := O13.out.bx.lt
              have yf := O13.out.bx.fr 3
              obtain ⟨V', hV'⟩ : ∃ V' : Nat → Value, V' = fun j => if j = i then Value.slice a12 (k5 + 1 + 1) c12 else V j := ⟨_, rfl⟩
              have OB := Lib.hid ((O13.out.swapV (V' := V') (fun j hj => by rw [hV']; exact if_neg (by omega))).below hwB13 ((Below.refl _ _).alloc (Nat.le_refl _) (.cells #[.slice a12 (k5 + 1 + 1) c12] 41)))
              have ZB : Hid (OwnZn (w12.alloc (.cells #[.slice a12 (k5 + 1 + 1) c12] 41)) w1.heap.size (V' i) (W i) (W i).length) := Lib.hid (by
                have e1 : W i = wl ++ [a1] := by rw [W1.out]; exact WX.out
                have e2 : V' i = Value.slice a12 (k5 + 1 + 1) c12 := by rw [hV']; exact if_pos rfl
                rw [e1, e2, List.length_append, WLL.out]
                exact (Z13.out.base WOB.out).below ((Below.refl _ _).alloc (Nat.le_refl _) _) (Nat.le_refl _))
              have VE : Hid ((List.range (i + 1)).map V' = (List.range i).map V' ++ [Value.slice a12 (k5 + 1 + 1) c12]) := Lib.hid (by
                rw [List.range_succ, List.map_append, hV']
                simp)
              clear hV'
              obtain ⟨izz, hqi, hq0, hq1, hq2⟩ := info_zz
              go_wp2_with (at_builtin; go_must (refine wpList_append_fresh rfl (.tmp 180) (.tmp 182) 43 rfl w1.heap.size 41 izz (.slice none 0 0) 1 24 Tryd.underlying43 hqi hq0 hq1 hq2 rfl (by decide) (.slice Aw i cw) i ((List.range i).map V') rfl OB.out.out ⟨w12.heap.size, 0, none⟩ 1 1 [.slice a12 (k5 + 1 + 1) c12] rfl rfl (newsR _ _ _ _ rfl) (by intro u hu; simp at hu; subst hu; rfl) (by unfold maxLen; omega) (by omega) (by simp; omega) ?_; intro v14 w14 hown hgrow hfr; rw [← VE.out] at hown; have O14 := OB.out.grownW (by simp; omega) hgrow hown ZB.out; obtain ⟨g14, c14, e14, -, -, -⟩ := ownsRow_form hown (by omega); subst e14; have O15 := Lib.hid O14; clear hown hgrow hfr O14 y0 y1 y2 y3 yl yf; obtain ⟨y0, y1, y2, y3⟩ := O15.out.bx.at_; have yl := O15.out.bx.lt; have yf := O15.out.bx.fr 3))
              have O16 := Lib.hid (O15.out.b3 NBB.out (.slice (some ⟨g14, 0, none⟩) (i + 1) c14))
              go_roundw
              case rel => exact ⟨i + 1, A10, c10, some ⟨g14, 0, none⟩, c14, V', by go_num, by omega, by rw [EX.out, JN.out]; exact O16.out⟩
              case measure => (simp [intOf] <;> omega)
        · have hkn2 : i = nE := by omega
          have q1 : decide (i < nE) = false := decide_eq_false hlt2
          subst hkn2
          have e := FF.out
          subst e
          obtain ⟨r0, r1, r2, r3⟩ := (RB.out.below O4.out.bel (Nat.le_refl _)).at_
          have rl := (RB.out.below O4.out.bel (Nat.le_refl _)).lt
          have rf0 := (RB.out.below O4.out.bel (Nat.le_refl _)).fr 0
          have rf1 := (RB.out.below O4.out.bel (Nat.le_refl _)).fr 1
          have rf2 := (RB.out.below O4.out.bel (Nat.le_refl _)).fr 2
          have rf3 := (RB.out.below O4.out.bel (Nat.le_refl _)).fr 3
          have B9 := Lib.hid BW
          obtain ⟨n9, hn9⟩ : ∃ n, (egK E s i).1.n = n := ⟨_, rfl⟩
          have N9 := Lib.hid hn9
          rw [hn9] at O4 y0
          clear hn9
          go_wp2_with fail
          have OX : Out (fun b => b = rb) wr ((((wr.setCell ⟨rb, 0, none⟩ (.slice A1 n9 cp1)).setCell ⟨rb, 1, none⟩ (.slice Af nB cf)).setCell ⟨rb, 2, none⟩ (.slice (some ⟨ge, 0, none⟩) i i)).setCell ⟨rb, 3, none⟩ (.slice Aw i cw)) := ((((Out.refl _ wr).setIn 0 _).setIn 1 _).setIn 2 _).setIn 3 _
          have keep : ∀ {v : Value} {e : TypeId} {n k : Nat} {xs : List Value}, wr.ownsRow w1.heap.size e k v n xs → ((((wr.setCell ⟨rb, 0, none⟩ (.slice A1 n9 cp1)).setCell ⟨rb, 1, none⟩ (.slice Af nB cf)).setCell ⟨rb, 2, none⟩ (.slice (some ⟨ge, 0, none⟩) i i)).setCell ⟨rb, 3, none⟩ (.slice Aw i cw)).ownsRow w.heap.size e k v n xs := fun hr => own_base (ownsRow_out hr OX (fun b hb e => by have h1 := (World.ownsRow.lt hr b hb).1; have h2 := RBW.out; omega)) B1.out.size
          refine bodyPost_ret (v := .agg #[.slice A1 n9 cp1, .slice Af nB cf, .slice (some ⟨ge, 0, none⟩) i i, .slice Aw i cw]) (by simp [results, Tryd.results12, go_sem, r0, r1, r2, r3]) rfl ⟨_, _, _, _, rfl, ?_, ?_, V, keep O4.out.out, fun j hj => ?_, ⟨_, _, rfl⟩, (((B9.out.setCell (p := ⟨rb, 0, none⟩) RBW.out.1 _).setCell (p := ⟨rb, 1, none⟩) RBW.out.1 _).setCell (p := ⟨rb, 2, none⟩) RBW.out.1 _).setCell (p := ⟨rb, 3, none⟩) RBW.out.1 _⟩
          · have h := O4.out.nm.cel
            rw [N9.out] at h
            rw [HS1.out.1, N9.out]; exact keep h
          · rw [HS1.out.2]; exact ⟨O4.out.fst.1, keep O4.out.fst.2⟩
          · have h := O4.out.row j hj
            rw [W1.out] at h
            rw [HS1.out.1]
            exact ⟨h.1, keep h.2⟩
end Go.Proofs.YtbdkkkpgjcfdgaaDoor
