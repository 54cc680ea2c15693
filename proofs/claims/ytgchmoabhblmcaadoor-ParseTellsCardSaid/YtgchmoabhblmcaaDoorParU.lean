/-
  What the reference's Parse answers. Conditions: texts of at most 1000000 bytes.
-/
import Derived.Test.YtgchmoabhblmcaaDoorParT
import Derived.Lib.QuietBelow
import Derived.StillTailTactics
namespace Go.Proofs.YtgchmoabhblmcaaDoor
open Go.RowKit Go.Proofs.YtgchmoabhblmcaaDoor.LexM Go.Proofs.YtgchmoabhblmcaaDoor.ParM

/-- The boxes of a shape's reading: the result's and the empty one's, the shape under way, the lines. -/
structure RpSt (w wr : World) (s : Nat) (bv ev : Value) (B : List Bool) (E : List Edg) (w1 : World) : Prop where
  below : Below w.heap.size w wr
  rc : wr.heap[w.heap.size]? = some (.cells #[.slice none 0 0, .slice none 0 0] 25 (0, 0))
  nn : wr.heap[w.heap.size + 1]? = some (.cells #[.slice none 0 0, .slice none 0 0] 25 (0, 0))
  sb : wr.heap[s]? = some (.cells #[bv, ev] 25 (0, 0))
  sl : w.heap.size + 2 ≤ s
  s1 : w1.heap.size ≤ s
  b1 : Below w1.heap.size w1 wr
  rb : OwnB wr w1.heap.size bv B
  re : OwnE wr w1.heap.size ev E
  hw1 : w.heap.size ≤ w1.heap.size
theorem shT_b : 25 ≠ 4 := by decide
theorem shT_e : 25 ≠ 47 := by decide
section
variable {w wr wl w1 : World} {s : Nat} {bv ev : Value} {B : List Bool} {E : List Edg}
theorem RpSt.step (h : RpSt w wr s bv ev B E w1) (b : Below wr.heap.size wr wl) : RpSt w wl s bv ev B E w1 := by
  have lt : ∀ {k c}, wr.heap[k]? = some c → k < wr.heap.size := fun h => (Array.getElem?_eq_some_iff.1 h).1
  exact ⟨h.below.trans (b.mono h.below.size), by rw [b.block _ (lt h.rc)]; exact h.rc, by rw [b.block _ (lt h.nn)]; exact h.nn, by rw [b.block _ (lt h.sb)]; exact h.sb, h.sl, h.s1, h.b1.trans (b.mono h.b1.size), h.rb.below b (Nat.le_refl _), h.re.below b (Nat.le_refl _), h.hw1⟩
theorem RpSt.cr (h : RpSt w wr s bv ev B E w1) : wr.cell? ⟨w.heap.size, 0, none⟩ = some (.slice none 0 0) ∧ wr.cell? ⟨w.heap.size, 1, none⟩ = some (.slice none 0 0) ∧ (∀ j, wr.frozen? ⟨w.heap.size, j, none⟩ = false) ∧ w.heap.size < wr.heap.size := by
  have h1 := h.rc
  refine ⟨by simp [World.cell?, h1], by simp [World.cell?, h1], ?_, (Array.getElem?_eq_some_iff.1 h1).1⟩
  intro j; simp only [World.frozen?, h1]; simp
theorem RpSt.cn (h : RpSt w wr s bv ev B E w1) : wr.cell? ⟨w.heap.size + 1, 0, none⟩ = some (.slice none 0 0) ∧ wr.cell? ⟨w.heap.size + 1, 1, none⟩ = some (.slice none 0 0) := by
  have h1 := h.nn
  exact ⟨by simp [World.cell?, h1], by simp [World.cell?, h1]⟩
theorem RpSt.cs (h : RpSt w wr s bv ev B E w1) : wr.cell? ⟨s, 0, none⟩ = some bv ∧ wr.cell? ⟨s, 1, none⟩ = some ev ∧ (∀ j, wr.frozen? ⟨s, j, none⟩ = false) ∧ s < wr.heap.size := by
  have h1 := h.sb
  refine ⟨by simp [World.cell?, h1], by simp [World.cell?, h1], ?_, (Array.getElem?_eq_some_iff.1 h1).1⟩
  intro j; simp only [World.frozen?, h1]; simp
end
theorem RpSt.more {w wz wa w5 w1 : World} {s n : Nat} {bv ev v' : Value} {B : List Bool} {E : List Edg} {a : Edg} (h : RpSt w wz s bv ev B E w1) (hn : E.length = n) (ha : Below wz.heap.size wz wa) (hown : w5.ownsRow w1.heap.size 47 4 v' (n + 1) (E.flatMap encE ++ encE a)) (hgrow : wa.grownBy w5 ev.ownBlock) :
    w5.heap[s]? = some (.cells #[bv, ev] 25 (0, 0)) ∧ RpSt w (w5.setCell ⟨s, 1, none⟩ v') s bv v' B (E ++ [a]) w1 := by
  have H := h.step ha
  have lt : ∀ {k c}, wa.heap[k]? = some c → k < wa.heap.size := fun h => (Array.getElem?_eq_some_iff.1 h).1
  have hO := OwnE.snocAt hn hown
  have g : ∀ {k c}, wa.heap[k]? = some (Obj.cells c 25 (0, 0)) → w5.heap[k]? = some (Obj.cells c 25 (0, 0)) := fun {k c} hk => by
    rw [hgrow.block k (lt hk) (fun e => own_kind H.re hk shT_e e.symm)]; exact hk
  have hsb := g H.sb
  have hb5 : Below w1.heap.size w1 w5 := H.b1.grown hgrow H.b1.size (fun q hq => (World.ownsRow.lt H.re q hq).1)
  have hw5 : Below w.heap.size w w5 := by
    refine H.below.grown hgrow H.below.size (fun q hq => ?_)
    have := (World.ownsRow.lt H.re q hq).1
    exact Nat.le_trans h.hw1 this
  have hrb : OwnB w5 w1.heap.size bv B := by
    refine ownsRow_block H.rb (fun q hq => hgrow.block q (World.ownsRow.lt H.rb q hq).2 (fun e => ?_))
    rcases H.rb.2 with ⟨rfl, _⟩ | ⟨g, c1, c2, rfl, _, hgk, _⟩
    · cases hq
    · have : g = q := by simpa [Value.ownBlock] using hq
      subst this
      exact own_kind H.re hgk (by decide) e.symm
  have hs := h.sl
  refine ⟨hsb, ⟨below_set hw5 (by omega) _ _, ?_, ?_, by rw [heap_setCell_at hsb]; rfl, h.sl, h.s1, below_set hb5 h.s1 _ _, ownsRow_setCell_other hrb (own_kind hrb hsb shT_b) _, ownsRow_setCell_other hO (own_kind hO hsb shT_e) _, h.hw1⟩⟩
  · rw [Below.heap_setCell _ _ _ _ (show w.heap.size ≠ s by omega)]; exact g H.rc
  · rw [Below.heap_setCell _ _ _ _ (show w.heap.size + 1 ≠ s by omega)]; exact g H.nn
theorem RpSt.put0 {w wr w1 : World} {s : Nat} {bv ev u : Value} {B C : List Bool} {E : List Edg} (h : RpSt w wr s bv ev B E w1) (hu : OwnB wr w1.heap.size u C) : RpSt w (wr.setCell ⟨s, 0, none⟩ u) s u ev C E w1 := by
  have hs := h.sl
  refine ⟨below_set h.below (by omega) _ _, ?_, ?_, by rw [heap_setCell_at h.sb]; rfl, h.sl, h.s1, below_set h.b1 h.s1 _ _, ownsRow_setCell_other hu (own_kind hu h.sb shT_b) _, ownsRow_setCell_other h.re (own_kind h.re h.sb shT_e) _, h.hw1⟩
  · rw [Below.heap_setCell _ _ _ _ (show w.heap.size ≠ s by omega)]; exact h.rc
  · rw [Below.heap_setCell _ _ _ _ (show w.heap.size + 1 ≠ s by omega)]; exact h.nn
theorem edge_cells {w : World} {x : Nat} {v0 v1 v2 v3 : Value} {T : TypeId} (h1 : w.heap[x]? = some (.cells #[v0, v1, v2, v3] T (0, 0))) : w.cell? ⟨x, 0, none⟩ = some v0 ∧ w.cell? ⟨x, 1, none⟩ = some v1 ∧ w.cell? ⟨x, 2, none⟩ = some v2 ∧ w.cell? ⟨x, 3, none⟩ = some v3 ∧ (∀ j, w.frozen? ⟨x, j, none⟩ = false) ∧ x < w.heap.size := by
  refine ⟨?_, ?_, ?_, ?_, ?_, (Array.getElem?_eq_some_iff.1 h1).1⟩
  iterate 4 simp [World.cell?, h1]
  intro j; simp only [World.frozen?, h1]; simp
theorem edge_put {w wk : World} {b : Nat} {T : TypeId} {c0 c1 c2 c3 : Value} (h : wk.heap[b]? = some (.cells #[c0, c1, c2, c3] T (0, 0))) (hb : w.heap.size ≤ b) (hw : Below w.heap.size w wk) (v0 v1 v2 v3 : Value) {w6 : World}
    (e : ((((wk.setCell ⟨b, 0, none⟩ v0).setCell ⟨b, 1, none⟩ v1).setCell ⟨b, 2, none⟩ v2).setCell ⟨b, 3, none⟩ v3) = w6) : w6.heap[b]? = some (.cells #[v0, v1, v2, v3] T (0, 0)) ∧ Below w.heap.size w w6 := by
  refine ⟨?_, (edge_set h hb hw v0 v1 v2 v3 e).2.2.2.2⟩
  subst e
  exact heap_setCell_at (heap_setCell_at (heap_setCell_at (heap_setCell_at h 0 v0) 1 v1) 2 v2) 3 v3
/-- Where the lines stand. -/
def RpRel (L : List (List UInt8)) (R : Int × Int × List Edg) (B : List Bool) (bv : Value) (s : Nat) (w w1 wr : World) (nv iv : Value) : Prop :=
  ∃ (k : Nat) (E : List Edg) (b : Nat) (ev : Value), iv = .int .i64 k ∧ nv = .int .i64 b ∧ 1 ≤ k ∧ k ≤ L.length ∧ E.length ≤ 4096 ∧ b ≤ 4096 ∧ RpSt w wr s bv ev B E w1 ∧ goE B.length (L.drop k) k E b = R
theorem par_rest {s l : List UInt8} {T : List (List UInt8)} (h0 : lnE s = 0) (hl : lnL s = l :: T) (hf : fstE l = 0) :
    par s = ((goE (fstB l).length T 1 [] 0).1, (goE (fstB l).length T 1 [] 0).2.1, if (goE (fstB l).length T 1 [] 0).1 = 0 then fstB l else [], (goE (fstB l).length T 1 [] 0).2.2) := by
  unfold par
  rw [h0, if_neg (by simp), hl]
  simp only []
  rw [hf, if_neg (by simp)]
theorem par_first {s l : List UInt8} {T : List (List UInt8)} (h0 : lnE s = 0) (hl : lnL s = l :: T) (hf : fstE l ≠ 0) : par s = (fstE l, 1, [], []) := by
  unfold par
  rw [h0, if_neg (by simp), hl]
  simp only []
  rw [if_pos hf]
theorem par_empty {s : List UInt8} (h0 : lnE s = 0) (hl : lnL s = []) : par s = (4, 1, [], []) := by
  unfold par
  rw [h0, if_neg (by simp), hl]
theorem go_end (n : Nat) (ls : List (List UInt8)) (i : Nat) (E : List Edg) (b : Nat) : goE n (endW :: ls) i E b = if ls = [] then (0, 0, E) else (4, (i : Int) + 2, []) := by rw [goE, if_pos rfl]
theorem go_bad {n : Nat} {l : List UInt8} (hl : l ≠ endW) (he : edgE n l ≠ 0) (ls : List (List UInt8)) (i : Nat) (E : List Edg) (b : Nat) : goE n (l :: ls) i E b = (edgE n l, (i : Int) + 1, []) := by rw [goE, if_neg hl, if_pos he]
theorem go_many {n : Nat} {l : List UInt8} (hl : l ≠ endW) (he : edgE n l = 0) (ls : List (List UInt8)) (i : Nat) (E : List Edg) (b : Nat) (h : 4096 < E.length + 1 ∨ 4096 < b + (edgV n l).2.2.2.length) : goE n (l :: ls) i E b = (6, (i : Int) + 1, []) := by
  rw [goE, if_neg hl, if_neg (by simp [he]), if_pos h]
theorem go_next {n : Nat} {l : List UInt8} (hl : l ≠ endW) (he : edgE n l = 0) (ls : List (List UInt8)) (i : Nat) (E : List Edg) (b : Nat) (h : ¬ (4096 < E.length + 1 ∨ 4096 < b + (edgV n l).2.2.2.length)) : goE n (l :: ls) i E b = goE n ls (i + 1) (E ++ [edgV n l]) (b + (edgV n l).2.2.2.length) := by
  rw [goE, if_neg hl, if_neg (by simp [he]), if_neg h]
theorem edgX_len (n : Nat) (a d b t : List UInt8) : (edgX n a d b t).2.2.2.length ≤ t.length := by
  unfold edgX
  split
  · exact Nat.le_refl _
  · simp [noE]
theorem edgV_len (n : Nat) (l : List UInt8) : (edgV n l).2.2.2.length ≤ l.length := by
  unfold edgV
  split
  · exact Nat.le_trans (edgX_len _ _ _ _ _) (by simp)
  · rename_i a d b t h
    exact Nat.le_trans (edgX_len _ _ _ _ _) (wdL_short t (by rw [h]; simp))
  · simp [noE]
theorem wrap_add {b l z m : Nat} (hb : b ≤ 4096) (hl : l ≤ 1000000) (e : z = l) (h : b + l = m) : wrap64 ((b : Int) + (z : Nat)) = (m : Int) ∧ m ≤ 2000000 := by
  subst e; subst h
  refine ⟨?_, by omega⟩
  unfold wrap64; omega
theorem par_of {s : List UInt8} {R : Int × Int × List Edg} {B : List Bool} (h : par s = (R.1, R.2.1, if R.1 = 0 then B else [], R.2.2)) {z m : Int} (hR : R = (z, m, [])) (hz : z ≠ 0) : par s = (z, m, [], []) := by
  subst hR; rw [h]; simp [hz]
theorem rp_ret {l : List UInt8} {z n : Int} {w w' : World} (h : par l = (z, n, [], [])) (hb : Below w.heap.size w w') : ParP l w (.returned (.tuple #[.agg #[.slice none 0 0, .slice none 0 0], .int .i64 n, .int .i64 z])) w' :=
  ⟨.slice none 0 0, .slice none 0 0, by rw [h], by rw [h]; exact BlsAt.nil _, by rw [h]; exact EdsAt.nil _, hb⟩
set_option maxHeartbeats 16000000 in
set_option maxRecDepth 100000 in
theorem refParse (s : ByteArray) (w : World) (hs : s.size ≤ 1000000) : Calls Tryd.prog 6 #[.string s] w (ParP s.data.toList w) := by
  have C := Lib.hid (refLines s)
  have hzs := size_list s
  by_cases h0 : lnE s.data.toList = 0
  · obtain ⟨L, hL⟩ : ∃ L, lnL s.data.toList = L := ⟨_, rfl⟩
    have hll : L.length ≤ 1000000 := by
      have h1 := lnL_count s.data.toList
      have h2 := List.count_le_length (a := (10 : UInt8)) (l := s.data.toList)
      rw [hL] at h1; omega
    have LS : Hid (∀ q ∈ L, q.length ≤ 1000000) := Lib.hid (fun q hq => by
      have := lnL_short (l := s.data.toList) q (by rw [hL]; exact hq); omega)
    obtain ⟨n, hn⟩ : ∃ n, L.length = n := ⟨_, rfl⟩
    have C2 : Hid (∀ w, Calls Tryd.prog 14 #[.string s] w fun e w' => ∃ A c, e = .returned (.tuple #[.slice A n c, .int .i64 0]) ∧ StrsAt w' (.slice A n c) L ∧ Below w.heap.size w w') := Lib.hid (fun w => by
      refine (C.out w).mono ?_
      rintro e w' ⟨v, rfl, hv, hb⟩
      rw [hL] at hv
      rw [h0]
      obtain ⟨A, c, rfl, hr⟩ := hv
      rw [hn]
      exact ⟨A, c, rfl, ⟨A, c, by rw [hn], hr⟩, hb⟩)
    have LN := Lib.hid hn
    have H0 := Lib.hid h0
    have HL := Lib.hid hL
    rw [hn] at hll
    clear C hzs h0 hL hn
    go_enter Tryd.func6, Tryd.ntmps6
    go_wp2_with (fail)
    generalize hwb : World.alloc (World.alloc w _) _ = wb
    have b0 : Below w.heap.size w wb := by rw [← hwb]; exact ((Below.refl _ _).alloc (Nat.le_refl _) _).alloc (by simp) _
    have hk0 : wb.heap[w.heap.size]? = some (.cells #[.slice none 0 0, .slice none 0 0] 25 (0, 0)) := by rw [← hwb, Below.heap_alloc _ _ _ (by simp)]; exact heap_alloc_new w _
    have hk1 : wb.heap[w.heap.size + 1]? = some (.cells #[.slice none 0 0, .slice none 0 0] 25 (0, 0)) := by rw [← hwb]; exact alloc_second w _ _
    have B0 := Lib.hid b0
    have K0 := Lib.hid hk0
    have K1 := Lib.hid hk1
    have hlt1 : w.heap.size + 1 < wb.heap.size := (Array.getElem?_eq_some_iff.1 hk1).1
    clear hwb b0 hk0 hk1
    refine (C2.out wb).mono ?_
    rintro e w1 ⟨A, c, rfl, hv, b1⟩
    have V := Lib.hid hv
    have j0 : Hid (w1.heap[w.heap.size]? = some (.cells #[.slice none 0 0, .slice none 0 0] 25 (0, 0))) := Lib.hid (by rw [b1.block _ (by omega)]; exact K0.out)
    have j1 : Hid (w1.heap[w.heap.size + 1]? = some (.cells #[.slice none 0 0, .slice none 0 0] 25 (0, 0))) := Lib.hid (by rw [b1.block _ hlt1]; exact K1.out)
    have B1 : Hid (Below w.heap.size w w1) := Lib.hid (B0.out.trans (b1.mono B0.out.size))
    have hw1 : w.heap.size + 2 ≤ w1.heap.size := by have := b1.size; omega
    clear b1 hv
    cases hLc : L with
    | nil =>
      have hn0 : n = 0 := by rw [← LN.out, hLc]; rfl
      have PX := Lib.hid (par_empty H0.out (HL.out.trans hLc))
      subst hn0
      have x0 : w1.cell? ⟨w.heap.size, 0, none⟩ = some (.slice none 0 0) := by have h := j0.out; simp [World.cell?, h]
      have x1 : w1.cell? ⟨w.heap.size, 1, none⟩ = some (.slice none 0 0) := by have h := j0.out; simp [World.cell?, h]
      have n0 : w1.cell? ⟨w.heap.size + 1, 0, none⟩ = some (.slice none 0 0) := by have h := j1.out; simp [World.cell?, h]
      have n1 : w1.cell? ⟨w.heap.size + 1, 1, none⟩ = some (.slice none 0 0) := by have h := j1.out; simp [World.cell?, h]
      have f0 : ∀ j, w1.frozen? ⟨w.heap.size, j, none⟩ = false := by have h := j0.out; intro j; simp only [World.frozen?, h]; simp
      have f00 := f0 0
      have f01 := f0 1
      clear f0 hLc
      go_wp2
      generalize hw6 : World.setCell _ ⟨w.heap.size, 1, none⟩ _ = w6
      obtain ⟨u0, u1, hb6, _⟩ := shape_set j0.out (Nat.le_refl _) B1.out _ _ hw6
      clear hw6
      refine bodyPost_ret (v := .tuple #[.agg #[.slice none 0 0, .slice none 0 0], .int .i64 1, .int .i64 4]) (by simp [results, Tryd.results6, go_sem, u0, u1]) rfl (rp_ret PX.out hb6)
    | cons l0 T =>
      have hn1 : 1 ≤ n := by rw [← LN.out, hLc]; simp
      have LC := Lib.hid hLc
      obtain ⟨g, o, c', e, hg, hc0⟩ := V.out.nth8 (i := 0) (by rw [LN.out]; omega)
      rw [LN.out] at e
      simp only [Value.slice.injEq, true_and] at e
      obtain ⟨rfl, rfl⟩ := e
      rw [Nat.add_zero] at hc0
      have hl0 : L[0]'(by rw [LN.out]; omega) = l0 := by
        have h := LC.out
        subst h; rfl
      rw [hl0] at hc0
      have hl0z : (bs l0).size ≤ 1000000 := by
        rw [bs_size]; exact LS.out l0 (by rw [LC.out]; simp)
      have FC := Lib.hid (fun w => refFirst (bs l0) w hl0z)
      have D0 := Lib.hid hc0
      clear hLc hl0 hc0 hl0z
      go_upto_region 8 with (fail)
      generalize hwa : World.alloc w1 _ = wa
      have ba : Below w1.heap.size w1 wa := by rw [← hwa]; exact (Below.refl _ _).alloc (Nat.le_refl _) _
      have hka : wa.heap[w1.heap.size]? = some (.cells #[.slice none 0 0, .slice none 0 0] 25 (0, 0)) := by rw [← hwa]; exact heap_alloc_new w1 _
      have S0 : Hid (RpSt w wa w1.heap.size (.slice none 0 0) (.slice none 0 0) [] [] w1) := Lib.hid ⟨B1.out.trans (ba.mono B1.out.size), by rw [ba.block _ (by omega)]; exact j0.out, by rw [ba.block _ (by omega)]; exact j1.out, hka, hw1, Nat.le_refl _, ba, World.ownsRow_nil _ _ _ _, World.ownsRow_nil _ _ _ _, B1.out.size⟩
      have d0 := (ba.cell (p := ⟨g, o, none⟩) hg).trans D0.out
      have hga := Nat.lt_of_lt_of_le hg ba.size
      clear hwa ba hka
      go_upto_region 9 with (go_at_call 15; refine (FC.out _).mono ?_; rintro e w2 ⟨bv, rfl, ho, b2⟩; rw [bs_data] at ho ⊢; obtain ⟨Ab, cb, rfl⟩ := ho.form; have OB : Hid (OwnB w2 w1.heap.size (.slice Ab (fstB l0).length cb) (fstB l0)) := Lib.hid (own_baseB ho S0.out.b1.size); have S2 := Lib.hid (S0.out.step b2); obtain ⟨s0, s1, sf, sl⟩ := S2.out.cs; have sf0 := sf 0; clear sf b2 ho)
      generalize hw3 : World.setCell w2 _ _ = w3
      have S3 : Hid (RpSt w w3 w1.heap.size (.slice Ab (fstB l0).length cb) (.slice none 0 0) (fstB l0) [] w1) := Lib.hid (by rw [← hw3]; exact S2.out.put0 OB.out)
      clear hw3 s0 s1 sf0 sl hga d0
      by_cases hf : fstE l0 = 0
      · have PX := Lib.hid (par_rest H0.out (HL.out.trans LC.out) hf)
        rw [hf]
        obtain ⟨B, hB⟩ : ∃ B, fstB l0 = B := ⟨_, rfl⟩
        have PX2 := PX.out
        have S4 := S3.out
        rw [hB] at PX2 S4 ⊢
        obtain ⟨nB, hnB⟩ : ∃ n, B.length = n := ⟨_, rfl⟩
        obtain ⟨R, hR⟩ : ∃ R, goE nB T 1 [] 0 = R := ⟨_, rfl⟩
        rw [hnB] at PX2 S4 ⊢
        rw [hR] at PX2
        have PY := Lib.hid PX2
        have S5 := Lib.hid S4
        have RR := Lib.hid hR
        have NB := Lib.hid hnB
        clear hf PX PX2 S4 hB hnB hR S3
        go_wp2
        go_loopw [9, 10] (fun nv iv wr => RpRel L R B (.slice Ab nB cb) w1.heap.size w w1 wr nv iv) (fun _ iv _ => n - (intOf iv).toNat)
        case atStart => exact ⟨1, [], 0, .slice none 0 0, rfl, rfl, Nat.le_refl _, by rw [LN.out]; exact hn1, by simp, by omega, S5.out, by rw [LC.out, NB.out]; exact RR.out⟩
        case round =>
          obtain ⟨k, E, b, ev, rfl, rfl, hk1, hk2, hE, hb, hS, hg⟩ := hrel
          rw [LN.out] at hk2
          rw [NB.out] at hg
          obtain ⟨Ae, ce, e0⟩ := hS.re.form
          obtain ⟨nE, hnE⟩ : ∃ m, E.length = m := ⟨_, rfl⟩
          rw [hnE] at e0 hE
          subst e0
          have S := Lib.hid hS
          have G := Lib.hid hg
          have NE := Lib.hid hnE
          clear hS hg hnE
          by_cases hlt : k < n
          · have hkL : k < L.length := by rw [LN.out]; exact hlt
            obtain ⟨g', o', c', e, hg, hc⟩ := V.out.nth8 hkL
            rw [LN.out] at e
            simp only [Value.slice.injEq, Option.some.injEq, Addr.mk.injEq, and_true, true_and] at e
            obtain ⟨⟨rfl, rfl⟩, rfl⟩ := e
            have d0 := (S.out.b1.cell (p := ⟨g, o + k, none⟩) hg).trans hc
            have hgw := Nat.lt_of_lt_of_le hg S.out.b1.size
            have hls := LS.out L[k] (List.getElem_mem hkL)
            have hgd := G.out
            have hdl : (L.drop (k + 1)).length = n - (k + 1) := by rw [List.length_drop, LN.out]
            rw [List.drop_eq_getElem_cons hkL] at hgd
            obtain ⟨T2, hT2⟩ : ∃ T2, L.drop (k + 1) = T2 := ⟨_, rfl⟩
            obtain ⟨q, hq⟩ : ∃ q, L[k] = q := ⟨_, rfl⟩
            rw [hq] at hgd d0 hls
            rw [hT2] at hgd hdl
            have TT := Lib.hid hT2
            have HQ := Lib.hid hgd
            clear hc hgd hq hT2
            by_cases hqe : q = endW
            · have q0 : ((bs q).toList == [101, 110, 100]) = true := by rw [toList_data, bs_data, hqe]; rfl
              have hgo := HQ.out
              rw [hqe, go_end] at hgo
              by_cases hkn : k + 1 < n
              · have hne : T2 ≠ [] := by intro h; rw [h] at hdl; simp at hdl; omega
                rw [if_neg hne] at hgo
                have PX := Lib.hid (par_of PY.out hgo.symm (by decide))
                clear hqe hgo hne hdl hls
                obtain ⟨x0, x1, f0, fl⟩ := S.out.cr
                have f00 := f0 0
                have f01 := f0 1
                obtain ⟨n0, n1⟩ := S.out.cn
                clear f0
                go_wp2
                generalize hw6 : World.setCell _ ⟨w.heap.size, 1, none⟩ _ = w6
                obtain ⟨u0, u1, hb6, _⟩ := shape_set S.out.rc (Nat.le_refl _) S.out.below _ _ hw6
                clear hw6
                refine bodyPost_ret (v := .tuple #[.agg #[.slice none 0 0, .slice none 0 0], .int .i64 ((k : Int) + 2), .int .i64 (4)]) (by simp [results, Tryd.results6, go_sem, u0, u1]) rfl (rp_ret PX.out hb6)
              · have hne : T2 = [] := by rw [← List.length_eq_zero_iff, hdl]; omega
                rw [if_pos hne] at hgo
                have PX : Hid (par s.data.toList = (0, 0, B, E)) := Lib.hid (by rw [PY.out, ← hgo]; rfl)
                obtain ⟨x0, x1, f0, fl⟩ := S.out.cr
                have f00 := f0 0
                have f01 := f0 1
                obtain ⟨s0, s1, sf, sl⟩ := S.out.cs
                have hne2 : ¬ w.heap.size = w1.heap.size := by omega
                clear f0 sf hqe hgo hne hdl hls
                go_wp2
                generalize hw6 : World.setCell _ ⟨w.heap.size, 1, none⟩ _ = w6
                obtain ⟨u0, u1, hb6, ho6⟩ := shape_set S.out.rc (Nat.le_refl _) S.out.below _ _ hw6
                have hB6 : BlsAt w6 (.slice Ab nB cb) B := OwnB.bls (B := w1.heap.size) (ownsRow_out S.out.rb ho6 (fun q hq e => by have := (World.ownsRow.lt S.out.rb q hq).1; omega))
                have hE6 : EdsAt w6 (.slice Ae nE ce) E := OwnE.eds (B := w1.heap.size) (ownsRow_out S.out.re ho6 (fun q hq e => by have := (World.ownsRow.lt S.out.re q hq).1; omega))
                clear hw6
                refine bodyPost_ret (v := .tuple #[.agg #[.slice Ab nB cb, .slice Ae nE ce], .int .i64 0, .int .i64 0]) (by simp [results, Tryd.results6, go_sem, u0, u1]) rfl ⟨.slice Ab nB cb, .slice Ae nE ce, ?_, ?_, ?_, hb6⟩
                · rw [PX.out]
                · rw [PX.out]; exact hB6
                · rw [PX.out]; exact hE6
            · have q0 : ((bs q).toList == [101, 110, 100]) = false := by rw [toList_data, bs_data]; simpa [endW] using hqe
              have QE := Lib.hid hqe
              have CE := Lib.hid (fun w => refEdge (bs q) nB w (by rw [bs_size]; exact hls))
              obtain ⟨v, hv⟩ : ∃ v, edgV nB q = v := ⟨_, rfl⟩
              obtain ⟨ez, hez⟩ : ∃ z, edgE nB q = z := ⟨_, rfl⟩
              obtain ⟨sv, hsv⟩ : ∃ x, bs v.2.2.2 = x := ⟨_, rfl⟩
              have CF : Hid (∀ w, Calls Tryd.prog 16 #[.string (bs q), .int .i64 nB] w fun e w' => e = .returned (.tuple #[.agg #[.int .i64 v.1, .int .i64 v.2.1, .int .i64 v.2.2.1, .string sv], .int .i64 ez]) ∧ Below w.heap.size w w') := Lib.hid (fun w => by
                have h := CE.out w
                unfold EdgP at h
                rw [bs_data, hv, hez] at h
                rw [← hsv]; exact h)
              have VV := Lib.hid hv
              have EZ := Lib.hid hez
              have SV := Lib.hid hsv
              have hzs : sv.size = v.2.2.2.length := by rw [← hsv, bs_size]
              have hbl : v.2.2.2.length ≤ 1000000 := by rw [← hv]; exact Nat.le_trans (edgV_len _ _) hls
              obtain ⟨f, t, d, bb⟩ := v
              simp only at hzs hbl
              clear CE hqe hv hez hsv hls hdl
              go_upto_region 20 with (fail)
              generalize hw2 : World.alloc wr _ = w2
              have S2 : Hid (RpSt w w2 w1.heap.size (.slice Ab nB cb) (.slice Ae nE ce) B E w1) := Lib.hid (by rw [← hw2]; exact S.out.step ((Below.refl _ _).alloc (Nat.le_refl _) _))
              have hl2 : w2.heap[wr.heap.size]? = some (.cells #[.int .i64 0, .int .i64 0, .int .i64 0, .string ByteArray.empty] 47 (0, 0)) := by rw [← hw2]; exact heap_alloc_new wr _
              have K2 := Lib.hid hl2
              have BX : Hid (Below wr.heap.size wr w2) := Lib.hid (by rw [← hw2]; exact (Below.refl _ _).alloc (Nat.le_refl _) _)
              have d2 : w2.cell? ⟨g, o + k, none⟩ = some (.string (bs q)) := by rw [← hw2, Below.cell (Below.refl _ _ |>.alloc (Nat.le_refl _) _) hgw]; exact d0
              have hgw2 : g < w2.heap.size := by have := S2.out.b1.size; omega
              obtain ⟨s0, s1, sf, sl⟩ := S2.out.cs
              clear sf hw2 hl2 d0 hgw
              go_region_with (refine (CF.out _).mono ?_; rintro e w3 ⟨rfl, b3⟩; have BX3 := Lib.hid (BX.out.trans ((((Below.refl _ _).drew).trans b3).mono BX.out.size)); have hl3 : w3.heap[wr.heap.size]? = some (.cells #[.int .i64 0, .int .i64 0, .int .i64 0, .string ByteArray.empty] 47 (0, 0)) := (by rw [b3.block _ (Array.getElem?_eq_some_iff.1 K2.out).1]; exact K2.out); have K3 := Lib.hid hl3; obtain ⟨e0, e1, e2, e3, ef, el⟩ := edge_cells hl3; have ef0 := ef 0; have ef1 := ef 1; have ef2 := ef 2; have ef3 := ef 3; clear ef hl3 b3)
              all_goals
                generalize hw4 : World.setCell _ ⟨wr.heap.size, 3, none⟩ _ = w4
                obtain ⟨hk4, hb4⟩ := edge_put K3.out (Nat.le_refl _) BX3.out _ _ _ _ hw4
                have S4 := Lib.hid (S.out.step hb4)
                have K4 := Lib.hid hk4
                obtain ⟨y0, y1, y2, y3, yf, yl⟩ := edge_cells hk4
                obtain ⟨r0, r1, rf, rl⟩ := S4.out.cs
                have rf0 := rf 1
                clear hw4 hb4 hk4 yf rf e0 e1 e2 e3 ef0 ef1 ef2 ef3 el s0 s1 sl d2 hgw2
                by_cases hz : ez = 0
                · have EZ0 : Hid (edgE nB q = 0) := Lib.hid (EZ.out.trans hz)
                  subst hz
                  obtain ⟨i0, hi, hz0, hz1, hz2⟩ := info_of infoE4
                  obtain ⟨bz, hbz⟩ : ∃ bz, b + bb.length = bz := ⟨_, rfl⟩
                  obtain ⟨hw7, hbz1⟩ := wrap_add hb hbl hzs hbz
                  have BZ := Lib.hid hbz
                  clear hbz hbl hzs
                  go_upto_region 25 with (at_builtin; refine wpList_append_fresh rfl (.tmp 82) (.tmp 84) 23 rfl w1.heap.size 47 i0 (.agg #[.int .i64 0, .int .i64 0, .int .i64 0, .string ByteArray.empty]) 4 40 Tryd.underlying23 hi hz0 hz1 hz2 rfl (by decide) (.slice Ae nE ce) nE (E.flatMap encE) rfl ((S4.out.re.below ((Below.refl _ _).alloc (Nat.le_refl _) _) (Nat.le_refl _)).at_ NE.out) ⟨w4.heap.size, 0, none⟩ 1 1 (encE (f, t, d, bb)) rfl rfl (by have hsb := SV.out; subst hsb; exact newsE _ _ _ _ rfl) (encE_one _) (by unfold maxLen; omega) (by omega) (by have := S4.out.b1.size; simp; omega) ?_; intro v5 w5 hown hgrow hfr; obtain ⟨hs5, hM5⟩ := S4.out.more NE.out ((Below.refl _ _).alloc (Nat.le_refl _) _) hown hgrow; obtain ⟨ao, cap, e5⟩ := (OwnE.snocAt NE.out hown).form; rw [List.length_append, NE.out] at e5; simp only [List.length_singleton] at e5; subst e5; have M5 := Lib.hid hM5; have s5f : w5.frozen? ⟨w1.heap.size, 1, none⟩ = false := (by simp only [World.frozen?, hs5]; simp); have s5l := (Array.getElem?_eq_some_iff.1 hs5).1; have s5c : w5.cell? ⟨w1.heap.size, 1, none⟩ = some (.slice Ae nE ce) := (by simp [World.cell?, hs5]); clear hown hgrow hfr hs5 hM5)
                  generalize hw6 : World.setCell w5 _ _ = w6
                  have M6 : Hid (RpSt w w6 w1.heap.size (.slice Ab nB cb) (.slice ao (nE + 1) cap) B (E ++ [(f, t, d, bb)]) w1) := Lib.hid (by rw [← hw6]; exact M5.out)
                  obtain ⟨p0, p1, pf, pl⟩ := M6.out.cs
                  clear hw6 pf s5f s5l s5c y0 y1 y2 y3 yl r0 r1 rf0 rl hw7
                  by_cases h4 : nE = 4096
                  · have hgo := HQ.out
                    rw [go_many QE.out EZ0.out _ _ _ _ (Or.inl (by rw [NE.out]; omega))] at hgo
                    have PX := Lib.hid (par_of PY.out hgo.symm (by decide))
                    have q5 : (4096 : Int) < (nE : Int) + 1 := by omega
                    clear hgo h4
                    obtain ⟨x0, x1, f0, fl⟩ := M6.out.cr
                    have f00 := f0 0
                    have f01 := f0 1
                    obtain ⟨n0, n1⟩ := M6.out.cn
                    clear f0
                    go_wp2
                    generalize hw7 : World.setCell _ ⟨w.heap.size, 1, none⟩ _ = w7
                    obtain ⟨u0, u1, hb7, _⟩ := shape_set M6.out.rc (Nat.le_refl _) M6.out.below _ _ hw7
                    clear hw7
                    refine bodyPost_ret (v := .tuple #[.agg #[.slice none 0 0, .slice none 0 0], .int .i64 ((k : Int) + 1), .int .i64 (6)]) (by simp [results, Tryd.results6, go_sem, u0, u1]) rfl (rp_ret PX.out hb7)
                  · by_cases h5 : 4096 < bz
                    · have hgo := HQ.out
                      rw [go_many QE.out EZ0.out _ _ _ _ (Or.inr (by rw [VV.out, BZ.out]; exact h5))] at hgo
                      have PX := Lib.hid (par_of PY.out hgo.symm (by decide))
                      have q5 : ¬ (4096 : Int) < (nE : Int) + 1 := by omega
                      have q6 : (4096 : Int) < (bz : Int) := by omega
                      clear hgo h4 h5
                      obtain ⟨x0, x1, f0, fl⟩ := M6.out.cr
                      have f00 := f0 0
                      have f01 := f0 1
                      obtain ⟨n0, n1⟩ := M6.out.cn
                      clear f0
                      go_wp2
                      generalize hw7 : World.setCell _ ⟨w.heap.size, 1, none⟩ _ = w7
                      obtain ⟨u0, u1, hb7, _⟩ := shape_set M6.out.rc (Nat.le_refl _) M6.out.below _ _ hw7
                      clear hw7
                      refine bodyPost_ret (v := .tuple #[.agg #[.slice none 0 0, .slice none 0 0], .int .i64 ((k : Int) + 1), .int .i64 (6)]) (by simp [results, Tryd.results6, go_sem, u0, u1]) rfl (rp_ret PX.out hb7)
                    · have hgo := HQ.out
                      rw [go_next QE.out EZ0.out _ _ _ _ (by rw [NE.out, VV.out]; show ¬ (4096 < nE + 1 ∨ 4096 < b + bb.length); rw [BZ.out]; omega), VV.out] at hgo
                      have q5 : ¬ (4096 : Int) < (nE : Int) + 1 := by omega
                      have q6 : ¬ (4096 : Int) < (bz : Int) := by omega
                      have HG := Lib.hid hgo
                      clear hgo
                      go_wp2
                      go_roundw
                      case rel => exact ⟨k + 1, E ++ [(f, t, d, bb)], bz, _, by go_num, rfl, by omega, by rw [LN.out]; omega, by rw [List.length_append, NE.out]; simp; omega, by omega, M6.out, by rw [NB.out, TT.out, ← BZ.out]; exact HG.out⟩
                      case measure => (simp [intOf] <;> omega)
                · have hgo := HQ.out
                  rw [go_bad QE.out (by rw [EZ.out]; exact hz), EZ.out] at hgo
                  have PX := Lib.hid (par_of PY.out hgo.symm hz)
                  have q1 : (ez == 0) = false := by simpa using hz
                  have q2 : (ez != 0) = true := by simpa using hz
                  clear hgo hz hbl hzs
                  obtain ⟨x0, x1, f0, fl⟩ := S4.out.cr
                  have f00 := f0 0
                  have f01 := f0 1
                  obtain ⟨n0, n1⟩ := S4.out.cn
                  clear f0
                  go_wp2
                  generalize hw7 : World.setCell _ ⟨w.heap.size, 1, none⟩ _ = w7
                  obtain ⟨u0, u1, hb7, _⟩ := shape_set S4.out.rc (Nat.le_refl _) S4.out.below _ _ hw7
                  clear hw7
                  refine bodyPost_ret (v := .tuple #[.agg #[.slice none 0 0, .slice none 0 0], .int .i64 ((k : Int) + 1), .int .i64 (ez)]) (by simp [results, Tryd.results6, go_sem, u0, u1]) rfl (rp_ret PX.out hb7)
          · obtain rfl : k = n := by omega
            have hgd := G.out
            rw [List.drop_eq_nil_of_le (by rw [LN.out]; exact Nat.le_refl _), goE] at hgd
            have PX := Lib.hid (par_of PY.out hgd.symm (by decide))
            clear hgd
            obtain ⟨x0, x1, f0, fl⟩ := S.out.cr
            have f00 := f0 0
            have f01 := f0 1
            obtain ⟨n0, n1⟩ := S.out.cn
            clear f0
            go_wp2
            generalize hw6 : World.setCell _ ⟨w.heap.size, 1, none⟩ _ = w6
            obtain ⟨u0, u1, hb6, _⟩ := shape_set S.out.rc (Nat.le_refl _) S.out.below _ _ hw6
            clear hw6
            refine bodyPost_ret (v := .tuple #[.agg #[.slice none 0 0, .slice none 0 0], .int .i64 ((k : Int) + 1), .int .i64 4]) (by simp [results, Tryd.results6, go_sem, u0, u1]) rfl (rp_ret PX.out hb6)
      · have PX := Lib.hid (par_first H0.out (HL.out.trans LC.out) hf)
        obtain ⟨x0, x1, f0, fl⟩ := S3.out.cr
        have f00 := f0 0
        have f01 := f0 1
        obtain ⟨n0, n1⟩ := S3.out.cn
        have q1 : (fstE l0 == 0) = false := by simpa using hf
        have q2 : (fstE l0 != 0) = true := by simpa using hf
        generalize fstE l0 = z at *
        clear f0 hf
        go_wp2
        generalize hw6 : World.setCell _ ⟨w.heap.size, 1, none⟩ _ = w6
        obtain ⟨u0, u1, hb6, _⟩ := shape_set S3.out.rc (Nat.le_refl _) S3.out.below _ _ hw6
        clear hw6
        refine bodyPost_ret (v := .tuple #[.agg #[.slice none 0 0, .slice none 0 0], .int .i64 1, .int .i64 z]) (by simp [results, Tryd.results6, go_sem, u0, u1]) rfl (rp_ret PX.out hb6)
  · have PX := Lib.hid (par_long h0)
    have C2 : Hid (∀ w, Calls Tryd.prog 14 #[.string s] w fun e w' => (∃ A n c, e = .returned (.tuple #[.slice A n c, .int .i64 (lnE s.data.toList)])) ∧ Below w.heap.size w w') := Lib.hid (fun w => by
      refine (C.out w).mono ?_
      rintro e w' ⟨v, rfl, hv, hb⟩
      obtain ⟨A, c, rfl, hr⟩ := hv
      exact ⟨⟨A, _, c, rfl⟩, hb⟩)
    have q1 : (lnE s.data.toList == 0) = false := by simpa using h0
    have q2 : (lnE s.data.toList != 0) = true := by simpa using h0
    generalize lnE s.data.toList = z at *
    clear h0 C
    go_enter Tryd.func6, Tryd.ntmps6
    go_wp2_with (fail)
    generalize hwb : World.alloc (World.alloc w _) _ = wb
    have b0 : Below w.heap.size w wb := by rw [← hwb]; exact ((Below.refl _ _).alloc (Nat.le_refl _) _).alloc (by simp) _
    have hk0 : wb.heap[w.heap.size]? = some (.cells #[.slice none 0 0, .slice none 0 0] 25 (0, 0)) := by rw [← hwb, Below.heap_alloc _ _ _ (by simp)]; exact heap_alloc_new w _
    have hk1 : wb.heap[w.heap.size + 1]? = some (.cells #[.slice none 0 0, .slice none 0 0] 25 (0, 0)) := by rw [← hwb]; exact alloc_second w _ _
    have hlt1 : w.heap.size + 1 < wb.heap.size := (Array.getElem?_eq_some_iff.1 hk1).1
    clear hwb
    refine (C2.out wb).mono ?_
    rintro e w1 ⟨⟨A, n, c, rfl⟩, b1⟩
    have j0 : Hid (w1.heap[w.heap.size]? = some (.cells #[.slice none 0 0, .slice none 0 0] 25 (0, 0))) := Lib.hid (by rw [b1.block _ (by omega)]; exact hk0)
    have B1 : Hid (Below w.heap.size w w1) := Lib.hid (b0.trans (b1.mono b0.size))
    have x0 : w1.cell? ⟨w.heap.size, 0, none⟩ = some (.slice none 0 0) := by have h := j0.out; simp [World.cell?, h]
    have x1 : w1.cell? ⟨w.heap.size, 1, none⟩ = some (.slice none 0 0) := by have h := j0.out; simp [World.cell?, h]
    have n0 : w1.cell? ⟨w.heap.size + 1, 0, none⟩ = some (.slice none 0 0) := by have h := (b1.block _ hlt1).trans hk1; simp [World.cell?, h]
    have n1 : w1.cell? ⟨w.heap.size + 1, 1, none⟩ = some (.slice none 0 0) := by have h := (b1.block _ hlt1).trans hk1; simp [World.cell?, h]
    have f0 : ∀ j, w1.frozen? ⟨w.heap.size, j, none⟩ = false := by have h := j0.out; intro j; simp only [World.frozen?, h]; simp
    have f00 := f0 0
    have f01 := f0 1
    have hw1 : w.heap.size + 2 ≤ w1.heap.size := by have := b1.size; omega
    clear f0 b0 b1 hk0 hk1
    go_wp2
    generalize hw6 : World.setCell _ ⟨w.heap.size, 1, none⟩ _ = w6
    obtain ⟨u0, u1, hb6, _⟩ := shape_set j0.out (Nat.le_refl _) B1.out _ _ hw6
    clear hw6
    refine bodyPost_ret (v := .tuple #[.agg #[.slice none 0 0, .slice none 0 0], .int .i64 0, .int .i64 z]) (by simp [results, Tryd.results6, go_sem, u0, u1]) rfl (rp_ret PX.out hb6)
end Go.Proofs.YtgchmoabhblmcaaDoor
