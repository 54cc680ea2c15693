/-
  A box's corners and ends as cells; the boxes of a layout in memory. Conditions: the ends are a shape's that may be written; at most 100000 cells.
-/
import Derived.Test.YtecifgaekefkpaaDoorNcF
namespace Go.Proofs.YtecifgaekefkpaaDoor
open Go.RowKit Go.Proofs.YtecifgaekefkpaaDoor.LexM Go.Proofs.YtecifgaekefkpaaDoor.ParM Go.Proofs.YtecifgaekefkpaaDoor.GrM Go.Proofs.YtecifgaekefkpaaDoor.NmM

/-- So many cells, one behind the other. -/
def celR (a n : Nat) : List Int := (List.range n).map fun j => ((a + j : Nat) : Int)
theorem celR_len (a n : Nat) : (celR a n).length = n := by simp [celR]
theorem celR_more (a n : Nat) : celR a (n + 1) = celR a n ++ [((a + n : Nat) : Int)] := by simp [celR, List.range_succ]
/-- A box: its vertex, the rows of its ends. -/
structure BxQ where
  v : Nat
  s : Nat → Value
def encX (cf : Nat → Nat) (q : BxQ) : List Value := [.int .i64 (cf q.v), .int .i64 ((cf q.v + 1 : Nat) : Int), .int .i64 ((cf q.v + 2 : Nat) : Int), .int .i64 ((cf q.v + 3 : Nat) : Int), q.s 0, q.s 1, q.s 2, q.s 3]
theorem encX_len (cf : Nat → Nat) (q : BxQ) : (encX cf q).length = 8 := rfl
/-- The ends of a box's side, as cells. -/
def sdC (E : List Edg) (v c d : Nat) : List Int := celR (c + 4 + sidesK E (v : Int) d) (onL E (v : Int) (d : Int)).length
/-- The boxes of a layout. -/
structure BxsAt (m : Nat) (E : List Edg) (cf : Nat → Nat) (w : World) (xv : Value) (X : List BxQ) : Prop where
  row : w.ownsRow m 90 8 xv X.length (X.flatMap (encX cf))
  sd : ∀ q ∈ X, ∀ d, d < 4 → OwnZ w m (q.s d) (sdC E q.v (cf q.v) d) (onL E (q.v : Int) (d : Int)).length
section
variable {m B : Nat} {E : List Edg} {cf : Nat → Nat} {w w' : World} {xv : Value} {X : List BxQ}
theorem BxsAt.kept (h : BxsAt m E cf w xv X) (k : Kept B m w w') : BxsAt m E cf w' xv X :=
  ⟨ownsRow_out h.row k (fun b hb e => by have := (h.row.lt b hb).1; omega), fun q hq d hd => ⟨(h.sd q hq d hd).1, ownsRow_out (h.sd q hq d hd).2 k (fun b hb e => by have := ((h.sd q hq d hd).2.lt b hb).1; omega)⟩⟩
theorem BxsAt.form (h : BxsAt m E cf w xv X) : ∃ A c, xv = .slice A X.length c := by
  rcases h.row.2 with ⟨h1, h2⟩ | ⟨_, _, _, h, _⟩
  · exact ⟨none, 0, by rw [h2]; exact h1⟩
  · exact ⟨_, _, h⟩
end
theorem info_x : ∃ i, Tryd.prog.info? 90 = some i ∧ i.zero = some (.agg #[.int .i64 0, .int .i64 0, .int .i64 0, .int .i64 0, .slice none 0 0, .slice none 0 0, .slice none 0 0, .slice none 0 0]) ∧ i.size = 8 ∧ i.bytes = 128 := by
  have h : (Tryd.prog.info? 90).map (fun i => (i.zero, i.size, i.bytes)) = some (some (.agg #[.int .i64 0, .int .i64 0, .int .i64 0, .int .i64 0, .slice none 0 0, .slice none 0 0, .slice none 0 0, .slice none 0 0]), 8, 128) := by kernel_rfl
  cases e : Tryd.prog.info? 90 with
  | none => rw [e] at h; cases h
  | some i =>
    rw [e] at h
    simp only [Option.map_some, Option.some.injEq, Prod.mk.injEq] at h
    exact ⟨i, rfl, h.1, h.2.1, h.2.2⟩
/-- A box under way: so many of its corners told. -/
def corA (c i : Nat) : Array Value := #[.int .i64 (if 0 < i then (c : Int) else 0), .int .i64 (if 1 < i then ((c + 1 : Nat) : Int) else 0), .int .i64 (if 2 < i then ((c + 2 : Nat) : Int) else 0), .int .i64 (if 3 < i then ((c + 3 : Nat) : Int) else 0), .slice none 0 0, .slice none 0 0, .slice none 0 0, .slice none 0 0]
theorem corA_set {c i : Nat} (hi : i < 4) : (corA c i).setIfInBounds i (.int .i64 ((c + i : Nat) : Int)) = corA c (i + 1) := by
  have hc : i = 0 ∨ i = 1 ∨ i = 2 ∨ i = 3 := by omega
  rcases hc with rfl | rfl | rfl | rfl <;> simp [corA]
def boxA (c : Nat) (S : Nat → Value) : Array Value := #[.int .i64 c, .int .i64 ((c + 1 : Nat) : Int), .int .i64 ((c + 2 : Nat) : Int), .int .i64 ((c + 3 : Nat) : Int), S 0, S 1, S 2, S 3]
theorem corA_all (c : Nat) : corA c 4 = boxA c (fun _ => .slice none 0 0) := by simp [corA, boxA]
theorem boxA_set {c d : Nat} {S : Nat → Value} (hd : d < 4) (v : Value) : (boxA c S).setIfInBounds (4 + d) v = boxA c (fun e => if e = d then v else S e) := by
  have hc : d = 0 ∨ d = 1 ∨ d = 2 ∨ d = 3 := by omega
  rcases hc with rfl | rfl | rfl | rfl <;> simp [boxA]
theorem boxA_at {c d : Nat} {S : Nat → Value} (hd : d < 4) : (boxA c S)[4 + d]? = some (S d) := by
  have hc : d = 0 ∨ d = 1 ∨ d = 2 ∨ d = 3 := by omega
  rcases hc with rfl | rfl | rfl | rfl <;> simp [boxA]
theorem corA_at {c i j : Nat} (hj : j < 4) : ∃ u, (corA c i)[j]? = some u := by
  have hc : j = 0 ∨ j = 1 ∨ j = 2 ∨ j = 3 := by omega
  rcases hc with rfl | rfl | rfl | rfl <;> exact ⟨_, rfl⟩
/-- What a side of a box leaves. -/
def KeptX (B m bb : Nat) (w w' : World) : Prop := Out (fun b => (B ≤ b ∧ b < m) ∨ b = bb) w w'
theorem KeptX.refl (B m bb : Nat) (w : World) : KeptX B m bb w w := Out.refl _ w
theorem KeptX.trans {B m bb : Nat} {a b c : World} (h : KeptX B m bb a b) (k : KeptX B m bb b c) : KeptX B m bb a c := Out.trans h k (fun _ _ e => e)
theorem KeptX.ofB {B m bb : Nat} {w w' : World} (h : Below w.heap.size w w') : KeptX B m bb w w' := Out.ofBelow h
theorem KeptX.ofK {B m bb : Nat} {w w' : World} (h : Kept B m w w') : KeptX B m bb w w' := Out.mono h (fun _ _ e => Or.inl e)
theorem KeptX.toK {B m bb : Nat} {a w w' : World} (h : Kept B m a w) (k : KeptX B m bb w w') (hb : a.heap.size ≤ bb) : Kept B m a w' := Out.trans (S := fun b => B ≤ b ∧ b < m) h k (fun i hi e => by rcases e with e | e; exact e; omega)
theorem KeptX.set {B m bb : Nat} {a w : World} (h : KeptX B m bb a w) (j : Nat) (u : Value) : KeptX B m bb a (w.setCell ⟨bb, j, none⟩ u) := Out.setCell (S := fun b => (B ≤ b ∧ b < m) ∨ b = bb) h (p := ⟨bb, j, none⟩) (fun _ => Or.inr rfl) u
theorem OwnZ.keptX {B m bb : Nat} {w w' : World} {C n : Nat} {v : Value} {x : List Int} {cur : Array Value} (h : OwnZ w C v x n) (k : KeptX B m bb w w') (hC : m ≤ C) (hb : w.heap[bb]? = some (.cells cur 90 (0, 0))) : OwnZ w' C v x n :=
  ⟨h.1, ownsRow_out h.2 k (fun b hbb e => by
    rcases e with e | e
    · have := (h.2.lt b hbb).1; omega
    · subst e; exact own_kind h.2 hb (by decide) hbb)⟩
def BoL (B s0 nE : Nat) (ln : Nat → Nat) (lb ob fb cF bb xb : Nat) (w wr : World) (F : List Int) (nF : Nat) (xv : Value) (W : Nat → List Int) (c : Nat) (xs : Array Value) (iv : Value) : Prop :=
  ∃ i : Nat, iv = .int .i64 i ∧ i ≤ 4 ∧ LyAt B s0 nE ln lb ob fb cF wr (c + i) F nF xv W ∧ wr.heap[bb]? = some (.cells (corA c i) 90 (0, 0)) ∧ wr.heap[xb]? = some (.cells xs 79 (0, 0)) ∧ Kept B (s0 + 2 * nE) w wr
def BoD (B s0 nE : Nat) (ln : Nat → Nat) (lb ob fb cF bb : Nat) (w wr : World) (F : List Int) (nF : Nat) (xv : Value) (E : List Edg) (v c : Nat) (s : NSt) (dv : Value) : Prop :=
  ∃ (d : Nat) (S : Nat → Value), dv = .int .i64 d ∧ d ≤ 4 ∧ LyAt B s0 nE ln lb ob fb cF wr (bxK E v c s d).n F nF xv (fun i => wayZ (bxK E v c s d).en (nbE E i) i) ∧ wr.heap[bb]? = some (.cells (boxA c S) 90 (0, 0)) ∧
    (∀ e, e < d → OwnZ wr w.heap.size (S e) (sdC E v c e) (onL E (v : Int) (e : Int)).length) ∧ (∀ e, d ≤ e → S e = .slice none 0 0) ∧ Kept B (s0 + 2 * nE) w wr
def BoI (B s0 nE : Nat) (ln : Nat → Nat) (lb ob fb cF bb : Nat) (wi wr : World) (F : List Int) (nF : Nat) (xv : Value) (E : List Edg) (c d : Nat) (S : Nat → Value) (way fr : Int) (l : List Int) (n : Nat) (sd : NSt) (iv : Value) : Prop :=
  ∃ (i : Nat) (z : Value), iv = .int .i64 i ∧ i ≤ n ∧ LyAt B s0 nE ln lb ob fb cF wr (sd.n + i) F nF xv (fun j => wayZ (chK way l sd fr i).1.en (nbE E j) j) ∧ wr.heap[bb]? = some (.cells (boxA c (fun e => if e = d then z else S e)) 90 (0, 0)) ∧
    OwnZ wr wi.heap.size z (celR sd.n i) i ∧ KeptX B (s0 + 2 * nE) bb wi wr
theorem BxsAt.more {m : Nat} {E : List Edg} {cf : Nat → Nat} {w w1 : World} {xv v5 : Value} {X : List BxQ} {q : BxQ} (h : BxsAt m E cf w xv X) (hq : ∀ d, d < 4 → OwnZ w m (q.s d) (sdC E q.v (cf q.v) d) (onL E (q.v : Int) (d : Int)).length)
    (hown : w1.ownsRow m 90 8 v5 (X.length + 1) (X.flatMap (encX cf) ++ encX cf q)) (hgrow : w.grownBy w1 xv.ownBlock) : BxsAt m E cf w1 v5 (X ++ [q]) := by
  have keep : ∀ {v : Value} {x : List Int} {n : Nat}, OwnZ w m v x n → OwnZ w1 m v x n := fun {v x n} hz => by
    refine ⟨hz.1, ownsRow_block hz.2 (fun b hb => ?_)⟩
    rcases hz.2.2 with ⟨q2, _⟩ | ⟨g, c1, c2, hv, _, hgk, _⟩
    · rw [q2] at hb; cases hb
    · have hg' : g = b := by rw [hv] at hb; simpa [Value.ownBlock] using hb
      subst hg'
      exact hgrow.block g (Array.getElem?_eq_some_iff.1 hgk).1 (fun e => own_kind h.row hgk (by decide) e.symm)
  refine ⟨?_, fun r hr d hd => ?_⟩
  · rw [List.length_append, List.flatMap_append]
    simpa using hown
  · rcases List.mem_append.1 hr with h1 | h1
    · exact keep (h.sd r h1 d hd)
    · obtain rfl : r = q := by simpa using h1
      exact keep (hq d hd)
theorem BxsAt.below {m C : Nat} {E : List Edg} {cf : Nat → Nat} {w w' : World} {xv : Value} {X : List BxQ} (h : BxsAt m E cf w xv X) (o : Below C w w') (hC : w.heap.size ≤ C) : BxsAt m E cf w' xv X := h.kept (B := 0) (Kept.ofB (o.mono hC))
theorem chK_m {way : Int} {l : List Int} {s : NSt} {c : Int} : ∀ i, (chK way l s c i).1.n = s.n + i ∧ (chK way l s c i).1.en.length = s.en.length
  | 0 => ⟨rfl, rfl⟩
  | i + 1 => by
    obtain ⟨h1, h2⟩ := chK_m (way := way) (l := l) (s := s) (c := c) i
    refine ⟨?_, ?_⟩
    · show (chK way l s c i).1.n + 1 = _
      omega
    · show ((chK way l s c i).1.en.set _ _).length = _
      rw [List.length_set, h2]
theorem bxK_m {E : List Edg} {v : Int} {c : Nat} {s : NSt} : ∀ d, (bxK E v c s d).n = s.n + sidesK E v d ∧ (bxK E v c s d).en.length = s.en.length
  | 0 => ⟨rfl, rfl⟩
  | d + 1 => by
    obtain ⟨h1, h2⟩ := bxK_m (E := E) (v := v) (c := c) (s := s) d
    obtain ⟨h3, h4⟩ := chK_m (way := wyC d) (l := onL E v d) (s := bxK E v c s d) (c := frC c d) (onL E v d).length
    refine ⟨?_, h4.trans h2⟩
    show (chK (wyC d) (onL E v d) (bxK E v c s d) (frC c d) (onL E v d).length).1.n = _
    rw [h3, h1, sidesK]; omega
theorem newsX (w : World) (t : TypeId) (x0 x1 x2 x3 x4 x5 x6 x7 : Value) (b : Nat) (hb : w.heap.size = b) : ∀ j z, [x0, x1, x2, x3, x4, x5, x6, x7][j]? = some z → ((w.alloc (.cells #[x0, x1, x2, x3, x4, x5, x6, x7] t)).drew).cell? ((⟨b, 0, none⟩ : Addr).add j) = some z := by
  intro j z hz
  have hj : j < 8 := by have := (List.getElem?_eq_some_iff.1 hz).1; exact this
  subst hb
  have hc : j = 0 ∨ j = 1 ∨ j = 2 ∨ j = 3 ∨ j = 4 ∨ j = 5 ∨ j = 6 ∨ j = 7 := by omega
  rcases hc with rfl | rfl | rfl | rfl | rfl | rfl | rfl | rfl <;> simp at hz <;> subst hz <;> go_simp
set_option maxHeartbeats 16000000 in
set_option maxRecDepth 100000 in
theorem addBoxY {w0 w : World} {C B s0 lb ob fb cF nF g nB : Nat} {F : List Int} {xv : Value} {s : NSt} {E : List Edg} {V : Nat → Value} {cf : Nat → Nat} {X : List BxQ} (v : Nat)
    (hL : LyAt B s0 E.length (fun i => nbE E i + 2) lb ob fb cF w s.n F nF xv (fun i => wayZ s.en (nbE E i) i)) (hX : BxsAt (s0 + 2 * E.length) E cf w xv X) (hG : EnAt C w0 g nB V (enR E E.length)) (hv : v < nB) (h0 : w0.heap.size ≤ B) (hw : Below B w0 w) (hB : B ≤ w.heap.size) (hs0 : s0 + 2 * E.length ≤ w.heap.size)
    (hen : s.en.length = 2 * E.length) (hM : E.length ≤ 4096) (hbd : ∀ i, nbE E i ≤ 4096) (hn : s.n + 4 + sidesK E (v : Int) 4 ≤ 100000000000) (hXl : X.length ≤ 5000) (hcf : cf v = s.n) :
    Calls Tryd.prog 35 #[.pointer (some ⟨lb, 0, none⟩), .agg #[V (v * 4), V (v * 4 + 1), V (v * 4 + 2), V (v * 4 + 3)]] w fun e w' => e = .returned (.tuple #[]) ∧ ∃ xv' q, q.v = v ∧
      LyAt B s0 E.length (fun i => nbE E i + 2) lb ob fb cF w' (bxN E v s).n F nF xv' (fun i => wayZ (bxN E v s).en (nbE E i) i) ∧ BxsAt (s0 + 2 * E.length) E cf w' xv' (X ++ [q]) ∧ Below B w w' := by
  obtain ⟨i0, hi, hz0, hz1, hz2⟩ := info_z
  obtain ⟨i1, hi1, hz01, hz11, hz21⟩ := info_x
  have HL := Lib.hid hL
  have HX := Lib.hid hX
  have HG := Lib.hid hG
  have HW := Lib.hid hw
  have H0 := Lib.hid h0
  have HB := Lib.hid hB
  have HEN := Lib.hid hen
  have HBD := Lib.hid hbd
  have HN := Lib.hid hn
  have HCF := Lib.hid hcf
  have NM := Lib.hid hL.nums
  obtain ⟨nE, hnE⟩ : ∃ n, E.length = n := ⟨_, rfl⟩
  have NE := Lib.hid hnE
  rw [hnE] at HL HX hM hs0 ⊢
  have HS0 := Lib.hid hs0
  obtain ⟨c, hc⟩ : ∃ c, s.n = c := ⟨_, rfl⟩
  have HC := Lib.hid hc
  have hc9 : c ≤ 100000000000 := by omega
  rw [hc] at HL
  clear hL hX hG hw h0 hB hen hbd hnE hn hcf hc
  go_enter Tryd.func35, Tryd.ntmps35
  go_wp2_with fail
  obtain ⟨w1, hw1⟩ : ∃ W, W = ((w.alloc (.cells #[V (v * 4), V (v * 4 + 1), V (v * 4 + 2), V (v * 4 + 3)] 79)).alloc (.cells #[.int .i64 0, .int .i64 0, .int .i64 0, .int .i64 0, .slice none 0 0, .slice none 0 0, .slice none 0 0, .slice none 0 0] 90)) := ⟨_, rfl⟩
  have b1 : Below w.heap.size w w1 := by rw [hw1]; exact ((Below.refl _ _).alloc (Nat.le_refl _) _).alloc (by simp) _
  have L1 := Lib.hid (HL.out.below b1 (Nat.le_refl _))
  have hx : w1.heap[w.heap.size]? = some (.cells #[V (v * 4), V (v * 4 + 1), V (v * 4 + 2), V (v * 4 + 3)] 79 (0, 0)) := by rw [hw1, Below.heap_alloc _ _ _ (by simp)]; exact heap_alloc_new w _
  have hbx : w1.heap[w.heap.size + 1]? = some (.cells (corA c 0) 90 (0, 0)) := by rw [hw1]; exact heap_two w _ _
  have HX1 := Lib.hid hx
  have HB1 := Lib.hid hbx
  have K1 := Lib.hid (Kept.ofB (B := B) (m := s0 + 2 * nE) b1)
  rw [← hw1]
  obtain ⟨xb, hxb⟩ : ∃ x, x = w.heap.size := ⟨_, rfl⟩
  obtain ⟨bb, hbb⟩ : ∃ x, x = w.heap.size + 1 := ⟨_, rfl⟩
  have NB : Hid (xb ≠ lb ∧ bb ≠ lb ∧ xb ≠ bb ∧ s0 + 2 * nE ≤ bb ∧ s0 + 2 * nE ≤ xb ∧ w.heap.size ≤ bb) := Lib.hid (by have := NM.out; have := HS0.out; omega)
  rw [← hbb] at HB1 ⊢
  rw [← hxb] at HX1 ⊢
  clear hw1 HL b1 hx hbx hxb hbb
  go_loopw [11] (fun iv wr => BoL B s0 nE (fun i => nbE E i + 2) lb ob fb cF bb xb w wr F nF xv (fun i => wayZ s.en (nbE E i) i) c #[V (v * 4), V (v * 4 + 1), V (v * 4 + 2), V (v * 4 + 3)] iv) (fun iv _ => 4 - (intOf iv).toNat)
  case atStart => exact ⟨0, rfl, by omega, L1.out, HB1.out, HX1.out, K1.out⟩
  case round =>
    clear L1 HB1 HX1 K1
    obtain ⟨i, rfl, hi4, hL1, hb1, hx1, hK1⟩ := hrel
    have L1 := Lib.hid hL1
    have HB1 := Lib.hid hb1
    have HX1 := Lib.hid hx1
    have K1 := Lib.hid hK1
    obtain ⟨l0, -, -, -⟩ := hL1.at_
    have lf := hL1.fr 0
    have ll := hL1.lt
    clear hL1 hb1 hx1 hK1
    by_cases hlt : i < 4
    · have q0 : decide (i < 4) = true := decide_eq_true hlt
      have q0' : decide ((i : Int) < 4) = true := decide_eq_true (by omega)
      have hi4' : (i : Int) < 4 := by omega
      obtain ⟨cn, hcn⟩ : ∃ n, c + i = n := ⟨_, rfl⟩
      have CN := Lib.hid hcn
      rw [hcn] at L1 l0
      have hcn9 : cn ≤ 200000000000 := by omega
      clear hcn
      go_wp2_with (go_at_call 37; go_must (refine (takeY lb cn l0 lf (by omega)).mono ?_; rintro e w2 ⟨rfl, hw2⟩; have L2 : Hid (LyAt B s0 nE (fun i => nbE E i + 2) lb ob fb cF w2 (cn + 1) F nF xv (fun i => wayZ s.en (nbE E i) i)) := Lib.hid (by rw [hw2]; exact L1.out.took _); have K2 : Hid (Kept B (s0 + 2 * nE) w w2) := Lib.hid (by rw [hw2]; exact K1.out.set (p := ⟨lb, 0, none⟩) NM.out.1 (by have := NM.out; show lb < _; omega) _); have hx2 : w2.heap[xb]? = some (.cells #[V (v * 4), V (v * 4 + 1), V (v * 4 + 2), V (v * 4 + 3)] 79 (0, 0)) := (by rw [hw2]; exact (Below.heap_setCell _ _ _ _ NB.out.1).trans HX1.out); have hb2 : w2.heap[bb]? = some (.cells (corA c i) 90 (0, 0)) := (by rw [hw2]; exact (Below.heap_setCell _ _ _ _ NB.out.2.1).trans HB1.out); have HX2 := Lib.hid hx2; have HB2 := Lib.hid hb2; obtain ⟨u, hu⟩ := corA_at (c := c) (i := i) hlt; have y0 : w2.cell? ⟨bb, i, none⟩ = some u := (by simp [World.cell?, hb2]; exact hu); have yf : w2.frozen? ⟨bb, i, none⟩ = false := (by simp only [World.frozen?, hb2]; simp); have yl := (Array.getElem?_eq_some_iff.1 hb2).1; clear hw2 hx2 hb2 hu))
      go_roundw
      case rel => exact ⟨i + 1, by go_num, by omega, (by rw [show c + (i + 1) = cn + 1 by have := CN.out; omega]; exact L2.out.past (out_set w2 ⟨bb, i, none⟩ (.int .i64 cn)) (fun b e => by subst e; exact NB.out.2.2.2.1)), (by rw [heap_setCell_at HB2.out, ← CN.out, corA_set hlt]), (Below.heap_setCell _ _ _ _ NB.out.2.2.1).trans HX2.out, Out.trans (S := fun b => B ≤ b ∧ b < s0 + 2 * nE) K2.out (out_set w2 ⟨bb, i, none⟩ (.int .i64 cn)) (fun b hb e => by have h1 := NB.out.2.2.2.2.2; rw [e] at hb; change bb < w.heap.size at hb; omega)⟩
      case measure => (simp [intOf] <;> omega)
    · have hi5 : i = 4 := by omega
      have q0 : decide (i < 4) = false := decide_eq_false hlt
      rw [hi5] at L1 HB1
      rw [corA_all] at HB1
      clear hi5 hi4
      have x0 : wr.cell? ⟨xb, 0, none⟩ = some (V (v * 4)) := by simp [World.cell?, HX1.out]
      have x1 : wr.cell? ⟨xb, 1, none⟩ = some (V (v * 4 + 1)) := by simp [World.cell?, HX1.out]
      have x2 : wr.cell? ⟨xb, 2, none⟩ = some (V (v * 4 + 2)) := by simp [World.cell?, HX1.out]
      have x3 : wr.cell? ⟨xb, 3, none⟩ = some (V (v * 4 + 3)) := by simp [World.cell?, HX1.out]
      have xl := (Array.getElem?_eq_some_iff.1 HX1.out).1
      clear HX1 l0 lf ll
      obtain ⟨w2, hw2⟩ : ∃ W, W = wr := ⟨_, rfl⟩
      subst hw2
      go_wp2_with fail
      obtain ⟨s4, hs4⟩ : ∃ z : NSt, z = { s with L := s.L ++ newG 4, n := s.n + 4 } := ⟨_, rfl⟩
      have S4 : Hid (s4.n = c + 4 ∧ s4.en = s.en) := Lib.hid (by rw [hs4]; exact ⟨by show s.n + 4 = _; have := HC.out; omega, rfl⟩)
      have HS4 := Lib.hid hs4
      clear hs4
      go_loopw [21] (fun dv wr => BoD B s0 nE (fun i => nbE E i + 2) lb ob fb cF bb w wr F nF xv E v c s4 dv) (fun dv _ => 4 - (intOf dv).toNat)
      case atStart => exact ⟨0, _, rfl, by omega, (by show LyAt _ _ _ _ _ _ _ _ _ s4.n _ _ _ (fun i => wayZ s4.en (nbE E i) i); rw [S4.out.1, S4.out.2]; exact L1.out), HB1.out, fun e he => absurd he (by omega), fun e _ => rfl, K1.out⟩
      case round =>
        clear L1 HB1 K1 x0 x1 x2 x3 xl
        obtain ⟨d, S, rfl, hd, hL3, hb3, hS3, hN3, hK3⟩ := hrel
        have L3 := Lib.hid hL3
        have HB3 := Lib.hid hb3
        have S3 := Lib.hid hS3
        have N3 := Lib.hid hN3
        have K3 := Lib.hid hK3
        clear hL3 hb3 hS3 hN3 hK3
        by_cases hd4 : d < 4
        · have q0 : decide (d < 4) = true := decide_eq_true hd4
          have q0' : decide ((d : Int) < 4) = true := decide_eq_true (by omega)
          have hdI : (d : Int) < 4 := by omega
          obtain ⟨ho, A, cc, eV⟩ := HG.out.side hv hd4
          have hix := ix4 V v d hd4
          rw [eV] at hix ho
          obtain ⟨l, hl⟩ : ∃ l, onL E (v : Int) (d : Int) = l := ⟨_, rfl⟩
          have OE := Lib.hid (fun (i : Nat) (hi : i < (onL E (v : Int) (d : Int)).length) => on_end hi)
          have HLL := Lib.hid hl
          rw [hl] at hix ho OE
          obtain ⟨n, hn2⟩ : ∃ n, l.length = n := ⟨_, rfl⟩
          rw [hn2] at hix ho OE
          have HO := Lib.hid ho
          have HLN := Lib.hid hn2
          have hnb : n ≤ 8192 := by have h1 := onL_len E (v : Int) (d : Int); rw [hl, hn2] at h1; have := NE.out; omega
          clear eV ho hl hn2
          obtain ⟨sd, hsd⟩ : ∃ z, bxK E (v : Int) c s4 d = z := ⟨_, rfl⟩
          have SDM : Hid (sd.n = c + 4 + sidesK E (v : Int) d ∧ sd.en.length = 2 * E.length) := Lib.hid (by
            rw [← hsd]
            obtain ⟨h1, h2⟩ := bxK_m (E := E) (v := (v : Int)) (c := c) (s := s4) d
            exact ⟨by rw [h1, S4.out.1], by rw [h2, S4.out.2]; exact HEN.out⟩)
          have hsn : sd.n + n ≤ 200000000000 := by
            have h1 := SDM.out.1
            have h2 := sidesK_mono (E := E) (v := (v : Int)) (d := d) (e := 4) (by omega)
            have h3 := HN.out
            have h4 := HC.out
            omega
          rw [hsd] at L3
          have HSD := Lib.hid hsd
          clear hsd
          obtain ⟨wi, hwi⟩ : ∃ W, W = wr := ⟨_, rfl⟩
          subst hwi
          have hwiB : w.heap.size ≤ wi.heap.size := (K3.out.below HB.out).size
          have WI := Lib.hid hwiB
          clear hwiB
          go_wp2_with fail
          go_loopw [27] (fun iv wr => BoI B s0 nE (fun i => nbE E i + 2) lb ob fb cF bb wi wr F nF xv E c d S (wyC d) (frC c d) l n sd iv) (fun iv _ => n - (intOf iv).toNat)
          case atStart => exact ⟨0, .slice none 0 0, rfl, Nat.zero_le _, L3.out, (by rw [show (fun e => if e = d then Value.slice none 0 0 else S e) = S by funext e; by_cases h : e = d; (subst h; rw [if_pos rfl, N3.out e (Nat.le_refl _)]); rw [if_neg h]]; exact HB3.out), OwnZ.nil _ _, KeptX.refl _ _ _ _⟩
          case round =>
            clear L3 hix
            obtain ⟨i, z, rfl, hi4, hL4, hb4, hZ4, hK4⟩ := hrel
            have L4 := Lib.hid hL4
            have HB4 := Lib.hid hb4
            have Z4 := Lib.hid hZ4
            have K4 := Lib.hid hK4
            clear hL4 hb4 hZ4 hK4
            by_cases hlt : i < n
            · have q1 : decide (i < n) = true := decide_eq_true hlt
              have KW : Kept B (s0 + 2 * nE) w wr := K4.out.toK K3.out NB.out.2.2.2.2.2
              have BZ : Below B w0 wr := HW.out.trans (KW.below HB.out)
              obtain ⟨b, rfl, hb, f0, f1⟩ := (HO.out.below BZ H0.out).nth (i := i) (by rw [List.length_map, HLN.out]; exact hlt)
              obtain ⟨q, p, hq, hqp, hp, hput⟩ := OE.out i hlt
              rw [List.getElem_map] at f0 f1
              have hgi : l[i]'(by rw [HLN.out]; exact hlt) = l.getD i 0 := by rw [List.getD_eq_getElem?_getD, List.getElem?_eq_getElem (by rw [HLN.out]; exact hlt)]; rfl
              rw [hgi, hqp] at f0 f1
              obtain ⟨cn, hcn⟩ : ∃ n, sd.n + i = n := ⟨_, rfl⟩
              have CN := Lib.hid hcn
              rw [hcn] at L4
              have hcn9 : cn ≤ 300000000000 := by omega
              have PUT := Lib.hid (hput (chK (wyC d) l sd (frC c d) i).1.en (cn : Int) ((chK_m i).2.trans SDM.out.2))
              have hqE : q < nE := by have := NE.out; omega
              obtain ⟨m, hm⟩ : ∃ m, nbE E q + 2 = m := ⟨_, rfl⟩
              rw [hm] at hp
              have hm2 : m ≤ 5000 := by have := HBD.out q; omega
              clear BZ hq hqp hgi hput KW hcn
              go_upto_region 13 with (fail)
              obtain ⟨wx, hwx⟩ : ∃ W, W = (wr.alloc (.cells #[.int .i64 (q : Int), .int .i64 (p : Int)] 82)) := ⟨_, rfl⟩
              have bx : Below wr.heap.size wr wx := by rw [hwx]; exact (Below.refl _ _).alloc (Nat.le_refl _) _
              have hx : wx.heap[wr.heap.size]? = some (.cells #[.int .i64 (q : Int), .int .i64 (p : Int)] 82 (0, 0)) := by rw [hwx]; exact heap_alloc_new wr _
              have HY := Lib.hid hx
              have LX := Lib.hid (L4.out.below bx (Nat.le_refl _))
              have KX := Lib.hid (K4.out.trans (KeptX.ofB bx))
              have ZX := Lib.hid (Z4.out.below bx (Nat.le_refl _))
              have hbX : wx.heap[bb]? = some (.cells (boxA c (fun e => if e = d then z else S e)) 90 (0, 0)) := (bx.block bb (Array.getElem?_eq_some_iff.1 HB4.out).1).trans HB4.out
              have HBX := Lib.hid hbX
              have NY : Hid (wr.heap.size ≠ lb ∧ wr.heap.size ≠ s0 + 2 * q + 1) := Lib.hid (by have h1 := L4.out.lt; have h2 := (L4.out.way hqE).2; omega)
              rw [← hwx]
              obtain ⟨yb, hyb⟩ : ∃ x, x = wr.heap.size := ⟨_, rfl⟩
              rw [← hyb] at HY NY ⊢
              clear hwx bx hx f0 f1 hb L4 K4 Z4 HB4 hbX hyb
              obtain ⟨l0, -, -, -⟩ := LX.out.at_
              have lf := LX.out.fr 0
              have ll := LX.out.lt
              go_upto_region 14 with (go_at_call 37; go_must (refine (takeY lb cn l0 lf (by omega)).mono ?_; rintro e w5 ⟨rfl, hw5⟩; have L5 : Hid (LyAt B s0 nE (fun i => nbE E i + 2) lb ob fb cF w5 (cn + 1) F nF xv (fun j => wayZ (chK (wyC d) l sd (frC c d) i).1.en (nbE E j) j)) := Lib.hid (by rw [hw5]; exact LX.out.took _); have K5 : Hid (KeptX B (s0 + 2 * nE) bb wi w5) := Lib.hid (by rw [hw5]; exact KX.out.trans (KeptX.ofK ((Kept.refl _ _ _).set (p := ⟨lb, 0, none⟩) NM.out.1 (by have := NM.out; show lb < _; omega) _))); have HY5 : Hid (w5.heap[yb]? = some (.cells #[.int .i64 (q : Int), .int .i64 (p : Int)] 82 (0, 0))) := Lib.hid (by rw [hw5]; exact (Below.heap_setCell _ _ _ _ NY.out.1).trans HY.out); have HB5 : Hid (w5.heap[bb]? = some (.cells (boxA c (fun e => if e = d then z else S e)) 90 (0, 0))) := Lib.hid (by rw [hw5]; exact (Below.heap_setCell _ _ _ _ NB.out.2.1).trans HBX.out); have Z5 : Hid (OwnZ w5 wi.heap.size z (celR sd.n i) i) := Lib.hid (by rw [hw5]; exact ⟨ZX.out.1, ownsRow_setCell_other ZX.out.2 (own_kind ZX.out.2 LX.out.blk (by decide)) _⟩); clear hw5))
              clear l0 lf ll LX KX ZX HBX HY
              have y0 : w5.cell? ⟨yb, 0, none⟩ = some (.int .i64 (q : Int)) := by simp [World.cell?, HY5.out]
              have y1 : w5.cell? ⟨yb, 1, none⟩ = some (.int .i64 (p : Int)) := by simp [World.cell?, HY5.out]
              have yl := (Array.getElem?_eq_some_iff.1 HY5.out).1
              obtain ⟨-, -, -, l3⟩ := L5.out.at_
              have ll := L5.out.lt
              have ol := L5.out.ol
              obtain ⟨v0, v1⟩ := L5.out.way hqE
              obtain ⟨v2, v3⟩ := L5.out.wayC (p := p) hqE (by show p < nbE E q + 2; omega)
              have LE := Lib.hid ((L5.out.told hqE p (cn : Int)).below (Below.refl _ _).drew (Nat.le_refl _))
              have KE := Lib.hid ((K5.out.trans (KeptX.ofK ((Kept.refl _ _ _).set (p := ⟨s0 + 2 * q + 1, p, none⟩) (show B ≤ s0 + 2 * q + 1 by have := NM.out; omega) (show s0 + 2 * q + 1 < s0 + 2 * nE by omega) (.int .i64 (cn : Int))))).trans (KeptX.ofB (Below.refl _ _).drew))
              have hbX : (w5.setCell ⟨s0 + 2 * q + 1, p, none⟩ (.int .i64 (cn : Int))).drew.heap[bb]? = some (.cells (boxA c (fun e => if e = d then z else S e)) 90 (0, 0)) := (Below.heap_setCell w5 ⟨s0 + 2 * q + 1, p, none⟩ _ bb (show bb ≠ s0 + 2 * q + 1 by have := NB.out; omega)).trans HB5.out
              have HBE := Lib.hid hbX
              have ZE : Hid (OwnZ (w5.setCell ⟨s0 + 2 * q + 1, p, none⟩ (.int .i64 (cn : Int))).drew wi.heap.size z (celR sd.n i) i) := Lib.hid (OwnZ.below ⟨Z5.out.1, ownsRow_setCell_other Z5.out.2 (fun e => by have h1 := (Z5.out.2.lt _ e).1; have h2 := WI.out; have h3 := HS0.out; change wi.heap.size ≤ s0 + 2 * q + 1 at h1; omega) _⟩ (Below.refl _ _).drew (Nat.le_refl _))
              rw [hm] at v0
              clear hbX L5 K5 HB5 Z5 HY5
              generalize hyy : s0 + 2 * q + 1 = yy at *
              clear hyy hm
              go_region
              obtain ⟨w6, hw6⟩ : ∃ W, W = (w5.setCell ⟨yy, p, none⟩ (.int .i64 (cn : Int))).drew := ⟨_, rfl⟩
              rw [← hw6] at LE KE HBE ZE
              rw [← hw6]
              clear hw6 y0 y1 yl l3 ll ol v0 v1 v2 v3
              have u0 : w6.cell? ⟨bb, 4 + d, none⟩ = some z := by
                have h := boxA_at (c := c) (S := fun e => if e = d then z else S e) hd4
                simp only [if_true] at h
                simp [World.cell?, HBE.out, h]
              have ul := (Array.getElem?_eq_some_iff.1 HBE.out).1
              obtain ⟨az, cz, ez⟩ := ZE.out.form
              subst ez
              go_wp2_with (at_builtin; refine wpList_append_fresh rfl (.tmp 49) (.tmp 51) 32 rfl wi.heap.size 3 i0 (.int .i64 0) 1 8 Tryd.underlying32 hi hz0 hz1 hz2 rfl (by decide) (.slice az i cz) i ((celR sd.n i).map intV) rfl (ZE.out.below ((Below.refl _ _).alloc (Nat.le_refl _) _) (Nat.le_refl _)).2 ⟨w6.heap.size, 0, none⟩ 1 1 [intV (cn : Int)] rfl rfl (newsZ _ _ _ _ rfl) (oneZ _) (by unfold maxLen; omega) (by omega) (by have h1 := KE.out.size; simp; omega) ?_; intro v5 w7 hown hgrow hfr; have o7 : OwnZ w7 wi.heap.size v5 (celR sd.n (i + 1)) (i + 1) := (by rw [celR_more, CN.out]; exact OwnZ.more ZE.out.1 hown); obtain ⟨a5, c5, e5⟩ := o7.form; subst e5; have Z7 := Lib.hid o7; have O7 : Out (fun b => (Value.slice az i cz).ownBlock = some b) w6 w7 := ((Out.refl _ w6).alloc _).grown hgrow (fun k _ e => e); have NZ : ∀ b, (Value.slice az i cz).ownBlock = some b → wi.heap.size ≤ b := (fun b hb => (ZE.out.2.lt b hb).1); have L7 := Lib.hid (LE.out.past O7 (fun b hb => by have h1 := NZ b hb; have h2 := WI.out; have h3 := HS0.out; omega)); have hb7 : w7.heap[bb]? = some (.cells (boxA c (fun e => if e = d then (Value.slice az i cz) else S e)) 90 (0, 0)) := ((O7.block bb (Array.getElem?_eq_some_iff.1 HBE.out).1 (own_kind ZE.out.2 HBE.out (by decide))).trans HBE.out); have HB7 := Lib.hid hb7; have K7 : Hid (KeptX B (s0 + 2 * nE) bb wi w7) := Lib.hid (Out.trans (S := fun b => (B ≤ b ∧ b < s0 + 2 * nE) ∨ b = bb) KE.out O7 (fun b hb e => by have h1 := NZ b e; omega)); have t0 : w7.cell? ⟨bb, 4 + d, none⟩ = some (.slice az i cz) := (by have h := boxA_at (c := c) (S := fun e => if e = d then (Value.slice az i cz) else S e) hd4; simp only [if_true] at h; simp [World.cell?, hb7, h]); have t1 : w7.frozen? ⟨bb, 4 + d, none⟩ = false := (by simp only [World.frozen?, hb7]; simp); have tl := (Array.getElem?_eq_some_iff.1 hb7).1; clear hown hgrow hfr O7 NZ hb7 o7)
              go_roundw
              case rel => exact ⟨i + 1, .slice a5 (i + 1) c5, by go_num, by omega, (by rw [show sd.n + (i + 1) = cn + 1 by have := CN.out; omega]; show LyAt _ _ _ _ _ _ _ _ _ _ _ _ _ (fun i' => wayZ ((chK (wyC d) l sd (frC c d) i).1.en.set (l.getD i 0).toNat (chK (wyC d) l sd (frC c d) i).1.n) (nbE E i') i'); rw [(chK_m i).1, CN.out, ← PUT.out]; exact L7.out.past (out_set w7 ⟨bb, 4 + d, none⟩ (.slice a5 (i + 1) c5)) (fun b e => by rw [e]; exact NB.out.2.2.2.1)), (by rw [heap_setCell_at HB7.out, boxA_set hd4, show (fun e => if e = d then (Value.slice a5 (i + 1) c5) else if e = d then (Value.slice az i cz) else S e) = (fun e => if e = d then (Value.slice a5 (i + 1) c5) else S e) by funext e; by_cases h : e = d; (rw [if_pos h, if_pos h]); (rw [if_neg h, if_neg h, if_neg h])]), ⟨Z7.out.1, ownsRow_setCell_other Z7.out.2 (own_kind Z7.out.2 HB7.out (by decide)) _⟩, K7.out.set _ _⟩
              case measure => (simp [intOf] <;> omega)
            · have hin : i = n := by omega
              have q1 : decide (i < n) = false := decide_eq_false hlt
              subst hin
              have NX1 : Hid ((bxK E (v : Int) c s4 (d + 1)).n = sd.n + i ∧ (bxK E (v : Int) c s4 (d + 1)).en = (chK (wyC d) l sd (frC c d) i).1.en) := Lib.hid (by
                have e : bxK E (v : Int) c s4 (d + 1) = joiN (chK (wyC d) l sd (frC c d) i).1 (chK (wyC d) l sd (frC c d) i).2 (wyC d) (toC c d) (-1) := by
                  show sdN E (v : Int) c (bxK E (v : Int) c s4 d) d = _
                  unfold sdN
                  rw [HSD.out, HLL.out, HLN.out]
                rw [e]
                exact ⟨(chK_m i).1, rfl⟩)
              have KW : Hid (Kept B (s0 + 2 * nE) w wr) := Lib.hid (K4.out.toK K3.out NB.out.2.2.2.2.2)
              have SN : Hid (∀ e, e < d + 1 → OwnZ wr w.heap.size (if e = d then z else S e) (sdC E v c e) (onL E (v : Int) (e : Int)).length) := Lib.hid (fun e he => by
                by_cases h : e = d
                · subst h
                  rw [if_pos rfl]
                  unfold sdC
                  rw [HLL.out, HLN.out, ← SDM.out.1]
                  exact Z4.out.base WI.out
                · rw [if_neg h]
                  exact (S3.out e (by omega)).keptX K4.out HS0.out HB3.out)
              go_wp2_with fail
              go_roundw
              case rel => exact ⟨d + 1, _, by go_num, by omega, by rw [NX1.out.1, NX1.out.2]; exact L4.out, HB4.out, SN.out, fun e he => by rw [if_neg (by omega)]; exact N3.out e (by omega), KW.out⟩
              case measure => (simp [intOf] <;> omega)
        · have hd5 : d = 4 := by omega
          subst hd5
          have q0 : decide (4 < 4) = false := by decide
          have L9 := Lib.hid (show LyAt B s0 nE (fun i => nbE E i + 2) lb ob fb cF wr (bxN E (v : Int) s).n F nF xv (fun i => wayZ (bxN E (v : Int) s).en (nbE E i) i) from by
            have e : bxN E (v : Int) s = bxK E (v : Int) c s4 4 := by unfold bxN; rw [HS4.out, HC.out]
            rw [e]; exact L3.out)
          have X9 := Lib.hid (HX.out.kept K3.out)
          have HCV : Hid (cf v = c) := Lib.hid (HCF.out.trans HC.out)
          obtain ⟨AX, cX, eX⟩ := HX.out.form
          obtain ⟨nX, hnX⟩ : ∃ n, X.length = n := ⟨_, rfl⟩
          rw [hnX] at eX hXl
          have NX := Lib.hid hnX
          subst eX
          obtain ⟨-, -, l2, -⟩ := L9.out.at_
          have l2f := L9.out.fr 2
          have ll := L9.out.lt
          obtain ⟨k1, hk1⟩ : ∃ k : Int, ((c + 1 : Nat) : Int) = k := ⟨_, rfl⟩
          obtain ⟨k2, hk2⟩ : ∃ k : Int, ((c + 2 : Nat) : Int) = k := ⟨_, rfl⟩
          obtain ⟨k3, hk3⟩ : ∃ k : Int, ((c + 3 : Nat) : Int) = k := ⟨_, rfl⟩
          obtain ⟨T0, hT0⟩ : ∃ T, S 0 = T := ⟨_, rfl⟩
          obtain ⟨T1, hT1⟩ : ∃ T, S 1 = T := ⟨_, rfl⟩
          obtain ⟨T2, hT2⟩ : ∃ T, S 2 = T := ⟨_, rfl⟩
          obtain ⟨T3, hT3⟩ : ∃ T, S 3 = T := ⟨_, rfl⟩
          have EQX : Hid (encX cf ⟨v, S⟩ = [.int .i64 c, .int .i64 k1, .int .i64 k2, .int .i64 k3, T0, T1, T2, T3]) := Lib.hid (by
            unfold encX
            dsimp only
            rw [HCV.out, hk1, hk2, hk3, hT0, hT1, hT2, hT3])
          have hbA : wr.heap[bb]? = some (.cells #[.int .i64 c, .int .i64 k1, .int .i64 k2, .int .i64 k3, T0, T1, T2, T3] 90 (0, 0)) := by
            rw [HB3.out]
            unfold boxA
            rw [hk1, hk2, hk3, hT0, hT1, hT2, hT3]
          obtain ⟨Z0, -⟩ : (∃ A c, T0 = .slice A (onL E (v : Int) ((0 : Nat) : Int)).length c) ∧ True := ⟨by rw [← hT0]; exact (S3.out 0 (by decide)).form, trivial⟩
          obtain ⟨Z1, -⟩ : (∃ A c, T1 = .slice A (onL E (v : Int) ((1 : Nat) : Int)).length c) ∧ True := ⟨by rw [← hT1]; exact (S3.out 1 (by decide)).form, trivial⟩
          obtain ⟨Z2, -⟩ : (∃ A c, T2 = .slice A (onL E (v : Int) ((2 : Nat) : Int)).length c) ∧ True := ⟨by rw [← hT2]; exact (S3.out 2 (by decide)).form, trivial⟩
          obtain ⟨Z3, -⟩ : (∃ A c, T3 = .slice A (onL E (v : Int) ((3 : Nat) : Int)).length c) ∧ True := ⟨by rw [← hT3]; exact (S3.out 3 (by decide)).form, trivial⟩
          have y0 : wr.cell? ⟨bb, 0, none⟩ = some (.int .i64 c) := by simp [World.cell?, hbA]
          have y1 : wr.cell? ⟨bb, 1, none⟩ = some (.int .i64 k1) := by simp [World.cell?, hbA]
          have y2 : wr.cell? ⟨bb, 2, none⟩ = some (.int .i64 k2) := by simp [World.cell?, hbA]
          have y3 : wr.cell? ⟨bb, 3, none⟩ = some (.int .i64 k3) := by simp [World.cell?, hbA]
          have y4 : wr.cell? ⟨bb, 4, none⟩ = some T0 := by simp [World.cell?, hbA]
          have y5 : wr.cell? ⟨bb, 5, none⟩ = some T1 := by simp [World.cell?, hbA]
          have y6 : wr.cell? ⟨bb, 6, none⟩ = some T2 := by simp [World.cell?, hbA]
          have y7 : wr.cell? ⟨bb, 7, none⟩ = some T3 := by simp [World.cell?, hbA]
          have yl := (Array.getElem?_eq_some_iff.1 hbA).1
          have ONE : Hid (∀ u ∈ encX cf ⟨v, S⟩, u.oneCell' = true) := Lib.hid (fun u hu => by
            rw [EQX.out] at hu
            simp only [List.mem_cons, List.not_mem_nil, or_false] at hu
            obtain ⟨_, _, e0⟩ := Z0
            obtain ⟨_, _, e1⟩ := Z1
            obtain ⟨_, _, e2⟩ := Z2
            obtain ⟨_, _, e3⟩ := Z3
            rcases hu with rfl | rfl | rfl | rfl | rfl | rfl | rfl | rfl
            · rfl
            · rfl
            · rfl
            · rfl
            · rw [e0]; rfl
            · rw [e1]; rfl
            · rw [e2]; rfl
            · rw [e3]; rfl)
          have SQ : Hid (∀ d, d < 4 → OwnZ wr (s0 + 2 * nE) (S d) (sdC E v (cf v) d) (onL E (v : Int) (d : Int)).length) := Lib.hid (fun d hd => by rw [HCV.out]; exact (S3.out d hd).base HS0.out)
          have KB := Lib.hid (K3.out.below HB.out)
          have XR : Hid (∀ W, Below wr.heap.size wr W → W.ownsRow (s0 + 2 * nE) 90 8 (.slice AX nX cX) nX (X.flatMap (encX cf))) := Lib.hid (fun W b => by
            have h := (X9.out.below b (Nat.le_refl _)).row
            rw [NX.out] at h
            exact h)
          clear hbA hk1 hk2 hk3 hT0 hT1 hT2 hT3 Z0 Z1 Z2 Z3 hnX L3
          go_wp2_with fail
          go_region_law (go_must (refine step_append_fresh rfl (.tmp 61) (.tmp 63) 62 rfl (s0 + 2 * nE) 90 i1 (.agg #[.int .i64 0, .int .i64 0, .int .i64 0, .int .i64 0, .slice none 0 0, .slice none 0 0, .slice none 0 0, .slice none 0 0]) 8 128 Tryd.underlying62 hi1 hz01 hz11 hz21 rfl (by decide) (.slice AX nX cX) nX (X.flatMap (encX cf)) (by simp [Act.eval]) (XR.out _ (((Below.refl _ _).alloc (Nat.le_refl _) _).drew)) ⟨wr.heap.size, 0, none⟩ 1 1 (encX cf ⟨v, S⟩) (by simp [Act.eval]) rfl (by rw [EQX.out]; exact newsX _ _ _ _ _ _ _ _ _ _ _ rfl) ONE.out (by unfold maxLen; omega) (by omega) (by have h1 := KB.out.size; have h2 := HS0.out; have h3 := HB.out; have h4 := K3.out.size; show s0 + 2 * nE ≤ _; simp; omega) ?_; intro v5 w5 hown hgrow hfr; obtain ⟨g5, c5, e5, -, -, -⟩ := ownsRow_form hown (by omega); subst e5; have bW : Below wr.heap.size wr _ := (((Below.refl wr.heap.size wr).alloc (Nat.le_refl _) (.cells #[.int .i64 c, .int .i64 k1, .int .i64 k2, .int .i64 k3, T0, T1, T2, T3] 90)).drew); have XW := X9.out.below bW (Nat.le_refl _); have LW := L9.out.below bW (Nat.le_refl _); have hb5 : w5.heap[lb]? = _ := (hgrow.block lb LW.lt (fun e => own_kind XW.row LW.blk (by decide) e.symm)).trans LW.blk; have e0 : w5.cell? ⟨lb, 2, none⟩ = some (.slice AX nX cX) := (by simp [World.cell?, hb5]); have e1 : w5.frozen? ⟨lb, 2, none⟩ = false := (by simp only [World.frozen?, hb5]; simp); have el := (Array.getElem?_eq_some_iff.1 hb5).1; have O5 : Out (fun b => (Value.slice AX nX cX).ownBlock = some b) _ w5 := (Out.refl _ _).grown hgrow (fun _ _ e => e); have L5 := Lib.hid (LW.past O5 (fun b hb => (XW.row.lt b hb).1)); have X5 := Lib.hid (BxsAt.more (q := ⟨v, S⟩) XW (fun d hd => (SQ.out d hd).below bW (Nat.le_refl _)) (by rw [NX.out]; exact hown) hgrow); have B5 := Lib.hid ((KB.out.trans (bW.mono (Nat.le_trans HB.out KB.out.size))).trans (O5.below (Nat.le_trans HB.out (Nat.le_trans K3.out.size bW.size)) (fun b _ hb => by have h1 := (XW.row.lt b hb).1; have h2 := NM.out; omega))); clear hown hgrow hfr bW XW LW hb5 O5))
          all_goals
            go_wp2_with fail
            go_end0
            exact ⟨rfl, _, ⟨v, S⟩, rfl, L5.out.boxed _, X5.out.kept ((Kept.refl _ _ _).set (p := ⟨lb, 2, none⟩) NM.out.1 (show lb < s0 + 2 * nE by have := NM.out; omega) _), B5.out.setCell (p := ⟨lb, 2, none⟩) NM.out.1 _⟩
end Go.Proofs.YtecifgaekefkpaaDoor
