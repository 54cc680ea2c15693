/-
  Two rows of ints compared; what the document fixes of shapes as cells is so: the law's 'wakes' answers true. Conditions: the borders read as the program lays them.
  What the document fixes of shapes as cells is so: the law's 'wakes' answers true. Conditions: the borders read as the program lays them.
  What the code's Of and the document's Of answer, side by side. Conditions: a shape that may be written and is a norm's; the borders read as the program lays them.
-/
import Derived.Test.YtecifgaekefkpaaDoorNcN
import Derived.Test.YtecifgaekefkpaaDoorShelf
import Derived.Test.YtecifgaekefkpaaDoorNzPb
import Derived.Test.YtecifgaekefkpaaDoorNmL
import Derived.Test.YtecifgaekefkpaaDoorNmG
namespace Go.Proofs.YtecifgaekefkpaaDoor
open Go.RowKit Go.Proofs.YtecifgaekefkpaaDoor.LexM Go.Proofs.YtecifgaekefkpaaDoor.ParM Go.Proofs.YtecifgaekefkpaaDoor.GrM Go.Proofs.YtecifgaekefkpaaDoor.NmM

/-- A row of ints to be read. -/
def ZsAt (w : World) (v : Value) (x : List Int) (n : Nat) : Prop :=
  x.length = n ∧ ∃ A c, v = .slice A n c ∧ (0 < n → ∃ b o, A = some ⟨b, o, none⟩ ∧ b < w.heap.size ∧ ∀ k, k < n → w.cell? ⟨b, o + k, none⟩ = some (.int .i64 (x.getD k 0)))
theorem ZsAt.below {w w' : World} {C n : Nat} {v : Value} {x : List Int} (h : ZsAt w v x n) (o : Below C w w') (hC : w.heap.size ≤ C) : ZsAt w' v x n := by
  obtain ⟨hl, A, c, rfl, hA⟩ := h
  refine ⟨hl, A, c, rfl, fun h0 => ?_⟩
  obtain ⟨b, q, e, hb, hc⟩ := hA h0
  exact ⟨b, q, e, Nat.lt_of_lt_of_le hb o.size, fun k hk => (o.cell (p := ⟨b, q + k, none⟩) (Nat.lt_of_lt_of_le hb hC)).trans (hc k hk)⟩
theorem OwnZ.zs {w : World} {B n : Nat} {v : Value} {x : List Int} (h : OwnZ w B v x n) : ZsAt w v x n := by
  obtain ⟨hl, hr⟩ := h
  rcases hr.2 with ⟨h1, h2⟩ | ⟨g, cap, cur, hv, hg, r⟩
  · subst h2
    exact ⟨hl, none, 0, h1, fun h => absurd h (by omega)⟩
  · subst hv
    refine ⟨hl, _, _, rfl, fun h0 => ⟨g, 0, rfl, (World.ownsRow.lt hr _ rfl).2, fun k hk => ?_⟩⟩
    rw [Nat.zero_add]
    exact OwnZ.at_ ⟨hl, hr⟩ hk
theorem drewN_bel11 (w : World) (n : Nat) : Below w.heap.size w (w.drewN n) := ⟨rfl, rfl, rfl, Nat.le_refl _, fun _ _ => rfl⟩
theorem equalZ (v u : Value) (x y : List Int) (n m : Nat) (w : World) (hX : ZsAt w v x n) (hY : ZsAt w u y m) (hx : n ≤ 9223372036854775807) (hy : m ≤ 9223372036854775807) :
    Calls Tryd.prog 12 #[v, u] w fun e w' => e = .returned (.bool (x == y)) ∧ Below w.heap.size w w' := by
  obtain ⟨hl, A, cap, rfl, hA⟩ := hX
  obtain ⟨hm, A', cap', rfl, hA'⟩ := hY
  subst hl hm
  by_cases h0 : x.length = y.length
  · by_cases h1 : x.length = 0
    · have h2 : y.length = 0 := by omega
      obtain rfl := List.eq_nil_of_length_eq_zero h1
      obtain rfl := List.eq_nil_of_length_eq_zero h2
      refine (Go.Proofs.Tryd.slices_Equal_int_empty A A' cap 0 cap' w (by omega)).mono ?_
      rintro e w' ⟨rfl, rfl⟩
      exact ⟨rfl, Below.refl _ _⟩
    · obtain ⟨b, o, rfl, _, hc⟩ := hA (by omega)
      obtain ⟨b', o', rfl, _, hc'⟩ := hA' (by omega)
      refine (Go.Proofs.Tryd.slices_Equal_int b o x.length cap b' o' y.length cap' x y w (Nat.le_refl _) (Nat.le_refl _) (by omega) (by omega) hc hc').mono ?_
      rintro e w' ⟨rfl, q, rfl⟩
      rw [List.take_length, List.take_length]
      exact ⟨rfl, drewN_bel11 w q⟩
  · refine (Go.Proofs.Tryd.slices_Equal_int_lens A A' x.length cap y.length cap' w h0).mono ?_
    rintro e w' ⟨rfl, rfl⟩
    refine ⟨ret_bool ?_, Below.refl _ _⟩
    have : x ≠ y := fun e => h0 (by rw [e])
    simpa using this
theorem zsNew (w : World) (g : Nat) (x : List Int) (n : Nat) (hn : x.length = n) (T : TypeId) (h : w.heap[g]? = some (.cells (x.map (Value.int .i64)).toArray T (0, 0))) : ZsAt w (.slice (some ⟨g, 0, none⟩) n n) x n := by
  subst hn
  refine ⟨rfl, _, _, rfl, fun _ => ⟨g, 0, rfl, (Array.getElem?_eq_some_iff.1 h).1, fun k hk => ?_⟩⟩
  simp [World.cell?, h, hk]

theorem m11a : May [false, true] [(0, 1, 0, [])] := ⟨by decide, by decide, by decide, fun e he => by
  obtain rfl := List.mem_singleton.1 he
  exact ⟨by decide, by decide, by decide, by decide, by decide, by decide, by decide⟩⟩
theorem m11b : May [false, false] [(0, 1, 0, []), (0, 1, 0, [])] := ⟨by decide, by decide, by decide, fun e he => by
  have : e = (0, 1, 0, []) := by simpa using he
  subst this
  exact ⟨by decide, by decide, by decide, by decide, by decide, by decide, by decide⟩⟩
theorem k11a : wrN [false, true] [(0, 1, 0, [])] = 0 := by
  unfold wrN
  rw [if_neg (by decide), if_neg (by decide), if_neg, if_neg]
  · rintro ⟨i, hi, h1, _⟩
    obtain rfl : i = 0 := by simp at hi; omega
    revert h1
    decide
  · rintro ⟨v, d, hv, hd, _, h⟩
    have : ∀ v : Nat, v < 2 → ∀ d : Nat, d < 4 → ¬ 1 < (onL [(0, 1, 0, [])] (v : Int) (d : Int)).length := by decide
    exact this v hv d hd h
theorem k11e : wrN [false, false] [(0, 1, 0, []), (0, 1, 0, [])] = 8 := by
  unfold wrN
  rw [if_neg (by decide), if_neg (by decide), if_pos]
  exact ⟨0, 0, by decide, by decide, by decide, by decide⟩
theorem k11b : cntN [false, true] [(0, 1, 0, [])] = 6 := by kernel_rfl
theorem k11c : fstS [false, true] [(0, 1, 0, [])] = [0, 1] := by kernel_rfl
theorem k11d : wayS [false, true] [(0, 1, 0, [])] 0 = [0, 5] := by kernel_rfl
theorem blsNew11 (w : World) (g : Nat) (B : List Bool) (n : Nat) (hn : B.length = n) (T : TypeId) (h : w.heap[g]? = some (.cells (B.map Value.bool).toArray T (0, 0))) : BlsAt w (.slice (some ⟨g, 0, none⟩) n n) B := by
  subst hn
  refine ⟨_, _, rfl, Nat.le_refl _, fun _ => ⟨g, 0, rfl, (Array.getElem?_eq_some_iff.1 h).1, fun k hk => ?_⟩⟩
  simp [World.cell?, h, hk]
theorem edsOne11 (w : World) (g : Nat) (y1 y2 y3 : Int) (y4 : List UInt8) (T : TypeId) (h : w.heap[g]? = some (.cells #[.int .i64 y1, .int .i64 y2, .int .i64 y3, .string (bs y4)] T (0, 0))) : EdsAt w (.slice (some ⟨g, 0, none⟩) 1 1) [(y1, y2, y3, y4)] := by
  refine ⟨_, _, rfl, Nat.le_refl _, fun _ => ⟨g, 0, rfl, (Array.getElem?_eq_some_iff.1 h).1, fun k hk => ?_⟩⟩
  obtain rfl : k = 0 := by simp at hk; omega
  exact ⟨by simp [World.cell?, h], by simp [World.cell?, h], by simp [World.cell?, h], by simp [World.cell?, h]⟩
theorem edsTwo11 (w : World) (g : Nat) (y1 y2 y3 : Int) (y4 : List UInt8) (T : TypeId) (h : w.heap[g]? = some (.cells #[.int .i64 y1, .int .i64 y2, .int .i64 y3, .string (bs y4), .int .i64 y1, .int .i64 y2, .int .i64 y3, .string (bs y4)] T (0, 0))) : EdsAt w (.slice (some ⟨g, 0, none⟩) 2 2) [(y1, y2, y3, y4), (y1, y2, y3, y4)] := by
  refine ⟨_, _, rfl, Nat.le_refl _, fun _ => ⟨g, 0, rfl, (Array.getElem?_eq_some_iff.1 h).1, fun k hk => ?_⟩⟩
  have hk' : k = 0 ∨ k = 1 := by simp at hk; omega
  rcases hk' with rfl | rfl
  · exact ⟨by simp [World.cell?, h], by simp [World.cell?, h], by simp [World.cell?, h], by simp [World.cell?, h]⟩
  · exact ⟨by simp [World.cell?, h], by simp [World.cell?, h], by simp [World.cell?, h], by simp [World.cell?, h]⟩
theorem wk11a (w : World) (hT : BorT w) (bv ev : Value) (hB : BlsAt w bv [false, true]) (hE : EdsAt w ev [(0, 1, 0, [])]) :
    Calls Tryd.prog 7 #[.agg #[bv, ev]] w fun r w' => (∃ A1 c1 A2 c2 A3 c3, r = .returned (.tuple #[.agg #[.slice A1 6 c1, .slice A2 2 c2, .slice A3 1 c3], .int .i64 0]) ∧ ZsAt w' (.slice A2 2 c2) [0, 1] 2 ∧ (∃ b o A m c, A3 = some ⟨b, o, none⟩ ∧ b < w'.heap.size ∧ w'.cell? ⟨b, o, none⟩ = some (.slice A m c) ∧ ZsAt w' (.slice A m c) [0, 5] m)) ∧ Below w.heap.size w w' := by
  refine (normOf bv ev _ _ hB hE m11a hT).mono ?_
  rintro e w' ⟨hb, ⟨h, _⟩ | ⟨_, cv, fv, wv, rfl, hN⟩⟩
  · exact absurd k11a h
  · refine ⟨?_, hb⟩
    have h1 := hN.cel
    have h2 := hN.fst
    have h3 := hN.way
    rw [k11b] at h1
    rw [k11c] at h2
    obtain ⟨A1, c1, rfl⟩ := h1.form
    obtain ⟨A2, c2, rfl⟩ := h2.form
    obtain ⟨A3, c3, rfl, h4⟩ := h3
    obtain ⟨b, o, e, hl, hc⟩ := h4 (by decide)
    obtain ⟨A, m, c, h5, h6⟩ := hc 0 (by decide)
    rw [k11d] at h6
    exact ⟨A1, c1, A2, c2, A3, c3, rfl, h2.zs, b, o, A, m, c, e, hl, by simpa using h5, h6.zs⟩
theorem wk11b (w : World) (hT : BorT w) (bv ev : Value) (hB : BlsAt w bv [false, false]) (hE : EdsAt w ev [(0, 1, 0, []), (0, 1, 0, [])]) :
    Calls Tryd.prog 7 #[.agg #[bv, ev]] w fun r w' => r = .returned (.tuple #[.agg #[.slice none 0 0, .slice none 0 0, .slice none 0 0], .int .i64 8]) ∧ Below w.heap.size w w' := by
  refine (normOf bv ev _ _ hB hE m11b hT).mono ?_
  rintro e w' ⟨hb, ⟨_, h⟩ | ⟨h, _⟩⟩
  · rw [k11e] at h
    exact ⟨h, hb⟩
  · rw [k11e] at h
    exact absurd h (by decide)
end Go.Proofs.YtecifgaekefkpaaDoor

namespace Go.Proofs.YtecifgaekefkpaaDoor
open Go.RowKit Go.Proofs.YtecifgaekefkpaaDoor.LexM Go.Proofs.YtecifgaekefkpaaDoor.ParM Go.Proofs.YtecifgaekefkpaaDoor.GrM Go.Proofs.YtecifgaekefkpaaDoor.NmM

set_option maxHeartbeats 8000000 in
set_option maxRecDepth 100000 in
theorem wakes11 (w : World) (hT : BorT w) : Calls Tryd.prog 9 #[] w fun e w' => e = .returned (.bool true) ∧ Below w.heap.size w w' := by
  have HT := Lib.hid hT
  have P1 := Lib.hid wk11a
  have P2 := Lib.hid wk11b
  have EQ := Lib.hid (fun w v u n hX hY hn => equalZ v u [0, 5] [0, 5] n 2 w hX hY hn (by decide))
  clear hT
  go_enter Tryd.func9, Tryd.ntmps9
  go_wp2_with (fail)
  generalize hwa : World.alloc (World.alloc w _) _ = wa
  have BA : Hid (Below w.heap.size w wa) := Lib.hid (by rw [← hwa]; exact ((Below.refl _ _).alloc (Nat.le_refl _) _).alloc (by simp) _)
  have HB : Hid (BlsAt wa (.slice (some ⟨w.heap.size, 0, none⟩) 2 2) [false, true]) := Lib.hid (blsNew11 _ _ _ _ rfl _ (by rw [← hwa, Below.heap_alloc _ _ _ (by simp)]; exact heap_alloc_new w _))
  have HE : Hid (EdsAt wa (.slice (some ⟨w.heap.size + 1, 0, none⟩) 1 1) [(0, 1, 0, [])]) := Lib.hid (edsOne11 _ _ _ _ _ _ _ (by rw [← hwa]; exact heap_second w _ _))
  clear hwa
  refine (P1.out wa (HT.out.below BA.out (Nat.le_refl _)) _ _ HB.out HE.out).mono ?_
  rintro e w1 ⟨⟨A1, c1, A2, c2, A3, c3, rfl, hf, b, o, A, m, c, rfl, hbl, hcl, hz⟩, b1⟩
  have B1 : Hid (Below w.heap.size w w1) := Lib.hid (BA.out.trans (b1.mono BA.out.size))
  obtain ⟨_, A', c', e1, hf2⟩ := hf
  obtain ⟨b2, o2, rfl, hb2, hc2⟩ := by
    cases e1
    exact hf2 (by decide)
  clear e1 hf2 b1
  have hc3 := hc2 1 (by decide)
  have F1 := Lib.hid hc3
  have FB := Lib.hid hb2
  have WB := Lib.hid hbl
  have WC := Lib.hid hcl
  have WZ := Lib.hid hz
  clear hc2 hc3 hb2 hbl hcl hz HB HE
  go_upto_region 2 with (fail)
  generalize hwb : World.alloc w1 _ = wb
  have bb : Below w1.heap.size w1 wb := by rw [← hwb]; exact (Below.refl _ _).alloc (Nat.le_refl _) _
  have hkb : wb.heap[w1.heap.size]? = some (.cells #[.slice A1 6 c1, .slice (some ⟨b2, o2, none⟩) 2 c2, .slice (some ⟨b, o, none⟩) 1 c3] 35 (0, 0)) := by rw [← hwb]; exact heap_alloc_new w1 _
  have K := Lib.hid hkb
  have hlb : w1.heap.size < wb.heap.size := (Array.getElem?_eq_some_iff.1 hkb).1
  have BB := Lib.hid bb
  clear hwb hkb bb
  go_wp2_with (fail)
  generalize hwc : World.alloc (World.alloc wb _) _ = wc
  have BC : Hid (Below wb.heap.size wb wc) := Lib.hid (by rw [← hwc]; exact ((Below.refl _ _).alloc (Nat.le_refl _) _).alloc (by simp) _)
  have HB : Hid (BlsAt wc (.slice (some ⟨wb.heap.size, 0, none⟩) 2 2) [false, false]) := Lib.hid (blsNew11 _ _ _ _ rfl _ (by rw [← hwc, Below.heap_alloc _ _ _ (by simp)]; exact heap_alloc_new wb _))
  have HE : Hid (EdsAt wc (.slice (some ⟨wb.heap.size + 1, 0, none⟩) 2 2) [(0, 1, 0, []), (0, 1, 0, [])]) := Lib.hid (edsTwo11 _ _ _ _ _ _ _ (by rw [← hwc]; exact heap_second wb _ _))
  clear hwc
  have B3 : Hid (Below w1.heap.size w1 wc) := Lib.hid (BB.out.trans (BC.out.mono BB.out.size))
  have B4 : Hid (Below w.heap.size w wc) := Lib.hid (B1.out.trans (B3.out.mono B1.out.size))
  refine (P2.out wc (HT.out.below B4.out (Nat.le_refl _)) _ _ HB.out HE.out).mono ?_
  rintro e w2 ⟨rfl, b2'⟩
  go_upto_region 3 with (fail)
  generalize hwd : World.alloc w2 _ = wd
  have bd : Below w2.heap.size w2 wd := by rw [← hwd]; exact (Below.refl _ _).alloc (Nat.le_refl _) _
  clear hwd
  have bx : Below wb.heap.size wb wd := BC.out.trans ((b2'.trans (bd.mono b2'.size)).mono BC.out.size)
  have by_ : Below w1.heap.size w1 wd := BB.out.trans (bx.mono BB.out.size)
  have BD : Hid (Below w.heap.size w wd) := Lib.hid (B1.out.trans (by_.mono B1.out.size))
  have hk := (bx.block _ hlb).trans K.out
  have c0 : wd.cell? ⟨w1.heap.size, 0, none⟩ = some (.slice A1 6 c1) := by simp [World.cell?, hk]
  have c1' : wd.cell? ⟨w1.heap.size, 1, none⟩ = some (.slice (some ⟨b2, o2, none⟩) 2 c2) := by simp [World.cell?, hk]
  have c2' : wd.cell? ⟨w1.heap.size, 2, none⟩ = some (.slice (some ⟨b, o, none⟩) 1 c3) := by simp [World.cell?, hk]
  have cl := Nat.lt_of_lt_of_le hlb bx.size
  have f1 : wd.cell? ⟨b2, o2 + 1, none⟩ = some (.int .i64 1) := (by_.cell (p := ⟨b2, o2 + 1, none⟩) FB.out).trans F1.out
  have f2 : wd.cell? ⟨b, o, none⟩ = some (.slice A m c) := (by_.cell (p := ⟨b, o, none⟩) WB.out).trans WC.out
  have fl := Nat.lt_of_lt_of_le FB.out by_.size
  have fk := Nat.lt_of_lt_of_le WB.out by_.size
  have WY := Lib.hid (WZ.out.below by_ (Nat.le_refl _))
  have hm : m = 2 := WZ.out.1.symm
  clear bx by_ hk bd b2'
  subst hm
  go_wp2_with (go_at_call 12; refine (EQ.out _ _ _ 2 (WY.out.below ((Below.refl _ _).alloc (Nat.le_refl _) _) (Nat.le_refl _)) (zsNew _ _ [0, 5] 2 rfl _ (heap_alloc_new wd _)) (by decide)).mono ?_; rintro e w5 ⟨rfl, b5⟩; have B5 : Hid (Below w.heap.size w w5) := Lib.hid (BD.out.trans ((((Below.refl _ _).alloc (Nat.le_refl _) _).trans (b5.mono (by simp))).mono BD.out.size)); clear b5)
  go_ret
  exact ⟨rfl, B5.out⟩
end Go.Proofs.YtecifgaekefkpaaDoor

namespace Go.Proofs.YtecifgaekefkpaaDoor
open Go.RowKit Go.Proofs.YtecifgaekefkpaaDoor.LexM Go.Proofs.YtecifgaekefkpaaDoor.ParM Go.Proofs.YtecifgaekefkpaaDoor.GrM Go.Proofs.YtecifgaekefkpaaDoor.NmM

theorem OwnZ.le {w : World} {B n : Nat} {v : Value} {x : List Int} (h : OwnZ w B v x n) : n ≤ 9223372036854775807 := by
  rcases h.2.2 with ⟨_, h2⟩ | ⟨g, cap, cur, hv, hg, r⟩
  · omega
  · have h1 := r.2.1
    have h2 := r.2.2.1
    unfold maxLen at h2
    omega
/-- Rows of rows of ints to be read. -/
def WzAt (w : World) (A : Option Addr) (W : Nat → List Int) (n : Nat) : Prop :=
  0 < n → ∃ b o, A = some ⟨b, o, none⟩ ∧ b < w.heap.size ∧ ∀ i, i < n → ∃ A' m c', w.cell? ⟨b, o + i, none⟩ = some (.slice A' m c') ∧ ZsAt w (.slice A' m c') (W i) m ∧ m ≤ 9223372036854775807
theorem WzAt.below {w w' : World} {C n : Nat} {A : Option Addr} {W : Nat → List Int} (h : WzAt w A W n) (o : Below C w w') (hC : w.heap.size ≤ C) : WzAt w' A W n := by
  intro h0
  obtain ⟨b, q, e, hb, hc⟩ := h h0
  refine ⟨b, q, e, Nat.lt_of_lt_of_le hb o.size, fun i hi => ?_⟩
  obtain ⟨A', m, c', h1, h2, h3⟩ := hc i hi
  exact ⟨A', m, c', (o.cell (p := ⟨b, q + i, none⟩) (Nat.lt_of_lt_of_le hb hC)).trans h1, h2.below o hC, h3⟩
structure N3 (w : World) (A1 : Option Addr) (c1 : Nat) (A2 : Option Addr) (c2 : Nat) (A3 : Option Addr) (L : List Int) (n : Nat) (F : List Int) (nB : Nat) (W : Nat → List Int) (nE : Nat) : Prop where
  cel : CelAt w (.slice A1 n c1) L n
  fst : ZsAt w (.slice A2 nB c2) F nB
  way : WzAt w A3 W nE
theorem N3.below {w w' : World} {C c1 c2 n nB nE : Nat} {A1 A2 A3 : Option Addr} {L F : List Int} {W : Nat → List Int} (h : N3 w A1 c1 A2 c2 A3 L n F nB W nE) (o : Below C w w') (hC : w.heap.size ≤ C) : N3 w' A1 c1 A2 c2 A3 L n F nB W nE :=
  ⟨h.cel.below o hC, h.fst.below o hC, h.way.below o hC⟩
theorem okEs_may {B : List Bool} {E : List Edg} (hM : May B E) : OkEs E := fun e he => by
  have h := hM.ok e he
  have := bend_le hM.bs he
  exact ⟨h.2.2.2.2.1, h.2.2.2.2.2.1, by omega⟩
theorem cnt_of_wr {B : List Bool} {E : List Edg} (h : wrN B E = 0) : cntN B E ≤ 4096 := by
  unfold wrN at h
  by_cases h0 : chkS B E ≠ 0
  · rw [if_pos h0] at h
    exact absurd h h0
  · rw [if_neg h0] at h
    by_cases h1 : 4096 < cntN B E
    · rw [if_pos h1] at h
      exact absurd h (by decide)
    · omega
theorem normYes {w : World} (bv ev : Value) (B : List Bool) (E : List Edg) (hB : BlsAt w bv B) (hE : EdsAt w ev E) (hM : May B E) (hT : BorT w) (hz : wrN B E = 0) :
    Calls Tryd.prog 7 #[.agg #[bv, ev]] w fun e w' => (∃ A1 c1 A2 c2 A3 c3, e = .returned (.tuple #[.agg #[.slice A1 (cntN B E) c1, .slice A2 B.length c2, .slice A3 E.length c3], .int .i64 0]) ∧ N3 w' A1 c1 A2 c2 A3 (celS B E) (cntN B E) (fstS B E) B.length (wayS B E) E.length) ∧ Below w.heap.size w w' := by
  refine (normOf bv ev _ _ hB hE hM hT).mono ?_
  rintro e w' ⟨hb, ⟨h, _⟩ | ⟨_, cv, fv, wv, rfl, hN⟩⟩
  · exact absurd hz h
  · have h1 := hN.cel
    have h2 := hN.fst
    have h3 := hN.way
    obtain ⟨A1, c1, rfl⟩ := h1.form
    obtain ⟨A2, c2, rfl⟩ := h2.form
    obtain ⟨A3, c3, rfl, h4⟩ := h3
    refine ⟨⟨A1, c1, A2, c2, A3, c3, rfl, h1.cel, h2.zs, fun h0 => ?_⟩, hb⟩
    obtain ⟨b, o, e, hl, hc⟩ := h4 h0
    refine ⟨b, o, e, hl, fun i hi => ?_⟩
    obtain ⟨A, m, c, h5, h6⟩ := hc i hi
    exact ⟨A, m, c, h5, h6.zs, h6.le⟩
theorem normNo {w : World} (bv ev : Value) (B : List Bool) (E : List Edg) (hB : BlsAt w bv B) (hE : EdsAt w ev E) (hM : May B E) (hT : BorT w) (hz : wrN B E ≠ 0) :
    Calls Tryd.prog 7 #[.agg #[bv, ev]] w fun e w' => e = .returned (.tuple #[.agg #[.slice none 0 0, .slice none 0 0, .slice none 0 0], .int .i64 (wrN B E)]) ∧ Below w.heap.size w w' := by
  refine (normOf bv ev _ _ hB hE hM hT).mono ?_
  rintro e w' ⟨hb, ⟨_, h⟩ | ⟨h, _⟩⟩
  · exact ⟨h, hb⟩
  · exact absurd h hz
theorem refYes {w : World} (bv ev : Value) (B : List Bool) (E : List Edg) (hB : BlsAt w bv B) (hE : EdsAt w ev E) (hM : May B E) (hz : wrN B E = 0) :
    Calls Tryd.prog 10 #[.agg #[bv, ev]] w fun e w' => (∃ A1 c1 A2 c2 A4 c4 A3 c3, e = .returned (.agg #[.slice A1 (cntN B E) c1, .slice A2 B.length c2, .slice A4 E.length c4, .slice A3 E.length c3]) ∧ N3 w' A1 c1 A2 c2 A3 (celS B E) (cntN B E) (fstS B E) B.length (wayS B E) E.length) ∧ Below w.heap.size w w' := by
  refine (refOf bv ev _ _ hB hE hM (cnt_of_wr hz) (okEs_may hM)).mono ?_
  rintro e w' ⟨cv, fv, ev, wv, V, rfl, h1, h2, h3, h4, ⟨A4, c4, rfl⟩, hb⟩
  obtain ⟨s1, s2, s3⟩ := cells_same hM
  rw [s1, s2] at h1
  obtain ⟨A1, c1, rfl⟩ := h1.form
  obtain ⟨A2, c2, rfl⟩ := h2.form
  rcases h3.2 with ⟨e1, e2⟩ | ⟨g, cap, cur, hv, hg, r⟩
  · subst e1
    rw [e2]
    refine ⟨⟨A1, c1, A2, c2, A4, c4, none, 0, rfl, h1.cel, h2.zs, fun h0 => absurd h0 (by omega)⟩, hb⟩
  · subst hv
    refine ⟨⟨A1, c1, A2, c2, A4, c4, _, _, rfl, h1.cel, h2.zs, fun h0 => ⟨g, 0, rfl, (World.ownsRow.lt h3 _ rfl).2, fun i hi => ?_⟩⟩, hb⟩
    have h5 := h4 i hi
    rw [s3 i hi] at h5
    obtain ⟨A, c, e⟩ := h5.form
    rw [e] at h5
    refine ⟨A, _, c, ?_, h5.zs, h5.le⟩
    rw [Nat.zero_add, World.ownsRow.cellAt h3 i (by omega), List.getElem?_map, List.getElem?_range hi, ← e]
    rfl
end Go.Proofs.YtecifgaekefkpaaDoor
