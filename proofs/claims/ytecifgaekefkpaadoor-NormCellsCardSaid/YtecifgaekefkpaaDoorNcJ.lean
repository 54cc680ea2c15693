/-
  A shape's cells laid out one behind the other: what lay answers. Conditions: a shape that may be written; its ends side by side.
-/
import Derived.Test.YtecifgaekefkpaaDoorNcI
import Derived.Laws.NewBlocks
namespace Go.Proofs.YtecifgaekefkpaaDoor
open Go.RowKit Go.Proofs.YtecifgaekefkpaaDoor.LexM Go.Proofs.YtecifgaekefkpaaDoor.ParM Go.Proofs.YtecifgaekefkpaaDoor.GrM Go.Proofs.YtecifgaekefkpaaDoor.NmM

theorem heap3d (w : World) (a b c : Obj) : (((w.alloc a).alloc b).alloc c).drew.heap[w.heap.size]? = some a ∧ (((w.alloc a).alloc b).alloc c).drew.heap[w.heap.size + 1]? = some b ∧ (((w.alloc a).alloc b).alloc c).drew.heap[w.heap.size + 1 + 1]? = some c := by
  refine ⟨?_, ?_, ?_⟩
  · show (((w.alloc a).alloc b).alloc c).heap[w.heap.size]? = _
    rw [Below.heap_alloc _ _ _ (by simp; omega), Below.heap_alloc _ _ _ (by simp)]
    exact heap_alloc_new w a
  · show (((w.alloc a).alloc b).alloc c).heap[w.heap.size + 1]? = _
    rw [Below.heap_alloc _ _ _ (by simp)]
    exact heap_two w a b
  · show (((w.alloc a).alloc b).alloc c).heap[w.heap.size + 1 + 1]? = _
    have h := heap_two (w.alloc a) b c
    simpa using h
theorem below3d (w : World) (a b c : Obj) : Below w.heap.size w (((w.alloc a).alloc b).alloc c).drew := ((((Below.refl _ _).alloc (Nat.le_refl _) _).alloc (by simp) _).alloc (by simp; omega) _).drew
theorem size3d (w : World) (a b c : Obj) : (((w.alloc a).alloc b).alloc c).drew.heap.size = w.heap.size + 3 := by show (((w.alloc a).alloc b).alloc c).heap.size = _; simp
theorem LyAt.under {B s0 nE : Nat} {ln : Nat → Nat} {lb ob fb cF : Nat} {w w' : World} {cnt nF : Nat} {F : List Int} {xv : Value} {W : Nat → List Int} (h : LyAt B s0 nE ln lb ob fb cF w cnt F nF xv W) {S : Nat → Prop} (o : Out S w w') (hS : ∀ b, S b → b < B) : LyAt B s0 nE ln lb ob fb cF w' cnt F nF xv W := by
  obtain ⟨n0, n1, n2, n3, n4, n5, n6, n7, n8⟩ := h.nums
  have keep : ∀ {g n c : Nat} {e : TypeId} {k : Nat} {xs : List Value}, w.ownsRow B e k (.slice (some ⟨g, 0, none⟩) n c) n xs → w'.ownsRow B e k (.slice (some ⟨g, 0, none⟩) n c) n xs := fun hr =>
    ownsRow_out hr o (fun b hb e => by have h1 := (World.ownsRow.lt hr b hb).1; have := hS _ e; omega)
  exact ⟨h.nums, (o.block lb h.lt (fun e => by have := hS _ e; omega)).trans h.blk, ⟨h.fst.1, keep h.fst.2⟩, keep h.out, fun i hi => ⟨(h.row i hi).1, keep (h.row i hi).2⟩⟩
def LayP (B : List Bool) (E : List Edg) (w : World) (e : Ending) (w' : World) : Prop :=
  ∃ (D s0 lb ob fb : Nat) (xv : Value) (X : List BxQ), e = .returned (.agg #[.int .i64 (cntV B E B.length + bndK E E.length : Nat), .slice (some ⟨fb, 0, none⟩) B.length B.length, xv, .slice (some ⟨ob, 0, none⟩) E.length E.length]) ∧ w.heap.size ≤ D ∧
    LyAt D s0 E.length (fun i => nbE E i + 2) lb ob fb B.length w' (cntV B E B.length + bndK E E.length) (vxK B E B.length).2 B.length xv (wayW E (vxK B E B.length).1.en (cntV B E B.length) E.length) ∧
    BxsAt (s0 + 2 * E.length) E (cntV B E) w' xv X ∧ X.map (·.v) = boxK B B.length ∧ Below w.heap.size w w'
/-- A layout in a box of its own, ahead of it. -/
def LzB (w : World) (rb : Nat) : Prop := w.heap[rb]? = some (.cells #[.int .i64 0, .slice none 0 0, .slice none 0 0, .slice none 0 0] 64 (0, 0))
def LyV (B : List Bool) (E : List Edg) (s0 nB nE lb ob fb : Nat) (w1 wr : World) (iv : Value) : Prop :=
  ∃ (k : Nat) (xv : Value) (X : List BxQ), iv = .int .i64 k ∧ k ≤ nB ∧ LyAt w1.heap.size s0 nE (fun i => nbE E i + 2) lb ob fb nB wr (vxK B E k).1.n (vxK B E k).2 k xv (fun i => wayZ (vxK B E k).1.en (nbE E i) i) ∧
    BxsAt (s0 + 2 * nE) E (cntV B E) wr xv X ∧ X.map (·.v) = boxK B k ∧ Below w1.heap.size w1 wr ∧ s0 + 2 * nE ≤ wr.heap.size
def LyE (E : List Edg) (en F : List Int) (nv s0 nB nE lb ob fb : Nat) (xv : Value) (w4 w1 wr : World) (iv : Value) : Prop :=
  ∃ k : Nat, iv = .int .i64 k ∧ k ≤ nE ∧ LyAt w1.heap.size s0 nE (fun i => nbE E i + 2) lb ob fb nB wr (nv + bndK E k) F nB xv (wayW E en nv k) ∧ Kept w1.heap.size (s0 + 2 * nE) w4 wr
set_option maxHeartbeats 16000000 in
set_option maxRecDepth 100000 in
theorem layY {w : World} {C g : Nat} {V : Nat → Value} (bv ev : Value) (B : List Bool) (E : List Edg) (hB : BlsAt w bv B) (hE : EdsAt w ev E) (hG : EnAt C w g B.length V (enR E E.length)) (hM : May B E) :
    Calls Tryd.prog 19 #[.agg #[bv, ev], .slice (some ⟨g, 0, none⟩) B.length B.length] w (LayP B E w) := by
  obtain ⟨i0, hi, hz0, hz1, hz2⟩ := info_z
  obtain ⟨AB, cB, e⟩ := hB.form
  subst e
  obtain ⟨AE, cE, e⟩ := hE.form
  subst e
  have HB := Lib.hid hB
  have HE := Lib.hid hE
  have HM := Lib.hid hM
  have HG := Lib.hid hG
  have hbl := hM.vs
  have hel := hM.es
  unfold LayP
  obtain ⟨nB, hnB⟩ : ∃ n, B.length = n := ⟨_, rfl⟩
  obtain ⟨nE, hnE⟩ : ∃ n, E.length = n := ⟨_, rfl⟩
  rw [hnB] at HB hbl HG ⊢
  rw [hnE] at HE hel ⊢
  have NB := Lib.hid hnB
  have NE := Lib.hid hnE
  clear hB hE hM hnB hnE hG
  have hmk1 := mkZ0 nB (by omega)
  have hmk2 := mkZZ nE (by omega)
  go_enter Tryd.func19, Tryd.ntmps19
  go_upto_region 1 with (fail)
  obtain ⟨w1, hw1⟩ : ∃ W, W = ((w.alloc (.cells #[.slice AB nB cB, .slice AE nE cE] 29)).alloc (.cells #[.int .i64 0, .slice none 0 0, .slice none 0 0, .slice none 0 0] 64)) := ⟨_, rfl⟩
  have SB : Hid (ShB w1 w.heap.size (.slice AB nB cB) (.slice AE nE cE)) := Lib.hid (by rw [hw1]; unfold ShB; rw [Below.heap_alloc _ _ _ (by simp)]; exact heap_alloc_new w _)
  have RB : Hid (LzB w1 (w.heap.size + 1)) := Lib.hid (by rw [hw1]; exact heap_two w _ _)
  have B1 : Hid (Below w.heap.size w w1) := Lib.hid (by rw [hw1]; exact ((Below.refl _ _).alloc (Nat.le_refl _) _).alloc (by simp) _)
  rw [← hw1]
  obtain ⟨rb, hrb⟩ : ∃ x, x = w.heap.size + 1 := ⟨_, rfl⟩
  have RBW : Hid (w.heap.size ≤ rb ∧ rb < w1.heap.size) := Lib.hid (by have h := (Array.getElem?_eq_some_iff.1 RB.out).1; omega)
  rw [← hrb] at RB ⊢
  obtain ⟨sb, hsb⟩ : ∃ x, x = w.heap.size := ⟨_, rfl⟩
  rw [← hsb] at SB ⊢
  clear hw1 hrb hsb
  obtain ⟨x0, x1⟩ := SB.out.at_
  have xl := SB.out.lt
  go_cut [5] from 21 to 21 (fun l wx => ∃ lb ob fb, l = .pointer (some ⟨lb, 0, none⟩) ∧ LwAt w1.heap.size wx.heap.size nE (fun i => nbE E i + 2) lb ob fb nB wx 0 ∧ Below w1.heap.size w1 wx)
  case first =>
    go_region
    all_goals
      go_wp2_with fail
      go_meet
      refine ⟨_, _, _, rfl, LwAt.start ?_ (by first | exact (heap3d _ _ _ _).1 | exact (heap3d _ _ _ _).2.1 | exact (heap3d _ _ _ _).2.2) (by first | exact (heap3d _ _ _ _).1 | exact (heap3d _ _ _ _).2.1 | exact (heap3d _ _ _ _).2.2) (by first | exact (heap3d _ _ _ _).1 | exact (heap3d _ _ _ _).2.1 | exact (heap3d _ _ _ _).2.2) (by omega) (by omega), below3d _ _ _ _⟩
      rw [size3d]
      omega
  case rest =>
    obtain ⟨lb, ob, fb, rfl, hLw, hBw⟩ := hcut
    obtain ⟨w2, hw2⟩ : ∃ W, W = wc := ⟨_, rfl⟩
    subst hw2
    have LW := Lib.hid hLw
    have B2 := Lib.hid hBw
    have S2 := Lib.hid (SB.out.below hBw (Nat.le_refl _))
    obtain ⟨s0, hs0⟩ : ∃ s, s = w2.heap.size := ⟨_, rfl⟩
    rw [← hs0] at LW
    clear hLw hBw x0 x1 xl hmk1 hmk2 hs0
    obtain ⟨x0, x1⟩ := S2.out.at_
    have xl := S2.out.lt
    go_wp2_with fail
    go_loopw [25] (fun iv wr => ∃ k : Nat, iv = .int .i64 k ∧ k ≤ nE ∧ LwAt w1.heap.size s0 nE (fun i => nbE E i + 2) lb ob fb nB wr k ∧ Below w1.heap.size w1 wr) (fun iv _ => nE - (intOf iv).toNat)
    case atStart => exact ⟨0, rfl, Nat.zero_le _, LW.out, B2.out⟩
    case round =>
      clear LW B2 S2 x0 x1 xl
      obtain ⟨k, rfl, hk, hLw, hBw⟩ := hrel
      have L3 := Lib.hid hLw
      have B3 := Lib.hid hBw
      have S3 := Lib.hid (SB.out.below hBw (Nat.le_refl _))
      clear hLw hBw
      obtain ⟨x0, x1⟩ := S3.out.at_
      have xl := S3.out.lt
      by_cases hlt : k < nE
      · have q0 : decide (k < nE) = true := decide_eq_true hlt
        have hkE : k < E.length := by have := NE.out; omega
        have BW := B1.out.trans (B3.out.mono B1.out.size)
        obtain ⟨be, oe, rfl, hbe, y0, y1, y2, y3⟩ := HE.out.one hkE
        have f0 := (BW.cell (p := ⟨be, oe + k * 4, none⟩) hbe).trans y0
        have f1 := (BW.cell (p := ⟨be, oe + k * 4 + 1, none⟩) hbe).trans y1
        have f2 := (BW.cell (p := ⟨be, oe + k * 4 + 2, none⟩) hbe).trans y2
        have f3 := (BW.cell (p := ⟨be, oe + k * 4 + 3, none⟩) hbe).trans y3
        have hbw := Nat.lt_of_lt_of_le hbe BW.size
        have hnb : nbE E k = (bs E[k].2.2.2).size := by unfold nbE; rw [bs_size, List.getD_eq_getElem?_getD, List.getElem?_eq_getElem hkE]; rfl
        have hle : nbE E k ≤ 4096 := nbE_le HM.out.bs k
        have HLE := Lib.hid hle
        clear y0 y1 y2 y3 BW
        obtain ⟨m, hm⟩ : ∃ m, nbE E k + 2 = m := ⟨_, rfl⟩
        have cw : IntKind.i64.wrap (((bs E[k].2.2.2).size : Int) + 2) = (m : Int) := by rw [← hnb, IntWalk.i64_in _ (by omega)]; omega
        have cw2 : ((bs E[k].2.2.2).size : Int) + 2 = (m : Int) := by rw [← hnb]; omega
        have cw3 : IntKind.i64.wrap (m : Int) = (m : Int) := IntWalk.i64_in _ (by omega)
        have HMM := Lib.hid hm
        have hmk := mkZN m (by omega)
        clear hnb hle hm
        generalize E[k].1 = fk at *
        generalize E[k].2.1 = tk at *
        generalize E[k].2.2.1 = dk at *
        generalize bs E[k].2.2.2 = sk at *
        go_upto_region 5 with (fail)
        obtain ⟨wx, hwx⟩ : ∃ W, W = (wr.alloc (.cells #[.int .i64 fk, .int .i64 tk, .int .i64 dk, .string sk] 54)) := ⟨_, rfl⟩
        have bx : Below wr.heap.size wr wx := by rw [hwx]; exact (Below.refl _ _).alloc (Nat.le_refl _) _
        have hEx : wx.heap[wr.heap.size]? = some (.cells #[.int .i64 fk, .int .i64 tk, .int .i64 dk, .string sk] 54 (0, 0)) := by rw [hwx]; exact heap_alloc_new wr _
        have y3 : wx.cell? ⟨wr.heap.size, 3, none⟩ = some (.string sk) := by simp [World.cell?, hEx]
        have yl := (Array.getElem?_eq_some_iff.1 hEx).1
        have hlb : wx.heap[lb]? = some (.cells #[.int .i64 0, .slice (some ⟨fb, 0, none⟩) 0 nB, .slice none 0 0, .slice (some ⟨ob, 0, none⟩) nE nE] 64 (0, 0)) := (bx.block lb (Array.getElem?_eq_some_iff.1 L3.out.blk).1).trans L3.out.blk
        have l3 : wx.cell? ⟨lb, 3, none⟩ = some (.slice (some ⟨ob, 0, none⟩) nE nE) := by simp [World.cell?, hlb]
        have ll := (Array.getElem?_eq_some_iff.1 hlb).1
        have hob : wx.ownsRow w1.heap.size 32 1 (.slice (some ⟨ob, 0, none⟩) nE nE) nE ((List.range nE).map fun j => if j < k then .slice (some ⟨s0 + 2 * j + 1, 0, none⟩) (nbE E j + 2) (nbE E j + 2) else .slice none 0 0) := ownsRow_out (S := fun _ => False) L3.out.out (Out.ofBelow bx) (fun _ _ e => e)
        obtain ⟨u, o0⟩ : ∃ u, wx.cell? ⟨ob, k, none⟩ = some u := ⟨_, by rw [World.ownsRow.cellAt hob k (by omega), List.getElem?_eq_getElem (by simp; omega)]⟩
        have o1 := World.ownsRow.frozenAt hob k
        have ol := (World.ownsRow.lt hob ob rfl).2
        have ST : Hid (∀ w' : World, w'.heap = ((wx.setCell ⟨ob, k, none⟩ (.slice (some ⟨wx.heap.size, 0, none⟩) m m)).alloc (.cells (madeCells #[.int .i64 0] m) 3)).heap → LwAt w1.heap.size s0 nE (fun i => nbE E i + 2) lb ob fb nB w' (k + 1)) := Lib.hid (fun w' e => by
          have h := HMM.out
          refine L3.out.step hlt (by show nbE E k + 2 ≤ 10000; have := HLE.out; omega) (.cells #[.int .i64 fk, .int .i64 tk, .int .i64 dk, .string sk] 54) ?_
          rw [e, ← World.setCell_alloc_past _ _ _ _ ol, hwx]
          simp only [h]
          simp)
        have B4 := Lib.hid (B3.out.trans (bx.mono B3.out.size))
        have BO : Hid (w1.heap.size ≤ ob) := Lib.hid L3.out.nums.2.1
        rw [← hwx]
        generalize wr.heap.size = yb at *
        clear hwx bx hEx hlb hob f0 f1 f2 f3 hbw hbe x0 x1 xl
        go_region
        all_goals
          go_wp2_with fail
          go_roundw
          case rel => exact ⟨k + 1, by go_num, by omega, ST.out _ rfl, ((B4.out.setCell (p := ⟨ob, k, none⟩) BO.out _).alloc (by have h := B4.out.size; simpa [World.setCell] using h) _).drew⟩
          case measure => (simp [intOf] <;> omega)
      · have hkn : k = nE := by omega
        have q0 : decide (k < nE) = false := decide_eq_false hlt
        rw [hkn] at L3
        have LV := Lib.hid (L3.out.done)
        have hsz : s0 + 2 * nE ≤ wr.heap.size := by have := L3.out.size; omega
        have HSZ := Lib.hid hsz
        clear hsz hkn L3
        obtain ⟨w3, hw3⟩ : ∃ W, W = wr := ⟨_, rfl⟩
        subst hw3
        go_wp2_with fail
        have HG1 := Lib.hid (HG.out.below B1.out (Nat.le_refl _))
        have ab := fun (wr : World) (k nF : Nat) (F : List Int) (xv : Value) (s : NSt) (X : List BxQ) (hL : LyAt w1.heap.size s0 E.length (fun i => nbE E i + 2) lb ob fb nB wr s.n F nF xv (fun i => wayZ s.en (nbE E i) i)) (hX : BxsAt (s0 + 2 * E.length) E (cntV B E) wr xv X) (hv : k < nB) (hw : Below w1.heap.size w1 wr) (hs0 : s0 + 2 * E.length ≤ wr.heap.size) (hen : s.en.length = 2 * E.length) (hn : s.n + 4 + sidesK E (k : Int) 4 ≤ 100000000000) (hXl : X.length ≤ 5000) (hcf : cntV B E k = s.n) =>
          addBoxY k hL hX HG1.out hv (Nat.le_refl _) hw hw.size hs0 hen HM.out.es (nbE_le HM.out.bs) hn hXl hcf
        have ap := fun (wr : World) (k nF : Nat) (F : List Int) (xv : Value) (s : NSt) (hL : LyAt w1.heap.size s0 E.length (fun i => nbE E i + 2) lb ob fb nB wr s.n F nF xv (fun i => wayZ s.en (nbE E i) i)) (hv : k < nB) (hw : Below w1.heap.size w1 wr) (hs0 : s0 + 2 * E.length ≤ wr.heap.size) (hen : s.en.length = 2 * E.length) (hn : s.n ≤ 100000000000) =>
          addPointY k hL HG1.out hv (Nat.le_refl _) hw hw.size hs0 hen HM.out.es (nbE_le HM.out.bs) hn
        rw [NE.out] at ab ap
        have AB := Lib.hid ab
        have AP := Lib.hid ap
        have CB : Hid (∀ k, k ≤ nB → cntV B E k ≤ 140000000 ∧ sidesK E (k : Int) 4 ≤ 40000) := Lib.hid (fun k hk => by
          have h1 := cntV_le B E k
          have h2 := sidesK_le E (k : Int) 4
          rw [NE.out] at h1 h2
          have h3 : k * (4 + 8 * nE) ≤ 4096 * (4 + 8 * 4096) := Nat.mul_le_mul (by omega) (by omega)
          omega)
        have VM : Hid (∀ k, (vxK B E k).1.n = cntV B E k ∧ (vxK B E k).1.en.length = 2 * nE ∧ (vxK B E k).2.length = k) := Lib.hid (by rw [← NE.out]; exact vxK_m B E)
        clear ab ap HG
        go_loopw [43] (fun iv wr => LyV B E s0 nB nE lb ob fb w1 wr iv) (fun iv _ => nB - (intOf iv).toNat)
        case atStart =>
          refine ⟨0, .slice none 0 0, [], rfl, Nat.zero_le _, LV.out, ⟨World.ownsRow_nil _ _ _ _, fun q hq => by cases hq⟩, rfl, B3.out, HSZ.out⟩
        case round =>
          clear LV B3 S3 x0 x1 xl HSZ
          obtain ⟨k2, xv, X, rfl, hk2, hL, hX, hXb, hBw, hsz⟩ := hrel
          have LV := Lib.hid hL
          have XV := Lib.hid hX
          have XB := Lib.hid hXb
          have B3 := Lib.hid hBw
          have SZ := Lib.hid hsz
          have S3 := Lib.hid (SB.out.below hBw (Nat.le_refl _))
          clear hL hX hXb hBw hsz
          obtain ⟨x0, x1⟩ := S3.out.at_
          have xl := S3.out.lt
          by_cases hlt2 : k2 < nB
          · have q1 : decide (k2 < nB) = true := decide_eq_true hlt2
            have hkB : k2 < B.length := by have := NB.out; omega
            have BW := B1.out.trans (B3.out.mono B1.out.size)
            obtain ⟨bb, obb, rfl, hbb, y0⟩ := HB.out.one hkB
            have f0 := (BW.cell (p := ⟨bb, obb + k2, none⟩) hbb).trans y0
            have hbw := Nat.lt_of_lt_of_le hbb BW.size
            obtain ⟨t, ht⟩ : ∃ t, B.getD k2 false = t := ⟨_, rfl⟩
            have HT := Lib.hid ht
            rw [ht] at f0
            clear ht y0 BW
            obtain ⟨v1, v2, v3⟩ := VM.out k2
            obtain ⟨c1, c2⟩ := CB.out k2 (by omega)
            have VX : Hid (vxK B E (k2 + 1) = (if B.getD k2 false = true then bxN E k2 (vxK B E k2).1 else ptN E k2 (vxK B E k2).1, (vxK B E k2).2 ++ [((vxK B E k2).1.n : Int)])) := Lib.hid rfl
            obtain ⟨⟨s, F⟩, hsF⟩ : ∃ z, vxK B E k2 = z := ⟨_, rfl⟩
            rw [hsF] at LV v1 v2 v3 VX
            have LV' : Hid (LyAt w1.heap.size s0 nE (fun i => nbE E i + 2) lb ob fb nB wr s.n F k2 xv (fun i => wayZ s.en (nbE E i) i)) := LV
            have V1 : Hid (cntV B E k2 = s.n) := Lib.hid v1.symm
            have V2 : Hid (s.en.length = 2 * nE) := Lib.hid v2
            have HN : Hid (s.n + 4 + sidesK E (k2 : Int) 4 ≤ 100000000000) := Lib.hid (by have : s.n = cntV B E k2 := v1; omega)
            have XL : Hid (X.length ≤ 5000) := Lib.hid (by have h1 := boxK_len B k2; rw [← XB.out, List.length_map] at h1; omega)
            clear v1 v2 v3 c1 c2 hsF LV
            obtain ⟨l0, l1, -, -⟩ := LV'.out.at_
            have lf := LV'.out.fr 1
            have ll := LV'.out.lt
            have NM := Lib.hid LV'.out.nums
            go_upto_region 11 with (at_builtin; go_must (refine wpList_append_in rfl (.tmp 49) (.tmp 52) 32 rfl w1.heap.size 3 i0 (.int .i64 0) 1 8 Tryd.underlying32 hi hz0 hz1 hz2 rfl (by decide) fb k2 nB (F.map intV) rfl (LV'.out.below ((Below.refl _ _).alloc (Nat.le_refl _) _) (Nat.le_refl _)).fst.2 ⟨wr.heap.size, 0, none⟩ 1 1 [intV (s.n : Int)] rfl rfl (newsZ _ _ _ _ rfl) (oneZ _) (by unfold maxLen; omega) (by omega) (by have h1 := B3.out.size; simp; omega) (by omega) ?_; intro w5 hown hgrow; have bA : Below wr.heap.size wr (wr.alloc (.cells #[.int .i64 (s.n : Int)] 3)) := (Below.refl _ _).alloc (Nat.le_refl _) _; have L5 := Lib.hid (LV'.out.first bA hown hgrow); have K5 : Hid (Kept w1.heap.size (s0 + 2 * nE) wr w5) := Lib.hid ((Kept.ofB bA).trans (((Out.refl (fun b => b = fb) _).grown hgrow (fun k _ e => by simpa using e.symm)).mono (fun i _ e => by have h := NM.out; omega))); have hlb : w5.heap[lb]? = some (.cells #[.int .i64 (s.n : Int), .slice (some ⟨fb, 0, none⟩) k2 nB, xv, .slice (some ⟨ob, 0, none⟩) nE nE] 64 (0, 0)) := ((hgrow.block lb (Nat.lt_of_lt_of_le ll bA.size) (fun e => by simp only [Option.some.injEq] at e; have h := NM.out; omega)).trans ((bA.block lb ll).trans LV'.out.blk)); have e1 : w5.cell? ⟨lb, 1, none⟩ = some (.slice (some ⟨fb, 0, none⟩) k2 nB) := (by simp [World.cell?, hlb]); have e2 : w5.frozen? ⟨lb, 1, none⟩ = false := (by simp only [World.frozen?, hlb]; simp); have el := (Array.getElem?_eq_some_iff.1 hlb).1; clear hown hgrow bA hlb))
            have KS := Lib.hid (K5.out.set (p := ⟨lb, 1, none⟩) (show w1.heap.size ≤ lb by have h := NM.out; omega) (show lb < s0 + 2 * nE by have h := NM.out; omega) (.slice (some ⟨fb, 0, none⟩) (k2 + 1) nB))
            obtain ⟨w6, hw6⟩ : ∃ W, W = w5.setCell ⟨lb, 1, none⟩ (.slice (some ⟨fb, 0, none⟩) (k2 + 1) nB) := ⟨_, rfl⟩
            rw [← hw6] at L5 KS
            rw [← hw6]
            have SZ6 : Hid (s0 + 2 * nE ≤ w6.heap.size) := Lib.hid (Nat.le_trans SZ.out KS.out.size)
            have X6 := Lib.hid (XV.out.kept KS.out)
            have B6 := Lib.hid (B3.out.trans (KS.out.below B3.out.size))
            have S6 := Lib.hid (SB.out.below B6.out (Nat.le_refl _))
            clear hw6 K5 KS e1 e2 el l0 l1 lf ll f0 hbw hbb x0 x1 xl SZ XV B3 S3 LV'
            obtain ⟨g0, g1, g2, g3⟩ := (HG1.out.below B6.out (Nat.le_refl _)).four hlt2
            have gl := (HG1.out.below B6.out (Nat.le_refl _)).gl
            cases t
            · have A6 := Lib.hid (AP.out w6 k2 (k2 + 1) (F ++ [(s.n : Int)]) xv s L5.out hlt2 B6.out SZ6.out V2.out (by have h := HN.out; omega))
              have EV : Hid (vxK B E (k2 + 1) = (ptN E k2 s, F ++ [(s.n : Int)])) := Lib.hid (by rw [VX.out, HT.out]; rfl)
              have EB : Hid (boxK B (k2 + 1) = boxK B k2) := Lib.hid (by rw [boxK_next, HT.out]; rfl)
              go_wp2_with (go_at_call 36; refine A6.out.mono ?_; rintro e w7 ⟨rfl, l7, k7⟩; have L7 := Lib.hid l7; have K7 := Lib.hid k7; clear l7 k7)
              go_roundw
              case rel => exact ⟨k2 + 1, xv, X, by go_num, by omega, by rw [EV.out]; exact L7.out, X6.out.kept K7.out, by rw [EB.out]; exact XB.out, B6.out.trans (K7.out.below B6.out.size), Nat.le_trans SZ6.out K7.out.size⟩
              case measure => (simp [intOf] <;> omega)
            · have A6 := Lib.hid (AB.out w6 k2 (k2 + 1) (F ++ [(s.n : Int)]) xv s X L5.out X6.out hlt2 B6.out SZ6.out V2.out HN.out XL.out V1.out)
              have EV : Hid (vxK B E (k2 + 1) = (bxN E k2 s, F ++ [(s.n : Int)])) := Lib.hid (by rw [VX.out, HT.out]; rfl)
              have EB : Hid (boxK B (k2 + 1) = boxK B k2 ++ [k2]) := Lib.hid (by rw [boxK_next, HT.out]; rfl)
              go_wp2_with (go_at_call 35; refine A6.out.mono ?_; rintro e w7 ⟨rfl, xv7, q7, hq7, l7, x7, b7⟩; have L7 := Lib.hid l7; have X7 := Lib.hid x7; have B7 := Lib.hid b7; have Q7 := Lib.hid hq7; clear l7 x7 b7 hq7)
              go_roundw
              case rel => exact ⟨k2 + 1, xv7, X ++ [q7], by go_num, by omega, by rw [EV.out]; exact L7.out, X7.out, by rw [EB.out, List.map_append, XB.out]; simp [Q7.out], B6.out.trans B7.out, Nat.le_trans SZ6.out B7.out.size⟩
              case measure => (simp [intOf] <;> omega)
          · obtain ⟨w4, hw4⟩ : ∃ W, W = wr := ⟨_, rfl⟩
            subst hw4
            have hkn : k2 = nB := by omega
            have q1 : decide (k2 < nB) = false := decide_eq_false hlt2
            rw [hkn] at LV XB
            obtain ⟨v1, v2, v3⟩ := VM.out nB
            have hc1 := (CB.out nB (Nat.le_refl _)).1
            obtain ⟨⟨s, F⟩, hsF⟩ : ∃ z, vxK B E nB = z := ⟨_, rfl⟩
            have SF := Lib.hid hsF
            rw [hsF] at LV v1 v2 v3
            obtain ⟨nv, hnv⟩ : ∃ n, cntV B E nB = n := ⟨_, rfl⟩
            have CV := Lib.hid hnv
            rw [hnv] at v1 hc1
            obtain ⟨en, hen⟩ : ∃ z, s.en = z := ⟨_, rfl⟩
            have EN := Lib.hid hen
            have LE : Hid (LyAt w1.heap.size s0 nE (fun i => nbE E i + 2) lb ob fb nB w4 nv F nB xv (wayW E en nv 0)) := Lib.hid (by
              have h : LyAt w1.heap.size s0 nE (fun i => nbE E i + 2) lb ob fb nB w4 s.n F nB xv (fun i => wayZ s.en (nbE E i) i) := LV.out
              rw [wayW_zero, ← hen, ← (show s.n = nv from v1)]; exact h)
            have hnv9 : nv ≤ 140000000 := hc1
            have BE : Hid (∀ k, k ≤ nE → bndK E k ≤ 4096) := Lib.hid (fun k hk => by
              have h1 := bndK_le (E := E) (i := k) (by have := NE.out; omega)
              rw [bndK_all] at h1
              have h2 := HM.out.bs
              omega)
            clear hkn v1 v2 v3 hc1 hsF hnv hen LV
            go_wp2_with fail
            go_loopw [70] (fun iv wr => LyE E en F nv s0 nB nE lb ob fb xv w4 w1 wr iv) (fun iv _ => nE - (intOf iv).toNat)
            case atStart => exact ⟨0, rfl, Nat.zero_le _, LE.out, Kept.refl _ _ _⟩
            case round =>
              clear LE x0 x1 xl S3
              obtain ⟨k3, rfl, hk3, hL, hK⟩ := hrel
              have L3 := Lib.hid hL
              have K3 := Lib.hid hK
              have B3' : Below w1.heap.size w1 wr := B3.out.trans (hK.below B3.out.size)
              have S3 := Lib.hid (SB.out.below B3' (Nat.le_refl _))
              have B5 := Lib.hid B3'
              clear hL hK
              obtain ⟨x0, x1⟩ := S3.out.at_
              have xl := S3.out.lt
              by_cases hlt3 : k3 < nE
              · have q2 : decide (k3 < nE) = true := decide_eq_true hlt3
                have hkE : k3 < E.length := by have := NE.out; omega
                have BW := B1.out.trans (B3'.mono B1.out.size)
                obtain ⟨be, oe, rfl, hbe, y0, y1, y2, y3⟩ := HE.out.one hkE
                have f0 := (BW.cell (p := ⟨be, oe + k3 * 4, none⟩) hbe).trans y0
                have f1 := (BW.cell (p := ⟨be, oe + k3 * 4 + 1, none⟩) hbe).trans y1
                have f2 := (BW.cell (p := ⟨be, oe + k3 * 4 + 2, none⟩) hbe).trans y2
                have f3 := (BW.cell (p := ⟨be, oe + k3 * 4 + 3, none⟩) hbe).trans y3
                have hbw := Nat.lt_of_lt_of_le hbe BW.size
                have hnb : (bs E[k3].2.2.2).size = nbE E k3 := by unfold nbE; rw [bs_size, List.getD_eq_getElem?_getD, List.getElem?_eq_getElem hkE]; rfl
                have hle : nbE E k3 ≤ 4096 := nbE_le HM.out.bs k3
                have hb4 := BE.out k3 (by omega)
                clear y0 y1 y2 y3 BW B3'
                generalize E[k3].1 = fk at *
                generalize E[k3].2.1 = tk at *
                generalize E[k3].2.2.1 = dk at *
                generalize bs E[k3].2.2.2 = sk at *
                go_upto_region 18 with (fail)
                obtain ⟨wx, hwx⟩ : ∃ W, W = (wr.alloc (.cells #[.int .i64 fk, .int .i64 tk, .int .i64 dk, .string sk] 54)) := ⟨_, rfl⟩
                have bx : Below wr.heap.size wr wx := by rw [hwx]; exact (Below.refl _ _).alloc (Nat.le_refl _) _
                have hEx : wx.heap[wr.heap.size]? = some (.cells #[.int .i64 fk, .int .i64 tk, .int .i64 dk, .string sk] 54 (0, 0)) := by rw [hwx]; exact heap_alloc_new wr _
                have z3 : wx.cell? ⟨wr.heap.size, 3, none⟩ = some (.string sk) := by simp [World.cell?, hEx]
                have zl := (Array.getElem?_eq_some_iff.1 hEx).1
                obtain ⟨nb, hnb2⟩ : ∃ n, nbE E k3 = n := ⟨_, rfl⟩
                have NBE := Lib.hid hnb2
                obtain ⟨n3, hn3⟩ : ∃ n, nv + bndK E k3 = n := ⟨_, rfl⟩
                have N3 := Lib.hid hn3
                have LX : Hid (LyAt w1.heap.size s0 nE (fun i => nbE E i + 2) lb ob fb nB wx (n3 + 0) F nB xv (fun j => if j = k3 then wayP en nb n3 0 k3 else wayW E en nv k3 j)) := Lib.hid (by
                  have h := wayW_open E en nv k3
                  rw [hnb2, hn3] at h
                  rw [h, Nat.add_zero, ← hn3]
                  exact L3.out.below bx (Nat.le_refl _))
                have KX := Lib.hid (K3.out.trans (Kept.ofB bx))
                rw [hnb2] at hnb hle
                have hn3b : n3 ≤ 150000000 := by omega
                rw [← hwx]
                clear hwx bx hEx f0 f1 f2 f3 hbw hbe x0 x1 xl hnb2 hn3 L3 K3
                go_wp2_with fail
                clear z3 zl
                go_loopw [78] (fun iv wr => ∃ b : Nat, iv = .int .i64 b ∧ b ≤ sk.size ∧ LyAt w1.heap.size s0 nE (fun i => nbE E i + 2) lb ob fb nB wr (n3 + b) F nB xv (fun j => if j = k3 then wayP en nb n3 b k3 else wayW E en nv k3 j) ∧ Kept w1.heap.size (s0 + 2 * nE) w4 wr) (fun iv _ => sk.size - (intOf iv).toNat)
                case atStart => exact ⟨0, rfl, Nat.zero_le _, LX.out, KX.out⟩
                case round =>
                  clear LX KX
                  obtain ⟨b, rfl, hbk, hL, hK⟩ := hrel
                  have L6 := Lib.hid hL
                  have K6 := Lib.hid hK
                  clear hL hK
                  by_cases hlt4 : b < sk.size
                  · have q3 : decide (b < sk.size) = true := decide_eq_true hlt4
                    obtain ⟨cn, hcn⟩ : ∃ n, n3 + b = n := ⟨_, rfl⟩
                    have CN := Lib.hid hcn
                    rw [hcn] at L6
                    have hcn9 : cn ≤ 160000000 := by omega
                    obtain ⟨b1, hb1⟩ : ∃ n, b + 1 = n := ⟨_, rfl⟩
                    have cw : IntKind.i64.wrap ((b : Int) + 1) = (b1 : Int) := by rw [IntWalk.i64_in _ (by omega)]; omega
                    have cw2 : (b : Int) + 1 = (b1 : Int) := by omega
                    have cw3 : IntKind.i64.wrap (b1 : Int) = (b1 : Int) := IntWalk.i64_in _ (by omega)
                    have HB1 := Lib.hid hb1
                    obtain ⟨m, hm⟩ : ∃ m, nbE E k3 + 2 = m := ⟨_, rfl⟩
                    have hb1m : b1 < m := by have := NBE.out; omega
                    have hm9 : m ≤ 5000 := by have := NBE.out; omega
                    have NM := Lib.hid L6.out.nums
                    have HNB := Lib.hid hnb
                    have WY : ∀ (wq : World) (cq : Nat) (W' : Nat → List Int), LyAt w1.heap.size s0 nE (fun i => nbE E i + 2) lb ob fb nB wq cq F nB xv W' → wq.cell? ⟨lb, 3, none⟩ = some (.slice (some ⟨ob, 0, none⟩) nE nE) ∧ wq.cell? ⟨ob, k3, none⟩ = some (.slice (some ⟨s0 + 2 * k3 + 1, 0, none⟩) m m) := fun _ _ _ h => ⟨h.at_.2.2.2, by have h1 := (h.way hlt3).1; rw [hm] at h1; exact h1⟩
                    have WZ : ∀ (wq : World) (cq : Nat), LyAt w1.heap.size s0 nE (fun i => nbE E i + 2) lb ob fb nB wq cq F nB xv (fun j => if j = k3 then wayP en nb n3 b k3 else wayW E en nv k3 j) → (∃ u, wq.cell? ⟨s0 + 2 * k3 + 1, b1, none⟩ = some u) ∧ wq.frozen? ⟨s0 + 2 * k3 + 1, b1, none⟩ = false ∧ lb < wq.heap.size ∧ ob < wq.heap.size ∧ s0 + 2 * k3 + 1 < wq.heap.size := fun _ _ h => ⟨⟨_, (h.wayC hlt3 (by show b1 < nbE E k3 + 2; omega)).1⟩, (h.wayC hlt3 (by show b1 < nbE E k3 + 2; omega)).2, h.lt, h.ol, (h.way hlt3).2⟩
                    have ST : ∀ (wq : World), LyAt w1.heap.size s0 nE (fun i => nbE E i + 2) lb ob fb nB wq (cn + 1) F nB xv (fun j => if j = k3 then wayP en nb n3 b k3 else wayW E en nv k3 j) → LyAt w1.heap.size s0 nE (fun i => nbE E i + 2) lb ob fb nB (wq.setCell ⟨s0 + 2 * k3 + 1, b1, none⟩ (.int .i64 (cn : Int))) (n3 + b1) F nB xv (fun j => if j = k3 then wayP en nb n3 b1 k3 else wayW E en nv k3 j) := fun wq h => by
                      have h1 := h.told hlt3 b1 (cn : Int)
                      have e : (fun j => if j = k3 then ((fun j => if j = k3 then wayP en nb n3 b k3 else wayW E en nv k3 j) k3).set b1 (cn : Int) else (fun j => if j = k3 then wayP en nb n3 b k3 else wayW E en nv k3 j) j) = fun j => if j = k3 then wayP en nb n3 b1 k3 else wayW E en nv k3 j := by
                        funext j
                        by_cases hj : j = k3
                        · subst hj
                          rw [if_pos rfl, if_pos rfl]
                          simp only [if_true]
                          rw [← hb1, ← hcn, wayP_set (by omega)]
                        · rw [if_neg hj, if_neg hj]
                          simp only [if_neg hj]
                      rw [e] at h1
                      rw [show n3 + b1 = cn + 1 by omega]
                      exact h1
                    have WY' := Lib.hid WY
                    have WZ' := Lib.hid WZ
                    have ST' := Lib.hid ST
                    clear WY WZ ST hm hb1 hcn
                    go_upto_region 21 with (fail)
                    obtain ⟨l0, -, -, -⟩ := L6.out.at_
                    obtain ⟨s1, s2⟩ := WY'.out _ _ _ L6.out
                    obtain ⟨⟨u, t0⟩, t1, t2, t3, t4⟩ := WZ'.out _ _ L6.out
                    have hyB : Hid (w1.heap.size ≤ s0 + 2 * k3 + 1 ∧ s0 + 2 * k3 + 1 < s0 + 2 * nE) := Lib.hid (by have h := NM.out; omega)
                    generalize hyy : s0 + 2 * k3 + 1 = yy at *
                    clear hyy
                    go_region_held3 (fun w' => w'.cell? ⟨lb, 3, none⟩ = some (.slice (some ⟨ob, 0, none⟩) nE nE) ∧ w'.cell? ⟨ob, k3, none⟩ = some (.slice (some ⟨yy, 0, none⟩) m m))
                      (first | exact WY'.out _ _ _ (ST'.out _ L7.out) | exact WY'.out _ _ _ L7.out | exact ⟨s1, s2⟩ | go_keep)
                      ((first
                        | (go_at_call 37; have LD := L6.out.below (Below.refl _ _).drew (Nat.le_refl _); refine (takeY lb cn LD.at_.1 (LD.fr 0) (by omega)).mono ?_; rintro e w7 ⟨rfl, hw7⟩; have L7 : Hid (LyAt w1.heap.size s0 nE (fun i => nbE E i + 2) lb ob fb nB w7 (cn + 1) F nB xv (fun j => if j = k3 then wayP en nb n3 b k3 else wayW E en nv k3 j)) := Lib.hid (by rw [hw7]; exact LD.took _); have K7 : Hid (Kept w1.heap.size (s0 + 2 * nE) w4 w7) := Lib.hid (by rw [hw7]; exact (K6.out.trans (Kept.ofB (Below.refl _ _).drew)).set (p := ⟨lb, 0, none⟩) (show w1.heap.size ≤ lb by have h := NM.out; omega) (show lb < s0 + 2 * nE by have h := NM.out; omega) _); obtain ⟨⟨u7, t70⟩, t71, t72, t73, t74⟩ := WZ'.out _ _ L7.out; clear hw7 LD)))
                    all_goals
                      go_wp2_with fail
                      go_roundw
                      case rel => exact ⟨b1, rfl, by have h := HB1.out; omega, (by first | exact ST'.out _ L7.out | exact (ST'.out _ L7.out).below (Below.refl _ _).drew (Nat.le_refl _)), (by first | exact K7.out.set (p := ⟨yy, b1, none⟩) hyB.out.1 hyB.out.2 _ | exact (K7.out.set (p := ⟨yy, b1, none⟩) hyB.out.1 hyB.out.2 _).trans (Kept.ofB (Below.refl _ _).drew))⟩
                      case measure => (simp [intOf] <;> have h := HB1.out <;> omega)
                  · have hbn : b = nb := by omega
                    have q3 : decide (b < sk.size) = false := decide_eq_false hlt4
                    have LN : Hid (LyAt w1.heap.size s0 nE (fun i => nbE E i + 2) lb ob fb nB wr (nv + bndK E (k3 + 1)) F nB xv (wayW E en nv (k3 + 1))) := Lib.hid (by
                      have h := wayW_next E en nv k3
                      rw [NBE.out, N3.out] at h
                      rw [← h, show nv + bndK E (k3 + 1) = n3 + b by rw [bndK, NBE.out, ← N3.out]; omega]
                      have h6 := L6.out
                      rw [hbn] at h6 ⊢
                      exact h6)
                    clear hbn
                    go_wp2_with fail
                    go_roundw
                    case rel => exact ⟨k3 + 1, by go_num, by omega, LN.out, K6.out⟩
                    case measure => (simp [intOf] <;> omega)
              · have hkn3 : k3 = nE := by omega
                have q2 : decide (k3 < nE) = false := decide_eq_false hlt3
                rw [hkn3] at L3
                clear hkn3
                have R3 := B5.out.block rb (Array.getElem?_eq_some_iff.1 RB.out).1
                have hrb : wr.heap[rb]? = some (.cells #[.int .i64 0, .slice none 0 0, .slice none 0 0, .slice none 0 0] 64 (0, 0)) := R3.trans RB.out
                have r0 : wr.cell? ⟨rb, 0, none⟩ = some (.int .i64 0) := by simp [World.cell?, hrb]
                have r1 : wr.cell? ⟨rb, 1, none⟩ = some (.slice none 0 0) := by simp [World.cell?, hrb]
                have r2 : wr.cell? ⟨rb, 2, none⟩ = some (.slice none 0 0) := by simp [World.cell?, hrb]
                have r3 : wr.cell? ⟨rb, 3, none⟩ = some (.slice none 0 0) := by simp [World.cell?, hrb]
                have rf : ∀ j, wr.frozen? ⟨rb, j, none⟩ = false := fun j => by
                  simp only [World.frozen?, hrb]
                  simp
                have rf0 := rf 0
                have rf1 := rf 1
                have rf2 := rf 2
                have rf3 := rf 3
                have rl := (Array.getElem?_eq_some_iff.1 hrb).1
                obtain ⟨tot, htot⟩ : ∃ n, nv + bndK E nE = n := ⟨_, rfl⟩
                have TOT := Lib.hid htot
                rw [htot] at L3
                have X9 := Lib.hid (XV.out.kept K3.out)
                obtain ⟨AX, cX, eX⟩ := XV.out.form
                obtain ⟨nX, hnX⟩ : ∃ n, X.length = n := ⟨_, rfl⟩
                rw [hnX] at eX
                subst eX
                obtain ⟨l0, l1, l2, l3⟩ := L3.out.at_
                have ll := L3.out.lt
                have B9 := Lib.hid (B1.out.trans (B5.out.mono B1.out.size))
                have NM := Lib.hid L3.out.nums
                clear R3 hrb rf htot hnX
                go_wp2_with fail
                have OX : Out (fun b => b = rb) wr ((((wr.setCell ⟨rb, 0, none⟩ (.int .i64 tot)).setCell ⟨rb, 1, none⟩ (.slice (some ⟨fb, 0, none⟩) nB nB)).setCell ⟨rb, 2, none⟩ (.slice AX nX cX)).setCell ⟨rb, 3, none⟩ (.slice (some ⟨ob, 0, none⟩) nE nE)) := ((((Out.refl _ wr).setIn 0 _).setIn 1 _).setIn 2 _).setIn 3 _
                refine bodyPost_ret (v := .agg #[.int .i64 tot, .slice (some ⟨fb, 0, none⟩) nB nB, .slice AX nX cX, .slice (some ⟨ob, 0, none⟩) nE nE]) (by simp [results, Tryd.results19, go_sem, r0, r1, r2, r3]) rfl ⟨w1.heap.size, s0, lb, ob, fb, .slice AX nX cX, X, by rw [CV.out, TOT.out], B1.out.size, ?_, X9.out.kept (B := 0) (OX.mono (fun i _ e => ⟨Nat.zero_le _, by have h1 := RBW.out; have h2 := NM.out; omega⟩)), XB.out, B9.out.trans (OX.below B9.out.size (fun i _ e => by have h1 := RBW.out; omega))⟩
                rw [CV.out, TOT.out, SF.out, EN.out]
                exact L3.out.under OX (fun b e => by have h1 := RBW.out; omega)
end Go.Proofs.YtecifgaekefkpaaDoor
