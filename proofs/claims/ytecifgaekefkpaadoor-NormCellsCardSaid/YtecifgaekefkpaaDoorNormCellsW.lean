/-
  NormCells: the walk: of every shape the call answers true and turns nothing that was there. Conditions: the borders read as the program lays them.
-/
import Derived.Test.YtecifgaekefkpaaDoorNormTellsW
import Derived.Test.YtecifgaekefkpaaDoorNdAll
import Derived.Test.YtecifgaekefkpaaDoorNcT
import Derived.Test.YtecifgaekefkpaaDoorNzRc
import Derived.Test.YtecifgaekefkpaaDoorNzPb
import Derived.BigQuiet
import Derived.Deep.DeepMust
namespace Go.Proofs.YtecifgaekefkpaaDoor
open Go.RowKit Go.Proofs.YtecifgaekefkpaaDoor.LexM Go.Proofs.YtecifgaekefkpaaDoor.ParM Go.Proofs.YtecifgaekefkpaaDoor.GrM Go.Proofs.YtecifgaekefkpaaDoor.NmM

theorem wr_zero {B : List Bool} {E : List Edg} (hM : May B E) (hz : wrN B E = 0) : ¬ TwoOn B E ∧ ¬ SelfT B E := by
  have hc := cnt_of_wr hz
  have h1 : ¬ TwoOn B E := fun h => by rw [wr_two (chk_ok hM) hc h] at hz; cases hz
  exact ⟨h1, fun h => by rw [wr_self (chk_ok hM) hc h1 h] at hz; cases hz⟩
theorem way_mid (B : List Bool) (E : List Edg) {i : Nat} (hi : i < E.length) : ∀ k, k < nbE E i → (wayS B E i).getD (k + 1) 0 = ((cntV B E B.length + bndK E i + k : Nat) : Int) := fun k hk => by
  rw [way_y B hi (Nat.le_of_lt hk)]
  unfold yE
  rw [if_neg (by omega)]
theorem mine_le (L : List Int) : ∀ n, mineF L n ≤ n
  | 0 => Nat.le_refl _
  | n + 1 => by have := mine_le L n; rw [mineF]; split <;> omega
theorem cell_block {w w' : World} {pb a d : Nat} {L : List Int} {T : TypeId} (h : w.heap[pb]? = some (.cells #[.int .i64 (nxG L a 0), .int .i64 (nxG L a 1), .int .i64 (nxG L a 2), .int .i64 (nxG L a 3), .int .i64 (owG L a 0), .int .i64 (owG L a 1), .int .i64 (owG L a 2), .int .i64 (owG L a 3)] T (0, 0))) (o : Below w.heap.size w w') (hd : d < 4) :
    w'.cell? ⟨pb, d, none⟩ = some (.int .i64 (nxG L a d)) ∧ w'.cell? ⟨pb, 4 + d, none⟩ = some (.int .i64 (owG L a d)) ∧ pb < w'.heap.size := by
  have h' := (o.block pb (Array.getElem?_eq_some_iff.1 h).1).trans h
  have hc : d = 0 ∨ d = 1 ∨ d = 2 ∨ d = 3 := by omega
  refine ⟨?_, ?_, (Array.getElem?_eq_some_iff.1 h').1⟩
  · rcases hc with rfl | rfl | rfl | rfl <;> simp [World.cell?, h']
  · rcases hc with rfl | rfl | rfl | rfl <;> simp [World.cell?, h']
structure N4 (w : World) (A1 : Option Addr) (c1 : Nat) (A2 : Option Addr) (c2 : Nat) (A3 : Option Addr) (c3 : Nat) (L : List Int) (n : Nat) (F : List Int) (nB : Nat) (W : Nat → List Int) (nE : Nat) : Prop where
  cel : CelAt w (.slice A1 n c1) L n
  fst : ZsAt w (.slice A2 nB c2) F nB
  rws : ∃ B, RwsZ w B (.slice A3 nE c3) W nE
theorem N4.below {w w' : World} {C c1 c2 c3 n nB nE : Nat} {A1 A2 A3 : Option Addr} {L F : List Int} {W : Nat → List Int} (h : N4 w A1 c1 A2 c2 A3 c3 L n F nB W nE) (o : Below C w w') (hC : w.heap.size ≤ C) : N4 w' A1 c1 A2 c2 A3 c3 L n F nB W nE :=
  ⟨h.cel.below o hC, h.fst.below o hC, h.rws.imp fun _ q => q.below o hC⟩
theorem normYes4 {w : World} (bv ev : Value) (B : List Bool) (E : List Edg) (hB : BlsAt w bv B) (hE : EdsAt w ev E) (hM : May B E) (hT : BorT w) (hz : wrN B E = 0) :
    Calls Tryd.prog 7 #[.agg #[bv, ev]] w fun e w' => (∃ A1 c1 A2 c2 A3 c3, e = .returned (.tuple #[.agg #[.slice A1 (cntN B E) c1, .slice A2 B.length c2, .slice A3 E.length c3], .int .i64 0]) ∧ N4 w' A1 c1 A2 c2 A3 c3 (celS B E) (cntN B E) (fstS B E) B.length (wayS B E) E.length) ∧ Below w.heap.size w w' := by
  refine (normOf bv ev _ _ hB hE hM hT).mono ?_
  rintro e w' ⟨hb, ⟨h, _⟩ | ⟨_, cv, fv, wv, rfl, hN⟩⟩
  · exact absurd hz h
  · have h1 := hN.cel
    have h2 := hN.fst
    have h3 := hN.way
    obtain ⟨A1, c1, rfl⟩ := h1.form
    obtain ⟨A2, c2, rfl⟩ := h2.form
    obtain ⟨A3, c3, rfl⟩ := h3.form
    exact ⟨⟨A1, c1, A2, c2, A3, c3, rfl, h1.cel, h2.zs, _, h3⟩, hb⟩
/-- An edge's way in memory, with its room. -/
theorem N4.row {w : World} {c1 c2 c3 n nB nE i : Nat} {A1 A2 A3 : Option Addr} {L F : List Int} {W : Nat → List Int} (h : N4 w A1 c1 A2 c2 A3 c3 L n F nB W nE) (hi : i < nE) (hl : 0 < (W i).length) :
    ∃ b o g c, A3 = some ⟨b, o, none⟩ ∧ b < w.heap.size ∧ w.cell? ⟨b, o + i, none⟩ = some (.slice (some ⟨g, 0, none⟩) (W i).length c) ∧ (W i).length ≤ c ∧ g < w.heap.size ∧ ∀ k, k < (W i).length → w.cell? ⟨g, k, none⟩ = some (.int .i64 ((W i).getD k 0)) := by
  obtain ⟨B, A, c, e, hA⟩ := h.rws
  simp only [Value.slice.injEq, true_and] at e
  obtain ⟨rfl, rfl⟩ := e
  obtain ⟨b, o, rfl, hb, hc⟩ := hA (by omega)
  obtain ⟨A', m, c', g1, g2⟩ := hc i hi
  obtain ⟨q1, q2⟩ := g2
  have q2' := q2
  rcases q2.2 with ⟨_, h0⟩ | ⟨g, cap, cur, e, _, hg, hn, _⟩
  · omega
  · simp only [Value.slice.injEq, true_and] at e
    obtain ⟨rfl, rfl⟩ := e
    rw [← q1] at g1 hn
    refine ⟨b, o, g, c', rfl, hb, g1, hn, (Array.getElem?_eq_some_iff.1 hg).1, fun k hk => ?_⟩
    rw [World.ownsRow.cellAt q2' k (by omega)]
    simp [intV, List.getD_eq_getElem?_getD, hk]
theorem want_le (E : List Edg) (v : Int) : ∀ k, wantF E v k ≤ 2 * k
  | 0 => Nat.le_refl _
  | k + 1 => by have := want_le E v k; rw [wantF]; split <;> split <;> omega
theorem bs_len (l : List UInt8) : (bs l).size = l.length := by unfold bs; simp [ByteArray.size]
theorem bend_small {B : List Bool} {E : List Edg} (h : Smal8 B E) : bendsOf E ≤ 4096 := h.may.bs
def CeA (L : List Int) (n : Nat) (w0 wr : World) (mv iv : Value) : Prop := ∃ a : Nat, iv = .int .i64 a ∧ a ≤ n ∧ mv = .int .i64 (mineF L (4 * a) : Nat) ∧ Below w0.heap.size w0 wr
def CeB (L : List Int) (a : Nat) (w0 wr : World) (mv iv : Value) : Prop := ∃ d : Nat, iv = .int .i64 d ∧ d ≤ 4 ∧ mv = .int .i64 (mineF L (4 * a + d) : Nat) ∧ Below w0.heap.size w0 wr
def CeC (E : List Edg) (w0 wr : World) (bv iv : Value) : Prop := ∃ i : Nat, iv = .int .i64 i ∧ i ≤ E.length ∧ bv = .int .i64 (bndK E i : Nat) ∧ Below w0.heap.size w0 wr
def CeD (n : Nat) (w0 wr : World) (iv : Value) : Prop := ∃ i : Nat, iv = .int .i64 i ∧ i ≤ n ∧ Below w0.heap.size w0 wr
def CeE (E : List Edg) (v : Nat) (w0 wr : World) (kv iv : Value) : Prop := ∃ i : Nat, iv = .int .i64 i ∧ i ≤ E.length ∧ kv = .int .i64 (wantF E v i : Nat) ∧ Below w0.heap.size w0 wr
set_option maxHeartbeats 16000000 in
set_option maxRecDepth 100000 in
theorem cells11 (bv : Value) (ZB : List Bool) (A : Option Addr) (n cap : Nat) (D : Nat → Int × Int × Int) (A2 : Option Addr) (n2 cap2 : Nat) (D2 : Nat → Int) (w : World) (hT : BorT w) (hB : BlsAt w bv ZB) (hD : Tri8 w A n D) (hY : Byt8 w A2 n2 D2) :
    Calls Tryd.prog 4 #[.agg #[bv, .slice A n cap, .slice A2 n2 cap2]] w fun e w' => e = .returned (.bool true) ∧ Below w.heap.size w w' := by
  have HT := Lib.hid hT
  have HB := Lib.hid hB
  have HD := Lib.hid hD
  have HY := Lib.hid hY
  have MK := Lib.hid (fun W hb hd hy => refMake8 bv ZB A n cap D A2 n2 cap2 D2 W hb hd hy)
  have WK := Lib.hid wakes11
  clear hT hB hD hY
  go_enter Tryd.func4, Tryd.ntmps4
  go_wp2_with (fail)
  generalize hwa : World.alloc w _ = wa
  have ba : Below w.heap.size w wa := by rw [← hwa]; exact (Below.refl _ _).alloc (Nat.le_refl _) _
  have BA := Lib.hid ba
  clear hwa ba
  refine (MK.out wa (HB.out.below BA.out (Nat.le_refl _)) (HD.out.below BA.out) (HY.out.below BA.out)).mono ?_
  rintro e w1 ⟨S1, m1, c1, S2, m2, c2, B, E, rfl, hm1, hm2, hb1, he1, hS, b1⟩
  have B1 : Hid (Below w.heap.size w w1) := Lib.hid (BA.out.trans (b1.mono BA.out.size))
  have HB1 := Lib.hid hb1.bls
  have HE1 := Lib.hid he1.eds
  have MM := Lib.hid hS.may
  have SM := Lib.hid hS
  have hm12 : m2 ≤ 16 := by rw [← hm2]; exact hS.es
  have hm6 : m1 ≤ 8 := by rw [← hm1]; exact hS.vs
  have LB := Lib.hid hm1
  have LE := Lib.hid hm2
  by_cases hz : wrN B E = 0
  · have P1 := Lib.hid (fun w bv ev hB hE hT => normYes4 (w := w) bv ev B E hB hE MM.out hT hz)
    have hcn : cntN B E ≤ 4096 := cnt_of_wr hz
    have hW := wr_zero MM.out hz
    have G0 := Lib.hid (chk_good.2 ⟨hcn, (celS_good B E).2⟩)
    have GM := Lib.hid (mine_all MM.out hW.1 hW.2)
    have GO := Lib.hid (fun a e ha he h => ow_fine (B := B) (E := E) (a := a) (e := e) MM.out hW.1 hW.2 ha he h)
    have GB := Lib.hid (fun i k hi hk => dg_bend (B := B) (E := E) (i := i) (k := k) MM.out hW.1 hW.2 hi hk)
    have GX := Lib.hid (fun v hv hb => dg_box (B := B) (E := E) (v := v) MM.out hW.1 hW.2 hv hb)
    have GP := Lib.hid (fun (v : Nat) (hv : v < B.length) (hb : B.getD v false = false) => And.intro (dg_point MM.out hW.1 hW.2 hv hb).1 ((dg_point MM.out hW.1 hW.2 hv hb).2.trans (want_is MM.out (v : Int)).symm))
    have GF := Lib.hid (fun v hv => fst_at (B := B) (E := E) (v := v) hv)
    have GW := Lib.hid (fun i hi => And.intro (wayS_len B E (j := i) hi) (way_mid B E (i := i) hi))
    clear hW
    rw [hm1, hm2] at P1
    obtain ⟨nC, hnC⟩ : ∃ k, cntN B E = k := ⟨_, rfl⟩
    rw [hnC] at P1 hcn G0 GM GO GB GX GP
    obtain ⟨L, hL⟩ : ∃ k, celS B E = k := ⟨_, rfl⟩
    rw [hL] at P1 G0 GM GO GB GX GP
    obtain ⟨F, hF⟩ : ∃ k, fstS B E = k := ⟨_, rfl⟩
    rw [hF] at P1 GF
    obtain ⟨W, hWW⟩ : ∃ k, wayS B E = k := ⟨_, rfl⟩
    rw [hWW] at P1 GW
    clear hz hm1 hm2 hb1 he1 b1 hS MK HB HD HY hnC hL hF hWW
    go_wp2_with (fail)
    generalize hws : World.alloc w1 _ = ws
    have bs1 : Below w1.heap.size w1 ws := by rw [← hws]; exact (Below.refl _ _).alloc (Nat.le_refl _) _
    have hks : ws.heap[w1.heap.size]? = some (.cells #[.slice S1 m1 c1, .slice S2 m2 c2] 29 (0, 0)) := by rw [← hws]; exact heap_alloc_new w1 _
    have BS : Hid (Below w.heap.size w ws) := Lib.hid (B1.out.trans (bs1.mono B1.out.size))
    have HBs := Lib.hid (HB1.out.below bs1 (Nat.le_refl _))
    have HEs := Lib.hid (HE1.out.below bs1 (Nat.le_refl _))
    have KS := Lib.hid hks
    clear hws bs1 hks B1 HB1 HE1 BA
    generalize w1.heap.size = ps at *
    refine (P1.out ws _ _ HBs.out HEs.out (HT.out.below BS.out (Nat.le_refl _))).mono ?_
    rintro e w2 ⟨⟨A1, k1, A2, k2, A3, k3, rfl, hN⟩, b2⟩
    have B2 := Lib.hid b2
    have HN2 := Lib.hid hN
    clear b2 hN
    go_upto_region 3 with (fail)
    generalize hwn : World.alloc w2 _ = wn
    have bn : Below w2.heap.size w2 wn := by rw [← hwn]; exact (Below.refl _ _).alloc (Nat.le_refl _) _
    have hkn : wn.heap[w2.heap.size]? = some (.cells #[.slice A1 nC k1, .slice A2 m1 k2, .slice A3 m2 k3] 35 (0, 0)) := by rw [← hwn]; exact heap_alloc_new w2 _
    have KN := Lib.hid hkn
    have HN3 := Lib.hid (HN2.out.below bn (Nat.le_refl _))
    have BN : Hid (Below ws.heap.size ws wn) := Lib.hid (B2.out.trans (bn.mono B2.out.size))
    clear hwn hkn bn HN2 B2
    generalize w2.heap.size = pn at *
    have BW : Hid (Below w.heap.size w wn) := Lib.hid (BS.out.trans (BN.out.mono BS.out.size))
    have HBn := Lib.hid (HBs.out.below BN.out (Nat.le_refl _))
    have HEn := Lib.hid (HEs.out.below BN.out (Nat.le_refl _))
    clear P1 HBs HEs
    go_upto_region 5 with (go_at_call 9; go_must (refine (WK.out wn (HT.out.below BW.out (Nat.le_refl _))).mono ?_; rintro e w4 ⟨rfl, b4⟩; have BN4 := Lib.hid b4; have B4 : Hid (Below w.heap.size w w4) := Lib.hid (BW.out.trans (b4.mono BW.out.size)); clear b4))
    have BS4 := Lib.hid (BN.out.trans (BN4.out.mono BN.out.size))
    have XS := Lib.hid (fun wq (b : Below w4.heap.size w4 wq) => shape_block KS.out (BS4.out.trans (b.mono BS4.out.size)) (Nat.le_refl _))
    have XN := Lib.hid (fun wq (b : Below w4.heap.size w4 wq) => norm_block KN.out (BN4.out.trans (b.mono BN4.out.size)) (Nat.le_refl _))
    have HEQ := Lib.hid (fun wq (b : Below w4.heap.size w4 wq) => HEn.out.below (BN4.out.trans (b.mono BN4.out.size)) (Nat.le_refl _))
    have HBQ := Lib.hid (fun wq (b : Below w4.heap.size w4 wq) => HBn.out.below (BN4.out.trans (b.mono BN4.out.size)) (Nat.le_refl _))
    have HNQ := Lib.hid (fun wq (b : Below w4.heap.size w4 wq) => HN3.out.below (BN4.out.trans (b.mono BN4.out.size)) (Nat.le_refl _))
    clear KS KN BS4 BN4 HEn HBn HN3 BN BW BS HT WK
    obtain ⟨x0, x1, xl⟩ := XS.out w4 (Below.refl _ _)
    obtain ⟨y0, y1, y2, yl⟩ := XN.out w4 (Below.refl _ _)
    have CK := Lib.hid (fun wq (b : Below w4.heap.size w4 wq) => refCheckG _ L nC wq (HNQ.out wq b).cel (by omega))
    rw [G0.out] at CK
    have CEL := Lib.hid (fun wq (b : Below w4.heap.size w4 wq) => (HNQ.out wq b).cel)
    go_upto_region 8 with (go_at_call 13; go_must (refine (CK.out w4 (Below.refl _ _)).mono ?_; rintro e w5 ⟨rfl, b5⟩; have B5 := Lib.hid b5; obtain ⟨z0, z1, zl⟩ := XS.out w5 b5; obtain ⟨v0, v1, v2, vl⟩ := XN.out w5 b5; clear b5))
    clear x0 x1 xl y0 y1 y2 yl CK G0
    go_wp2_with fail
    clear z0 z1 zl v0 v1 v2 vl
    go_loopw [6, 61] (fun mv iv wr => CeA L nC w5 wr mv iv) (fun _ iv _ => nC - (intOf iv).toNat)
    case atStart => exact ⟨0, rfl, Nat.zero_le _, rfl, Below.refl _ _⟩
    case round =>
      obtain ⟨a, rfl, han, rfl, hC⟩ := hrel
      have C := Lib.hid hC
      have C4 := Lib.hid (B5.out.trans (hC.mono B5.out.size))
      by_cases hat : a < nC
      · have q0 : decide (a < nC) = true := decide_eq_true hat
        obtain ⟨b, o9, c', e, hb, hx, hy⟩ := (CEL.out wr C4.out).nth hat
        simp only [Value.slice.injEq, true_and] at e
        obtain ⟨rfl, rfl⟩ := e
        have f0 : wr.cell? ⟨b, o9 + a * 8, none⟩ = some (.int .i64 (nxG L a 0)) := hx 0 (by decide)
        have f1 := hx 1 (by decide)
        have f2 := hx 2 (by decide)
        have f3 := hx 3 (by decide)
        have f4 : wr.cell? ⟨b, o9 + a * 8 + 4, none⟩ = some (.int .i64 (owG L a 0)) := hy 0 (by decide)
        have f5 : wr.cell? ⟨b, o9 + a * 8 + 5, none⟩ = some (.int .i64 (owG L a 1)) := hy 1 (by decide)
        have f6 : wr.cell? ⟨b, o9 + a * 8 + 6, none⟩ = some (.int .i64 (owG L a 2)) := hy 2 (by decide)
        have f7 : wr.cell? ⟨b, o9 + a * 8 + 7, none⟩ = some (.int .i64 (owG L a 3)) := hy 3 (by decide)
        have hmb := mine_le L (4 * a)
        obtain ⟨mm, hmm⟩ : ∃ k, mineF L (4 * a) = k := ⟨_, rfl⟩
        rw [hmm] at hmb
        rw [hmm]
        have MI := Lib.hid hmm
        clear hx hy hC hmm
        go_upto_region 12 with fail
        generalize hwp : World.alloc wr _ = wp
        have bp : Below wr.heap.size wr wp := by rw [← hwp]; exact (Below.refl _ _).alloc (Nat.le_refl _) _
        have kp : wp.heap[wr.heap.size]? = some (.cells #[.int .i64 (nxG L a 0), .int .i64 (nxG L a 1), .int .i64 (nxG L a 2), .int .i64 (nxG L a 3), .int .i64 (owG L a 0), .int .i64 (owG L a 1), .int .i64 (owG L a 2), .int .i64 (owG L a 3)] 51 (0, 0)) := by rw [← hwp]; exact heap_alloc_new wr _
        have PX := Lib.hid (fun d wq (hd : d < 4) (b : Below wp.heap.size wp wq) => cell_block (L := L) (a := a) (d := d) kp b hd)
        have CP : Hid (Below w5.heap.size w5 wp) := Lib.hid (C.out.trans (bp.mono C.out.size))
        clear hwp kp bp f0 f1 f2 f3 f4 f5 f6 f7
        generalize wr.heap.size = pb at *
        go_wp2_with fail
        go_loopw [6, 65] (fun mv dv wq => CeB L a wp wq mv dv) (fun _ dv _ => 4 - (intOf dv).toNat)
        case atStart => exact ⟨0, rfl, Nat.zero_le _, by rw [Nat.add_zero, MI.out], Below.refl _ _⟩
        case round =>
          obtain ⟨d, rfl, hd4, rfl, hD⟩ := hrel
          have DD := Lib.hid hD
          have hmb2 := mine_le L (4 * a + d)
          have MS : Hid (mineF L (4 * a + (d + 1)) = mineF L (4 * a + d) + if isMine L ((4 * a + d) / 4) ((4 * a + d) % 4) = true then 1 else 0) := Lib.hid rfl
          obtain ⟨m3, hm3⟩ : ∃ k, mineF L (4 * a + d) = k := ⟨_, rfl⟩
          rw [hm3] at hmb2 MS
          rw [hm3]
          by_cases hdt : d < 4
          · have q1 : decide (d < 4) = true := decide_eq_true hdt
            have q1' : decide ((d : Int) < 4) = true := decide_eq_true (by omega)
            obtain ⟨g0, g1, g2⟩ := PX.out d wr hdt hD
            have ms := MS.out
            rw [show (4 * a + d) / 4 = a by omega, show (4 * a + d) % 4 = d by omega] at ms
            have go := GO.out a d hat hdt
            unfold isMine at ms
            generalize nxG L a d = y at *
            generalize owG L a d = o at *
            clear MS hm3 hD
            by_cases hy : 0 ≤ y
            · have q2 := decide_eq_true hy
              by_cases ho : 0 ≤ o
              · have q3 := decide_eq_true ho
                have q4 : (o == -2) = false := by rw [beq_eq_false_iff_ne]; omega
                have M1 : Hid (mineF L (4 * a + (d + 1)) = m3 + 1) := Lib.hid (by rw [ms, q2, q3]; rfl)
                clear ms go
                go_wp2_with fail
                go_roundw
                case rel => exact ⟨d + 1, by go_num, by omega, by rw [M1.out]; (try go_num), DD.out⟩
                case measure => (simp [intOf] <;> omega)
              · have q3 := decide_eq_false ho
                have ho1 : o = -1 := by have := go hy; omega
                have M1 : Hid (mineF L (4 * a + (d + 1)) = m3) := Lib.hid (by rw [ms, q3]; simp)
                clear ms go q3 ho
                subst ho1
                go_wp2_with fail
                go_roundw
                case rel => exact ⟨d + 1, by go_num, by omega, by rw [M1.out], DD.out⟩
                case measure => (simp [intOf] <;> omega)
            · have q2 := decide_eq_false hy
              have M1 : Hid (mineF L (4 * a + (d + 1)) = m3) := Lib.hid (by rw [ms, q2]; simp)
              clear ms go
              go_wp2_with fail
              go_roundw
              case rel => exact ⟨d + 1, by go_num, by omega, by rw [M1.out], DD.out⟩
              case measure => (simp [intOf] <;> omega)
          · have hde : d = 4 := by omega
            subst hde
            have M4 : Hid (m3 = mineF L (4 * (a + 1))) := Lib.hid (by rw [← hm3]; congr 1)
            clear MS hm3 hD
            go_wp2_with fail
            go_roundw
            case rel => exact ⟨a + 1, by go_num, by omega, by rw [M4.out], CP.out.trans (DD.out.mono CP.out.size)⟩
            case measure => (simp [intOf] <;> omega)
      · have hae : nC = a := by omega
        subst hae
        have q0 : decide (nC < nC) = false := decide_eq_false hat
        rw [GM.out]
        have hbe := bend_small SM.out
        obtain ⟨M, hM⟩ : ∃ k, 2 * (E.length + bendsOf E) = k := ⟨_, rfl⟩
        have HM := Lib.hid hM
        rw [hM]
        have hMs : M ≤ 10000 := by have := LE.out; omega
        clear hM
        go_upto_region 21 with fail
        obtain ⟨wo, hwo⟩ : ∃ W, W = wr := ⟨_, rfl⟩
        subst hwo
        obtain ⟨z0, z1, zl⟩ := XS.out wo C4.out
        clear hC q0
        go_wp2_with fail
        clear z0 z1 zl
        go_loopw [7, 100] (fun bv iv wr => CeC E wo wr bv iv) (fun _ iv _ => m2 - (intOf iv).toNat)
        case atStart => exact ⟨0, rfl, Nat.zero_le _, rfl, Below.refl _ _⟩
        case round =>
          obtain ⟨i, rfl, hi', rfl, hD⟩ := hrel
          rw [LE.out] at hi'
          have DD := Lib.hid hD
          have D4 := Lib.hid (C4.out.trans (hD.mono C4.out.size))
          by_cases hit : i < m2
          · have q0 : decide (i < m2) = true := decide_eq_true hit
            have hiE : i < E.length := by rw [LE.out]; exact hit
            obtain ⟨be, oe, rfl, hbe2, e0, e1, e2, e3⟩ := (HEQ.out wr D4.out).one hiE
            obtain ⟨v0, v1, v2, vl⟩ := XN.out wr D4.out
            obtain ⟨gw1, gw2⟩ := GW.out i hiE
            obtain ⟨bw, ow, gb, c', rfl, hbw, g1, hcap, hgb, gc⟩ := (HNQ.out wr D4.out).row hit (by rw [gw1]; omega)
            rw [gw1] at g1 hcap gc
            have gc2 : ∀ k, k < nbE E i → wr.cell? ⟨gb, k + 1, none⟩ = some (.int .i64 ((cntV B E B.length + bndK E i + k : Nat) : Int)) := fun k hk => by rw [gc (k + 1) (by omega), gw2 k hk]
            have hnb : nbE E i = E[i].2.2.2.length := by
              unfold nbE
              rw [show E.getD i noE = E[i] by rw [List.getD_eq_getElem?_getD, List.getElem?_eq_getElem hiE]; rfl]
            have hsz : (bs E[i].2.2.2).size = nbE E i := by rw [hnb]; exact bs_len _
            have hbk : bndK E (i + 1) ≤ 4096 := Nat.le_trans (bndK_le (by omega)) (by rw [bndK_all]; exact hbe)
            have hb1 : bndK E (i + 1) = bndK E i + nbE E i := rfl
            have GBI := Lib.hid (fun k hk => GB.out i k hiE hk)
            obtain ⟨b0, hb0⟩ : ∃ k, bndK E i = k := ⟨_, rfl⟩
            obtain ⟨nb, hnb2⟩ : ∃ k, nbE E i = k := ⟨_, rfl⟩
            rw [hb0, hnb2] at hb1
            rw [hnb2] at hsz g1 gc2 GBI hcap
            rw [hb0] at gc2 GBI
            have GC := Lib.hid gc2
            rw [hb0]
            have BN1 := Lib.hid hb1
            have hbn : b0 + nb ≤ 4096 := by omega
            generalize E[i].1 = p1 at *
            generalize E[i].2.1 = p2 at *
            generalize E[i].2.2.1 = p3 at *
            generalize bs E[i].2.2.2 = ss at *
            clear gw1 gw2 gc gc2 hnb hb0 hnb2 hb1 hbk hD v0 v1
            go_upto_region 24 with fail
            generalize hwp : World.alloc wr _ = wp
            have bp : Below wr.heap.size wr wp := by rw [← hwp]; exact (Below.refl _ _).alloc (Nat.le_refl _) _
            have kp : wp.heap[wr.heap.size]? = some (.cells #[.int .i64 p1, .int .i64 p2, .int .i64 p3, .string ss] 54 (0, 0)) := by rw [← hwp]; exact heap_alloc_new wr _
            have kb : wp.cell? ⟨wr.heap.size, 3, none⟩ = some (.string ss) := by simp [World.cell?, kp]
            have kl : wr.heap.size < wp.heap.size := (Array.getElem?_eq_some_iff.1 kp).1
            have v2' := (bp.cell (p := ⟨pn, 2, none⟩) vl).trans v2
            have g1' := (bp.cell (p := ⟨bw, ow + i, none⟩) hbw).trans g1
            have DP := Lib.hid (D4.out.trans (bp.mono D4.out.size))
            have OP := Lib.hid (DD.out.trans (bp.mono DD.out.size))
            have GC2 := Lib.hid (fun k wq (hk : k < nb) (b : Below wp.heap.size wp wq) => (b.cell (p := ⟨gb, k + 1, none⟩) (Nat.lt_of_lt_of_le hgb bp.size)).trans ((bp.cell (p := ⟨gb, k + 1, none⟩) hgb).trans (GC.out k hk)))
            have vl' := Nat.lt_of_lt_of_le vl bp.size
            have hbw' := Nat.lt_of_lt_of_le hbw bp.size
            clear hwp kp bp e0 e1 e2 e3 v2 g1 vl hbw hgb GC hbe2
            generalize wr.heap.size = peb at *
            go_wp2_with fail
            have h2 : nb + 2 - 1 - 1 = nb := by omega
            rw [h2]
            clear h2
            go_loopw [128] (fun jv wq => CeD nb wp wq jv) (fun jv _ => nb - (intOf jv).toNat)
            case atStart => exact ⟨0, rfl, Nat.zero_le _, Below.refl _ _⟩
            case round =>
              obtain ⟨j, rfl, hj, hF⟩ := hrel
              have FF := Lib.hid hF
              by_cases hjt : j < nb
              · have q1 : decide (j < nb) = true := decide_eq_true hjt
                have gcj := GC2.out j wr hjt hF
                rw [Nat.add_comm j 1] at gcj
                have F4 := DP.out.trans (hF.mono DP.out.size)
                obtain ⟨y0, -, -, -⟩ := XN.out wr F4
                obtain ⟨gb1, gb2⟩ := GBI.out j hjt
                obtain ⟨x, hx⟩ : ∃ x, cntV B E B.length + b0 + j = x := ⟨_, rfl⟩
                rw [hx] at gcj gb1 gb2
                have dg := degY pn x nC A1 k1 L wr y0 (CEL.out wr F4) gb1
                rw [gb2] at dg
                have DG := Lib.hid dg
                have eg := enters_of Tryd.func14 (by kernel_rfl) rfl
                clear hx dg gb2 F4 y0 hF
                go_wp2_with (first
                  | (go_at_fn 14; go_must (refine DG.out.mono ?_; rintro e w6 ⟨rfl, rfl⟩))
                  | (go_at_call 14; go_must (refine DG.out.mono ?_; rintro e w6 ⟨rfl, rfl⟩)))
                go_roundw
                case rel => exact ⟨j + 1, by go_num, by omega, FF.out⟩
                case measure => (simp [intOf] <;> omega)
              · have hje : nb = j := by omega
                subst hje
                have q1 : decide (nb < nb) = false := decide_eq_false hjt
                clear hF
                go_wp2_with fail
                go_roundw
                case rel => exact ⟨i + 1, by go_num, by rw [LE.out]; omega, by rw [BN1.out]; (try go_num), OP.out.trans (FF.out.mono OP.out.size)⟩
                case measure => (simp [intOf] <;> omega)
          · have hie : m2 = i := by omega
            subst hie
            have q0 : decide (m2 < m2) = false := decide_eq_false hit
            have hbb : bndK E m2 = bendsOf E := by rw [← LE.out]; exact bndK_all E
            rw [hbb]
            obtain ⟨bd, hbd⟩ : ∃ k, bendsOf E = k := ⟨_, rfl⟩
            have HBD := Lib.hid hbd
            rw [hbd] at hbe ⊢
            clear hbb hbd hD
            go_upto_region 35 with fail
            obtain ⟨wv, hwv⟩ : ∃ W, W = wr := ⟨_, rfl⟩
            subst hwv
            obtain ⟨z0, z1, zl⟩ := XS.out wv D4.out
            clear q0
            go_wp2_with fail
            clear z0 z1 zl
            go_loopw [141] (fun iv wr => CeD m1 wv wr iv) (fun iv _ => m1 - (intOf iv).toNat)
            case atStart => exact ⟨0, rfl, Nat.zero_le _, Below.refl _ _⟩
            case round =>
              obtain ⟨v, rfl, hv', hF⟩ := hrel
              have FF := Lib.hid hF
              have F4 := Lib.hid (D4.out.trans (hF.mono D4.out.size))
              by_cases hvt : v < m1
              · have q0 : decide (v < m1) = true := decide_eq_true hvt
                have hvB : v < B.length := by rw [LB.out]; exact hvt
                obtain ⟨bq, oq, cq, e, hbq, hcq⟩ := (HBQ.out wr F4.out).nth hvB
                rw [LB.out] at e
                simp only [Value.slice.injEq, true_and] at e
                obtain ⟨rfl, rfl⟩ := e
                have hbx : B.getD v false = B[v] := by rw [List.getD_eq_getElem?_getD, List.getElem?_eq_getElem hvB]; rfl
                have gx := GX.out v hvB
                have gp := GP.out v hvB
                have gf := GF.out v hvB
                rw [hbx] at gx gp
                obtain ⟨xb, hxb⟩ : ∃ x, B[v] = x := ⟨_, rfl⟩
                rw [hxb] at gx gp hcq
                have GXV := Lib.hid gx
                have GPV := Lib.hid gp
                have GFV := Lib.hid gf
                obtain ⟨z0, z1, zl⟩ := XS.out wr F4.out
                clear gx gp gf hbx hxb hF
                go_upto_region 39 with fail
                obtain ⟨wk, hwk⟩ : ∃ W, W = wr := ⟨_, rfl⟩
                subst hwk
                clear hcq hbq
                go_wp2_with fail
                clear z0 z1 zl q0
                go_loopw [19, 149] (fun kv iv wr => CeE E v wk wr kv iv) (fun _ iv _ => m2 - (intOf iv).toNat)
                case atStart => exact ⟨0, rfl, Nat.zero_le _, rfl, Below.refl _ _⟩
                case round =>
                  obtain ⟨i, rfl, hi', rfl, hK⟩ := hrel
                  rw [LE.out] at hi'
                  have KK := Lib.hid hK
                  have K4 := Lib.hid (F4.out.trans (hK.mono F4.out.size))
                  have hwb := want_le E v i
                  by_cases hit : i < m2
                  · have q0 : decide (i < m2) = true := decide_eq_true hit
                    have hiE : i < E.length := by rw [LE.out]; exact hit
                    obtain ⟨be, oe, rfl, hbe2, e0, e1, e2, e3⟩ := (HEQ.out wr K4.out).one hiE
                    have hst : wantF E v (i + 1) = wantF E v i + (if E[i].1 = (v : Int) then 1 else 0) + (if E[i].2.1 = (v : Int) then 1 else 0) := by
                      rw [wantF, show E.getD i noE = E[i] by rw [List.getD_eq_getElem?_getD, List.getElem?_eq_getElem hiE]; rfl]
                    obtain ⟨c0, hc0⟩ : ∃ c, wantF E v i = c := ⟨_, rfl⟩
                    rw [hc0] at hwb hst
                    rw [hc0]
                    generalize E[i].1 = p1 at *
                    generalize E[i].2.1 = p2 at *
                    generalize E[i].2.2.1 = p3 at *
                    generalize bs E[i].2.2.2 = ss at *
                    clear hc0 hK
                    by_cases a1 : p1 = (v : Int)
                    · by_cases a2 : p2 = (v : Int)
                      · have WS : Hid (wantF E v (i + 1) = c0 + 1 + 1) := Lib.hid (by rw [hst, if_pos a1, if_pos a2])
                        subst a1
                        subst a2
                        clear hst
                        go_wp2_with fail
                        go_roundw
                        case rel => exact ⟨i + 1, by go_num, by rw [LE.out]; omega, by rw [WS.out]; (try go_num), KK.out.alloc KK.out.size _⟩
                        case measure => (simp [intOf] <;> omega)
                      · have WS : Hid (wantF E v (i + 1) = c0 + 1) := Lib.hid (by rw [hst, if_pos a1, if_neg a2])
                        have r2 : (p2 == (v : Int)) = false := by rw [beq_eq_false_iff_ne]; exact a2
                        subst a1
                        clear hst a2
                        go_wp2_with fail
                        go_roundw
                        case rel => exact ⟨i + 1, by go_num, by rw [LE.out]; omega, by rw [WS.out]; (try go_num), KK.out.alloc KK.out.size _⟩
                        case measure => (simp [intOf] <;> omega)
                    · have r1 : (p1 == (v : Int)) = false := by rw [beq_eq_false_iff_ne]; exact a1
                      by_cases a2 : p2 = (v : Int)
                      · have WS : Hid (wantF E v (i + 1) = c0 + 1) := Lib.hid (by rw [hst, if_neg a1, if_pos a2])
                        subst a2
                        clear hst a1
                        go_wp2_with fail
                        go_roundw
                        case rel => exact ⟨i + 1, by go_num, by rw [LE.out]; omega, by rw [WS.out]; (try go_num), KK.out.alloc KK.out.size _⟩
                        case measure => (simp [intOf] <;> omega)
                      · have WS : Hid (wantF E v (i + 1) = c0) := Lib.hid (by rw [hst, if_neg a1, if_neg a2]; rfl)
                        have r2 : (p2 == (v : Int)) = false := by rw [beq_eq_false_iff_ne]; exact a2
                        clear hst a1 a2
                        go_wp2_with fail
                        go_roundw
                        case rel => exact ⟨i + 1, by go_num, by rw [LE.out]; omega, by rw [WS.out], KK.out.alloc KK.out.size _⟩
                        case measure => (simp [intOf] <;> omega)
                  · have hie : m2 = i := by omega
                    subst hie
                    have q0 : decide (m2 < m2) = false := decide_eq_false hit
                    obtain ⟨y0, y1, -, yl⟩ := XN.out wr K4.out
                    obtain ⟨-, Af, cf, e, hAf⟩ := (HNQ.out wr K4.out).fst
                    simp only [Value.slice.injEq, true_and] at e
                    obtain ⟨rfl, rfl⟩ := e
                    obtain ⟨bf, of_, rfl, hbf, hcf⟩ := hAf (by omega)
                    have hcg := hcf v hvt
                    rw [GFV.out] at hcg
                    clear hAf hcf
                    have eg := enters_of Tryd.func14 (by kernel_rfl) rfl
                    obtain ⟨x, hx⟩ : ∃ x, cntV B E v = x := ⟨_, rfl⟩
                    have gp := GPV.out
                    have gx := GXV.out
                    rw [hx] at hcg gp gx
                    have hwv : wantF E v m2 = wantF E v E.length := by rw [LE.out]
                    rw [← hwv] at gp
                    obtain ⟨kw, hkw⟩ : ∃ c, wantF E v m2 = c := ⟨_, rfl⟩
                    rw [hkw] at hwb gp
                    rw [hkw]
                    cases xb
                    · obtain ⟨gb1, gb2⟩ := gp rfl
                      have dg : Calls Tryd.prog 14 #[.int .i64 x, .pointer (some ⟨pn, 0, none⟩)] wr fun e w' => e = .returned (.int .i64 (kw : Nat)) ∧ wr = w' := by
                        have h := degY pn x nC A1 k1 L wr y0 (CEL.out wr K4.out) gb1
                        rw [gb2] at h
                        exact h
                      have DG := Lib.hid dg
                      have qk : ((kw : Int) != (kw : Int)) = false := by simp
                      clear hx dg gb2 gp gx hwv hkw hK
                      go_upto_region 47 with fail
                      go_wp2_with (first
                        | (go_at_fn 14; go_must (refine DG.out.mono ?_; rintro e w6 ⟨rfl, rfl⟩))
                        | (go_at_call 14; go_must (refine DG.out.mono ?_; rintro e w6 ⟨rfl, rfl⟩)))
                      go_roundw
                      case rel => exact ⟨v + 1, by go_num, by omega, FF.out.trans (KK.out.mono FF.out.size)⟩
                      case measure => (simp [intOf] <;> omega)
                    · obtain ⟨gb1, gb2⟩ := gx rfl
                      have dg : Calls Tryd.prog 14 #[.int .i64 x, .pointer (some ⟨pn, 0, none⟩)] wr fun e w' => e = .returned (.int .i64 2) ∧ wr = w' := by
                        have h := degY pn x nC A1 k1 L wr y0 (CEL.out wr K4.out) gb1
                        rw [gb2] at h
                        exact h
                      have DG := Lib.hid dg
                      have qk : ((2 : Int) != (2 : Int)) = false := by simp
                      clear hx dg gb2 gp gx hwv hkw hK
                      go_upto_region 47 with fail
                      go_wp2_with (first
                        | (go_at_fn 14; go_must (refine DG.out.mono ?_; rintro e w6 ⟨rfl, rfl⟩))
                        | (go_at_call 14; go_must (refine DG.out.mono ?_; rintro e w6 ⟨rfl, rfl⟩)))
                      go_roundw
                      case rel => exact ⟨v + 1, by go_num, by omega, FF.out.trans (KK.out.mono FF.out.size)⟩
                      case measure => (simp [intOf] <;> omega)
              · have hve : m1 = v := by omega
                subst hve
                have q0 : decide (m1 < m1) = false := decide_eq_false hvt
                obtain ⟨z0, z1, zl⟩ := XS.out wr F4.out
                have hMM : M = 2 * (m2 + bd) := by have h1 := HM.out; have h2 := LE.out; have h3 := HBD.out; omega
                subst hMM
                clear hF
                go_wp2_with fail
                go_ret
                exact ⟨ret_bool (by simp), B4.out.trans (F4.out.mono B4.out.size)⟩
  · have P1 := Lib.hid (fun w bv ev hB hE hT => normNo (w := w) bv ev B E hB hE MM.out hT hz)
    obtain ⟨z, hzz⟩ : ∃ z, wrN B E = z := ⟨_, rfl⟩
    rw [hzz] at P1 hz
    have q0 : (z == 0) = false := by rw [beq_eq_false_iff_ne]; exact hz
    have q1 : (z != 0) = true := by rw [bne, q0]; rfl
    clear hz hzz hm1 hm2 hb1 he1 b1 hS MK HB HD HY
    go_wp2_with (fail)
    generalize hws : World.alloc w1 _ = ws
    have bs1 : Below w1.heap.size w1 ws := by rw [← hws]; exact (Below.refl _ _).alloc (Nat.le_refl _) _
    have BS : Hid (Below w.heap.size w ws) := Lib.hid (B1.out.trans (bs1.mono B1.out.size))
    have HBs := Lib.hid (HB1.out.below bs1 (Nat.le_refl _))
    have HEs := Lib.hid (HE1.out.below bs1 (Nat.le_refl _))
    clear hws bs1 B1 HB1 HE1 BA
    generalize w1.heap.size = ps at *
    refine (P1.out ws _ _ HBs.out HEs.out (HT.out.below BS.out (Nat.le_refl _))).mono ?_
    rintro e w2 ⟨rfl, b2⟩
    have B2 := Lib.hid b2
    clear b2
    go_upto_region 3 with (fail)
    generalize hwn : World.alloc w2 _ = wn
    have bn : Below w2.heap.size w2 wn := by rw [← hwn]; exact (Below.refl _ _).alloc (Nat.le_refl _) _
    have BN : Hid (Below w.heap.size w wn) := Lib.hid (BS.out.trans ((B2.out.trans (bn.mono B2.out.size)).mono BS.out.size))
    clear hwn bn B2
    go_wp2_with (first
      | (have _q := B4; go_at_call 9; refine (WK.out w4 (HT.out.below B4.out (Nat.le_refl _))).mono ?_; rintro e w5 ⟨rfl, b5⟩; have B5 : Hid (Below w.heap.size w w5) := Lib.hid (B4.out.trans (b5.mono B4.out.size)); clear b5)
      | (go_at_call 9; refine (WK.out wn (HT.out.below BN.out (Nat.le_refl _))).mono ?_; rintro e w4 ⟨rfl, b4⟩; have B4 : Hid (Below w.heap.size w w4) := Lib.hid (BN.out.trans (b4.mono BN.out.size)); clear b4))
    go_ret
    exact ⟨rfl, B5.out⟩
end Go.Proofs.YtecifgaekefkpaaDoor

namespace Go.Proofs.YtecifgaekefkpaaDoor
open Go.RowKit Go.ChangeShapes Go.WideShapes Go.Deep Go.Proofs.YtecifgaekefkpaaDoor.LexM

theorem bor_of_laidC {W : World} (h : laidMetH Tryd.prog Rows.normCellsRow.laid W) : BorT W := by
  rw [MakeChecks.laidMetH_plain _ _ _ (by kernel_rfl)] at h
  exact borT_of (laidMet.tail h)
set_option maxRecDepth 100000 in
theorem cells11_arg {H : Type} {enc : TypeId × Value → H} {w : World} {v : Value} {d : DataW H} {p : List MemPlace} {spare : Nat → Bool} {held : Bool} {b0 : Nat} (hT : BorT w)
    (hv : Value.okWide Tryd.prog w .any b0 26 v) (h : DataW.Trod enc Tryd.prog w 0 spare held 26 v d p) :
    Calls Tryd.prog 4 #[v] w fun e w' => e = .returned (.bool true) ∧ Below w.heap.size w w' := by
  obtain ⟨bv, B, A, n, cap, D, A2, n2, cap2, D2, rfl, hB, hD, hY⟩ := raw_open8 hv h
  exact cells11 bv B A n cap D A2 n2 cap2 D2 w hT hB hD hY
end Go.Proofs.YtecifgaekefkpaaDoor
