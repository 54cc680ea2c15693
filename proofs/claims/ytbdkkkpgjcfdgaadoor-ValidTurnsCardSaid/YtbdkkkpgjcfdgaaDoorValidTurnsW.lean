/-
  ValidTurns: the walk: at all places, every shape and every two bytes the call answers true and turns nothing that was there. Conditions: the ways read as the program lays them.
-/
import Derived.Test.YtbdkkkpgjcfdgaaDoorVlW
import Derived.Test.YtbdkkkpgjcfdgaaDoorVlR
import Derived.Test.YtbdkkkpgjcfdgaaDoorVzF2
import Derived.Test.YtbdkkkpgjcfdgaaDoorVnM
import Derived.Test.YtbdkkkpgjcfdgaaDoorMkSix
import Derived.Deep.CutRange
import Derived.Deep.CutBlock
import Derived.BigRegion
namespace Go.Proofs.YtbdkkkpgjcfdgaaDoor
open Go.RowKit Go.Proofs.YtbdkkkpgjcfdgaaDoor.LexM Go.Proofs.YtbdkkkpgjcfdgaaDoor.ParM Go.Proofs.YtbdkkkpgjcfdgaaDoor.GrM Go.Proofs.YtbdkkkpgjcfdgaaDoor.FcM Go.Proofs.YtbdkkkpgjcfdgaaDoor.JoM Go.Proofs.YtbdkkkpgjcfdgaaDoor.NmM Go.Proofs.YtbdkkkpgjcfdgaaDoor.VdM

theorem infoC14 : (Tryd.prog.info? 30).map (fun i => (i.zero, i.size, i.bytes)) = some (some (.slice none 0 0), 1, 24) := by kernel_rfl
theorem newsC14 (w : World) (g : Nat) (x : Value) (T : TypeId) (h : w.heap[g]? = some (.cells #[x] T (0, 0))) : ∀ j z, [x][j]? = some z → w.cell? ((⟨g, 0, none⟩ : Addr).add j) = some z := by
  intro j z hz
  match j with
  | 0 =>
    simp only [List.getElem?_cons_zero, Option.some.injEq] at hz
    subst hz
    rw [show (⟨g, 0, none⟩ : Addr).add 0 = ⟨g, 0, none⟩ by unfold Addr.add; split <;> simp_all]
    simp [World.cell?, h]
  | j + 1 => simp at hz
/-- One, or two, lists of cells that may be. -/
def OneE (wr : World) (s : Value) : Prop := ∃ A n c L, s = .slice A n c ∧ CelAt wr (.slice A n c) L n ∧ chkG L n = 0 ∧ n ≤ 1000
theorem OneE.below {w w' : World} {s : Value} (h : OneE w s) (b : Below w.heap.size w w') : OneE w' s := by
  obtain ⟨A, n, c, L, e, h1, h2⟩ := h
  exact ⟨A, n, c, L, e, h1.below b (Nat.le_refl _), h2⟩
def LsE (w0 : World) (lv : Value) (wr : World) : Prop := ∃ g q c, lv = .slice (some ⟨g, 0, none⟩) q c ∧ q ≤ 2 ∧ g < wr.heap.size ∧ (∀ i, i < q → ∃ s, wr.cell? ⟨g, i, none⟩ = some s ∧ OneE wr s) ∧ Below w0.heap.size w0 wr
def TuE (q : Nat) (w0 wr : World) (iv : Value) : Prop := ∃ i : Nat, iv = .int .i64 i ∧ i ≤ q ∧ Below w0.heap.size w0 wr
theorem row_one14 (w : World) (s : Value) : (w.alloc (.cells #[s] 30)).ownsRow w.heap.size 30 1 (.slice (some ⟨w.heap.size, 0, none⟩) 1 1) 1 [s] :=
  ⟨rfl, Or.inr ⟨w.heap.size, 1, _, rfl, Nat.le_refl _, heap_alloc_new w _, Nat.le_refl _, by unfold maxLen; omega, rfl, rfl⟩⟩
def OfO (K : Nat) (w : World) (e : Ending) (w' : World) : Prop :=
  (∃ A n c fv ev wv L, e = .returned (.agg #[.slice A n c, fv, ev, wv]) ∧ OwnG w' w.heap.size (.slice A n c) L n ∧ GoodG L n ∧ n ≤ K) ∧ Below w.heap.size w w'
theorem ofCellsO {w : World} (bv ev : Value) (B : List Bool) (E : List Edg) (hB : BlsAt w bv B) (hE : EdsAt w ev E) (hM : May B E) (hz : wrN B E = 0) {b m K : Nat} (hb : B.length ≤ b) (hm : E.length ≤ m) (h3 : bendsOf E ≤ 3 * E.length) (hK : b * (4 + 8 * m) + 3 * m ≤ K) :
    Calls Tryd.prog 12 #[.agg #[bv, ev]] w (OfO K w) := by
  refine (refOf bv ev B E hB hE hM (cnt_of_wrV hz) (okEs_mayV hM)).mono ?_
  rintro e w' ⟨cv, fv, ev, wv, V, rfl, h1, -, -, -, -, hw⟩
  obtain ⟨g1, g2⟩ := vxK_gd (B := B) (E := E) B.length
  have g3 := egK_gd (E := E) g1 E.length
  have g4 := (egK_m (E := E) (s := (vxK B E B.length).1) E.length).1
  rw [bndK_all] at g4
  have g5 : B.length * (4 + 8 * E.length) ≤ b * (4 + 8 * m) := Nat.mul_le_mul hb (by omega)
  generalize (egK E (vxK B E B.length).1 E.length).1 = s at *
  obtain ⟨A, c, rfl⟩ := h1.form
  exact ⟨⟨A, s.n, c, fv, ev, wv, s.L, rfl, h1, g3.2, by omega⟩, hw⟩
set_option maxHeartbeats 16000000 in
set_option maxRecDepth 100000 in
theorem turns14 {A1 A2 A3 : Option Addr} {n1 n2 n3 : Nat} (c1 c2 c3 : Nat) {D1 D2 D3 : Nat → Int} (bv : Value) (ZB : List Bool) (AX : Option Addr) (nX cX : Nat) (DX : Nat → Int × Int × Int) (AY : Option Addr) (nY cY : Nat) (DY : Nat → Int)
    (u0 u1 : Nat) (w : World) (h : Plane w A1 A2 A3 n1 n2 n3 D1 D2 D3) (hT : WayT w) (hB : BlsAt w bv ZB) (hD : Tri8 w AX nX DX) (hY : Byt8 w AY nY DY) (h0 : u0 ≤ 255) (h1 : u1 ≤ 255) :
    Calls Tryd.prog 6 #[.agg #[.slice A1 n1 c1, .slice A2 n2 c2, .slice A3 n3 c3], .agg #[bv, .slice AX nX cX, .slice AY nY cY], .agg #[.int .u8 u0, .int .u8 u1]] w fun e w' => e = .returned (.bool true) ∧ Below w.heap.size w w' := by
  obtain ⟨j0, hj, hy0, hy1, hy2⟩ := info_parts infoC14
  have HP := Lib.hid h
  have HT := Lib.hid hT
  have HB := Lib.hid hB
  have HD := Lib.hid hD
  have HY := Lib.hid hY
  have WK := Lib.hid wakes14
  have M6 := Lib.hid (fun W hb hd hy => refMake6 bv ZB AX nX cX DX AY nY cY DY W hb hd hy)
  clear h hT hB hD hY
  go_enter Tryd.func6, Tryd.ntmps6
  go_upto_region 1 with (fail)
  obtain ⟨wb, hwb⟩ : ∃ W, W = (((w.alloc (.cells #[.slice A1 n1 c1, .slice A2 n2 c2, .slice A3 n3 c3] 25)).alloc (.cells #[bv, .slice AX nX cX, .slice AY nY cY] 29)).alloc (.cells #[.int .u8 (u0 : Int), .int .u8 (u1 : Int)] 58)) := ⟨_, rfl⟩
  have BB : Hid (Below w.heap.size w wb) := Lib.hid (by rw [hwb]; exact (((Below.refl _ _).alloc (Nat.le_refl _) _).alloc (by simp) _).alloc (by simp; omega) _)
  have x0 : wb.cell? ⟨w.heap.size, 0, none⟩ = some (.slice A1 n1 c1) := by rw [hwb]; go_simp
  have x1 : wb.cell? ⟨w.heap.size, 1, none⟩ = some (.slice A2 n2 c2) := by rw [hwb]; go_simp
  have x2 : wb.cell? ⟨w.heap.size, 2, none⟩ = some (.slice A3 n3 c3) := by rw [hwb]; go_simp
  have d0 : wb.cell? ⟨w.heap.size + 1, 0, none⟩ = some bv := by rw [hwb]; go_simp
  have d1 : wb.cell? ⟨w.heap.size + 1, 1, none⟩ = some (.slice AX nX cX) := by rw [hwb]; go_simp
  have d2 : wb.cell? ⟨w.heap.size + 1, 2, none⟩ = some (.slice AY nY cY) := by rw [hwb]; go_simp
  have k0 : wb.cell? ⟨w.heap.size + 1 + 1, 0, none⟩ = some (.int .u8 (u0 : Int)) := by rw [hwb]; go_simp
  have k1 : wb.cell? ⟨w.heap.size + 1 + 1, 1, none⟩ = some (.int .u8 (u1 : Int)) := by rw [hwb]; go_simp
  have hgb2 : w.heap.size + 1 + 1 < wb.heap.size := by rw [hwb]; simp
  have hgb1 : w.heap.size + 1 < wb.heap.size := by omega
  have hgb : w.heap.size < wb.heap.size := by omega
  have DC : Hid (∀ wq, Below wb.heap.size wb wq → wq.cell? ⟨w.heap.size + 1, 0, none⟩ = some bv ∧ wq.cell? ⟨w.heap.size + 1, 1, none⟩ = some (.slice AX nX cX) ∧ wq.cell? ⟨w.heap.size + 1, 2, none⟩ = some (.slice AY nY cY) ∧ w.heap.size + 1 < wq.heap.size) := Lib.hid (fun wq b =>
    ⟨(b.cell (p := ⟨_, _, none⟩) hgb1).trans d0, (b.cell (p := ⟨_, _, none⟩) hgb1).trans d1, (b.cell (p := ⟨_, _, none⟩) hgb1).trans d2, Nat.lt_of_lt_of_le hgb1 b.size⟩)
  have KK : Hid (∀ wq, Below wb.heap.size wb wq → wq.cell? ⟨w.heap.size + 1 + 1, 0, none⟩ = some (.int .u8 (u0 : Int)) ∧ wq.cell? ⟨w.heap.size + 1 + 1, 1, none⟩ = some (.int .u8 (u1 : Int)) ∧ w.heap.size + 1 + 1 < wq.heap.size) := Lib.hid (fun wq b =>
    ⟨(b.cell (p := ⟨_, _, none⟩) hgb2).trans k0, (b.cell (p := ⟨_, _, none⟩) hgb2).trans k1, Nat.lt_of_lt_of_le hgb2 b.size⟩)
  have MK := Lib.hid (makeN 16 (by decide) c1 c2 c3 (HP.out.below BB.out))
  rw [← hwb]
  clear hwb d0 d1 d2 hgb1 k0 k1 hgb2
  go_upto_region 2 with (go_at_call 7; refine MK.out.mono ?_; rintro e w1 ⟨N, L, A, c, pv, rfl, o1, hg, hN, b1⟩; have O1 : Hid (OneE w1 (.slice A N c)) := Lib.hid ⟨A, N, c, L, rfl, OwnG.cel o1, chk_good.2 ⟨by omega, hg⟩, by omega⟩; have C1 := Lib.hid b1; have B1 := Lib.hid (BB.out.trans (b1.mono BB.out.size)); clear o1 hg b1)
  clear x0 x1 x2 hgb MK HP
  go_upto_region 3 with fail
  obtain ⟨wl, hwl⟩ : ∃ W, W = w1.alloc (.cells #[.slice A N c] 30) := ⟨_, rfl⟩
  have bl : Below w1.heap.size w1 wl := by rw [hwl]; exact (Below.refl _ _).alloc (Nat.le_refl _) _
  have CL := Lib.hid (C1.out.trans (bl.mono C1.out.size))
  have BL := Lib.hid (B1.out.trans (bl.mono B1.out.size))
  have E1 := Lib.hid bl
  have OL : Hid (wl.ownsRow w1.heap.size 30 1 (.slice (some ⟨w1.heap.size, 0, none⟩) 1 1) 1 [.slice A N c]) := Lib.hid (by rw [hwl]; exact row_one14 w1 _)
  rw [← hwl]
  have CB := C1
  clear hwl bl C1
  obtain ⟨gl, hgl⟩ : ∃ g, w1.heap.size = g := ⟨_, rfl⟩
  have GL := Lib.hid hgl
  rw [hgl] at OL ⊢
  clear hgl
  obtain ⟨d0, d1, d2, hgb⟩ := DC.out wl CL.out
  go_upto_region 4 with (go_at_call 8; refine (M6.out wl (HB.out.below BL.out (Nat.le_refl _)) (HD.out.below BL.out) (HY.out.below BL.out)).mono ?_; rintro e w2 ⟨S1, m1, k1, S2, m2, k2, B, E, rfl, hm1, hm2, hb1, he1, hS, b2⟩; have HB2 := Lib.hid hb1.bls; have HE2 := Lib.hid he1.eds; have SM := Lib.hid hS; have HM1 := Lib.hid hm1; have HM2 := Lib.hid hm2; have C2 := Lib.hid (CL.out.trans (b2.mono CL.out.size)); have E2 := Lib.hid (E1.out.trans (b2.mono E1.out.size)); have B2 := Lib.hid (BL.out.trans (b2.mono BL.out.size)); have OL2 := Lib.hid (row_below12 OL.out b2 (Nat.le_refl _)); clear hm1 hm2 hb1 he1 hS b2)
  clear d0 d1 d2 hgb DC M6 HB HD HY CL BL E1 OL
  generalize hws : World.alloc w2 _ = ws
  have bs : Below w2.heap.size w2 ws := by rw [← hws]; exact (Below.refl _ _).alloc (Nat.le_refl _) _
  have z0 : ws.cell? ⟨w2.heap.size, 0, none⟩ = some (.slice S1 m1 k1) := by rw [← hws]; clear hws; go_simp
  have z1 : ws.cell? ⟨w2.heap.size, 1, none⟩ = some (.slice S2 m2 k2) := by rw [← hws]; clear hws; go_simp
  have hgs : w2.heap.size < ws.heap.size := by rw [← hws]; simp
  obtain ⟨ps, hps⟩ : ∃ ps, w2.heap.size = ps := ⟨_, rfl⟩
  rw [hps] at z0 z1 hgs ⊢
  have SC : Hid (∀ wq, Below ws.heap.size ws wq → wq.cell? ⟨ps, 0, none⟩ = some (.slice S1 m1 k1) ∧ wq.cell? ⟨ps, 1, none⟩ = some (.slice S2 m2 k2) ∧ ps < wq.heap.size) := Lib.hid (fun wq b =>
    ⟨(b.cell (p := ⟨_, _, none⟩) hgs).trans z0, (b.cell (p := ⟨_, _, none⟩) hgs).trans z1, Nat.lt_of_lt_of_le hgs b.size⟩)
  have ES : Hid (Below w1.heap.size w1 ws) := Lib.hid (E2.out.trans (bs.mono E2.out.size))
  have OLs := Lib.hid (row_below12 OL2.out bs (Nat.le_refl _))
  have HBs := Lib.hid (HB2.out.below bs (Nat.le_refl _))
  have HEs := Lib.hid (HE2.out.below bs (Nat.le_refl _))
  have RW := refWrong (.slice S1 m1 k1) (.slice S2 m2 k2) B E ws HBs.out HEs.out SM.out.may (chk_ok SM.out.may) (okEs_mayV SM.out.may)
  obtain ⟨v, hv⟩ : ∃ v, wrN B E = v := ⟨_, rfl⟩
  rw [hv] at RW
  have HRW := Lib.hid RW
  have HV := Lib.hid hv
  clear hws bs hps C2 B2 HB2 HE2 E2 OL2 RW hv
  go_upto_if 31 with (go_at_call 11; refine HRW.out.mono ?_; rintro e w6 ⟨rfl, b6⟩; have S6 := Lib.hid b6; have OL6 := Lib.hid (row_below12 OLs.out b6 (Nat.le_refl _)); obtain ⟨y0, y1, hgy⟩ := SC.out w6 b6; clear b6)
  clear z0 z1 hgs HRW
  have E6 := Lib.hid (ES.out.trans (S6.out.mono ES.out.size))
  go_cut [9] from 31 to 37 (fun lv wx => LsE w1 lv wx)
  case first =>
    by_cases hz : v = 0
    · subst hz
      have OC := Lib.hid (ofCellsO (w := w6) (K := 1000) (b := 6) (m := 12) (.slice S1 m1 k1) (.slice S2 m2 k2) B E (HBs.out.below S6.out (Nat.le_refl _)) (HEs.out.below S6.out (Nat.le_refl _)) SM.out.may HV.out SM.out.vs SM.out.es (bends_small E (fun e he => (SM.out.ok e he).2)) (by decide))
      have hfd := normField
      have hs6 := E6.out.size
      have hgl6 := GL.out
      go_wp2_with (first
        | (go_at_call 12; refine OC.out.mono ?_; rintro e w7 ⟨⟨A7, n7, c7, f7, e7, v7, L7, rfl, o7, hg7, h7⟩, b7⟩; have O7 := Lib.hid o7; have H7 := Lib.hid (chk_good.2 ⟨by omega, hg7⟩ : chkG L7 n7 = 0); have N7 := Lib.hid h7; have E7 := Lib.hid (E6.out.trans (b7.mono E6.out.size)); have OL7 := Lib.hid (row_below12 OL6.out b7 (Nat.le_refl _)); have OA : Hid (∀ o, (w7.alloc o).ownsRow gl 30 1 (.slice (some ⟨gl, 0, none⟩) 1 1) 1 [.slice A N c]) := Lib.hid (fun o => row_below12 OL7.out ((Below.refl _ _).alloc (Nat.le_refl _) o) (Nat.le_refl _)); have hs7 := E7.out.size; clear o7 hg7 h7 b7)
        | (at_builtin; refine wpList_append_fresh rfl (.tmp 32) (.tmp 36) 59 rfl gl 30 j0 (.slice none 0 0) 1 24 Tryd.underlying59 hj hy0 hy1 hy2 rfl (by decide) (.slice (some ⟨gl, 0, none⟩) 1 1) 1 [.slice A N c] rfl (OA.out _) ⟨w7.heap.size, 0, none⟩ 1 1 [.slice A7 n7 c7] rfl rfl (newsC14 _ _ _ 30 (heap_alloc_new w7 _)) (fun u hu => by obtain rfl := List.mem_singleton.1 hu; rfl) (by unfold maxLen; omega) (by omega) (by simp; omega) ?_; intro v5 w5 hown hgrow hfr; have H5 := Lib.hid hown; have G5 := Lib.hid hgrow; clear hown hgrow hfr))
      go_meet
      have o5 : Out (fun b => b = gl) w7 w5 := ((Out.refl _ _).alloc _).grown G5.out (fun b _ e => by simpa [Value.ownBlock] using e.symm)
      have b5 : Below w1.heap.size w1 w5 := E7.out.trans (o5.below E7.out.size (fun i _ e => by have := GL.out; omega))
      have hl6 := (World.ownsRow.lt OL6.out gl rfl).2
      have o75 : OwnG w5 w6.heap.size (.slice A7 n7 c7) L7 n7 := ownsRow_out O7.out o5 (fun b hb e => by have := (World.ownsRow.lt O7.out b hb).1; omega)
      obtain ⟨g9, cap, cur, hv9, hg9, r9⟩ : ∃ g cap cur, v5 = .slice (some ⟨g, 0, none⟩) 2 cap ∧ gl ≤ g ∧ w5.heap[g]? = some (.cells cur 30 (0, 0)) := by
        rcases H5.out.2 with ⟨_, h2⟩ | ⟨g, cap, cur, hv, hg, hh, _⟩
        · omega
        · exact ⟨g, cap, cur, hv, hg, hh⟩
      subst hv9
      refine ⟨g9, 2, cap, rfl, by decide, (World.ownsRow.lt H5.out g9 rfl).2, fun i hi => ?_, b5⟩
      rcases (by omega : i = 0 ∨ i = 1) with rfl | rfl
      · exact ⟨_, by rw [World.ownsRow.cellAt H5.out 0 (by decide)]; rfl, O1.out.below b5⟩
      · exact ⟨_, by rw [World.ownsRow.cellAt H5.out 1 (by decide)]; rfl, A7, n7, c7, L7, rfl, OwnG.cel o75, H7.out, N7.out⟩
    · have q3 : (v == 0) = false := by rw [beq_eq_false_iff_ne]; exact hz
      clear hz
      go_wp2_with fail
      go_meet
      refine ⟨gl, 1, 1, rfl, by decide, (World.ownsRow.lt OL6.out gl rfl).2, fun i hi => ?_, E6.out⟩
      obtain rfl : i = 0 := by omega
      exact ⟨_, by rw [World.ownsRow.cellAt OL6.out 0 (by decide)]; rfl, O1.out.below E6.out⟩
  case rest =>
    obtain ⟨gq, q, cq, rfl, hq2, hgq, hcq, hbq⟩ := hcut
    obtain ⟨wz, hwz⟩ : ∃ W, W = wc := ⟨_, rfl⟩
    subst hwz
    have HCQ := Lib.hid hcq
    have BZ := Lib.hid (B1.out.trans (hbq.mono B1.out.size))
    have KQ := Lib.hid (fun wq (b : Below wz.heap.size wz wq) => KK.out wq (CB.out.trans ((hbq.trans (b.mono hbq.size)).mono CB.out.size)))
    clear hcq hbq KK CB B1 O1 S6 E6 ES OL6 OLs HBs HEs SC SM HM1 HM2 HV GL y0 y1 hgy
    go_wp2_with fail
    go_loopw [40] (fun iv wr => TuE q wz wr iv) (fun iv _ => q - (intOf iv).toNat)
    case atStart => exact ⟨0, rfl, Nat.zero_le _, Below.refl _ _⟩
    case round =>
      obtain ⟨i, rfl, hi, hB⟩ := hrel
      have B := Lib.hid hB
      by_cases hlt : i < q
      · have q0 : decide (i < q) = true := decide_eq_true hlt
        obtain ⟨s, hs, AE, nE, cE, LE, rfl, hcE, h0E, hnE⟩ := HCQ.out i hlt
        have fs := (hB.cell (p := ⟨gq, i, none⟩) hgq).trans hs
        have hgw : gq < wr.heap.size := Nat.lt_of_lt_of_le hgq hB.size
        have CE := Lib.hid (hcE.below hB (Nat.le_refl _))
        have TW : Hid (∀ wq, Below wr.heap.size wr wq → WayT wq) := Lib.hid (fun wq b => HT.out.below (BZ.out.trans ((hB.trans (b.mono hB.size)).mono BZ.out.size)) (Nat.le_refl _))
        have KR := Lib.hid (fun wq (b : Below wr.heap.size wr wq) => KQ.out wq (B.out.trans (b.mono B.out.size)))
        have HG := Lib.hid (chk_good.1 h0E).2
        have CX := fun wq (b : Below wr.heap.size wr wq) => check_ (.slice AE nE cE) LE nE wq (CE.out.below b (Nat.le_refl _)) (by omega) (TW.out wq b)
        have CT := fun lv wq (hL : CelAt wq lv (turnG LE nE) nE) (b : Below wr.heap.size wr wq) => check_ lv (turnG LE nE) nE wq hL (by omega) (TW.out wq b)
        rw [vld_turn h0E] at CT
        have VS := Lib.hid (fun (v d x : Nat) (hv : v < nE) (hd : d < 4) (hx : nxG LE v d = (x : Int)) => vld_split (o := owG LE v d) CE.out.1 h0E (by omega) hv hd hx rfl)
        obtain ⟨e, he⟩ : ∃ e, vldE LE nE = e := ⟨_, rfl⟩
        rw [he] at CX CT VS
        have q1 : (e == e) = true := by simp
        have q2 : (e != e) = false := by simp
        have HCX := Lib.hid CX
        have HCT := Lib.hid CT
        have TG := Lib.hid (fun wq (b : Below wr.heap.size wr wq) => refTurned (.slice AE nE cE) LE nE wq (CE.out.below b (Nat.le_refl _)) (by omega))
        have EG := Lib.hid (fun wq (b : Below wr.heap.size wr wq) => refEdge (.slice AE nE cE) LE nE u0 u1 wq (CE.out.below b (Nat.le_refl _)) (by omega) (by omega) (by omega) HG.out)
        clear CX CT he hcE h0E hs hB
        go_upto_region 12 with (first
          | (go_at_call 14; have _z := T3; refine (HCT.out _ _ T3.out B3.out).mono ?_; rintro e w4 ⟨rfl, b4⟩; have B4 := Lib.hid (B3.out.trans (b4.mono B3.out.size)); clear b4)
          | (go_at_call 16; have _z := B2; refine (TG.out _ B2.out).mono ?_; rintro e w3 ⟨⟨A3, c3, rfl, o3⟩, b3⟩; have T3 := Lib.hid (OwnG.cel o3); have B3 := Lib.hid (B2.out.trans (b3.mono B2.out.size)); clear o3 b3)
          | (go_at_call 14; refine (HCX.out _ (Below.refl _ _)).mono ?_; rintro e w2 ⟨rfl, b2⟩; have B2 := Lib.hid b2; clear b2))
        obtain ⟨k0, k1, kz⟩ := KR.out _ B4.out
        have cx1 : IntKind.i64.wrap (u0 : Int) = (u0 : Int) := IntWalk.i64_in _ (by omega)
        have cx2 : IntKind.i64.wrap (u1 : Int) = (u1 : Int) := IntWalk.i64_in _ (by omega)
        clear T3 B2 B3 HCX HCT TG KR fs hgw
        go_upto_region 13 with (go_at_call 17; go_must (refine (EG.out _ B4.out).mono ?_; rintro e w6 ⟨hE, b6⟩; have HE := Lib.hid hE; have B6 := Lib.hid (B4.out.trans (b6.mono B4.out.size)); clear hE b6; rcases HE.out with rfl | ⟨v, d, hv, hd, hx, rfl⟩))
        · clear HE EG k0 k1 kz cx1 cx2
          go_wp2_with fail
          go_roundw
          case rel => exact ⟨i + 1, by go_num, by omega, B.out.trans (B6.out.mono B.out.size)⟩
          case measure => (simp [intOf] <;> omega)
        · clear HE EG k0 k1 kz cx1 cx2
          have hs := HG.out.side hv hd
          obtain ⟨x, hx2⟩ : ∃ x : Nat, nxG LE v d = (x : Int) := ⟨(nxG LE v d).toNat, by omega⟩
          have hxN : x < nE := by omega
          have SP := Lib.hid (refSplit_yes (.slice AE nE cE) LE nE v d x (owG LE v d) w6 (CE.out.below B6.out (Nat.le_refl _)) (by omega) hv hxN hd hx2 rfl)
          have CM := fun lv wq (hL : CelAt wq lv (splitG LE nE v d x (owG LE v d)) (nE + 1)) (b : Below wr.heap.size wr wq) => check_ lv (splitG LE nE v d x (owG LE v d)) (nE + 1) wq hL (by omega) (TW.out wq b)
          rw [VS.out v d x hv hd hx2] at CM
          have HCM := Lib.hid CM
          generalize splitG LE nE v d x (owG LE v d) = M at SP HCM
          clear hs hx hx2 VS CM
          go_wp2_with (first
            | (go_at_call 14; have _z := M7; refine (HCM.out _ _ M7.out B7.out).mono ?_; rintro e w8 ⟨rfl, b8⟩; have B8 := Lib.hid (B7.out.trans (b8.mono B7.out.size)); clear b8)
            | (go_at_call 18; refine SP.out.mono ?_; rintro e w7 ⟨⟨A7, c7, rfl, o7⟩, b7⟩; have M7 := Lib.hid (OwnG.cel o7); have B7 := Lib.hid (B6.out.trans (b7.mono B6.out.size)); clear o7 b7))
          go_roundw
          case rel => exact ⟨i + 1, by go_num, by omega, B.out.trans (B8.out.mono B.out.size)⟩
          case measure => (simp [intOf] <;> omega)
      · have hiq : i = q := by omega
        have q0 : decide (i < q) = false := decide_eq_false hlt
        have BR := Lib.hid (BZ.out.trans (hB.mono BZ.out.size))
        clear hB HCQ KQ
        go_wp2_with (go_at_call 9; refine (WK.out _ (HT.out.below BR.out (Nat.le_refl _))).mono ?_; rintro e w4 ⟨rfl, b4⟩; have B4 := Lib.hid (BR.out.trans (b4.mono BR.out.size)); clear b4)
        go_ret
        exact ⟨rfl, B4.out⟩
end Go.Proofs.YtbdkkkpgjcfdgaaDoor
