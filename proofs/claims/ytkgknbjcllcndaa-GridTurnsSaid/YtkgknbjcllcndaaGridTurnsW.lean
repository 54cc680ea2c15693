/-
  GridTurns: the walk: at all cases the call answers true and turns nothing that was there. Conditions: none.
-/
import Derived.Test.YtkgknbjcllcndaaGdM
import Derived.Test.YtkgknbjcllcndaaGdP
import Derived.Test.YtkgknbjcllcndaaGrU
import Derived.BigRegion
namespace Go.Proofs.Ytkgknbjcllcndaa
open Go.RowKit Go.Proofs.Ytkgknbjcllcndaa.GrM

theorem splO_turn {L : List Int} {n a d : Nat} (hl : L.length = n * 8) (hg : GoodG L n) (hd : d < 4) :
    splO (turnG L n) n (a : Int) (lft d : Int) = ⟨(splO L n a d).u, (splO L n a d).e, turnG (splO L n a d).L (splO L n a d).n, (splO L n a d).n⟩ := by
  unfold splO
  have h4 := lft_lt d
  by_cases hb : badS n a d
  · have hb2 : badS n (a : Int) (lft d : Int) := by unfold badS at hb ⊢; omega
    rw [if_pos hb, if_pos hb2]
  · have hb2 : ¬ badS n (a : Int) (lft d : Int) := by unfold badS at hb ⊢; omega
    rw [if_neg hb, if_neg hb2]
    have ha : a < n := by unfold badS at hb; omega
    simp only [Int.toNat_natCast]
    rw [nx_turn L ha hd, ow_turn L ha hd]
    by_cases h1 : nxG L a d = -1
    · rw [if_pos h1, if_pos h1]
    · rw [if_neg h1, if_neg h1]
      have hs := hg.side ha hd
      rw [turn_split hl ha (by omega) hd]
def Tn1 (B : Nat) (wb : World) (A : Option Addr) (c N : Nat) (w' : World) : Prop := ∃ M, OwnG w' B (.slice A N c) M N ∧ Below B wb w'
set_option maxHeartbeats 16000000 in
set_option maxRecDepth 100000 in
theorem turns10 {A1 A2 A3 : Option Addr} {n1 n2 n3 : Nat} (c1 c2 c3 : Nat) {D1 D2 D3 : Nat → Int} (rv : Value) (u0 u1 x : Int) (w : World) (h : Plane w A1 A2 A3 n1 n2 n3 D1 D2 D3) (h0 : 0 ≤ u0 ∧ u0 ≤ 255) (h1 : 0 ≤ u1 ∧ u1 ≤ 255) :
    Calls Try.prog 7 #[.agg #[.slice A1 n1 c1, .slice A2 n2 c2, .slice A3 n3 c3, rv, .int .u8 u0, .int .u8 u1, .int .i64 x]] w fun e w' => e = .returned (.bool true) ∧ Below w.heap.size w w' := by
  have HP := Lib.hid h
  have WK := Lib.hid (fun w => wakes10 w)
  have hu := Lib.hid (And.intro h0 h1)
  clear h h0 h1
  go_enter Try.func7, Try.ntmps7
  go_upto_region 1 with (fail)
  obtain ⟨wb, hwb⟩ : ∃ W, W = (w.alloc (.cells #[.slice A1 n1 c1, .slice A2 n2 c2, .slice A3 n3 c3, rv, .int .u8 u0, .int .u8 u1, .int .i64 x] 56)) := ⟨_, rfl⟩
  have BB : Hid (Below w.heap.size w wb) := Lib.hid (by rw [hwb]; exact (Below.refl _ _).alloc (Nat.le_refl _) _)
  have x0 : wb.cell? ⟨w.heap.size, 0, none⟩ = some (.slice A1 n1 c1) := by rw [hwb]; go_simp
  have x1 : wb.cell? ⟨w.heap.size, 1, none⟩ = some (.slice A2 n2 c2) := by rw [hwb]; go_simp
  have x2 : wb.cell? ⟨w.heap.size, 2, none⟩ = some (.slice A3 n3 c3) := by rw [hwb]; go_simp
  have k0 : wb.cell? ⟨w.heap.size, 4, none⟩ = some (.int .u8 u0) := by rw [hwb]; go_simp
  have k1 : wb.cell? ⟨w.heap.size, 5, none⟩ = some (.int .u8 u1) := by rw [hwb]; go_simp
  have k2 : wb.cell? ⟨w.heap.size, 6, none⟩ = some (.int .i64 x) := by rw [hwb]; go_simp
  have hgb : w.heap.size < wb.heap.size := by rw [hwb]; simp
  have KK := Lib.hid (fun wr (b : Below wb.heap.size wb wr) => And.intro ((b.cell (p := ⟨w.heap.size, 4, none⟩) hgb).trans k0) (And.intro ((b.cell (p := ⟨w.heap.size, 5, none⟩) hgb).trans k1) (And.intro ((b.cell (p := ⟨w.heap.size, 6, none⟩) hgb).trans k2) (Nat.lt_of_lt_of_le hgb b.size))))
  have MK := Lib.hid (make12 c1 c2 c3 (HP.out.below BB.out))
  rw [← hwb]
  clear hwb k0 k1 k2
  go_upto_if 26 with (first
    | (go_at_call 14; refine (cloneC _ L N _ O1.out.cel (by omega)).mono ?_; rintro e w2 ⟨A5, c5, rfl, o2, b2⟩; have O2 := Lib.hid o2; have B2 := Lib.hid b2; clear o2 b2)
    | (go_at_call 21; refine MK.out.mono ?_; rintro e w1 ⟨N, L, A, c, pv, rfl, o1, hg, hN, b1⟩; have O1 := Lib.hid o1; have HG := Lib.hid hg; have B1 := Lib.hid b1; clear o1 hg b1))
  have BW2 : Hid (Below wb.heap.size wb w2) := Lib.hid (B1.out.trans (B2.out.mono B1.out.size))
  obtain ⟨k0, k1, k2, hgw⟩ := KK.out w2 BW2.out
  obtain ⟨⟨r0, r1⟩, r2, r3⟩ := hu.out
  clear x0 x1 x2 hgb MK HP
  go_cut [] from 44 to 44 (fun wx => Tn1 w1.heap.size w2 A5 c5 N wx)
  case first =>
    by_cases hN0 : 0 < N
    · have q0 : decide (0 < N) = true := decide_eq_true hN0
      obtain ⟨g5, rfl⟩ := own_at O2.out hN0
      obtain ⟨a, ha⟩ : ∃ a : Nat, u0 % (N : Int) = (a : Int) := ⟨(u0 % (N : Int)).toNat, by rw [Int.toNat_of_nonneg (Int.emod_nonneg _ (by omega))]⟩
      have haN : a < N := by have := Int.emod_lt_of_pos u0 (show (0 : Int) < N by omega); omega
      obtain ⟨d, hd⟩ : ∃ d : Nat, u1 % 4 = (d : Int) := ⟨(u1 % 4).toNat, by omega⟩
      have hd4 : d < 4 := by omega
      have ha' : u0.tmod (N : Int) = (a : Int) := by rw [Int.tmod_eq_emod_of_nonneg r0]; exact ha
      have hd' : u1.tmod 4 = (d : Int) := by rw [Int.tmod_eq_emod_of_nonneg r2]; exact hd
      have cx1 : IntKind.i64.wrap u0 = u0 := IntWalk.i64_in _ (by omega)
      have cx2 : IntKind.i64.wrap u1 = u1 := IntWalk.i64_in _ (by omega)
      have hl5 := O2.out.len
      obtain ⟨y1, j1⟩ : ∃ y, w2.cell? ⟨g5, a * 8 + 4 + d, none⟩ = some y := ⟨_, by rw [World.ownsRow.cellAt O2.out (a * 8 + 4 + d) (by omega), List.getElem?_eq_getElem (by simp; omega)]⟩
      have j3 := World.ownsRow.frozenAt O2.out (a * 8 + 4 + d)
      have z5 := (World.ownsRow.lt O2.out g5 rfl).1
      have OS := Lib.hid (O2.out.set (a * 8 + 4 + d) x)
      clear hl5 hN0
      go_upto_region 4 with (fail)
      go_region
      go_wp2_with fail
      go_meet
      exact ⟨_, OS.out.below (Below.refl _ _).drew (Nat.le_refl _), (((Below.refl w1.heap.size w2).setCell (p := ⟨g5, a * 8 + 4 + d, none⟩) z5 _)).drew⟩
    · have q0 : decide (0 < N) = false := decide_eq_false hN0
      go_wp2_with fail
      go_meet
      exact ⟨L, O2.out, Below.refl _ _⟩
  case rest =>
    obtain ⟨M, hM, hB3⟩ := hcut
    obtain ⟨w3, hw3⟩ : ∃ W, W = wc := ⟨_, rfl⟩
    subst hw3
    have M3 := Lib.hid hM
    have BL3 : Hid (Below w1.heap.size w1 w3) := Lib.hid (B2.out.trans hB3)
    clear hM hB3 k0 k1 k2 hgw O2 B2 BW2
    have HT := Lib.hid (turn_chk (L := M) (n := N))
    have HT2 : Hid (chkG (turnG L N) N = 0) := Lib.hid (turn_chk.2 (good_chk HG.out (by omega)))
    obtain ⟨z1, hz1⟩ : ∃ z, chkG (turnG M N) N = z := ⟨_, rfl⟩
    obtain ⟨z2, hz2⟩ : ∃ z, chkG M N = z := ⟨_, rfl⟩
    have hzz : z1 = 0 ↔ z2 = 0 := by rw [← hz1, ← hz2]; exact HT.out
    have C1 : Hid (∀ w v, CelAt w v (turnG M N) N → Calls Try.prog 24 #[v] w fun r w' => r = .returned (.int .i64 z1) ∧ Below w.heap.size w w') := Lib.hid (fun w v h => by
      have := checkY v _ N w h (by omega)
      rw [hz1] at this
      exact this)
    have C2 : Hid (∀ w v, CelAt w v M N → Calls Try.prog 24 #[v] w fun r w' => r = .returned (.int .i64 z2) ∧ Below w.heap.size w w') := Lib.hid (fun w v h => by
      have := checkY v _ N w h (by omega)
      rw [hz2] at this
      exact this)
    have RT := Lib.hid (fun lv L w (h : CelAt w lv L N) => refTurned lv L N w h (by omega))
    clear HT hz1 hz2
    have QZ : ∃ t : Bool, (z1 == 0) = t ∧ (z2 == 0) = t ∧ (z1 != 0) = !t ∧ (z2 != 0) = !t := by
      by_cases hz : z2 = 0
      · have h2 := hzz.2 hz
        exact ⟨true, by rw [h2]; rfl, by rw [hz]; rfl, by rw [h2]; rfl, by rw [hz]; rfl⟩
      · have h2 : ¬ z1 = 0 := fun e => hz (hzz.1 e)
        have e1 : (z1 == 0) = false := by rw [beq_eq_false_iff_ne]; exact h2
        have e2 : (z2 == 0) = false := by rw [beq_eq_false_iff_ne]; exact hz
        exact ⟨false, e1, e2, by rw [bne, e1], by rw [bne, e2]⟩
    obtain ⟨t, t1, t2, t3, t4⟩ := QZ
    clear hzz
    have BW1 : Hid (Below w.heap.size w w1) := Lib.hid (BB.out.trans (B1.out.mono BB.out.size))
    go_upto_region 7 with (first
      | (have _z := B5; go_at_call 24; refine (C2.out _ _ (OwnG.cel (M3.out.below B5.out (Nat.le_refl _)))).mono ?_; rintro e w6 ⟨rfl, b6⟩; have B6 : Hid (Below w3.heap.size w3 w6) := Lib.hid (B5.out.trans (b6.mono B5.out.size)); clear b6)
      | (have _z := O4; go_at_call 24; refine (C1.out _ _ O4.out).mono ?_; rintro e w5 ⟨rfl, b5⟩; have B5 : Hid (Below w3.heap.size w3 w5) := Lib.hid (B4.out.trans (b5.mono B4.out.size)); clear b5)
      | (go_at_call 25; refine (RT.out _ M _ M3.out.cel).mono ?_; rintro e w4 ⟨⟨A4, c4, rfl, o4⟩, b4⟩; have O4 := Lib.hid (OwnG.cel o4); have B4 := Lib.hid b4; clear o4 b4))
    have BL6 : Hid (Below w1.heap.size w1 w6) := Lib.hid (BL3.out.trans (B6.out.mono BL3.out.size))
    clear M3 BL3 B6 C1 C2 t1 t2 t3 t4
    go_upto_region 9 with (first
      | (have _z := O8; go_at_call 23; refine (ofY _ (turnG L N) N _ O8.out (by omega) HT2.out).mono ?_; rintro e w9 ⟨p2, v2, rfl, g9, f9, b9⟩; have H9 := Lib.hid g9; have F9 := Lib.hid f9; have B9 := Lib.hid b9; clear g9 f9 b9)
      | (go_at_call 25; refine (RT.out _ L _ (OwnG.cel (O1.out.below BL7.out (Nat.le_refl _)))).mono ?_; rintro e w8 ⟨⟨A8, c8, rfl, o8⟩, b8⟩; have O8 := Lib.hid (OwnG.cel o8); have B8 := Lib.hid b8; clear o8 b8)
      | (go_at_call 23; refine (ofY _ L N _ (OwnG.cel (O1.out.below BL6.out (Nat.le_refl _))) (by omega) (good_chk HG.out (by omega))).mono ?_; rintro e w7 ⟨p, v, rfl, g7, f7, b7⟩; have G7 := Lib.hid g7; have F7 := Lib.hid f7; have B7 := Lib.hid b7; have BL7 : Hid (Below w1.heap.size w1 w7) := Lib.hid (BL6.out.trans (b7.mono BL6.out.size)); clear g7 f7 b7))
    go_upto_region 11 with (go_at_call 10; refine (WK.out _).mono ?_; rintro e w10 ⟨rfl, b10⟩; have B10 := Lib.hid b10; clear b10)
    have BL9 : Below w1.heap.size w1 w9 := (BL7.out.trans (B8.out.mono BL7.out.size)).trans (B9.out.mono (BL7.out.trans (B8.out.mono BL7.out.size)).size)
    have BL10 : Hid (Below w1.heap.size w1 w10) := Lib.hid (BL9.trans (B10.out.mono BL9.size))
    have G8 := G7.out.below B8.out
    have G10 := Lib.hid ((G8.below B9.out).below B10.out)
    have H10 := Lib.hid (H9.out.below B10.out)
    have FH : Hid (∀ b, FootG p2 v2 b → ¬ FootG p v b) := Lib.hid (fun b h2 h1 => by
      have := F9.out b h2
      have := G8.foot h1
      omega)
    have FB : Hid (∀ b, FootG p v b → w1.heap.size ≤ b) := Lib.hid (fun b h => Nat.le_trans BL6.out.size (F7.out b h))
    have FB2 : Hid (∀ b, FootG p2 v2 b → w1.heap.size ≤ b) := Lib.hid (fun b h => Nat.le_trans (BL7.out.trans (B8.out.mono BL7.out.size)).size (F9.out b h))
    have hk := KK.out w10 (B1.out.trans (BL10.out.mono B1.out.size))
    obtain ⟨k0, k1, k2, hgw⟩ := hk
    clear BL9 G8 G7 F7 B8 H9 F9 B9 B10 BL6 BL7 HT2 O8 B7 BB KK hu
    obtain ⟨N1, hN1⟩ : ∃ N1, (N : Int) + 1 = (N1 : Nat) := ⟨N + 1, by omega⟩
    have hN1' : N1 = N + 1 := by omega
    obtain ⟨a, ha⟩ : ∃ a : Nat, u0 % (N1 : Int) = (a : Int) := ⟨(u0 % (N1 : Int)).toNat, by rw [Int.toNat_of_nonneg (Int.emod_nonneg _ (by omega))]⟩
    obtain ⟨d, hd⟩ : ∃ d : Nat, u1 % 4 = (d : Int) := ⟨(u1 % 4).toNat, by omega⟩
    have hd4 : d < 4 := by omega
    have ha' : u0.tmod (N1 : Int) = (a : Int) := by rw [Int.tmod_eq_emod_of_nonneg r0]; exact ha
    have hd' : u1.tmod 4 = (d : Int) := by rw [Int.tmod_eq_emod_of_nonneg r2]; exact hd
    have cx1 : IntKind.i64.wrap u0 = u0 := IntWalk.i64_in _ (by omega)
    have cx2 : IntKind.i64.wrap u1 = u1 := IntWalk.i64_in _ (by omega)
    have cx3 : IntKind.i64.wrap ((N : Int) + 1) = (N1 : Int) := by rw [hN1]; exact IntWalk.i64_in _ (by omega)
    have cx4 : IntKind.i64.wrap (N1 : Int) = (N1 : Int) := IntWalk.i64_in _ (by omega)
    have hN1p : 0 < N1 := by omega
    clear hN1'
    go_quiet (fail)
    obtain ⟨wq, hwq⟩ : ∃ W, W = w10.drewN nq := ⟨_, rfl⟩
    rw [← hwq]
    have bq : Below w10.heap.size w10 wq := by rw [hwq]; exact drewN_below (Below.refl _ _) _
    have GQ := Lib.hid (G10.out.below bq)
    have HQ := Lib.hid (H10.out.below bq)
    have BLQ : Hid (Below w1.heap.size w1 wq) := Lib.hid (BL10.out.trans (bq.mono BL10.out.size))
    clear hwq bq G10 H10 BL10 ha ha' hd hd' cx1 cx2 cx3 cx4 k0 k1 k2 hgw hN1p hN1 r0 r1 r2 r3
    have hlft : ((d : Int) + 1) % 4 = ((lft d : Nat) : Int) := by unfold lft; omega
    have cx5 : IntKind.i64.wrap ((d : Int) + 1) = (d : Int) + 1 := IntWalk.i64_in _ (by omega)
    have TU := splO_turn (a := a) (d := d) GQ.out.len HG.out hd4
    have CS := splitAny GQ.out HG.out (by omega) (a : Int) (d : Int)
    have CH := fun wr (h : GrdAt wr p2 v2 (turnG L N) N) => splitAny h (turn_good.2 HG.out) (by omega) (a : Int) (lft d : Int)
    have gd := spl_good (x := a) (d := d) GQ.out.len HG.out
    rw [TU] at CH
    obtain ⟨R, hR⟩ : ∃ R, splO L N a d = R := ⟨_, rfl⟩
    rw [hR] at CS CH gd
    have HCS := Lib.hid CS
    have HCH := Lib.hid CH
    have hR13 : R.n ≤ 13 := by omega
    have RT2 := Lib.hid (fun lv L w (h : CelAt w lv L R.n) => refTurned lv L R.n w h (by omega))
    clear TU CS CH hR gd
    generalize lft d = d2 at *
    go_upto_region 14 with (first
      | (have _z := G12; go_at_call 11; refine (HCH.out _ H12.out).mono ?_; rintro e w13 ⟨rfl, t13⟩; obtain ⟨v13, g13, o13, f13⟩ := t13; have G13 := Lib.hid (G12.out.out o13 (fun b h1 h2 => S12.out b h1 h2)); have H13 := Lib.hid g13; have BL13 : Hid (Below w1.heap.size w1 w13) := Lib.hid (BL12.out.trans (o13.below BL12.out.size (fun i _ h => FB2.out i h))); clear g13 o13 f13)
      | (go_at_call 11; refine HCS.out.mono ?_; rintro e w12 ⟨rfl, t12⟩; obtain ⟨v12, g12, o12, f12⟩ := t12; have H12 := Lib.hid (HQ.out.out o12 (fun b h2 h1 => FH.out b h2 h1)); have S12 : Hid (∀ b, FootG p v12 b → ¬ FootG p2 v2 b) := Lib.hid (fun b h1 h2 => by (rcases h1 with h1 | h1; exact FH.out b h2 (Or.inl h1); rcases f12 b h1 with h3 | h3; exact FH.out b h2 (Or.inr h3); exact absurd (HQ.out.foot h2) (by omega))); have G12 := Lib.hid g12; have BL12 : Hid (Below w1.heap.size w1 w12) := Lib.hid (BLQ.out.trans (o12.below BLQ.out.size (fun i _ h => FB.out i h))); clear g12 o12 f12))
    clear HCS HCH S12 G12 H12 GQ HQ FB FB2 FH BLQ BL12
    go_wp2_with (first
      | (go_at_call 19; refine (refSameC _ _ (turnG R.L R.n) (turnG R.L R.n) R.n R.n _ (OwnG.cel (O15.out.below B16.out (Nat.le_refl _))) O16.out (by omega) (by omega)).mono ?_; rintro e w17 ⟨rfl, b17⟩; rw [decide_eq_true (rfl : turnG R.L R.n = turnG R.L R.n)]; have B17 := Lib.hid b17; clear b17)
      | (have _z := O15; go_at_call 20; refine (cellsY ((H13.out.below B14.out).below B15.out) (by omega)).mono ?_; rintro e w16 ⟨A16, c16, rfl, o16, b16⟩; have O16 := Lib.hid (OwnG.cel o16); have B16 := Lib.hid b16; clear o16 b16)
      | (go_at_call 25; refine (RT2.out _ R.L _ O14.out).mono ?_; rintro e w15 ⟨⟨A15, c15, rfl, o15⟩, b15⟩; have O15 := Lib.hid o15; have B15 := Lib.hid b15; clear o15 b15)
      | (go_at_call 20; refine (cellsY G13.out (by omega)).mono ?_; rintro e w14 ⟨A14, c14, rfl, o14, b14⟩; have O14 := Lib.hid (OwnG.cel o14); have B14 := Lib.hid b14; clear o14 b14))
    go_ret
    have h13 := BW1.out.trans (BL13.out.mono BW1.out.size)
    have h14 := h13.trans (B14.out.mono h13.size)
    have h15 := h14.trans (B15.out.mono h14.size)
    have h16 := h15.trans (B16.out.mono h15.size)
    exact ⟨rfl, h16.trans (B17.out.mono h16.size)⟩
end Go.Proofs.Ytkgknbjcllcndaa
