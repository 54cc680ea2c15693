/-
  FaceTurns: the walk: at all places, darts and numbers the call answers true and turns nothing that was there. Conditions: the ways read as the program lays them.
-/
import Derived.Test.YtkgabklponjagaaDoorFcK
import Derived.Test.YtkgabklponjagaaDoorFcO
namespace Go.Proofs.YtkgabklponjagaaDoor
open Go.RowKit Go.Proofs.YtkgabklponjagaaDoor.GrM Go.Proofs.YtkgabklponjagaaDoor.FcM

/-- The cells with one more that is next to itself. -/
def badC (n : Nat) : List Int := [(n : Int), -1, -1, -1, 0, 0, 0, 0]
theorem bad_chk {L : List Int} {n : Nat} (hl : L.length = n * 8) : chkG (L ++ badC n) (n + 1) ≠ 0 := by
  intro h
  have hg := (chk_good.1 h).2 n 0 (by omega) (by decide)
  have e : nxG (L ++ badC n) n 0 = n := by
    unfold nxG
    rw [getD_right (by omega), hl, show n * 8 + 0 - n * 8 = 0 by omega]
    rfl
  rcases chk1_zero.1 hg with h1 | h1
  · rw [e] at h1; omega
  · rw [e] at h1; exact h1.2.2.1 rfl
theorem trQ_bad {L : List Int} {n : Nat} (h : chkG L n ≠ 0) (p : Int × Int) : trQ L n p = 0 := by
  unfold trQ okQ
  rw [decide_eq_false h, Bool.false_and]
  rfl
def TnA (w0 wr : World) (K : Nat) (iv : Value) : Prop := ∃ i : Nat, iv = .int .i64 i ∧ i ≤ K ∧ Below w0.heap.size w0 wr
theorem badBlk (n : Nat) : (badC n).map intV = [.int .i64 (n : Int), .int .i64 (-1), .int .i64 (-1), .int .i64 (-1), .int .i64 0, .int .i64 0, .int .i64 0, .int .i64 0] := rfl
set_option maxHeartbeats 16000000 in
set_option maxRecDepth 100000 in
theorem turns12 {A1 A2 A3 : Option Addr} {n1 n2 n3 : Nat} (c1 c2 c3 : Nat) {D1 D2 D3 : Nat → Int} (AD : Option Addr) (nD cD K : Nat) (D : List (Int × Int)) (x : Int) (w : World) (h : Plane w A1 A2 A3 n1 n2 n3 D1 D2 D3) (hT : WayT w)
    (hD : PtsAt w (.slice AD K cD) D) (hDl : D.length = K) (hK : K ≤ 20) (hKc : K ≤ cD) (hmin : min (nD : Int) 20 = (K : Int)) :
    Calls Tryd.prog 6 #[.agg #[.slice A1 n1 c1, .slice A2 n2 c2, .slice A3 n3 c3], .slice AD nD cD, .int .i64 x] w fun e w' => e = .returned (.bool true) ∧ Below w.heap.size w w' := by
  have HP := Lib.hid h
  have HT := Lib.hid hT
  have HD := Lib.hid hD
  have HDL := Lib.hid hDl
  have WK := Lib.hid (fun w hT => wakes12 w hT)
  obtain ⟨i0, hi, hz0, hz1, hz2⟩ := info_c8
  clear h hT hD hDl
  go_enter Tryd.func6, Tryd.ntmps6
  go_upto_region 1 with (fail)
  obtain ⟨wb, hwb⟩ : ∃ W, W = (w.alloc (.cells #[.slice A1 n1 c1, .slice A2 n2 c2, .slice A3 n3 c3] 25)) := ⟨_, rfl⟩
  have BB : Hid (Below w.heap.size w wb) := Lib.hid (by rw [hwb]; exact (Below.refl _ _).alloc (Nat.le_refl _) _)
  have x0 : wb.cell? ⟨w.heap.size, 0, none⟩ = some (.slice A1 n1 c1) := by rw [hwb]; go_simp
  have x1 : wb.cell? ⟨w.heap.size, 1, none⟩ = some (.slice A2 n2 c2) := by rw [hwb]; go_simp
  have x2 : wb.cell? ⟨w.heap.size, 2, none⟩ = some (.slice A3 n3 c3) := by rw [hwb]; go_simp
  have hgb : w.heap.size < wb.heap.size := by rw [hwb]; simp
  have MK := Lib.hid (makeN 12 (by decide) c1 c2 c3 (HP.out.below BB.out))
  rw [← hwb]
  clear hwb
  go_upto_region 3 with (go_at_call 8; refine MK.out.mono ?_; rintro e w1 ⟨N, L, A, c, pv, rfl, o1, hg, hN, b1⟩; have O1 := Lib.hid o1; have HG := Lib.hid hg; have B1 := Lib.hid (BB.out.trans (b1.mono BB.out.size)); clear o1 hg b1)
  have H0 : Hid (chkG L N = 0) := Lib.hid (good_chk HG.out (by omega))
  clear x0 x1 x2 hgb MK HP
  go_upto_region 6 with (go_at_call 13; refine (turnsAny _ _ L D N K _ (OwnG.cel O1.out) (HD.out.below B1.out (Nat.le_refl _)) (by omega) HDL.out (by omega) (HT.out.below B1.out (Nat.le_refl _))).mono ?_; rintro e w2 ⟨A2, c2, rfl, o2, b2⟩; have O2 := Lib.hid o2; have B2 := Lib.hid (B1.out.trans (b2.mono B1.out.size)); have O1b := Lib.hid (OwnG.cel (O1.out.below b2 (Nat.le_refl _))); clear o2 b2)
  go_wp2_with fail
  go_loopw [37] (fun iv wr => TnA w2 wr K iv) (fun iv _ => K - (intOf iv).toNat)
  case atStart => exact ⟨0, rfl, Nat.zero_le _, Below.refl _ _⟩
  case round =>
    obtain ⟨i, rfl, hi2, hB⟩ := hrel
    have B := Lib.hid hB
    have BW := Lib.hid (B2.out.trans (hB.mono B2.out.size))
    by_cases hlt : i < K
    · have q0 : decide (i < K) = true := decide_eq_true hlt
      have ZT := O2.out.zs.below hB (Nat.le_refl _)
      obtain ⟨bt, ot, ct, et, hbt, ft⟩ := ZT.nth hlt
      simp only [Value.slice.injEq, true_and] at et
      obtain ⟨rfl, rfl⟩ := et
      obtain ⟨A9, cap, e, hc, hA⟩ := HD.out.below BW.out (Nat.le_refl _)
      rw [HDL.out] at e
      simp only [Value.slice.injEq, true_and] at e
      obtain ⟨rfl, rfl⟩ := e
      obtain ⟨b, o, rfl, hb, hx⟩ := hA (by rw [HDL.out]; omega)
      obtain ⟨f0, f1⟩ := hx i (by rw [HDL.out]; exact hlt)
      have hil : i < D.length := by rw [HDL.out]; exact hlt
      have GE : (D.map (trQ L N)).getD i 0 = trQ L N (D.getD i (0, 0)) := by simp [List.getD_eq_getElem?_getD, hil]
      rw [GE] at ft
      obtain ⟨P, hP⟩ : ∃ P, D.getD i (0, 0) = P := ⟨_, rfl⟩
      rw [hP] at f0 f1 ft
      clear hx hA GE hP hil hB hc ZT
      have IS := fun wr (b : Below w2.heap.size w2 wr) => refIs (.slice A N c) L N P.1 P.2 wr (O1b.out.below b (Nat.le_refl _)) (by omega) HG.out
      have hstep : stepB L N P.1 P.2 = okQ L N P := by unfold okQ; rw [decide_eq_true H0.out, Bool.true_and]
      rw [hstep] at IS
      have TF : Hid (okQ L N P = false → trQ L N P = 0) := Lib.hid (fun h => by unfold trQ; rw [h]; rfl)
      have TT : Hid (okQ L N P = true → ∃ k, isK L N k ∧ P = pairK k ∧ trQ L N P = trnK L k) := Lib.hid (fun h => by
        obtain ⟨a, b⟩ := step_dart (hstep.trans h)
        exact ⟨_, a, b, by unfold trQ; rw [if_pos h]⟩)
      obtain ⟨k, hk⟩ : ∃ k, okQ L N P = k := ⟨_, rfl⟩
      obtain ⟨p0, hp0⟩ : ∃ z, P.1 = z := ⟨_, rfl⟩
      obtain ⟨p1, hp1⟩ : ∃ z, P.2 = z := ⟨_, rfl⟩
      obtain ⟨tq, htq⟩ : ∃ z, trQ L N P = z := ⟨_, rfl⟩
      rw [hk] at IS TF TT
      rw [hp0] at IS f0
      rw [hp1] at IS f1
      rw [htq] at TF TT ft
      have IH := Lib.hid IS
      have PE := Lib.hid (And.intro hp0 hp1)
      have zb := hb
      have zt := hbt
      obtain ⟨w9, hw9⟩ : ∃ X, X = ((wr.alloc (.cells #[.int .i64 p0, .int .i64 p1] 28)).alloc (.cells #[.int .i64 p0, .int .i64 p1] 47)) := ⟨_, rfl⟩
      have b9 : Below wr.heap.size wr w9 := by rw [hw9]; exact ((Below.refl _ _).alloc (Nat.le_refl _) _).alloc (by simp) _
      have g0 : w9.cell? ⟨wr.heap.size + 1, 0, none⟩ = some (.int .i64 p0) := by rw [hw9]; go_simp
      have g1 : w9.cell? ⟨wr.heap.size + 1, 1, none⟩ = some (.int .i64 p1) := by rw [hw9]; go_simp
      have hz9 : wr.heap.size + 1 < w9.heap.size := by rw [hw9]; simp
      have ft9 := (b9.cell (p := ⟨bt, ot + i, none⟩) hbt).trans ft
      have zt9 := Nat.lt_of_lt_of_le hbt b9.size
      have B9 := Lib.hid b9
      have BX := Lib.hid (B.out.trans (b9.mono B.out.size))
      clear hk hp0 hp1 htq IS hstep
      go_upto_region 11 with fail
      rw [← hw9]
      clear hw9 b9 f0 f1 ft zb zt hb hbt
      have KK : Hid (∀ wq, Below w9.heap.size w9 wq → wq.cell? ⟨wr.heap.size + 1, 0, none⟩ = some (.int .i64 p0) ∧ wq.cell? ⟨wr.heap.size + 1, 1, none⟩ = some (.int .i64 p1) ∧ wr.heap.size + 1 < wq.heap.size ∧ wq.cell? ⟨bt, ot + i, none⟩ = some (.int .i64 tq) ∧ bt < wq.heap.size) := Lib.hid (fun wq b =>
        ⟨(b.cell (p := ⟨_, _, none⟩) hz9).trans g0, (b.cell (p := ⟨_, _, none⟩) hz9).trans g1, Nat.lt_of_lt_of_le hz9 b.size, (b.cell (p := ⟨_, _, none⟩) zt9).trans ft9, Nat.lt_of_lt_of_le zt9 b.size⟩)
      cases k
      · have ht0 := TF.out rfl
        subst ht0
        clear TF TT
        go_upto_region 13 with (go_at_call 19; refine (IH.out _ BX.out).mono ?_; rintro e w5 ⟨rfl, b5⟩; have B5 := Lib.hid b5; clear b5)
        obtain ⟨-, -, -, ft5, zt5⟩ := KK.out _ B5.out
        clear g0 g1 hz9 ft9 zt9
        go_wp2_with fail
        go_roundw
        case rel => exact ⟨i + 1, by go_num, by omega, BX.out.trans (B5.out.mono BX.out.size)⟩
        case measure => (simp [intOf] <;> omega)
      · obtain ⟨k, hkd, hPk, htk⟩ := TT.out rfl
        have TR := Lib.hid (fun dv wq (b : Below w2.heap.size w2 wq) (hd : PtsAt wq dv [pairK k]) => refTurns (.slice A N c) dv L [k] N wq (O1b.out.below b (Nat.le_refl _)) hd HG.out (fun j hj => by obtain rfl := List.mem_singleton.1 hj; exact hkd) (by simp))
        have HPK := Lib.hid hPk
        have HTK := Lib.hid htk
        clear TF TT hkd hPk htk
        go_upto_region 12 with (go_at_call 19; refine (IH.out _ BX.out).mono ?_; rintro e w5 ⟨rfl, b5⟩; have B5 := Lib.hid b5; clear b5)
        obtain ⟨g50, g51, z5, -, -⟩ := KK.out _ B5.out
        clear g0 g1 hz9 ft9 zt9
        have BX5 := Lib.hid (BX.out.trans (B5.out.mono BX.out.size))
        have PN : Hid (∀ o, o = (.cells #[.int .i64 p0, .int .i64 p1] 47 : Obj) → PtsAt (w5.alloc o) (.slice (some ⟨w5.heap.size, 0, none⟩) 1 1) [pairK k]) := Lib.hid (fun o ho => by
          subst ho
          refine ⟨_, 1, rfl, by simp, fun _ => ⟨w5.heap.size, 0, rfl, by simp, fun j hj => ?_⟩⟩
          have hj0 : j = 0 := by simpa using hj
          subst hj0
          have q0 : (w5.alloc (.cells #[.int .i64 p0, .int .i64 p1] 47)).cell? ⟨w5.heap.size, 0, none⟩ = some (.int .i64 p0) := by go_simp
          have q1 : (w5.alloc (.cells #[.int .i64 p0, .int .i64 p1] 47)).cell? ⟨w5.heap.size, 1, none⟩ = some (.int .i64 p1) := by go_simp
          have e0 : (pairK k).1 = p0 := by rw [← HPK.out]; exact PE.out.1
          have e1 : (pairK k).2 = p1 := by rw [← HPK.out]; exact PE.out.2
          exact ⟨by show _ = some (Value.int .i64 (pairK k).1); rw [e0]; exact q0, by show _ = some (Value.int .i64 (pairK k).2); rw [e1]; exact q1⟩)
        go_upto_region 13 with (go_at_call 15; refine (TR.out _ _ (BX5.out.alloc BX5.out.size _) (PN.out _ rfl)).mono ?_; rintro e w6 ⟨⟨A6, c6, rfl, o6⟩, b6⟩; have B6 : Hid (Below w9.heap.size w9 w6) := Lib.hid ((B5.out.alloc B5.out.size _).trans (b6.mono (by have := B5.out.size; simp; omega))); obtain ⟨b7, o7, c7, e7, hb7, f7⟩ := o6.zs.nth (k := 0) (by simp); simp only [Value.slice.injEq, true_and] at e7; obtain ⟨rfl, rfl⟩ := e7; (have f8 : w6.cell? ⟨b7, o7, none⟩ = some (.int .i64 tq) := (by rw [HTK.out]; exact f7)); clear o6 b6 f7)
        obtain ⟨-, -, -, ft5, zt5⟩ := KK.out _ B6.out
        go_wp2_with fail
        go_roundw
        case rel => exact ⟨i + 1, by go_num, by omega, BX.out.trans (B6.out.mono BX.out.size)⟩
        case measure => (simp [intOf] <;> omega)
    · have hiK : i = K := by omega
      subst hiK
      clear hB
      have q0 : decide (i < i) = false := decide_eq_false hlt
      go_upto_region 16 with fail
      clear q0
      have OB := O1b.out.below B.out (Nat.le_refl _)
      go_upto_region 17 with (first
        | (go_at_call 22; refine (cloneC _ L N _ OB (by omega)).mono ?_; rintro e w4 ⟨A5, c5, rfl, o4, b4⟩; have O4 := Lib.hid o4; have B4 := Lib.hid b4; clear o4 b4)
        | (at_builtin; refine wpList_append_fresh rfl (.tmp 64) (.tmp 69) 26 rfl wr.heap.size 57 i0 (.agg #[.int .i64 0, .int .i64 0, .int .i64 0, .int .i64 0, .int .i64 0, .int .i64 0, .int .i64 0, .int .i64 0]) 8 64 Tryd.underlying26 hi hz0 hz1 hz2 rfl (by decide) (.slice A5 N c5) N (L.map intV) rfl (O4.out.below ((Below.refl _ _).alloc (Nat.le_refl _) _) (Nat.le_refl _)) ⟨w4.heap.size, 0, none⟩ 1 1 ((badC N).map intV) rfl rfl (newsC _ _ _ _ _ _ _ _ _ _ _ rfl) (allI _) (by unfold maxLen; omega) (by omega) (by have := B4.out.size; simp; omega) ?_; intro v5 w5 hown hgrow hfr))
      have OG : OwnG w5 wr.heap.size v5 (L ++ badC N) (N + 1) := by
        unfold OwnG
        rw [List.map_append]
        exact hown
      have hrl := fun b hb => (World.ownsRow.lt O4.out b hb)
      have B5 : Hid (Below w.heap.size w w5) := Lib.hid (by
        have b4 := BW.out.trans (B4.out.mono BW.out.size)
        exact (b4.alloc b4.size _).grown hgrow (by have := b4.size; simp; omega) (fun q hq => Nat.le_trans BW.out.size (hrl q hq).1))
      have BC := Lib.hid (bad_chk O1.out.len)
      obtain ⟨M, hM⟩ : ∃ M, L ++ badC N = M := ⟨_, rfl⟩
      rw [hM] at OG BC
      obtain ⟨N1, hN1⟩ : ∃ N1, N + 1 = N1 := ⟨_, rfl⟩
      rw [hN1] at OG BC
      have hN13 : N1 ≤ 13 := by omega
      have CG := Lib.hid OG.cel
      obtain ⟨av, cv, e5⟩ := OG.form
      subst e5
      have ZE : Hid (∀ j, (D.map (trQ M N1)).getD j 0 = 0) := Lib.hid (fun j => by
        rw [List.getD_eq_getElem?_getD, List.getElem?_map]
        cases D[j]? with
        | none => rfl
        | some p => exact trQ_bad BC.out p)
      clear hown hgrow hfr OG hrl hM hN1 OB O4 B4 hi hz0 hz1 hz2
      go_wp2_with (go_at_call 13; refine (turnsAny _ _ M D N1 i _ CG.out (HD.out.below B5.out (Nat.le_refl _)) (by omega) HDL.out (by omega) (HT.out.below B5.out (Nat.le_refl _))).mono ?_; rintro e w6 ⟨A6, c6, rfl, o6, b6⟩; have Z6 := Lib.hid o6.zs; have B6 := Lib.hid (B5.out.trans (b6.mono B5.out.size)); clear o6 b6)
      go_loopw [75] (fun iv wr => TnA w6 wr i iv) (fun iv _ => i - (intOf iv).toNat)
      case atStart => exact ⟨0, rfl, Nat.zero_le _, Below.refl _ _⟩
      case round =>
        obtain ⟨j, rfl, hj2, hB⟩ := hrel
        have C := Lib.hid hB
        by_cases hjt : j < i
        · have q0 : decide (j < i) = true := decide_eq_true hjt
          obtain ⟨bz, oz, cz, ez, hbz, fz⟩ := (Z6.out.below hB (Nat.le_refl _)).nth hjt
          simp only [Value.slice.injEq, true_and] at ez
          obtain ⟨rfl, rfl⟩ := ez
          rw [ZE.out j] at fz
          clear hB
          go_wp2_with fail
          go_roundw
          case rel => exact ⟨j + 1, by go_num, by omega, C.out⟩
          case measure => (simp [intOf] <;> omega)
        · have hji : j = i := by omega
          subst hji
          clear hB
          have q0 : decide (j < j) = false := decide_eq_false hjt
          have BE := Lib.hid (B6.out.trans (C.out.mono B6.out.size))
          go_upto_region 23 with fail
          obtain ⟨r, hr⟩ : ∃ r, rotI [x, 1, x] = r := ⟨_, rfl⟩
          have RO : Hid (∀ zv w, ZsAt w zv [x, 1, x] 3 → Calls Tryd.prog 16 #[zv] w fun e w' => e = .returned (.int .i64 r) ∧ w = w') := Lib.hid (fun zv w hZ => by rw [← hr]; exact rotAny zv [x, 1, x] 3 w hZ (by decide))
          have RR : Hid (∀ zv w, ZsAt w zv [x, 1, x] 3 → Calls Tryd.prog 17 #[zv] w fun e w' => e = .returned (.int .i64 r) ∧ w = w') := Lib.hid (fun zv w hZ => by rw [← hr]; exact refRot zv [x, 1, x] 3 w hZ (by decide))
          clear q0 hr
          go_wp2_with (go_at_call 11; refine (WK.out _ (HT.out.below BE.out (Nat.le_refl _))).mono ?_; rintro e w8 ⟨rfl, b8⟩; have B8 := Lib.hid (BE.out.trans (b8.mono BE.out.size)); clear b8)
          have ZN : Hid (∀ (wq : World) g, g = wq.heap.size → ZsAt (wq.alloc (.cells #[.int .i64 x, .int .i64 1, .int .i64 x] 3)) (.slice (some ⟨g, 0, none⟩) 3 3) [x, 1, x] 3) := Lib.hid (fun wq g hg => by
            subst hg
            exact zsNew _ _ [x, 1, x] 3 rfl 3 (heap_alloc_new wq _))
          go_wp2_with (first
            | (go_at_call 16; refine (RO.out _ _ (ZN.out _ _ rfl)).mono ?_; rintro e w9 ⟨rfl, rfl⟩)
            | (go_at_call 17; refine (RR.out _ _ (ZN.out _ _ (by simp))).mono ?_; rintro e w9 ⟨rfl, rfl⟩))
          go_ret
          exact ⟨rfl, (B8.out.alloc B8.out.size _).alloc (by have := B8.out.size; simp; omega) _⟩
end Go.Proofs.YtkgabklponjagaaDoor
