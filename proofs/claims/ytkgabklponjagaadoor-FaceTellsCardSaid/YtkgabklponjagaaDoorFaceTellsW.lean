/-
  FaceTells: the walk: at all places, cells and darts the call answers true and turns nothing that was there. Conditions: the ways read as the program lays them.
-/
import Derived.Test.YtkgabklponjagaaDoorFcK
import Derived.Test.YtkgabklponjagaaDoorFcO
import Derived.Test.YtkgabklponjagaaDoorFcN
import Derived.Test.YtkgabklponjagaaDoorFaceSumsW
import Derived.BigRegion
namespace Go.Proofs.YtkgabklponjagaaDoor
open Go.RowKit Go.Proofs.YtkgabklponjagaaDoor.GrM Go.Proofs.YtkgabklponjagaaDoor.FcM

def TlA (w0 wr : World) (m : Nat) (iv : Value) : Prop := ∃ i : Nat, iv = .int .i64 i ∧ i ≤ m ∧ Below w0.heap.size w0 wr
set_option maxHeartbeats 16000000 in
set_option maxRecDepth 100000 in
theorem tells12 {A1 A2 A3 : Option Addr} {n1 n2 n3 : Nat} (c1 c2 c3 : Nat) {D1 D2 D3 : Nat → Int} (AR : Option Addr) (nR cR KR : Nat) (LR : List Int) (dx dd : Int) (w : World) (h : Plane w A1 A2 A3 n1 n2 n3 D1 D2 D3) (hT : WayT w)
    (hR : CelAt w (.slice AR KR cR) LR KR) (hKR : KR ≤ 5) (hKc : KR ≤ cR) (hmin : min (nR : Int) 5 = (KR : Int)) (hdx : dx ≤ 9223372036854775807) (hdd : dd ≤ 9223372036854775807) :
    Calls Tryd.prog 3 #[.agg #[.slice A1 n1 c1, .slice A2 n2 c2, .slice A3 n3 c3], .slice AR nR cR, .agg #[.int .i64 dx, .int .i64 dd]] w fun e w' => e = .returned (.bool true) ∧ Below w.heap.size w w' := by
  have HP := Lib.hid h
  have HT := Lib.hid hT
  have HR := Lib.hid hR
  have WK := Lib.hid (fun w hT => wakes12 w hT)
  have HDX := Lib.hid (And.intro hdx hdd)
  clear h hT hR hdx hdd
  go_enter Tryd.func3, Tryd.ntmps3
  go_upto_region 1 with (fail)
  obtain ⟨wb, hwb⟩ : ∃ W, W = ((w.alloc (.cells #[.slice A1 n1 c1, .slice A2 n2 c2, .slice A3 n3 c3] 25)).alloc (.cells #[.int .i64 dx, .int .i64 dd] 28)) := ⟨_, rfl⟩
  have BB : Hid (Below w.heap.size w wb) := Lib.hid (by rw [hwb]; exact ((Below.refl _ _).alloc (Nat.le_refl _) _).alloc (by simp) _)
  have x0 : wb.cell? ⟨w.heap.size, 0, none⟩ = some (.slice A1 n1 c1) := by rw [hwb]; go_simp
  have x1 : wb.cell? ⟨w.heap.size, 1, none⟩ = some (.slice A2 n2 c2) := by rw [hwb]; go_simp
  have x2 : wb.cell? ⟨w.heap.size, 2, none⟩ = some (.slice A3 n3 c3) := by rw [hwb]; go_simp
  have d0 : wb.cell? ⟨w.heap.size + 1, 0, none⟩ = some (.int .i64 dx) := by rw [hwb]; go_simp
  have d1 : wb.cell? ⟨w.heap.size + 1, 1, none⟩ = some (.int .i64 dd) := by rw [hwb]; go_simp
  have hgb1 : w.heap.size + 1 < wb.heap.size := by rw [hwb]; simp
  have hgb : w.heap.size < wb.heap.size := by omega
  have DC : Hid (∀ wq, Below wb.heap.size wb wq → wq.cell? ⟨w.heap.size + 1, 0, none⟩ = some (.int .i64 dx) ∧ wq.cell? ⟨w.heap.size + 1, 1, none⟩ = some (.int .i64 dd) ∧ w.heap.size + 1 < wq.heap.size) := Lib.hid (fun wq b =>
    ⟨(b.cell (p := ⟨_, _, none⟩) hgb1).trans d0, (b.cell (p := ⟨_, _, none⟩) hgb1).trans d1, Nat.lt_of_lt_of_le hgb1 b.size⟩)
  have MK := Lib.hid (makeN 16 (by decide) c1 c2 c3 (HP.out.below BB.out))
  rw [← hwb]
  clear hwb d0 d1 hgb1
  go_upto_region 2 with (go_at_call 8; refine MK.out.mono ?_; rintro e w1 ⟨N, L, A, c, pv, rfl, o1, hg, hN, b1⟩; have O1 := Lib.hid (OwnG.cel o1); have HG := Lib.hid hg; have B1 := Lib.hid b1; clear o1 hg b1)
  have H0 : Hid (chkG L N = 0) := Lib.hid (good_chk HG.out (by omega))
  clear x0 x1 x2 hgb MK HP
  obtain ⟨F, hF⟩ : ∃ F, facesK L N = F := ⟨_, rfl⟩
  have HF := Lib.hid hF
  have TW : Hid (∀ wq, Below wb.heap.size wb wq → WayT wq) := Lib.hid (fun wq b => HT.out.below (BB.out.trans (b.mono BB.out.size)) (Nat.le_refl _))
  have FG := facesGood (.slice A N c) L N w1 O1.out (by omega) (TW.out w1 B1.out) H0.out
  unfold FacesP at FG
  rw [hF] at FG
  have RG := fun wq (b : Below w1.heap.size w1 wq) => refFaces (.slice A N c) L N wq (O1.out.below b (Nat.le_refl _)) (by omega) HG.out
  unfold RefFacesP at RG
  rw [hF] at RG
  obtain ⟨m, hm⟩ : ∃ m, F.length = m := ⟨_, rfl⟩
  have HM := Lib.hid hm
  rw [hm] at FG RG
  have HFG := Lib.hid FG
  have HRG := Lib.hid RG
  have FI := faces_is HG.out
  rw [hF] at FI
  have hfl : F.flatten.length ≤ 64 := by have := FI.met.len; omega
  have HFL := Lib.hid hfl
  have HFI := Lib.hid FI
  have hml : m ≤ 64 := by
    have := facs_len L N (4 * N)
    rw [show facS L N (4 * N) = F from hF, hm] at this
    omega
  have HXL : Hid (∀ i, (F.getD i []).length ≤ 64) := Lib.hid (fun i => by
    by_cases hi : i < F.length
    · have h1 := flat_le (F := F) (i + 1)
      rw [take_flat hi, List.length_append] at h1
      omega
    · rw [List.getD_eq_getElem?_getD, List.getElem?_eq_none (by omega)]; simp)
  have HPL : Hid (∀ i, ((pairF F).getD i []).length ≤ 1000000) := Lib.hid (fun i => by
    by_cases hi : i < F.length
    · rw [pairF_at hi, List.length_map]; have := HXL.out i; omega
    · rw [List.getD_eq_getElem?_getD, List.getElem?_eq_none (by rw [pairF_len]; omega)]; simp)
  clear hF FG RG hm FI hfl
  go_upto_region 6 with (first
    | (go_at_call 12; refine (sameT _ _ (pairF F) m _ F4.out G4.out (by omega) HPL.out).mono ?_; rintro e w5 ⟨rfl, b5⟩; have B5 := Lib.hid (B4.out.trans (b5.mono B4.out.size)); have F5 := Lib.hid (F4.out.below b5 (Nat.le_refl _)); have G5 := Lib.hid (G4.out.below b5 (Nat.le_refl _)); clear b5)
    | (go_at_call 11; refine (WK.out _ (TW.out _ (B1.out.trans (B3.out.mono B1.out.size)))).mono ?_; rintro e w4 ⟨rfl, b4⟩; have B4 := Lib.hid (B3.out.trans (b4.mono B3.out.size)); have F4 := Lib.hid (F3.out.below b4 (Nat.le_refl _)); have G4 := Lib.hid (G3.out.below b4 (Nat.le_refl _)); clear b4)
    | (go_at_call 10; refine (HRG.out _ B2.out).mono ?_; rintro e w3 ⟨A3, c3, rfl, o3, b3⟩; have G3 := Lib.hid o3.fcs; have B3 := Lib.hid (B2.out.trans (b3.mono B2.out.size)); have F3 := Lib.hid (F2.out.below b3 (Nat.le_refl _)); clear o3 b3)
    | (go_at_call 9; refine HFG.out.mono ?_; rintro e w2 ⟨A2, c2, rfl, o2, b2⟩; have F2 := Lib.hid o2.fcs; have B2 := Lib.hid b2; clear o2 b2))
  have L5 := Lib.hid (O1.out.below B5.out (Nat.le_refl _))
  have BW5 := Lib.hid (B1.out.trans (B5.out.mono B1.out.size))
  clear HFG HRG F2 F3 G3 F4 G4 B2 B3 B4 HPL
  go_wp2_with fail
  go_loopw [53] (fun iv wr => TlA w5 wr m iv) (fun iv _ => m - (intOf iv).toNat)
  case atStart => exact ⟨0, rfl, Nat.zero_le _, Below.refl _ _⟩
  case round =>
    obtain ⟨i, rfl, hi, hB⟩ := hrel
    have B := Lib.hid hB
    have BW := Lib.hid (BW5.out.trans (hB.mono BW5.out.size))
    obtain ⟨wo, hwo⟩ : ∃ W, W = wr := ⟨_, rfl⟩
    subst hwo
    by_cases hlt : i < m
    · have q0 : decide (i < m) = true := decide_eq_true hlt
      obtain ⟨b, o, c9, s, e, hb, hs, hp⟩ := (F5.out.below hB (Nat.le_refl _)).nth hlt
      simp only [Value.slice.injEq, true_and] at e
      obtain ⟨rfl, rfl⟩ := e
      obtain ⟨b', o', c9', s', e, hb', hs', hp'⟩ := (G5.out.below hB (Nat.le_refl _)).nth hlt
      simp only [Value.slice.injEq, true_and] at e
      obtain ⟨rfl, rfl⟩ := e
      have hil : i < F.length := by rw [HM.out]; exact hlt
      rw [pairF_at hil] at hp hp'
      have hxl := HXL.out i
      have hxd : ∀ k ∈ F.getD i [], isK L N k := fun k hk => HFI.out.met.2 k (List.mem_flatten.2 ⟨_, by rw [List.getD_eq_getElem?_getD, List.getElem?_eq_getElem hil]; exact List.getElem_mem hil, hk⟩)
      obtain ⟨x, hx⟩ : ∃ x, F.getD i [] = x := ⟨_, rfl⟩
      rw [hx] at hp hp' hxd hxl
      obtain ⟨AG, cg, e, h2⟩ := hp
      have hp : PtsAt wo s (x.map pairK) := ⟨AG, cg, e, h2⟩
      rw [List.length_map] at e
      subst e
      obtain ⟨AG', cg', e, h2'⟩ := hp'
      have hp' : PtsAt wo s' (x.map pairK) := ⟨AG', cg', e, h2'⟩
      rw [List.length_map] at e
      subst e
      obtain ⟨k, hk⟩ : ∃ k, x.length = k := ⟨_, rfl⟩
      have HK := Lib.hid hk
      rw [hk] at hs hs' hp hp' hxl
      have TU := turnsAny (.slice A N c) (.slice AG k cg) L (x.map pairK) N k wo (L5.out.below hB (Nat.le_refl _)) hp (by omega) (by rw [List.length_map]; exact hk) (by omega) (TW.out _ BW.out)
      unfold TurnsP at TU
      rw [trQ_map H0.out hxd] at TU
      have RT := fun wq (b : Below wo.heap.size wo wq) => refTurns (.slice A N c) (.slice AG' k cg') L x N wq (L5.out.below (hB.trans (b.mono hB.size)) (Nat.le_refl _)) (hp'.below b (Nat.le_refl _)) HG.out hxd (by omega)
      rw [hk] at RT
      have RO := fun zv (w : World) (hZ : ZsAt w zv (x.map (trnK L)) k) => rotAny zv (x.map (trnK L)) k w hZ (by omega)
      have RR := fun zv (w : World) (hZ : ZsAt w zv (x.map (trnK L)) k) => refRot zv (x.map (trnK L)) k w hZ (by omega)
      have EQ := fun v u (w : World) (hX : ZsAt w v (x.map (trnK L)) k) (hY : ZsAt w u (x.map (trnK L)) k) => equalZ v u _ _ k k w hX hY (by omega) (by omega)
      obtain ⟨z, hz⟩ : ∃ z, rotI (x.map (trnK L)) = z := ⟨_, rfl⟩
      rw [hz] at RO RR
      have HTU := Lib.hid TU
      have HRT := Lib.hid RT
      have HRO := Lib.hid RO
      have HRR := Lib.hid RR
      have HEQ := Lib.hid EQ
      obtain ⟨Z, hZ⟩ : ∃ Z, x.map (trnK L) = Z := ⟨_, rfl⟩
      rw [hZ] at HTU HRT HRO HRR HEQ
      have ze : (Z == Z) = true := by simp
      have ZE := Lib.hid ze
      have KK : Hid (∀ wq, Below wo.heap.size wo wq → wq.cell? ⟨b', o' + i, none⟩ = some (.slice AG' k cg') ∧ b' < wq.heap.size) := Lib.hid (fun wq b => ⟨(b.cell (p := ⟨_, _, none⟩) hb').trans hs', Nat.lt_of_lt_of_le hb' b.size⟩)
      clear TU RT RO RR EQ hz hk hx hxd hil h2 h2' hp hp' hB hZ ze hs' hb'
      go_upto_region 10 with (go_at_call 13; refine HTU.out.mono ?_; rintro e w6 ⟨A6, c6, rfl, o6, b6⟩; have Z6 := Lib.hid o6.zs; have B6 := Lib.hid b6; clear o6 b6)
      obtain ⟨s6, z6⟩ := KK.out _ B6.out
      clear hs hb
      go_wp2_with (first
        | (go_at_call 17; refine (HRR.out _ _ Z8.out).mono ?_; rintro e w9 ⟨rfl, rfl⟩)
        | (go_at_call 16; refine (HRO.out _ _ Z8.out).mono ?_; rintro e w9 ⟨rfl, rfl⟩)
        | (go_at_call 14; refine (HEQ.out _ _ _ (Z6.out.below B7.out (Nat.le_refl _)) Z7.out).mono ?_; rintro e w8 ⟨rfl, b8⟩; rw [ZE.out]; have B8 := Lib.hid (B7.out.trans (b8.mono B7.out.size)); have Z8 := Lib.hid (Z6.out.below B8.out (Nat.le_refl _)); clear b8)
        | (go_at_call 15; refine (HRT.out _ B6.out).mono ?_; rintro e w7 ⟨⟨A7, c7, rfl, o7⟩, b7⟩; have Z7 := Lib.hid o7.zs; have B7 := Lib.hid b7; clear o7 b7))
      go_roundw
      case rel => exact ⟨i + 1, by go_num, by omega, (B.out.trans (B6.out.mono B.out.size)).trans (B8.out.mono (B.out.trans (B6.out.mono B.out.size)).size)⟩
      case measure => (simp [intOf] <;> omega)
    · have him : i = m := by omega
      subst him
      have q0 : decide (i < i) = false := decide_eq_false hlt
      clear hB
      obtain ⟨d0, d1, zd⟩ := DC.out _ BW.out
      obtain ⟨N1, hN1⟩ : ∃ N1 : Nat, (N : Int) + 1 = (N1 : Int) := ⟨N + 1, by omega⟩
      have hN1p : 0 < N1 := by omega
      have hN1q : N1 ≤ 17 := by omega
      obtain ⟨hdx, hdd⟩ := HDX.out
      obtain ⟨m0, hm0, hm0b⟩ : ∃ m0 : Nat, max 0 dx = (m0 : Int) ∧ (m0 : Int) ≤ 9223372036854775807 := ⟨dx.toNat, by omega, by omega⟩
      obtain ⟨m1, hm1, hm1b⟩ : ∃ m1 : Nat, max 0 dd = (m1 : Int) ∧ (m1 : Int) ≤ 9223372036854775807 := ⟨dd.toNat, by omega, by omega⟩
      obtain ⟨a, ha⟩ : ∃ a : Nat, (m0 : Int) % (N1 : Int) = (a : Int) := ⟨m0 % N1, by omega⟩
      obtain ⟨e, he⟩ : ∃ e : Nat, (m1 : Int) % 5 = (e : Int) := ⟨m1 % 5, by omega⟩
      have ha' : (m0 : Int).tmod (N1 : Int) = (a : Int) := by rw [Int.tmod_eq_emod_of_nonneg (by omega)]; exact ha
      have he' : (m1 : Int).tmod 5 = (e : Int) := by rw [Int.tmod_eq_emod_of_nonneg (by omega)]; exact he
      have cx3 : IntKind.i64.wrap ((N : Int) + 1) = (N1 : Int) := by rw [hN1]; exact IntWalk.i64_in _ (by omega)
      have cx4 : IntKind.i64.wrap (N1 : Int) = (N1 : Int) := IntWalk.i64_in _ (by omega)
      go_upto_region 13 with fail
      go_region
      obtain ⟨wz, hwz⟩ : ∃ W, W = (wo.alloc (.cells #[.int .i64 dx, .int .i64 dd, .int .i64 (a : Int), .int .i64 (e : Int)] 28)).drew := ⟨_, rfl⟩
      have bz : Below wo.heap.size wo wz := by rw [hwz]; exact ((Below.refl _ _).alloc (Nat.le_refl _) _).drew
      have e0 : wz.cell? ⟨wo.heap.size, 0, none⟩ = some (.int .i64 dx) := by rw [hwz]; go_simp
      have e1 : wz.cell? ⟨wo.heap.size, 1, none⟩ = some (.int .i64 dd) := by rw [hwz]; go_simp
      have e2 : wz.cell? ⟨wo.heap.size, 2, none⟩ = some (.int .i64 (a : Int)) := by rw [hwz]; go_simp
      have e3 : wz.cell? ⟨wo.heap.size, 3, none⟩ = some (.int .i64 (e : Int)) := by rw [hwz]; go_simp
      have hgz : wo.heap.size < wz.heap.size := by rw [hwz]; simp
      rw [← hwz]
      have BWZ := Lib.hid (BW.out.trans (bz.mono BW.out.size))
      have LZ := Lib.hid (L5.out.below (B.out.trans (bz.mono B.out.size)) (Nat.le_refl _))
      obtain ⟨g, hg⟩ : ∃ g, wo.heap.size = g := ⟨_, rfl⟩
      rw [hg] at e0 e1 e2 e3 hgz ⊢
      have SC : Hid (∀ j, j < 2 → ∀ wq, Below wz.heap.size wz wq → ∃ p : Int × Int, wq.cell? ⟨g, j * 2, none⟩ = some (.int .i64 p.1) ∧ wq.cell? ⟨g, j * 2 + 1, none⟩ = some (.int .i64 p.2) ∧ g < wq.heap.size) := Lib.hid (fun j hj wq b => by
        have hc : j = 0 ∨ j = 1 := by omega
        rcases hc with rfl | rfl
        · exact ⟨(dx, dd), (b.cell (p := ⟨_, _, none⟩) hgz).trans e0, (b.cell (p := ⟨_, _, none⟩) hgz).trans e1, Nat.lt_of_lt_of_le hgz b.size⟩
        · exact ⟨((a : Int), (e : Int)), (b.cell (p := ⟨_, _, none⟩) hgz).trans e2, (b.cell (p := ⟨_, _, none⟩) hgz).trans e3, Nat.lt_of_lt_of_le hgz b.size⟩)
      have heq := eqD
      have hneq : ∀ (w : World) (a0 a1 b0 b1 : Int), (binOp .neq 28 (.agg #[.int .i64 a0, .int .i64 a1]) (.agg #[.int .i64 b0, .int .i64 b1])).run Tryd.prog w = .ok (.bool (!(a0 == b0 && a1 == b1))) w := neqD
      clear hwz bz hg e0 e1 e2 e3 hgz ha he ha' he' cx3 cx4 hm0 hm1 hm0b hm1b hN1 hN1p hN1q d0 d1 zd hdx hdd heq L5 F5 G5 B B5 BW BW5 q0
      go_wp2_with fail
      go_loopw [94] (fun jv wr => TlA wz wr 2 jv) (fun jv _ => 2 - (intOf jv).toNat)
      case atStart => exact ⟨0, rfl, Nat.zero_le _, Below.refl _ _⟩
      case round =>
        obtain ⟨j, rfl, hj, hC⟩ := hrel
        have C := Lib.hid hC
        have BC := Lib.hid (BWZ.out.trans (hC.mono BWZ.out.size))
        by_cases hjt : j < 2
        · have q1 : decide (j < 2) = true := decide_eq_true hjt
          have q1' : decide ((j : Int) < 2) = true := decide_eq_true (by omega)
          obtain ⟨P, s0, s1, zg⟩ := SC.out j hjt wr hC
          have NX := fun wq (b : Below wr.heap.size wr wq) => nextAny (.slice A N c) L N P wq (LZ.out.below (hC.trans (b.mono hC.size)) (Nat.le_refl _)) (by omega) (TW.out _ (BC.out.trans (b.mono BC.out.size)))
          have IS := fun wq (b : Below wr.heap.size wr wq) => refIs (.slice A N c) L N P.1 P.2 wq (LZ.out.below (hC.trans (b.mono hC.size)) (Nat.le_refl _)) (by omega) HG.out
          have hstep : stepB L N P.1 P.2 = okQ L N P := by unfold okQ; rw [decide_eq_true H0.out, Bool.true_and]
          rw [hstep] at IS
          have TF : Hid (okQ L N P = false → trQ L N P = 0 ∧ bhQ L N P = (0, 0)) := Lib.hid (fun h => ⟨by unfold trQ; rw [h]; rfl, by unfold bhQ; rw [h]; rfl⟩)
          have TT : Hid (okQ L N P = true → ∃ k, isK L N k ∧ P = pairK k ∧ trQ L N P = trnK L k ∧ bhQ L N P = pairK (behK L k)) := Lib.hid (fun h => by
            obtain ⟨a, b⟩ := step_dart (hstep.trans h)
            exact ⟨_, a, b, by unfold trQ; rw [if_pos h], by unfold bhQ; rw [if_pos h]⟩)
          obtain ⟨k, hk⟩ : ∃ k, okQ L N P = k := ⟨_, rfl⟩
          obtain ⟨p0, hp0⟩ : ∃ z, P.1 = z := ⟨_, rfl⟩
          obtain ⟨p1, hp1⟩ : ∃ z, P.2 = z := ⟨_, rfl⟩
          obtain ⟨tq, htq⟩ : ∃ z, trQ L N P = z := ⟨_, rfl⟩
          obtain ⟨Q, hQ⟩ : ∃ z, bhQ L N P = z := ⟨_, rfl⟩
          rw [hk] at IS TF TT NX
          rw [htq] at TF TT NX
          rw [hQ] at TF TT NX
          rw [hp0] at IS s0 NX
          rw [hp1] at IS s1 NX
          have HIS := Lib.hid IS
          have HNX := Lib.hid NX
          have PE := Lib.hid (And.intro hp0 hp1)
          obtain ⟨w9, hw9⟩ : ∃ X, X = ((wr.alloc (.cells #[.int .i64 p0, .int .i64 p1] 28)).alloc (.cells #[.int .i64 p0, .int .i64 p1] 47)) := ⟨_, rfl⟩
          have b9 : Below wr.heap.size wr w9 := by rw [hw9]; exact ((Below.refl _ _).alloc (Nat.le_refl _) _).alloc (by simp) _
          have g0 : w9.cell? ⟨wr.heap.size, 0, none⟩ = some (.int .i64 p0) := by rw [hw9]; go_simp
          have g1 : w9.cell? ⟨wr.heap.size, 1, none⟩ = some (.int .i64 p1) := by rw [hw9]; go_simp
          have g2 : w9.cell? ⟨wr.heap.size + 1, 0, none⟩ = some (.int .i64 p0) := by rw [hw9]; go_simp
          have g3 : w9.cell? ⟨wr.heap.size + 1, 1, none⟩ = some (.int .i64 p1) := by rw [hw9]; go_simp
          have hz9 : wr.heap.size + 1 < w9.heap.size := by rw [hw9]; simp
          have hz8 : wr.heap.size < w9.heap.size := by omega
          have B9 := Lib.hid b9
          have GC : Hid (∀ wq, Below w9.heap.size w9 wq → wq.cell? ⟨wr.heap.size + 1, 0, none⟩ = some (.int .i64 p0) ∧ wq.cell? ⟨wr.heap.size + 1, 1, none⟩ = some (.int .i64 p1) ∧ wr.heap.size + 1 < wq.heap.size) := Lib.hid (fun wq b =>
            ⟨(b.cell (p := ⟨_, _, none⟩) hz9).trans g2, (b.cell (p := ⟨_, _, none⟩) hz9).trans g3, Nat.lt_of_lt_of_le hz9 b.size⟩)
          clear hk hp0 hp1 htq hQ IS NX hstep hC
          go_upto_region 17 with fail
          rw [← hw9]
          clear hw9 b9 s0 s1 zg q1 q1'
          go_upto_region 18 with (go_at_call 18; refine (HNX.out _ B9.out).mono ?_; rintro e w5 ⟨rfl, b5⟩; have B5 := Lib.hid b5; clear b5)
          obtain ⟨wn, hwn⟩ : ∃ X, X = (w5.alloc (.cells #[.int .i64 Q.1, .int .i64 Q.2] 28)) := ⟨_, rfl⟩
          have bn : Below w9.heap.size w9 wn := by rw [hwn]; exact B5.out.alloc B5.out.size _
          have r0 : wn.cell? ⟨w5.heap.size, 0, none⟩ = some (.int .i64 Q.1) := by rw [hwn]; go_simp
          have r1 : wn.cell? ⟨w5.heap.size, 1, none⟩ = some (.int .i64 Q.2) := by rw [hwn]; go_simp
          have hzn : w5.heap.size < wn.heap.size := by rw [hwn]; simp
          have BN := Lib.hid bn
          have BNR := Lib.hid (B9.out.trans (bn.mono B9.out.size))
          obtain ⟨t0, t1, tz⟩ := GC.out _ bn
          rw [← hwn]
          have RC : Hid (∀ wq, Below wn.heap.size wn wq → wq.cell? ⟨w5.heap.size, 0, none⟩ = some (.int .i64 Q.1) ∧ wq.cell? ⟨w5.heap.size, 1, none⟩ = some (.int .i64 Q.2) ∧ w5.heap.size < wq.heap.size) := Lib.hid (fun wq b =>
            ⟨(b.cell (p := ⟨_, _, none⟩) hzn).trans r0, (b.cell (p := ⟨_, _, none⟩) hzn).trans r1, Nat.lt_of_lt_of_le hzn b.size⟩)
          clear hwn bn g0 g1 g2 g3 hz9 hz8 r0 r1 hzn
          go_upto_region 20 with (go_at_call 19; refine (HIS.out _ BNR.out).mono ?_; rintro e w6 ⟨rfl, b6⟩; have B6 := Lib.hid b6; clear b6)
          obtain ⟨u0, u1, uz⟩ := RC.out _ B6.out
          clear t0 t1 tz
          obtain ⟨t0, t1, tz⟩ := GC.out _ (BN.out.trans (B6.out.mono BN.out.size))
          have BNR6 := Lib.hid (BNR.out.trans (B6.out.mono BNR.out.size))
          cases k
          · obtain ⟨rfl, rfl⟩ := TF.out rfl
            clear TT TF
            go_wp2_with fail
            go_roundw
            case rel => exact ⟨j + 1, by go_num, by omega, C.out.trans (BNR6.out.mono C.out.size)⟩
            case measure => (simp [intOf] <;> omega)
          · obtain ⟨kk, hkd, hPk, htk, hQk⟩ := TT.out rfl
            have BH := fun wq (b : Below wr.heap.size wr wq) => refBehind (.slice A N c) L N kk wq (LZ.out.below (C.out.trans (b.mono C.out.size)) (Nat.le_refl _)) HG.out hkd
            have TR := fun dv wq (b : Below wr.heap.size wr wq) (hd : PtsAt wq dv [pairK kk]) => refTurns (.slice A N c) dv L [kk] N wq (LZ.out.below (C.out.trans (b.mono C.out.size)) (Nat.le_refl _)) hd HG.out (fun j hj => by obtain rfl := List.mem_singleton.1 hj; exact hkd) (by simp)
            have HBH := Lib.hid BH
            have HTR := Lib.hid TR
            have ed : dartV kk = .agg #[.int .i64 p0, .int .i64 p1] := by
              unfold dartV
              rw [← PE.out.1, ← PE.out.2, hPk]; rfl
            have eq : dartV (behK L kk) = .agg #[.int .i64 Q.1, .int .i64 Q.2] := by rw [hQk]; rfl
            have ED := Lib.hid ed
            have EQ := Lib.hid eq
            have HTK := Lib.hid htk
            have HPK := Lib.hid hPk
            obtain ⟨Q0, hQ0⟩ : ∃ z, Q.1 = z := ⟨_, rfl⟩
            obtain ⟨Q1, hQ1⟩ : ∃ z, Q.2 = z := ⟨_, rfl⟩
            rw [hQ0, hQ1] at EQ
            rw [hQ0] at u0
            rw [hQ1] at u1
            have v0 : (Q0 == Q0) = true := by simp
            have v1 : (Q1 == Q1) = true := by simp
            clear TT TF BH TR ed eq htk hPk hkd hQk hQ0 hQ1 HIS HNX RC
            go_upto_region 24 with (go_at_call 20; have hb := HBH.out _ BNR6.out; rw [ED.out, EQ.out] at hb; refine hb.mono ?_; rintro e w7 ⟨rfl, b7⟩; have B7 := Lib.hid b7; have y0 := (b7.cell (p := ⟨w5.heap.size, 0, none⟩) uz).trans u0; have y1 := (b7.cell (p := ⟨w5.heap.size, 1, none⟩) uz).trans u1; have yz := Nat.lt_of_lt_of_le uz b7.size; have z0 := (b7.cell (p := ⟨wr.heap.size + 1, 0, none⟩) tz).trans t0; have z1 := (b7.cell (p := ⟨wr.heap.size + 1, 1, none⟩) tz).trans t1; have zz := Nat.lt_of_lt_of_le tz b7.size; clear b7 hb)
            obtain ⟨w8, hw8⟩ : ∃ X, X = (w7.alloc (.cells #[.int .i64 Q0, .int .i64 Q1] 47)) := ⟨_, rfl⟩
            have b8 : Below w7.heap.size w7 w8 := by rw [hw8]; exact (Below.refl _ _).alloc (Nat.le_refl _) _
            have q0 : w8.cell? ⟨w7.heap.size, 0, none⟩ = some (.int .i64 Q0) := by rw [hw8]; go_simp
            have q1 : w8.cell? ⟨w7.heap.size, 1, none⟩ = some (.int .i64 Q1) := by rw [hw8]; go_simp
            have qz : w7.heap.size < w8.heap.size := by rw [hw8]; simp
            have y0' := (b8.cell (p := ⟨w5.heap.size, 0, none⟩) yz).trans y0
            have y1' := (b8.cell (p := ⟨w5.heap.size, 1, none⟩) yz).trans y1
            have yz' := Nat.lt_of_lt_of_le yz b8.size
            have z0' := (b8.cell (p := ⟨wr.heap.size + 1, 0, none⟩) zz).trans z0
            have z1' := (b8.cell (p := ⟨wr.heap.size + 1, 1, none⟩) zz).trans z1
            have zz' := Nat.lt_of_lt_of_le zz b8.size
            have B8 : Hid (Below wr.heap.size wr w8) := Lib.hid ((BNR6.out.trans (B7.out.mono BNR6.out.size)).trans (b8.mono (Nat.le_trans BNR6.out.size B7.out.size)))
            rw [← hw8]
            have PN : Hid (PtsAt (w8.alloc (.cells #[.int .i64 p0, .int .i64 p1] 47)) (.slice (some ⟨w8.heap.size, 0, none⟩) 1 1) [pairK kk]) := Lib.hid (by
              refine ⟨_, 1, rfl, by simp, fun _ => ⟨w8.heap.size, 0, rfl, by simp, fun j hj => ?_⟩⟩
              have hj0 : j = 0 := by simpa using hj
              subst hj0
              have q0 : (w8.alloc (.cells #[.int .i64 p0, .int .i64 p1] 47)).cell? ⟨w8.heap.size, 0, none⟩ = some (.int .i64 p0) := by go_simp
              have q1 : (w8.alloc (.cells #[.int .i64 p0, .int .i64 p1] 47)).cell? ⟨w8.heap.size, 1, none⟩ = some (.int .i64 p1) := by go_simp
              have e0 : (pairK kk).1 = p0 := by rw [← HPK.out]; exact PE.out.1
              have e1 : (pairK kk).2 = p1 := by rw [← HPK.out]; exact PE.out.2
              exact ⟨by show _ = some (Value.int .i64 (pairK kk).1); rw [e0]; exact q0, by show _ = some (Value.int .i64 (pairK kk).2); rw [e1]; exact q1⟩)
            clear hw8 b8 y0 y1 yz z0 z1 zz u0 u1 uz t0 t1 tz
            go_wp2_with (go_at_call 15; refine (HTR.out _ _ (B8.out.alloc B8.out.size _) PN.out).mono ?_; rintro e w10 ⟨⟨A6, c6, rfl, o6⟩, b6⟩; have B10 : Hid (Below wr.heap.size wr w10) := Lib.hid ((B8.out.alloc B8.out.size _).trans (b6.mono (by have := B8.out.size; simp; omega))); obtain ⟨b7, o7, c7, e7, hb7, f7⟩ := o6.zs.nth (k := 0) (by simp); simp only [Value.slice.injEq, true_and] at e7; obtain ⟨rfl, rfl⟩ := e7; (have f8 : w10.cell? ⟨b7, o7, none⟩ = some (.int .i64 tq) := (by rw [HTK.out]; exact f7)); clear o6 b6 f7 q0 q1 qz y0' y1' yz' z0' z1' zz')
            go_roundw
            case rel => exact ⟨j + 1, by go_num, by omega, C.out.trans (B10.out.mono C.out.size)⟩
            case measure => (simp [intOf] <;> omega)
        · have hj2 : j = 2 := by omega
          subst hj2
          have q1 : decide (2 < 2) = false := by decide
          obtain ⟨d0, d1, zd⟩ := DC.out _ BC.out
          clear hC SC hneq
          have RR := HR.out.below (BB.out.trans (BC.out.mono BB.out.size)) (Nat.le_refl _)
          have HRR := Lib.hid RR
          have TWR := Lib.hid (TW.out _ BC.out)
          obtain ⟨cv, hcv⟩ : ∃ z, chkG LR KR = z := ⟨_, rfl⟩
          have NX := fun wq (b : Below wr.heap.size wr wq) => nextAny (.slice AR KR cR) LR KR (dx, dd) wq (HRR.out.below b (Nat.le_refl _)) (by omega) (TWR.out.below b (Nat.le_refl _))
          have CK := fun wq (b : Below wr.heap.size wr wq) => refCheckG (.slice AR KR cR) LR KR wq (HRR.out.below b (Nat.le_refl _)) (by omega)
          obtain ⟨nb, hnb⟩ : ∃ z, okQ LR KR (dx, dd) = z := ⟨_, rfl⟩
          have NB : Hid (¬ cv = 0 → nb = false) := Lib.hid (fun h => by rw [← hnb]; unfold okQ; rw [hcv, decide_eq_false h]; rfl)
          rw [hnb] at NX
          rw [hcv] at CK
          have HNX := Lib.hid NX
          have HCK := Lib.hid CK
          clear NX CK RR hnb
          by_cases hz : cv = 0
          · subst hz
            have FA := facesGood (.slice AR KR cR) LR KR wr HRR.out (by omega) TWR.out hcv
            have HFA := Lib.hid FA
            clear FA hcv
            go_upto_region 30 with (first
              | (go_at_call 21; refine (HCK.out _ B11.out).mono ?_; rintro e w12 ⟨rfl, b12⟩; have B12 := Lib.hid (B11.out.trans (b12.mono B11.out.size)); clear b12)
              | (go_at_call 9; refine HFA.out.mono ?_; rintro e w11 ⟨A11, c11, rfl, -, b11⟩; have B11 := Lib.hid b11; clear b11))
            obtain ⟨e0, e1, ez⟩ := DC.out _ (BC.out.trans (B12.out.mono BC.out.size))
            clear d0 d1 zd
            go_wp2_with (go_at_call 18; refine (HNX.out _ B12.out).mono ?_; rintro e w13 ⟨rfl, b13⟩; have B13 := Lib.hid (B12.out.trans (b13.mono B12.out.size)); clear b13)
            go_ret
            have b1 := BC.out.trans (B13.out.mono BC.out.size)
            exact ⟨rfl, BB.out.trans ((b1.alloc b1.size _).mono BB.out.size)⟩
          · have hnf := NB.out hz
            subst hnf
            have FA := facesBad (.slice AR KR cR) LR KR wr HRR.out (by omega) TWR.out (by rw [hcv]; exact hz)
            rw [hcv] at FA
            have HFA := Lib.hid FA
            have v0 : (cv == cv) = true := by simp
            have v1 : (cv == 0) = false := by rw [beq_eq_false_iff_ne]; exact hz
            clear FA hcv hz
            go_upto_region 30 with (first
              | (go_at_call 21; refine (HCK.out _ B11.out).mono ?_; rintro e w12 ⟨rfl, b12⟩; have B12 := Lib.hid (B11.out.trans (b12.mono B11.out.size)); clear b12)
              | (go_at_call 9; refine HFA.out.mono ?_; rintro e w11 ⟨rfl, b11⟩; have B11 := Lib.hid b11; clear b11))
            obtain ⟨e0, e1, ez⟩ := DC.out _ (BC.out.trans (B12.out.mono BC.out.size))
            clear d0 d1 zd
            go_wp2_with (go_at_call 18; refine (HNX.out _ B12.out).mono ?_; rintro e w13 ⟨rfl, b13⟩; have B13 := Lib.hid (B12.out.trans (b13.mono B12.out.size)); clear b13)
            go_ret
            have b1 := BC.out.trans (B13.out.mono BC.out.size)
            exact ⟨rfl, BB.out.trans ((b1.alloc b1.size _).mono BB.out.size)⟩
end Go.Proofs.YtkgabklponjagaaDoor
