/-
  JoinParts: the walk: at all places and cells the call answers true and turns nothing that was there. Conditions: none.
-/
import Derived.Test.YtieffijdhcbcfaaJnK
import Derived.Test.YtieffijdhcbcfaaJnS
import Derived.Test.YtieffijdhcbcfaaFcO
import Derived.BigRegion
namespace Go.Proofs.Ytieffijdhcbcfaa
open Go.RowKit Go.Proofs.Ytieffijdhcbcfaa.GrM Go.Proofs.Ytieffijdhcbcfaa.JoM

theorem good_chk13 {L : List Int} {n : Nat} (h : GoodG L n) (hn : n ≤ 4096) : chkG L n = 0 := chk_good.2 ⟨hn, h⟩
theorem castP_at {R : List (List Nat)} {i : Nat} (h : i < R.length) : (castP R).getD i [] = castN (R.getD i []) := by
  unfold castP
  rw [List.getD_eq_getElem?_getD, List.getD_eq_getElem?_getD, List.getElem?_map, List.getElem?_eq_getElem h]
  rfl
def PlA (w0 wr : World) (m : Nat) (iv : Value) : Prop := ∃ i : Nat, iv = .int .i64 i ∧ i ≤ m ∧ Below w0.heap.size w0 wr
set_option maxHeartbeats 16000000 in
set_option maxRecDepth 100000 in
theorem parts13 {A1 A2 A3 : Option Addr} {n1 n2 n3 : Nat} (c1 c2 c3 : Nat) {D1 D2 D3 : Nat → Int} (AR : Option Addr) (nR cR KR : Nat) (LR : List Int) (w : World) (h : Plane w A1 A2 A3 n1 n2 n3 D1 D2 D3)
    (hR : CelAt w (.slice AR KR cR) LR KR) (hKR : KR ≤ 5) (hKc : KR ≤ cR) (hmin : min (nR : Int) 5 = (KR : Int)) :
    Calls Try.prog 3 #[.agg #[.slice A1 n1 c1, .slice A2 n2 c2, .slice A3 n3 c3], .slice AR nR cR] w fun e w' => e = .returned (.bool true) ∧ Below w.heap.size w w' := by
  have HP := Lib.hid h
  have HR := Lib.hid hR
  have WK := Lib.hid (fun w => wakes13 w)
  clear h hR
  go_enter Try.func3, Try.ntmps3
  go_upto_region 1 with (fail)
  obtain ⟨wb, hwb⟩ : ∃ W, W = (w.alloc (.cells #[.slice A1 n1 c1, .slice A2 n2 c2, .slice A3 n3 c3] 25)) := ⟨_, rfl⟩
  have BB : Hid (Below w.heap.size w wb) := Lib.hid (by rw [hwb]; exact (Below.refl _ _).alloc (Nat.le_refl _) _)
  have x0 : wb.cell? ⟨w.heap.size, 0, none⟩ = some (.slice A1 n1 c1) := by rw [hwb]; go_simp
  have x1 : wb.cell? ⟨w.heap.size, 1, none⟩ = some (.slice A2 n2 c2) := by rw [hwb]; go_simp
  have x2 : wb.cell? ⟨w.heap.size, 2, none⟩ = some (.slice A3 n3 c3) := by rw [hwb]; go_simp
  have hgb : w.heap.size < wb.heap.size := by rw [hwb]; simp
  have MK := Lib.hid (makeN 20 (by decide) c1 c2 c3 (HP.out.below BB.out))
  rw [← hwb]
  clear hwb
  go_upto_region 2 with (go_at_call 7; refine MK.out.mono ?_; rintro e w1 ⟨N, L, A, c, pv, rfl, o1, hg, hN, b1⟩; have O1 := Lib.hid (OwnG.cel o1); have HG := Lib.hid hg; have B1 := Lib.hid (BB.out.trans (b1.mono BB.out.size)); clear o1 hg b1)
  have H0 : Hid (chkG L N = 0) := Lib.hid (good_chk13 HG.out (by omega))
  clear x0 x1 x2 hgb MK HP BB
  have PG := partsGood (.slice A N c) L N w1 O1.out (by omega) H0.out
  have RG := fun wq (b : Below w1.heap.size w1 wq) => refParts (.slice A N c) L N wq (O1.out.below b (Nat.le_refl _)) (by omega) HG.out
  have WH := fun wq (b : Below w1.heap.size w1 wq) => whole_ (.slice A N c) L N wq (O1.out.below b (Nat.le_refl _)) (by omega)
  unfold PartsP at PG
  unfold RPartsP at RG
  unfold wholeB at WH
  rw [H0.out, decide_eq_true (rfl : (0 : Int) = 0), Bool.true_and] at WH
  have hpl := parts_len L N N
  have HPL := Lib.hid (part_lens L N N)
  obtain ⟨R, hR⟩ : ∃ R, partsK L N N = R := ⟨_, rfl⟩
  rw [hR] at PG RG WH hpl HPL
  obtain ⟨m, hm⟩ : ∃ m, R.length = m := ⟨_, rfl⟩
  have HM := Lib.hid hm
  rw [hm] at PG RG WH hpl
  obtain ⟨b1, hb1⟩ : ∃ b : Bool, ((m : Int) == 1) = b := ⟨_, rfl⟩
  have e1 : decide (m = 1) = b1 := by rw [← hb1, Bool.eq_iff_iff]; simp; omega
  rw [e1] at WH
  have HPG := Lib.hid PG
  have HRG := Lib.hid RG
  have HWH := Lib.hid WH
  clear PG RG WH hR hm e1
  go_upto_region 6 with (first
    | (go_at_call 11; have _z := B4; refine (HWH.out _ B4.out).mono ?_; rintro e w5 ⟨rfl, b5⟩; have B5 := Lib.hid (B4.out.trans (b5.mono B4.out.size)); have F5 := Lib.hid (F4.out.below b5 (Nat.le_refl _)); have G5 := Lib.hid (G4.out.below b5 (Nat.le_refl _)); clear b5)
    | (go_at_call 10; refine (WK.out _).mono ?_; rintro e w4 ⟨rfl, b4⟩; have B4 := Lib.hid (B3.out.trans (b4.mono B3.out.size)); have F4 := Lib.hid (F3.out.below b4 (Nat.le_refl _)); have G4 := Lib.hid (G3.out.below b4 (Nat.le_refl _)); clear b4)
    | (go_at_call 9; refine (HRG.out _ B2.out).mono ?_; rintro e w3 ⟨A3, c3, m3, rfl, hm3, o3, b3⟩; subst hm3; have G3 := Lib.hid o3.rs; have B3 := Lib.hid (B2.out.trans (b3.mono B2.out.size)); have F3 := Lib.hid (F2.out.below b3 (Nat.le_refl _)); clear o3 b3)
    | (go_at_call 8; refine HPG.out.mono ?_; rintro e w2 ⟨A2, c2, m2, rfl, hm2, o2, b2⟩; subst hm2; have F2 := Lib.hid o2.rs; have B2 := Lib.hid b2; clear o2 b2))
  have BW5 := Lib.hid (B1.out.trans (B5.out.mono B1.out.size))
  clear F2 F3 F4 G3 G4 HPG HRG HWH B2 B3 B4 hb1 WK
  clear H0
  go_wp2_with fail
  go_loopw [49] (fun iv wr => PlA w5 wr m iv) (fun iv _ => m - (intOf iv).toNat)
  case atStart => exact ⟨0, rfl, Nat.zero_le _, Below.refl _ _⟩
  case round =>
    obtain ⟨i, rfl, hi, hB⟩ := hrel
    have B := Lib.hid hB
    by_cases hlt : i < m
    · have q0 : decide (i < m) = true := decide_eq_true hlt
      obtain ⟨b, o, c9, s, e, hb, hs, hp⟩ := (F5.out.below hB (Nat.le_refl _)).nth hlt
      simp only [Value.slice.injEq, true_and] at e
      obtain ⟨rfl, rfl⟩ := e
      obtain ⟨b', o', c9', s', e, hb', hs', hp'⟩ := (G5.out.below hB (Nat.le_refl _)).nth hlt
      simp only [Value.slice.injEq, true_and] at e
      obtain ⟨rfl, rfl⟩ := e
      have hil : i < R.length := by rw [HM.out]; exact hlt
      have hxl : ((castP R).getD i []).length ≤ 20 := by
        rw [castP_at hil, castN_len]
        have := HPL.out (R.getD i []) (by rw [List.getD_eq_getElem?_getD, List.getElem?_eq_getElem hil]; exact List.getElem_mem hil)
        omega
      obtain ⟨x, hx⟩ : ∃ x, (castP R).getD i [] = x := ⟨_, rfl⟩
      rw [hx] at hp hp' hxl
      obtain ⟨k, hk⟩ : ∃ k, x.length = k := ⟨_, rfl⟩
      rw [hk] at hp hp' hxl
      have EQ : Hid (∀ wq, Below wr.heap.size wr wq → Calls Try.prog 12 #[s, s'] wq fun e w' => e = .returned (.bool true) ∧ Below wq.heap.size wq w') := Lib.hid (fun wq b => by
        have h := equalJ s s' x x k k wq (hp.below b (Nat.le_refl _)) (hp'.below b (Nat.le_refl _)) (by omega) (by omega)
        rwa [show (x == x) = true by simp] at h)
      obtain ⟨AG, cg, e⟩ := hp.form
      subst e
      obtain ⟨AG', cg', e⟩ := hp'.form
      subst e
      have KK : Hid (∀ wq, Below wr.heap.size wr wq → wq.cell? ⟨b, o + i, none⟩ = some (.slice AG k cg) ∧ wq.cell? ⟨b', o' + i, none⟩ = some (.slice AG' k cg')) := Lib.hid (fun wq h => ⟨(h.cell (p := ⟨_, _, none⟩) hb).trans hs, (h.cell (p := ⟨_, _, none⟩) hb').trans hs'⟩)
      clear hp hp' hx hk hil hB
      go_upto_region 9 with fail
      go_region_held3 (fun w' => w'.cell? ⟨b, o + i, none⟩ = some (.slice AG k cg) ∧ w'.cell? ⟨b', o' + i, none⟩ = some (.slice AG' k cg')) (first | go_keep | exact KK.out _ B6.out)
        ((go_at_call 12; refine (EQ.out _ (by first | exact (Below.refl _ _).drew | exact drewN_bel13n _ (Below.refl _ _))).mono ?_; rintro e w6 ⟨rfl, b6⟩; have B6 : Hid (Below wr.heap.size wr w6) := Lib.hid ((Below.refl _ _).drew.trans b6); clear b6))
      all_goals
        go_wp2_with fail
        go_roundw
        case rel => exact ⟨i + 1, by go_num, by omega, B.out.trans (B6.out.mono B.out.size)⟩
        case measure => (simp [intOf] <;> omega)
    · have him : i = m := by omega
      subst him
      have q0 : decide (i < i) = false := decide_eq_false hlt
      have BC := Lib.hid (BW5.out.trans (hB.mono BW5.out.size))
      clear hB F5 G5
      have RR := Lib.hid (HR.out.below BC.out (Nat.le_refl _))
      obtain ⟨cv, hcv⟩ : ∃ z, chkG LR KR = z := ⟨_, rfl⟩
      have CK := fun wq (b : Below wr.heap.size wr wq) => refCheckG (.slice AR KR cR) LR KR wq (RR.out.below b (Nat.le_refl _)) (by omega)
      rw [hcv] at CK
      have HCK := Lib.hid CK
      clear CK
      by_cases hz : cv = 0
      · subst hz
        have PG := Lib.hid (partsGood (.slice AR KR cR) LR KR wr RR.out (by omega) hcv)
        clear hcv
        go_wp2_with (first
          | (go_at_call 13; refine (HCK.out _ B7.out).mono ?_; rintro e w8 ⟨rfl, b8⟩; have B8 := Lib.hid (B7.out.trans (b8.mono B7.out.size)); clear b8)
          | (go_at_call 8; refine PG.out.mono ?_; rintro e w7 ⟨A7, c7, m7, rfl, -, -, b7⟩; have B7 := Lib.hid b7; clear b7))
        go_ret
        exact ⟨rfl, BC.out.trans (B8.out.mono BC.out.size)⟩
      · have PB := partsBad (.slice AR KR cR) LR KR wr RR.out (by omega) (by rw [hcv]; exact hz)
        rw [hcv] at PB
        have HPB := Lib.hid PB
        have WH : Hid (∀ wq, Below wr.heap.size wr wq → Calls Try.prog 11 #[.slice AR KR cR] wq fun e w' => e = .returned (.bool false) ∧ Below wq.heap.size wq w') := Lib.hid (fun wq b => by
          have h := whole_ (.slice AR KR cR) LR KR wq (RR.out.below b (Nat.le_refl _)) (by omega)
          unfold wholeB at h
          rwa [hcv, decide_eq_false hz, Bool.false_and] at h)
        have q4 : (cv == 0) = false := by rw [beq_eq_false_iff_ne]; exact hz
        have q5 : (cv == cv) = true := by simp
        clear PB hcv hz
        go_wp2_with (first
          | (go_at_call 11; have _z := B8; refine (WH.out _ B8.out).mono ?_; rintro e w9 ⟨rfl, b9⟩; have B9 := Lib.hid (B8.out.trans (b9.mono B8.out.size)); clear b9)
          | (go_at_call 13; refine (HCK.out _ B7.out).mono ?_; rintro e w8 ⟨rfl, b8⟩; have B8 := Lib.hid (B7.out.trans (b8.mono B7.out.size)); clear b8)
          | (go_at_call 8; refine HPB.out.mono ?_; rintro e w7 ⟨rfl, b7⟩; have B7 := Lib.hid b7; clear b7))
        go_ret
        exact ⟨rfl, BC.out.trans (B9.out.mono BC.out.size)⟩
end Go.Proofs.Ytieffijdhcbcfaa
