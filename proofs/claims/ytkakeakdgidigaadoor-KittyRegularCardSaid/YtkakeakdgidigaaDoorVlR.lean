/-
  What the reference's Outer answers. Conditions: at most 100000 cells.
-/
import Derived.Test.YtkakeakdgidigaaDoorVzJ3
import Derived.Test.YtkakeakdgidigaaDoorVzF4
import Derived.Test.YtkakeakdgidigaaDoorVlM
namespace Go.Proofs.YtkakeakdgidigaaDoor
open Go.RowKit Go.Proofs.YtkakeakdgidigaaDoor.GrM Go.Proofs.YtkakeakdgidigaaDoor.FcM Go.Proofs.YtkakeakdgidigaaDoor.JoM Go.Proofs.YtkakeakdgidigaaDoor.VdM

theorem rot_smR (L : List Int) (x : List Nat) : rotI (x.map (trnK L)) = smF (trnK L) x := by
  unfold rotI
  have : ∀ (x : List Nat) (s : Int), (x.map (trnK L)).foldl rotS s = s + smF (trnK L) x := by
    intro x
    induction x with
    | nil => intro s; simp [smF]
    | cons a l ih =>
      intro s
      have h := trn_range L a
      rw [List.map_cons, List.foldl_cons, ih, smF, rotS, if_pos h]
      omega
  rw [this]
  omega
theorem pairF_atR {F : List (List Nat)} {i : Nat} (h : i < F.length) : (pairF F).getD i [] = (F.getD i []).map pairK := by unfold pairF; simp [List.getD_eq_getElem?_getD, h]
def RoR (R : List Int) (m : Nat) (w0 wr : World) (av iv : Value) : Prop := ∃ (k : Nat) (a : Int), iv = .int .i64 k ∧ k ≤ m ∧ av = .int .i64 a ∧ ScR R k a ∧ Below w0.heap.size w0 wr
def RefOutP (L : List Int) (n : Nat) (w : World) (e : Ending) (w' : World) : Prop := e = .returned (.tuple #[.int .i64 (refW L n), .int .i64 (vldE L n)]) ∧ Below w.heap.size w w'
set_option maxHeartbeats 8000000 in
set_option maxRecDepth 100000 in
theorem refOuter (lv : Value) (L : List Int) (n : Nat) (w : World) (hL : CelAt w lv L n) (hn : n ≤ 100000) :
    Calls Tryd.prog 6 #[lv] w (RefOutP L n w) := by
  unfold RefOutP
  have CK := refCheckG lv L n w hL hn
  by_cases h0 : chkG L n = 0
  · rw [h0] at CK
    have CH := Lib.hid CK
    have hn2 := (chk_good.1 h0).1
    have hg := (chk_good.1 h0).2
    have PT := fun wq (b : Below w.heap.size w wq) => refParts lv L n wq (hL.below b (Nat.le_refl _)) hn hg
    have HL := Lib.hid hL
    obtain ⟨m, hm⟩ : ∃ m, (partsK L n n).length = m := ⟨_, rfl⟩
    have h1e : (partsK L n n).length = 1 ↔ m = 1 := by rw [hm]
    unfold RPartsP at PT
    rw [hm] at PT
    have HPT := Lib.hid PT
    obtain ⟨A, c, e⟩ := hL.form
    subst e
    by_cases h1 : m = 1
    · have h1p := h1e.2 h1
      subst h1
      by_cases hn1 : n = 1
      · have hv := vld_one h0 h1p hn1
        obtain ⟨-, -, e1⟩ := ans_one hv hn1
        rw [e1, hv]
        subst hn1
        clear CK PT hL h0 h1p h1e hm hg hn2 e1 hv
        go_enter Tryd.func6, Tryd.ntmps6
        go_wp2_with (first
          | (go_at_call 21; refine (HPT.out _ B1.out).mono ?_; rintro e w2 ⟨A2, c2, m2, rfl, hm2, -, b2⟩; subst hm2; have B2 := Lib.hid (B1.out.trans (b2.mono B1.out.size)); clear b2)
          | (go_at_call 20; refine CH.out.mono ?_; rintro e w1 ⟨rfl, b1⟩; have B1 := Lib.hid b1; clear b1))
        go_ret2
        exact ⟨rfl, B2.out⟩
      · have VY := Lib.hid (fun hg => vld_yes h0 h1p hg)
        have VN := Lib.hid (fun hg => vld_no h0 h1p hn1 hg)
        have AB := Lib.hid (fun h => (ans_bad (L := L) (n := n) h).2.2)
        have AG := Lib.hid (fun h => (ans_good (L := L) (n := n) h hn1).2.2)
        obtain ⟨r1, hr1⟩ : ∃ r1, refW L n = r1 := ⟨_, rfl⟩
        obtain ⟨r2, hr2⟩ : ∃ r2, vldE L n = r2 := ⟨_, rfl⟩
        have R1 := Lib.hid hr1
        have R2 := Lib.hid hr2
        rw [hr1, hr2]
        clear hr1 hr2
        have RF := fun wq (b : Below w.heap.size w wq) => refFaces (.slice A n c) L n wq (hL.below b (Nat.le_refl _)) hn hg
        have FI := faces_is hg
        have HG := Lib.hid hg
        have hfl := facs_len L n (4 * n)
        unfold RefFacesP at RF
        have HR : Hid (rotsK L n = (facesK L n).map (smF (trnK L))) := Lib.hid rfl
        obtain ⟨F, hF⟩ : ∃ F, facesK L n = F := ⟨_, rfl⟩
        rw [show facS L n (4 * n) = F from hF] at hfl
        rw [hF] at RF FI HR
        obtain ⟨m, hm2⟩ : ∃ m, F.length = m := ⟨_, rfl⟩
        have HM := Lib.hid hm2
        rw [hm2] at RF hfl
        have HRF := Lib.hid RF
        have DK : Hid (∀ k ∈ F.flatten, isK L n k) := Lib.hid FI.met.2
        have LK : Hid (F.flatten.length ≤ 4 * n) := Lib.hid FI.met.len
        obtain ⟨R, hR⟩ : ∃ R, rotsK L n = R := ⟨_, rfl⟩
        have RL : Hid (R.length = m) := Lib.hid (by rw [← hR, HR.out, List.length_map]; exact hm2)
        have RA : Hid (∀ k, k < m → R.getD k 0 = smF (trnK L) (F.getD k [])) := Lib.hid (fun k hk => by
          rw [← hR, HR.out, List.getD_eq_getElem?_getD, List.getElem?_map, List.getD_eq_getElem?_getD, List.getElem?_eq_getElem (by rw [hm2]; exact hk)]; rfl)
        have RE := Lib.hid hR
        have q1 : ((n : Int) == 1) = false := by rw [beq_eq_false_iff_ne]; omega
        have q2 : (n == 1) = false := by rw [beq_eq_false_iff_ne]; omega
        clear CK PT hL h0 h1p h1e hm hg RF FI hm2 hF hR HR
        go_enter Tryd.func6, Tryd.ntmps6
        go_wp2_with (first
          | (go_at_call 7; have _z := B2; refine (HRF.out _ B2.out).mono ?_; rintro e w3 ⟨A3, c3, rfl, o3, b3⟩; have F3 := Lib.hid o3.fcs; have B3 := Lib.hid (B2.out.trans (b3.mono B2.out.size)); clear o3 b3)
          | (go_at_call 21; refine (HPT.out _ B1.out).mono ?_; rintro e w2 ⟨A2, c2, m2, rfl, hm2, -, b2⟩; subst hm2; have B2 := Lib.hid (B1.out.trans (b2.mono B1.out.size)); clear b2)
          | (go_at_call 20; refine CH.out.mono ?_; rintro e w1 ⟨rfl, b1⟩; have B1 := Lib.hid b1; clear b1))
        go_loopw [7, 8] (fun av iv wr => RoR R m w3 wr av iv) (fun _ iv _ => m - (intOf iv).toNat)
        case atStart => exact ⟨0, -1, rfl, Nat.zero_le _, rfl, ScR.start R, Below.refl _ _⟩
        case round =>
          clear HPT CH HRF
          obtain ⟨k, a, rfl, hk, rfl, hs, hB⟩ := hrel
          have HS := Lib.hid hs
          have B := Lib.hid hB
          have BW := Lib.hid (B3.out.trans (hB.mono B3.out.size))
          have hav : -1 ≤ a ∧ a < 1000000 := by
            rcases hs.2 with ⟨e, _⟩ | ⟨i, hi, e, _⟩ <;> omega
          clear hs
          by_cases hlt : k < m
          · have q0 : decide (k < m) = true := decide_eq_true hlt
            obtain ⟨b, o, c9, s, e, hb, hs, hp⟩ := (F3.out.below hB (Nat.le_refl _)).nth hlt
            simp only [Value.slice.injEq, true_and] at e
            obtain ⟨rfl, rfl⟩ := e
            have hil : k < F.length := by rw [HM.out]; exact hlt
            rw [pairF_atR hil] at hp
            have hxm : F.getD k [] ∈ F := by rw [List.getD_eq_getElem?_getD, List.getElem?_eq_getElem hil]; exact List.getElem_mem hil
            have hxd : ∀ j ∈ F.getD k [], isK L n j := fun j hj => DK.out j (List.mem_flatten.2 ⟨_, hxm, hj⟩)
            have hxl : (F.getD k []).length ≤ 4 * n := Nat.le_trans (List.Sublist.length_le (List.sublist_flatten_of_mem hxm)) LK.out
            have hra := RA.out k hlt
            obtain ⟨x, hx⟩ : ∃ x, F.getD k [] = x := ⟨_, rfl⟩
            rw [hx] at hp hxd hxl hra
            have TU := refTurnsF (.slice A n c) s L x n wr (HL.out.below BW.out (Nat.le_refl _)) hp HG.out hxd (by omega)
            obtain ⟨AG, cg, e, -⟩ := hp
            rw [List.length_map] at e
            subst e
            have RR := fun zv (w : World) (hZ : ZsAt w zv (x.map (trnK L)) x.length) => refRot zv (x.map (trnK L)) x.length w hZ (by omega)
            rw [rot_smR, ← hra] at RR
            obtain ⟨Z, hZ⟩ : ∃ Z, x.map (trnK L) = Z := ⟨_, rfl⟩
            rw [hZ] at TU RR
            obtain ⟨j, hj⟩ : ∃ j, x.length = j := ⟨_, rfl⟩
            rw [hj] at TU RR hs
            have HTU := Lib.hid TU
            have HKR : Hid (k < R.length) := Lib.hid (by rw [RL.out]; exact hlt)
            by_cases c1 : R.getD k 0 = 4
            · have HN := Lib.hid (HS.out.inner c1)
              rw [c1] at RR
              have HRR := Lib.hid RR
              clear TU RR hZ hj hx hxm hxd hxl hra hil hB c1
              go_wp2_with (first
                | (go_at_call 22; have _z := Z5; refine (HRR.out _ _ Z5.out).mono ?_; rintro e w6 ⟨rfl, rfl⟩)
                | (go_at_call 9; refine HTU.out.mono ?_; rintro e w5 ⟨⟨A5, c5, rfl, o5⟩, b5⟩; have Z5 := Lib.hid (OwnZ.zs o5); have B5 := Lib.hid (B.out.trans (b5.mono B.out.size)); clear o5 b5))
              go_roundw
              case rel => exact ⟨k + 1, a, by go_num, by omega, rfl, HN.out, B5.out⟩
              case measure => (simp [intOf] <;> omega)
            · by_cases c2 : R.getD k 0 = -4
              · by_cases ha : a < 0
                · have HN := Lib.hid (HS.out.outer ha c2)
                  have ea : a = -1 := by omega
                  clear hav ha
                  subst ea
                  rw [c2] at RR
                  have HRR := Lib.hid RR
                  clear TU RR hZ hj hx hxm hxd hxl hra hil hB c1 c2
                  go_wp2_with (first
                    | (go_at_call 22; have _z := Z5; refine (HRR.out _ _ Z5.out).mono ?_; rintro e w6 ⟨rfl, rfl⟩)
                    | (go_at_call 9; refine HTU.out.mono ?_; rintro e w5 ⟨⟨A5, c5, rfl, o5⟩, b5⟩; have Z5 := Lib.hid (OwnZ.zs o5); have B5 := Lib.hid (B.out.trans (b5.mono B.out.size)); clear o5 b5))
                  go_roundw
                  case rel => exact ⟨k + 1, k, by go_num, by omega, rfl, HN.out, B5.out⟩
                  case measure => (simp [intOf] <;> omega)
                · have HX := Lib.hid (HS.out.bad HKR.out (Or.inr ⟨c2, by omega⟩))
                  have q3 : decide (0 ≤ a) = true := decide_eq_true (by omega)
                  have q4 : decide (a < 0) = false := decide_eq_false ha
                  rw [c2] at RR
                  have HRR := Lib.hid RR
                  clear TU RR hZ hj hx hxm hxd hxl hra hil hB c1 c2 hav ha
                  go_wp2_with (first
                    | (go_at_call 22; have _z := Z5; refine (HRR.out _ _ Z5.out).mono ?_; rintro e w6 ⟨rfl, rfl⟩)
                    | (go_at_call 9; refine HTU.out.mono ?_; rintro e w5 ⟨⟨A5, c5, rfl, o5⟩, b5⟩; have Z5 := Lib.hid (OwnZ.zs o5); have B5 := Lib.hid (B.out.trans (b5.mono B.out.size)); clear o5 b5))
                  go_ret2
                  have e2 := VN.out (by rw [RE.out]; exact HX.out)
                  have e1 := AB.out (by rw [e2]; decide)
                  rw [R1.out] at e1
                  rw [R2.out] at e2
                  exact ⟨by rw [e1, e2]; rfl, B3.out.trans (B5.out.mono B3.out.size)⟩
              · have HX := Lib.hid (HS.out.bad HKR.out (Or.inl ⟨c1, c2⟩))
                obtain ⟨r, hr⟩ : ∃ r, R.getD k 0 = r := ⟨_, rfl⟩
                rw [hr] at RR c1 c2
                have q3 : (r == 4) = false := by rw [beq_eq_false_iff_ne]; exact c1
                have q4 : (r == -4) = false := by rw [beq_eq_false_iff_ne]; exact c2
                have q5 : (r != 4) = true := by rw [bne, q3]; rfl
                have q6 : (r != -4) = true := by rw [bne, q4]; rfl
                have HRR := Lib.hid RR
                clear TU RR hZ hj hx hxm hxd hxl hra hil hB c1 c2 hr hav
                go_wp2_with (first
                  | (go_at_call 22; have _z := Z5; refine (HRR.out _ _ Z5.out).mono ?_; rintro e w6 ⟨rfl, rfl⟩)
                  | (go_at_call 9; refine HTU.out.mono ?_; rintro e w5 ⟨⟨A5, c5, rfl, o5⟩, b5⟩; have Z5 := Lib.hid (OwnZ.zs o5); have B5 := Lib.hid (B.out.trans (b5.mono B.out.size)); clear o5 b5))
                go_ret2
                have e2 := VN.out (by rw [RE.out]; exact HX.out)
                have e1 := AB.out (by rw [e2]; decide)
                rw [R1.out] at e1
                rw [R2.out] at e2
                exact ⟨by rw [e1, e2]; rfl, B3.out.trans (B5.out.mono B3.out.size)⟩
          · have hkm : k = m := by omega
            have q0 : decide (k < m) = false := decide_eq_false hlt
            have hs := HS.out
            rw [hkm, ← RL.out] at hs
            obtain ⟨g1, g2⟩ := hs.end_
            by_cases ha : a < 0
            · have HX := Lib.hid (g1 ha)
              have q3 : decide (a < 0) = true := decide_eq_true ha
              clear g1 g2 hs hB hav ha
              go_wp2_with fail
              go_ret2
              have e2 := VN.out (by rw [RE.out]; exact HX.out)
              have e1 := AB.out (by rw [e2]; decide)
              rw [R1.out] at e1
              rw [R2.out] at e2
              exact ⟨by rw [e1, e2]; rfl, BW.out⟩
            · have HX := Lib.hid (g2 (by omega))
              have q3 : decide (a < 0) = false := decide_eq_false ha
              clear g1 g2 hs hB hav ha
              go_wp2_with fail
              go_ret2
              obtain ⟨x1, x2⟩ := HX.out
              have e2 := VY.out (by rw [RE.out]; exact x1)
              have e1 := AG.out e2
              rw [R1.out, RE.out] at e1
              rw [R2.out] at e2
              exact ⟨by rw [e1, e2, x2]; rfl, BW.out⟩
    · have hv := vld_apart h0 (fun h => h1 (h1e.1 h))
      have e1 := (ans_bad (show vldE L n ≠ 0 by rw [hv]; decide)).2.2
      rw [e1, hv]
      have q1 : ((m : Int) == 1) = false := by rw [beq_eq_false_iff_ne]; omega
      have q2 : ((m : Int) != 1) = true := by rw [bne, q1]; rfl
      clear CK PT hL h0 h1 h1e hm hg hn2 e1 hv
      go_enter Tryd.func6, Tryd.ntmps6
      go_wp2_with (first
        | (go_at_call 21; refine (HPT.out _ B1.out).mono ?_; rintro e w2 ⟨A2, c2, m2, rfl, hm2, -, b2⟩; subst hm2; have B2 := Lib.hid (B1.out.trans (b2.mono B1.out.size)); clear b2)
        | (go_at_call 20; refine CH.out.mono ?_; rintro e w1 ⟨rfl, b1⟩; have B1 := Lib.hid b1; clear b1))
      go_ret2
      exact ⟨rfl, B2.out⟩
  · have hv := vld_bad h0
    have e1 := (ans_bad (show vldE L n ≠ 0 by rw [hv]; exact h0)).2.2
    rw [e1, hv]
    have q4 : (chkG L n == 0) = false := by rw [beq_eq_false_iff_ne]; exact h0
    have q5 : (chkG L n != 0) = true := by rw [bne, q4]; rfl
    clear e1 hv
    have CH := Lib.hid CK
    clear CK
    generalize chkG L n = cv at *
    clear h0 hL
    go_enter Tryd.func6, Tryd.ntmps6
    go_wp2_with (go_at_call 20; refine CH.out.mono ?_; rintro e w1 ⟨rfl, b1⟩; have B1 := Lib.hid b1; clear b1)
    go_ret2
    exact ⟨rfl, B1.out⟩
end Go.Proofs.YtkakeakdgidigaaDoor
