/-
  What the reference's Check tells of coordinates and a flow is what the program's does. Conditions: at most 900 arcs.
-/
import Derived.Test.YtdpacaomkahgfaaGreatDoorCtC
namespace Go.Proofs.YtdpacaomkahgfaaGreatDoor
open Go.RowKit Go.Proofs.YtdpacaomkahgfaaGreatDoor.DagM

theorem cert_of_cost {n : Nat} {L : List Arc} {x f : List Int} {z : Int} (h : costErr n L x = z) (hz : z ≠ 0) : certErr n L x f = z := by rw [cert_no (by rw [h]; exact hz), h]
theorem cost_ord {n : Nat} {L : List Arc} {x : List Int} (h : ordErr n L ≠ 0) : costErr n L x = ordErr n L := by unfold costErr; rw [if_neg h]
theorem cost_coord {n : Nat} {L : List Arc} {x : List Int} (h : ordErr n L = 0) (h2 : coordB n x = false) : costErr n L x = 2 := by unfold costErr; rw [if_pos h, h2]; rfl
theorem cost_fit {n : Nat} {L : List Arc} {x : List Int} (h : ordErr n L = 0) (h2 : coordB n x = true) (h3 : fitB x L = false) : costErr n L x = 15 := by unfold costErr; rw [if_pos h, if_pos h2, h3]; rfl
theorem coord_len {n : Nat} {x : List Int} (h : x.length ≠ n) : coordB n x = false := by unfold coordB; rw [decide_eq_false (by omega)]; rfl
theorem coord_far {n : Nat} {x : List Int} (h : x.any far = true) : coordB n x = false := by unfold coordB; rw [h]; simp
theorem coord_yes {n : Nat} {x : List Int} (hl : x.length = n) (h : x.any far = false) : coordB n x = true := by unfold coordB; rw [h, decide_eq_true (by omega)]; rfl
theorem flow_len {L : List Arc} {f : List Int} (h : f.length ≠ L.length) : flowB L f = false := by unfold flowB; rw [decide_eq_false h]; rfl
theorem flow_bad {L : List Arc} {f : List Int} (h : f.any flowNo = true) : flowB L f = false := by unfold flowB; rw [h]; simp
theorem flow_yes {L : List Arc} {f : List Int} (hl : f.length = L.length) (h : f.any flowNo = false) : flowB L f = true := by unfold flowB; rw [h, decide_eq_true hl]; rfl

def RxRel (x : List Int) (p : Int → Bool) (w wr : World) (iv : Value) : Prop := ∃ k : Nat, iv = .int .i64 k ∧ k ≤ x.length ∧ (x.take k).any p = false ∧ wr = w
set_option maxHeartbeats 16000000 in
set_option maxRecDepth 100000 in
theorem refCheckC (n : Nat) (v xv fv : Value) (L : List Arc) (x f : List Int) (w : World) (hA : ArcsAt w v L) (hX : IntsAt w xv x) (hF : IntsAt w fv f) (hl : L.length ≤ 900) :
    Calls Tryz.prog 14 #[.int .i64 n, v, xv, fv] w fun e w' => e = .returned (.int .i64 (certErr n L x f)) ∧ Below w.heap.size w w' := by
  have HA := Lib.hid hA
  have HX := Lib.hid hX
  have HF := Lib.hid hF
  have C := Lib.hid (refOrder n v L w hA)
  obtain ⟨A, cap, rfl, hcap, -⟩ := hA
  obtain ⟨ax, cx, rfl⟩ := hX.form
  obtain ⟨af, cf, rfl⟩ := hF.form
  clear hX hF
  by_cases h0 : ordErr n L = 0
  · have hM := ordErr_may h0
    have M := Lib.hid hM
    have O := Lib.hid h0
    have C2 : Hid (Calls Tryz.prog 32 #[.int .i64 n, .slice A L.length cap] w fun e w' => (∃ y, e = .returned (.tuple #[y, .int .i64 0])) ∧ Below w.heap.size w w') := Lib.hid (by
      refine C.out.mono ?_
      rintro e w' ⟨y, rfl, _, hb⟩
      rw [h0]
      exact ⟨⟨y, rfl⟩, hb⟩)
    have hN : n ≤ 4096 := by have := hM.n1; omega
    clear C h0 hM
    by_cases hxl : x.length = n
    · have XL := Lib.hid hxl
      rw [hxl]
      clear hxl
      go_enter Tryz.func14, Tryz.ntmps14
      go_wp2_with (go_at_call 32; refine C2.out.mono ?_; rintro e w1 ⟨⟨y, rfl⟩, b1⟩; have B1 := Lib.hid b1; clear b1)
      clear C2
      obtain ⟨wl, rfl⟩ : ∃ W, W = w1 := ⟨_, rfl⟩
      go_loopw [11] (fun iv wr => RxRel x far wl wr iv) (fun iv _ => n - (intOf iv).toNat)
      case atStart => exact ⟨0, rfl, by omega, rfl, rfl⟩
      case round =>
        obtain ⟨k, rfl, hk, hN2, rfl⟩ := hrel
        rw [XL.out] at hk
        have NF := Lib.hid hN2
        clear hN2
        by_cases hlt : k < n
        · have hkx : k < x.length := by rw [XL.out]; exact hlt
          obtain ⟨bx, ox, cx', e, hbx, c0⟩ := HX.out.nth hkx
          rw [XL.out] at e
          simp only [Value.slice.injEq, true_and] at e
          obtain ⟨rfl, rfl⟩ := e
          have d0 := (B1.out.cell (p := ⟨bx, ox + k, none⟩) hbx).trans c0
          have T := Lib.hid (any_take far x k hkx)
          have FD := Lib.hid (any_found far x k hkx)
          clear c0
          generalize x[k] = c at *
          by_cases h1 : c < -1000000
          · have E := Lib.hid (cert_of_cost (f := f) (cost_coord O.out (coord_far (FD.out (by simp [far, h1])))) (by decide))
            go_wp2
            go_ret
            exact ⟨ret_int E.out.symm, B1.out⟩
          · by_cases h2 : 1000000 < c
            · have E := Lib.hid (cert_of_cost (f := f) (cost_coord O.out (coord_far (FD.out (by simp [far, h2])))) (by decide))
              go_wp2
              go_ret
              exact ⟨ret_int E.out.symm, B1.out⟩
            · have hf : far c = false := by simp [far]; omega
              have FA := Lib.hid hf
              clear hf
              go_wp2
              go_roundw
              case rel => exact ⟨k + 1, by go_num, by rw [XL.out]; omega, by rw [T.out, NF.out, FA.out]; rfl, rfl⟩
              case measure => simp [intOf]; omega
        · obtain hkn : k = n := by omega
          have hnf := NF.out
          rw [hkn, ← XL.out, List.take_length] at hnf
          have CO := Lib.hid (coord_yes XL.out hnf)
          clear hnf NF
          have hXW := HX.out.below B1.out
          have XW := Lib.hid hXW
          have AW := Lib.hid (HA.out.below B1.out)
          have FT := Lib.hid (refFit n _ _ L x _ M.out (by rw [XL.out]) AW.out XW.out)
          have hft := FT.out
          rw [XL.out] at hft
          subst hkn
          clear hXW
          cases hfit : fitB x L with
          | false =>
            have E := Lib.hid (cert_of_cost (f := f) (cost_fit O.out CO.out hfit) (by decide))
            rw [hfit] at hft
            have FT2 := Lib.hid hft
            clear hft hfit FT
            go_wp2_with (go_at_call 15; refine FT2.out.mono ?_; rintro e w2 ⟨rfl, b2⟩; have B2 := Lib.hid (B1.out.trans (b2.mono B1.out.size)); clear b2)
            go_ret
            exact ⟨ret_int E.out.symm, B2.out⟩
          | true =>
            have FI := Lib.hid hfit
            rw [hfit] at hft
            have FT2 := Lib.hid hft
            have K0 : Hid (costErr k L x = 0) := Lib.hid (costErr_of O.out CO.out hfit)
            clear hft hfit FT
            by_cases hfl : f.length = L.length
            · have FL := Lib.hid hfl
              rw [hfl]
              clear hfl
              go_wp2_with (go_at_call 15; refine FT2.out.mono ?_; rintro e w2 ⟨rfl, b2⟩; have B2 := Lib.hid (B1.out.trans (b2.mono B1.out.size)); clear b2)
              clear FT2
              have FW := Lib.hid (HF.out.below B2.out)
              obtain ⟨wm, rfl⟩ : ∃ W, W = w2 := ⟨_, rfl⟩
              go_loopw [13] (fun iv wr => RxRel f flowNo wm wr iv) (fun iv _ => L.length - (intOf iv).toNat)
              case atStart => exact ⟨0, rfl, by omega, rfl, rfl⟩
              case round =>
                obtain ⟨j, rfl, hj, hN3, rfl⟩ := hrel
                rw [FL.out] at hj
                have NG := Lib.hid hN3
                clear hN3
                by_cases hlt2 : j < L.length
                · have hjf : j < f.length := by rw [FL.out]; exact hlt2
                  obtain ⟨bf, of_, cf', e, hbf, c0⟩ := FW.out.nth hjf
                  rw [FL.out] at e
                  simp only [Value.slice.injEq, true_and] at e
                  obtain ⟨rfl, rfl⟩ := e
                  have T := Lib.hid (any_take flowNo f j hjf)
                  have FD := Lib.hid (any_found flowNo f j hjf)
                  generalize f[j] = c at *
                  by_cases h1 : c < 0
                  · have E := Lib.hid (cert_flow K0.out (flow_bad (L := L) (FD.out (by simp [flowNo, h1]))))
                    go_wp2
                    go_ret
                    exact ⟨ret_int E.out.symm, B2.out⟩
                  · by_cases h2 : 1099511627776 < c
                    · have E := Lib.hid (cert_flow K0.out (flow_bad (L := L) (FD.out (by simp [flowNo, h2]))))
                      go_wp2
                      go_ret
                      exact ⟨ret_int E.out.symm, B2.out⟩
                    · have hf : flowNo c = false := by simp [flowNo]; omega
                      have FA := Lib.hid hf
                      clear hf
                      go_wp2
                      go_roundw
                      case rel => exact ⟨j + 1, by go_num, by rw [FL.out]; omega, by rw [T.out, NG.out, FA.out]; rfl, rfl⟩
                      case measure => simp [intOf]; omega
                · obtain hjn : j = L.length := by omega
                  have hng := NG.out
                  rw [hjn, ← FL.out, List.take_length] at hng
                  have hfb := flow_yes FL.out hng
                  have FB := Lib.hid hfb
                  obtain ⟨_, fn, fs⟩ := flow_sum hfb hl
                  have FN := Lib.hid fn
                  have R := Lib.hid (refRightB k _ _ L f _ (HA.out.below B2.out) M.out FW.out FL.out fn fs)
                  have hr0 := R.out
                  rw [FL.out] at hr0
                  have SU : ∀ w', Below wr.heap.size wr w' → _ := fun w' hb => refSum _ f w' (FW.out.below hb) fn fs (by rw [FL.out]; omega)
                  have hsu := SU
                  rw [FL.out] at hsu
                  have S2 := Lib.hid hsu
                  have CS : ∀ w', Below wr.heap.size wr w' → _ := fun w' hb => refCost k _ _ L x w' M.out CO.out FI.out ((HA.out.below B2.out).below hb) ((HX.out.below B2.out).below hb)
                  have hcs := CS
                  rw [XL.out] at hcs
                  have CS2 := Lib.hid hcs
                  subst hjn
                  clear hng hfb fn R NG SU hsu CS hcs
                  cases hr : rightB k L f with
                  | false =>
                    have E := Lib.hid (cert_right K0.out FB.out hr)
                    rw [hr] at hr0
                    have R2 := Lib.hid hr0
                    clear hr hr0
                    go_wp2_with (go_at_call 33; refine R2.out.mono ?_; rintro e w3 ⟨rfl, b3⟩; have B3 := Lib.hid (B2.out.trans (b3.mono B2.out.size)); clear b3)
                    go_ret
                    exact ⟨ret_int E.out.symm, B3.out⟩
                  | true =>
                    have E := Lib.hid (cert_sum K0.out FB.out hr)
                    rw [hr] at hr0
                    have R2 := Lib.hid hr0
                    clear hr hr0
                    obtain ⟨s, hss⟩ : ∃ s, f.sum = s := ⟨_, rfl⟩
                    obtain ⟨y2, hyy⟩ : ∃ y, costSum x L = y := ⟨_, rfl⟩
                    have hS := S2.out
                    have hC := CS2.out
                    have hE := E.out
                    rw [hss] at hS hE fs
                    rw [hyy] at hC hE
                    have S3 := Lib.hid hS
                    have C3 := Lib.hid hC
                    have E3 := Lib.hid hE
                    clear hss hyy hS hC hE S2 CS2 E
                    by_cases hs : s = y2
                    all_goals
                      have SQ := Lib.hid hs
                      go_wp2_with (first
                        | (go_at_call 34; refine (S3.out _ D4.out).mono ?_; rintro e w5 ⟨rfl, rfl⟩)
                        | (go_at_call 16; refine (C3.out _ D3.out).mono ?_; rintro e w4 ⟨rfl, b4⟩; have B4 := Lib.hid (B3.out.trans (b4.mono B3.out.size)); have D4 := Lib.hid (D3.out.trans (b4.mono D3.out.size)); clear b4)
                        | (go_at_call 33; refine R2.out.mono ?_; rintro e w3 ⟨rfl, b3⟩; have B3 := Lib.hid (B2.out.trans (b3.mono B2.out.size)); have D3 := Lib.hid b3; clear b3))
                      go_ret
                      exact ⟨ret_int (by rw [E3.out]; simp [SQ.out]), B4.out⟩
            · have E := Lib.hid (cert_flow K0.out (flow_len hfl))
              have hne : ((f.length : Int) == L.length) = false := by rw [beq_eq_false_iff_ne]; omega
              clear hfl
              go_wp2_with (go_at_call 15; refine FT2.out.mono ?_; rintro e w2 ⟨rfl, b2⟩; have B2 := Lib.hid (B1.out.trans (b2.mono B1.out.size)); clear b2)
              go_ret
              exact ⟨ret_int E.out.symm, B2.out⟩
    · have E := Lib.hid (cert_of_cost (f := f) (cost_coord O.out (coord_len hxl)) (by decide))
      have hne : ((x.length : Int) == n) = false := by rw [beq_eq_false_iff_ne]; omega
      clear hxl
      go_enter Tryz.func14, Tryz.ntmps14
      go_wp2_with (go_at_call 32; refine C2.out.mono ?_; rintro e w1 ⟨⟨y, rfl⟩, b1⟩; have B1 := Lib.hid b1; clear b1)
      go_ret
      exact ⟨ret_int E.out.symm, B1.out⟩
  · have E := Lib.hid (cert_of_cost (f := f) (cost_ord (x := x) h0) h0)
    obtain ⟨z, hz⟩ : ∃ z, ordErr n L = z := ⟨_, rfl⟩
    have hE := E.out
    rw [hz] at hE h0
    have E2 := Lib.hid hE
    have hne : (z == 0) = false := by simpa using h0
    have C2 : Hid (Calls Tryz.prog 32 #[.int .i64 n, .slice A L.length cap] w fun e w' => (∃ y, e = .returned (.tuple #[y, .int .i64 z])) ∧ Below w.heap.size w w') := Lib.hid (by
      refine C.out.mono ?_
      rintro e w' ⟨y, rfl, _, hb⟩
      rw [hz]
      exact ⟨⟨y, rfl⟩, hb⟩)
    clear C h0 hz hE E
    go_enter Tryz.func14, Tryz.ntmps14
    go_wp2_with (go_at_call 32; refine C2.out.mono ?_; rintro e w1 ⟨⟨y, rfl⟩, b1⟩; have B1 := Lib.hid b1; clear b1)
    go_ret
    exact ⟨ret_int E2.out.symm, B1.out⟩
end Go.Proofs.YtdpacaomkahgfaaGreatDoor
