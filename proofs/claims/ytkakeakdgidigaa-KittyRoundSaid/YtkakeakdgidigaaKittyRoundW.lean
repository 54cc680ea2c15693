/-
  KittyRound: the walk: at all small numbers the call answers true and turns nothing that was there. Conditions: none.
-/
import Derived.Test.YtkakeakdgidigaaKtY
namespace Go.Proofs.Ytkakeakdgidigaa
open Go.RowKit Go.Proofs.Ytkakeakdgidigaa.KtM

def KrS (T : List Int) (m : Nat) (sv iv : Value) : Prop := ∃ k : Nat, iv = .int .i64 k ∧ k ≤ m ∧ sv = .int .i64 (sumI (T.take k))
def KrL (n : Nat) (w2 wr : World) (iv : Value) : Prop := ∃ k : Nat, iv = .int .i64 k ∧ k ≤ n ∧ Below w2.heap.size w2 wr
def KrJ (i k : Nat) (w2 wr : World) (jv : Value) : Prop := ∃ j : Nat, jv = .int .i64 j ∧ i ≤ j ∧ (j ≤ k + 1 ∨ j = i) ∧ Below w2.heap.size w2 wr
set_option maxHeartbeats 16000000 in
set_option maxRecDepth 100000 in
theorem round15 (A : Option Addr) (n c K : Nat) (D : Nat → Int) (w : World) (h : S8At w A n D) (hc : n ≤ c) (hK : K = min n 30) :
    Calls Try.prog 4 #[.slice A n c] w fun e w' => e = .returned (.bool true) ∧ Below w.heap.size w w' := by
  have TU := Lib.hid (turns15 false A n c K D w h hc hK)
  have HG := Lib.hid (trn_good D K)
  have hl := trnT_len false D K
  have hK30 : K ≤ 30 := by omega
  have WK := Lib.hid wakes15
  obtain ⟨T, hT⟩ : ∃ T, trnT false D K = T := ⟨_, rfl⟩
  rw [hT] at TU HG hl
  have HL := Lib.hid hl
  have sr := sum_range HG.out
  obtain ⟨s, hs⟩ : ∃ s, sumI T = s := ⟨_, rfl⟩
  rw [hs, hl] at sr
  have HS := Lib.hid hs
  clear h hc hK hT hl hs
  go_enter Try.func4, Try.ntmps4
  go_wp2_with (go_at_call 6; refine TU.out.mono ?_; rintro e w1 ⟨lv, rfl, oj, b1⟩; obtain ⟨at1, ct1, e, hct⟩ := row_form15 oj; subst e; have ZT := Lib.hid oj.zc; have B1 := Lib.hid b1; clear oj b1)
  clear TU
  go_loop [4, 23] (fun sv iv => KrS T K sv iv) (fun _ iv => K - (intOf iv).toNat)
  case atStart => exact ⟨0, rfl, Nat.zero_le _, rfl⟩
  case round =>
    obtain ⟨k, rfl, hk, rfl⟩ := hrel
    by_cases hlt : k < K
    · have q0 : decide (k < K) = true := decide_eq_true hlt
      rcases ZT.out.1.rows with h0 | ⟨b, o, rfl, hx⟩
      · exact absurd hlt (by omega)
      · obtain ⟨hb, hx⟩ := hx w1 (Below.refl _ _)
        have f0 := hx k hlt
        have hr := sum_take_range HG.out k (by rw [HL.out]; exact hk)
        have ht := good_at15 HG.out (k := k) (by rw [HL.out]; exact hlt)
        have SE := Lib.hid (sum_take15 (T := T) (k := k) (by rw [HL.out]; exact hlt))
        obtain ⟨t, htt⟩ : ∃ t, T.getD k 0 = t := ⟨_, rfl⟩
        obtain ⟨u, hu⟩ : ∃ u, sumI (T.take k) = u := ⟨_, rfl⟩
        rw [htt] at f0 ht SE
        rw [hu] at hr SE
        rw [hu]
        clear hx htt hu
        go_wp2_with fail
        go_round
        case rel => exact ⟨k + 1, by go_num, by omega, by rw [SE.out]⟩
        case measure => (simp [intOf] <;> omega)
    · have q0 : decide (k < K) = false := decide_eq_false hlt
      obtain rfl : k = K := by omega
      have E : sumI (T.take k) = s := by rw [List.take_of_length_le (by rw [HL.out]; omega)]; exact HS.out
      rw [E]
      have CO := Lib.hid (fun wq (o : Below w1.heap.size w1 wq) => corners15 (.slice at1 k ct1) T k wq (ZT.out.1.below o (Nat.le_refl _)) (by omega))
      clear E
      go_wp2_with (go_at_call 7; refine (CO.out _ (Below.refl _ _)).mono ?_; rintro e w2 ⟨n2, lv, rfl, hn2, oc, b2⟩; obtain ⟨ao, co, e, hcap⟩ := oc.form; subst e; have HN := Lib.hid oc.1; have RW := Lib.hid (fun h0 => oc.at_ h0); have C2 := Lib.hid b2; have B2 := Lib.hid (B1.out.trans (b2.mono B1.out.size)); clear b2 oc)
      clear CO
      go_loopw [35] (fun iv wr => KrL n2 w2 wr iv) (fun iv _ => n2 - (intOf iv).toNat)
      case atStart => exact ⟨0, rfl, Nat.zero_le _, Below.refl _ _⟩
      case round =>
        obtain ⟨i, rfl, hi, hB⟩ := hrel
        obtain ⟨wo, hwo⟩ : ∃ W, W = wr := ⟨_, rfl⟩
        subst hwo
        have B := Lib.hid hB
        clear hB
        by_cases hli : i < n2
        · have q1 : decide (i < n2) = true := decide_eq_true hli
          obtain ⟨b, e, -, hx⟩ := RW.out (by omega)
          subst e
          have AR : Hid (AskR T (.slice at1 k ct1) w2 b n2) := Lib.hid ⟨HN.out, hx, fun wq o a p c q ha hc => rotYes15 (.slice at1 k ct1) T k a p c q wq (ZT.out.below (C2.out.trans (o.mono C2.out.size)) (Nat.le_refl _)) (by omega) HG.out ha hc⟩
          clear hx
          go_wp2_with fail
          go_loopw [40] (fun kv wr => KrL n2 w2 wr kv) (fun kv _ => n2 - (intOf kv).toNat)
          case atStart => exact ⟨0, rfl, Nat.zero_le _, B.out⟩
          case round =>
            clear B
            obtain ⟨k9, rfl, hk9, hB⟩ := hrel
            obtain ⟨wi, hwi⟩ : ∃ W, W = wr := ⟨_, rfl⟩
            subst hwi
            have B := Lib.hid hB
            clear hB
            by_cases hlk : k9 < n2
            · have q2 : decide (k9 < n2) = true := decide_eq_true hlk
              obtain ⟨a0, a1, b0, b1, XC, R1, R2⟩ := AR.out.two hli hlk
              have HX := Lib.hid XC
              have HR1 := Lib.hid R1
              have HR2 := Lib.hid R2
              clear XC R1 R2
              obtain ⟨⟨u0, u1, v0, v1⟩, hbs⟩ := HX.out wi B.out
              have l1 := rotA_small HG.out (by rw [HL.out]; exact hK30) (i := i) (k := k9) (by rw [HN.out]; exact hli) (by rw [HN.out]; exact hlk)
              have l2 := rotA_small HG.out (by rw [HL.out]; exact hK30) (i := k9) (k := i) (by rw [HN.out]; exact hlk) (by rw [HN.out]; exact hli)
              have SF : Hid (i = k9 → rotA T i k9 = 0) := Lib.hid (fun e => by rw [e]; exact rotA_self T k9)
              have SB : Hid (i ≠ k9 → rotA T i k9 + rotA T k9 i = s) := Lib.hid (fun e => by rw [← HS.out]; exact rotA_back (by rw [HN.out]; exact hli) (by rw [HN.out]; exact hlk) e)
              obtain ⟨r1, hr1⟩ : ∃ r, rotA T i k9 = r := ⟨_, rfl⟩
              obtain ⟨r2, hr2⟩ : ∃ r, rotA T k9 i = r := ⟨_, rfl⟩
              rw [hr1] at HR1 SF SB l1
              rw [hr2] at HR2 SB l2
              have HRA := Lib.hid hr1
              clear hr1 hr2
              go_upto_region 15 with (fail)
              go_region_held3 (fun w' => w'.cell? ⟨b, i * 2, none⟩ = some (.int .i64 (a0 : Int)) ∧ w'.cell? ⟨b, i * 2 + 1, none⟩ = some (.int .i64 (a1 : Int)) ∧ w'.cell? ⟨b, k9 * 2, none⟩ = some (.int .i64 (b0 : Int)) ∧ w'.cell? ⟨b, k9 * 2 + 1, none⟩ = some (.int .i64 (b1 : Int))) (first
                | exact C5.1
                | go_keep) (first
                | (go_at_call 10; refine (HR1.out _ B.out.drew).mono ?_; rintro e w5 ⟨rfl, b5⟩; have B5 := Lib.hid (B.out.drew.trans (b5.mono B.out.drew.size)); have C5 := HX.out w5 B5.out; clear b5))
              clear u0 u1 v0 v1 hbs
              obtain ⟨⟨u0, u1, v0, v1⟩, hbs⟩ := C5
              go_upto_region 16 with (fail)
              go_region_held3 (fun w' => w'.cell? ⟨b, i * 2, none⟩ = some (.int .i64 (a0 : Int)) ∧ w'.cell? ⟨b, i * 2 + 1, none⟩ = some (.int .i64 (a1 : Int)) ∧ w'.cell? ⟨b, k9 * 2, none⟩ = some (.int .i64 (b0 : Int)) ∧ w'.cell? ⟨b, k9 * 2 + 1, none⟩ = some (.int .i64 (b1 : Int))) (first
                | exact C6.1
                | go_keep) (first
                | (go_at_call 10; refine (HR2.out _ B5.out.drew).mono ?_; rintro e w6 ⟨rfl, b6⟩; have B6 := Lib.hid (B5.out.drew.trans (b6.mono B5.out.drew.size)); have C6 := HX.out w6 B6.out; clear b6))
              clear u0 u1 v0 v1 hbs B5 HR1 HR2 HX C6
              by_cases hik : i = k9
              · have q3 : ((i : Int) == (k9 : Int)) = true := by rw [beq_iff_eq]; omega
                have q4 : ((i : Int) != (k9 : Int)) = false := by rw [bne, q3]; rfl
                have hr0 := SF.out hik
                subst hr0
                clear SF SB hik l2 l1
                go_wp2_with fail
                go_loopw [14] (fun jv wr => KrJ i k9 w2 wr jv) (fun jv _ => k9 + 1 - (intOf jv).toNat)
                case atStart => exact ⟨i, rfl, Nat.le_refl _, Or.inr rfl, B6.out⟩
                case round =>
                  clear B6
                  obtain ⟨j, rfl, hij, hjk, hB⟩ := hrel
                  obtain ⟨wj, hwj⟩ : ∃ W, W = wr := ⟨_, rfl⟩
                  subst hwj
                  have B := Lib.hid hB
                  clear hB
                  by_cases hlj : j ≤ k9
                  · have q5 : decide (j ≤ k9) = true := decide_eq_true hlj
                    have hj2 : j < n2 := by omega
                    obtain ⟨a0, a1, c0, c1, b0, b1, XC, R1, R2⟩ := AR.out.three hli hj2 hlk
                    have HX := Lib.hid XC
                    have HR1 := Lib.hid R1
                    have HR2 := Lib.hid R2
                    clear XC R1 R2
                    have l3 := rotA_small HG.out (by rw [HL.out]; exact hK30) (i := i) (k := j) (by rw [HN.out]; exact hli) (by rw [HN.out]; exact hj2)
                    have l4 := rotA_small HG.out (by rw [HL.out]; exact hK30) (i := j) (k := k9) (by rw [HN.out]; exact hj2) (by rw [HN.out]; exact hlk)
                    have hv := rotA_via (T := T) hij hlj (by rw [HN.out]; exact hlk)
                    rw [HRA.out] at hv
                    obtain ⟨y1, hy1⟩ : ∃ r, rotA T i j = r := ⟨_, rfl⟩
                    obtain ⟨y2, hy2⟩ : ∃ r, rotA T j k9 = r := ⟨_, rfl⟩
                    rw [hy1] at HR1 hv l3
                    rw [hy2] at HR2 hv l4
                    have HV := Lib.hid hv
                    clear hy1 hy2 hv
                    obtain ⟨⟨u0, u1, v0, v1⟩, -, hbs⟩ := HX.out wj B.out
                    go_upto_region 22 with (fail)
                    go_region_held3 (fun w' => w'.cell? ⟨b, i * 2, none⟩ = some (.int .i64 (a0 : Int)) ∧ w'.cell? ⟨b, i * 2 + 1, none⟩ = some (.int .i64 (a1 : Int)) ∧ w'.cell? ⟨b, j * 2, none⟩ = some (.int .i64 (c0 : Int)) ∧ w'.cell? ⟨b, j * 2 + 1, none⟩ = some (.int .i64 (c1 : Int))) (first
                      | exact C5.1
                      | go_keep) (first
                      | (go_at_call 10; refine (HR1.out _ B.out.drew).mono ?_; rintro e w5 ⟨rfl, b5⟩; have B5 := Lib.hid (B.out.drew.trans (b5.mono B.out.drew.size)); have C5 := HX.out w5 B5.out; clear b5))
                    clear u0 u1 v0 v1 hbs
                    obtain ⟨-, ⟨u0, u1, v0, v1⟩, hbs⟩ := C5
                    go_upto_region 23 with (fail)
                    go_region_held3 (fun w' => w'.cell? ⟨b, j * 2, none⟩ = some (.int .i64 (c0 : Int)) ∧ w'.cell? ⟨b, j * 2 + 1, none⟩ = some (.int .i64 (c1 : Int)) ∧ w'.cell? ⟨b, k9 * 2, none⟩ = some (.int .i64 (b0 : Int)) ∧ w'.cell? ⟨b, k9 * 2 + 1, none⟩ = some (.int .i64 (b1 : Int))) (first
                      | exact C6.2.1
                      | go_keep) (first
                      | (go_at_call 10; refine (HR2.out _ B5.out.drew).mono ?_; rintro e w6 ⟨rfl, b6⟩; have B6 := Lib.hid (B5.out.drew.trans (b6.mono B5.out.drew.size)); have C6 := HX.out w6 B6.out; clear b6))
                    clear u0 u1 v0 v1 hbs C6 B5 HR1 HR2 HX
                    have hy := HV.out
                    have cy : IntKind.i64.wrap (0 : Int) = (0 : Int) := IntWalk.i64_in _ (by omega)
                    clear HV
                    go_wp2_with fail
                    go_roundw
                    case rel => exact ⟨j + 1, by go_num, by omega, Or.inl (by omega), B6.out⟩
                    case measure => (simp [intOf] <;> omega)
                  · have q5 : decide (j ≤ k9) = false := decide_eq_false hlj
                    go_wp2_with fail
                    go_roundw
                    case rel => exact ⟨k9 + 1, by go_num, by omega, B.out⟩
                    case measure => (simp [intOf] <;> omega)
              · have q3 : ((i : Int) == (k9 : Int)) = false := by rw [beq_eq_false_iff_ne]; omega
                have q4 : ((i : Int) != (k9 : Int)) = true := by rw [bne, q3]; rfl
                have hrs := SB.out hik
                have cs : IntKind.i64.wrap s = s := IntWalk.i64_in _ (by omega)
                clear SF SB hik
                go_upto_region 19 with (fail)
                clear hrs cs
                go_wp2_with fail
                go_loopw [14] (fun jv wr => KrJ i k9 w2 wr jv) (fun jv _ => k9 + 1 - (intOf jv).toNat)
                case atStart => exact ⟨i, rfl, Nat.le_refl _, Or.inr rfl, B6.out⟩
                case round =>
                  clear B6
                  obtain ⟨j, rfl, hij, hjk, hB⟩ := hrel
                  obtain ⟨wj, hwj⟩ : ∃ W, W = wr := ⟨_, rfl⟩
                  subst hwj
                  have B := Lib.hid hB
                  clear hB
                  by_cases hlj : j ≤ k9
                  · have q5 : decide (j ≤ k9) = true := decide_eq_true hlj
                    have hj2 : j < n2 := by omega
                    obtain ⟨a0, a1, c0, c1, b0, b1, XC, R1, R2⟩ := AR.out.three hli hj2 hlk
                    have HX := Lib.hid XC
                    have HR1 := Lib.hid R1
                    have HR2 := Lib.hid R2
                    clear XC R1 R2
                    have l3 := rotA_small HG.out (by rw [HL.out]; exact hK30) (i := i) (k := j) (by rw [HN.out]; exact hli) (by rw [HN.out]; exact hj2)
                    have l4 := rotA_small HG.out (by rw [HL.out]; exact hK30) (i := j) (k := k9) (by rw [HN.out]; exact hj2) (by rw [HN.out]; exact hlk)
                    have hv := rotA_via (T := T) hij hlj (by rw [HN.out]; exact hlk)
                    rw [HRA.out] at hv
                    obtain ⟨y1, hy1⟩ : ∃ r, rotA T i j = r := ⟨_, rfl⟩
                    obtain ⟨y2, hy2⟩ : ∃ r, rotA T j k9 = r := ⟨_, rfl⟩
                    rw [hy1] at HR1 hv l3
                    rw [hy2] at HR2 hv l4
                    have HV := Lib.hid hv
                    clear hy1 hy2 hv
                    obtain ⟨⟨u0, u1, v0, v1⟩, -, hbs⟩ := HX.out wj B.out
                    go_upto_region 22 with (fail)
                    go_region_held3 (fun w' => w'.cell? ⟨b, i * 2, none⟩ = some (.int .i64 (a0 : Int)) ∧ w'.cell? ⟨b, i * 2 + 1, none⟩ = some (.int .i64 (a1 : Int)) ∧ w'.cell? ⟨b, j * 2, none⟩ = some (.int .i64 (c0 : Int)) ∧ w'.cell? ⟨b, j * 2 + 1, none⟩ = some (.int .i64 (c1 : Int))) (first
                      | exact C5.1
                      | go_keep) (first
                      | (go_at_call 10; refine (HR1.out _ B.out.drew).mono ?_; rintro e w5 ⟨rfl, b5⟩; have B5 := Lib.hid (B.out.drew.trans (b5.mono B.out.drew.size)); have C5 := HX.out w5 B5.out; clear b5))
                    clear u0 u1 v0 v1 hbs
                    obtain ⟨-, ⟨u0, u1, v0, v1⟩, hbs⟩ := C5
                    go_upto_region 23 with (fail)
                    go_region_held3 (fun w' => w'.cell? ⟨b, j * 2, none⟩ = some (.int .i64 (c0 : Int)) ∧ w'.cell? ⟨b, j * 2 + 1, none⟩ = some (.int .i64 (c1 : Int)) ∧ w'.cell? ⟨b, k9 * 2, none⟩ = some (.int .i64 (b0 : Int)) ∧ w'.cell? ⟨b, k9 * 2 + 1, none⟩ = some (.int .i64 (b1 : Int))) (first
                      | exact C6.2.1
                      | go_keep) (first
                      | (go_at_call 10; refine (HR2.out _ B5.out.drew).mono ?_; rintro e w6 ⟨rfl, b6⟩; have B6 := Lib.hid (B5.out.drew.trans (b6.mono B5.out.drew.size)); have C6 := HX.out w6 B6.out; clear b6))
                    clear u0 u1 v0 v1 hbs C6 B5 HR1 HR2 HX
                    have hy := HV.out
                    have cy : IntKind.i64.wrap r1 = r1 := IntWalk.i64_in _ (by omega)
                    clear HV
                    go_wp2_with fail
                    go_roundw
                    case rel => exact ⟨j + 1, by go_num, by omega, Or.inl (by omega), B6.out⟩
                    case measure => (simp [intOf] <;> omega)
                  · have q5 : decide (j ≤ k9) = false := decide_eq_false hlj
                    go_wp2_with fail
                    go_roundw
                    case rel => exact ⟨k9 + 1, by go_num, by omega, B.out⟩
                    case measure => (simp [intOf] <;> omega)
            · have q2 : decide (k9 < n2) = false := decide_eq_false hlk
              go_wp2_with fail
              go_roundw
              case rel => exact ⟨i + 1, by go_num, by omega, B.out⟩
              case measure => (simp [intOf] <;> omega)
        · have q1 : decide (i < n2) = false := decide_eq_false hli
          go_wp2_with (go_at_call 15; refine (WK.out _).mono ?_; rintro e w9 ⟨rfl, b9⟩; have B9 := Lib.hid (B2.out.trans ((B.out.trans (b9.mono B.out.size)).mono B2.out.size)); clear b9)
          go_ret
          exact ⟨rfl, B9.out⟩
end Go.Proofs.Ytkakeakdgidigaa
