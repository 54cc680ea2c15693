/-
  JoinPaths: the walk: at all places and every two numbers the call answers true and turns nothing that was there. Conditions: none.
-/
import Derived.Test.YtieffijdhcbcfaaJnK
import Derived.Test.YtieffijdhcbcfaaJnR
import Derived.Test.YtieffijdhcbcfaaFcO
import Derived.BigRegion
namespace Go.Proofs.Ytieffijdhcbcfaa
open Go.RowKit Go.Proofs.Ytieffijdhcbcfaa.GrM Go.Proofs.Ytieffijdhcbcfaa.JoM

theorem good_chk13c {L : List Int} {n : Nat} (h : GoodG L n) (hn : n ≤ 4096) : chkG L n = 0 := chk_good.2 ⟨hn, h⟩
def PsA (w0 wr : World) (m : Nat) (iv : Value) : Prop := ∃ i : Nat, iv = .int .i64 i ∧ i ≤ m ∧ Below w0.heap.size w0 wr
def PsB (L : List Int) (N e : Nat) (P : List Nat) (w0 : World) (av iv : Value) (wr : World) : Prop :=
  ∃ i cur : Nat, iv = .int .i64 i ∧ av = .int .i64 cur ∧ i ≤ P.length ∧ cur < N ∧ Pth L cur (P.drop i) e ∧ Below w0.heap.size w0 wr
set_option maxHeartbeats 16000000 in
set_option maxRecDepth 100000 in
theorem paths13 {A1 A2 A3 : Option Addr} {n1 n2 n3 : Nat} (c1 c2 c3 : Nat) {D1 D2 D3 : Nat → Int} (vx ux : Int) (w : World) (h : Plane w A1 A2 A3 n1 n2 n3 D1 D2 D3) (hvx : vx ≤ 9223372036854775807) (hux : ux ≤ 9223372036854775807) :
    Calls Try.prog 4 #[.agg #[.slice A1 n1 c1, .slice A2 n2 c2, .slice A3 n3 c3], .int .i64 vx, .int .i64 ux] w fun e w' => e = .returned (.bool true) ∧ Below w.heap.size w w' := by
  have HP := Lib.hid h
  have WK := Lib.hid (fun w => wakes13 w)
  clear h
  go_enter Try.func4, Try.ntmps4
  go_upto_region 1 with (fail)
  obtain ⟨wb, hwb⟩ : ∃ W, W = (w.alloc (.cells #[.slice A1 n1 c1, .slice A2 n2 c2, .slice A3 n3 c3] 25)) := ⟨_, rfl⟩
  have BB : Hid (Below w.heap.size w wb) := Lib.hid (by rw [hwb]; exact (Below.refl _ _).alloc (Nat.le_refl _) _)
  have x0 : wb.cell? ⟨w.heap.size, 0, none⟩ = some (.slice A1 n1 c1) := by rw [hwb]; go_simp
  have x1 : wb.cell? ⟨w.heap.size, 1, none⟩ = some (.slice A2 n2 c2) := by rw [hwb]; go_simp
  have x2 : wb.cell? ⟨w.heap.size, 2, none⟩ = some (.slice A3 n3 c3) := by rw [hwb]; go_simp
  have hgb : w.heap.size < wb.heap.size := by rw [hwb]; simp
  have MK := Lib.hid (makeN 20 (by decide) c1 c2 c3 (HP.out.below BB.out))
  rw [← hwb]
  clear hwb
  go_upto_region 2 with (go_at_call 7; refine MK.out.mono ?_; rintro e w1 ⟨N, L, A, c, pv, rfl, o1, hg, hN, b1⟩; have O1 := Lib.hid (OwnG.cel o1); have HG := Lib.hid hg; have B1 := Lib.hid (BB.out.trans (b1.mono BB.out.size)); clear o1 hg b1)
  have H0 : Hid (chkG L N = 0) := Lib.hid (good_chk13c HG.out (by omega))
  clear x0 x1 x2 hgb MK HP BB
  obtain ⟨N1, hN1⟩ : ∃ N1 : Nat, (N : Int) + 1 = (N1 : Int) := ⟨N + 1, by omega⟩
  have hN1p : 0 < N1 := by omega
  have hN1q : N1 ≤ 21 := by omega
  obtain ⟨m0, hm0, hm0b⟩ : ∃ m0 : Nat, max 0 vx = (m0 : Int) ∧ (m0 : Int) ≤ 9223372036854775807 := ⟨vx.toNat, by omega, by omega⟩
  obtain ⟨m1, hm1, hm1b⟩ : ∃ m1 : Nat, max 0 ux = (m1 : Int) ∧ (m1 : Int) ≤ 9223372036854775807 := ⟨ux.toNat, by omega, by omega⟩
  obtain ⟨a, ha⟩ : ∃ a : Nat, (m0 : Int) % (N1 : Int) = (a : Int) := ⟨m0 % N1, by omega⟩
  obtain ⟨e, he⟩ : ∃ e : Nat, (m1 : Int) % (N1 : Int) = (e : Int) := ⟨m1 % N1, by omega⟩
  have ha' : (m0 : Int).tmod (N1 : Int) = (a : Int) := by rw [Int.tmod_eq_emod_of_nonneg (by omega)]; exact ha
  have he' : (m1 : Int).tmod (N1 : Int) = (e : Int) := by rw [Int.tmod_eq_emod_of_nonneg (by omega)]; exact he
  have cx3 : IntKind.i64.wrap ((N : Int) + 1) = (N1 : Int) := by rw [hN1]; exact IntWalk.i64_in _ (by omega)
  have cx4 : IntKind.i64.wrap (N1 : Int) = (N1 : Int) := IntWalk.i64_in _ (by omega)
  go_region
  obtain ⟨wz, hwz⟩ : ∃ W, W = (w1.alloc (.cells #[.int .i64 vx, .int .i64 ux, .int .i64 (a : Int), .int .i64 (e : Int)] 41)).drew := ⟨_, rfl⟩
  have bz : Below w1.heap.size w1 wz := by rw [hwz]; exact ((Below.refl _ _).alloc (Nat.le_refl _) _).drew
  have e0 : wz.cell? ⟨w1.heap.size, 0, none⟩ = some (.int .i64 vx) := by rw [hwz]; go_simp
  have e1 : wz.cell? ⟨w1.heap.size, 1, none⟩ = some (.int .i64 ux) := by rw [hwz]; go_simp
  have e2 : wz.cell? ⟨w1.heap.size, 2, none⟩ = some (.int .i64 (a : Int)) := by rw [hwz]; go_simp
  have e3 : wz.cell? ⟨w1.heap.size, 3, none⟩ = some (.int .i64 (e : Int)) := by rw [hwz]; go_simp
  have hgz : w1.heap.size < wz.heap.size := by rw [hwz]; simp
  rw [← hwz]
  have BWZ := Lib.hid (B1.out.trans (bz.mono B1.out.size))
  have LZ := Lib.hid (O1.out.below bz (Nat.le_refl _))
  obtain ⟨g, hg⟩ : ∃ g, w1.heap.size = g := ⟨_, rfl⟩
  rw [hg] at e0 e1 e2 e3 hgz ⊢
  have SC : Hid (∀ j, j < 2 → ∀ wq, Below wz.heap.size wz wq → ∃ p : Int × Int, wq.cell? ⟨g, j * 2, none⟩ = some (.int .i64 p.1) ∧ wq.cell? ⟨g, j * 2 + 1, none⟩ = some (.int .i64 p.2) ∧ g < wq.heap.size) := Lib.hid (fun j hj wq b => by
    have hc : j = 0 ∨ j = 1 := by omega
    rcases hc with rfl | rfl
    · exact ⟨(vx, ux), (b.cell (p := ⟨_, _, none⟩) hgz).trans e0, (b.cell (p := ⟨_, _, none⟩) hgz).trans e1, Nat.lt_of_lt_of_le hgz b.size⟩
    · exact ⟨((a : Int), (e : Int)), (b.cell (p := ⟨_, _, none⟩) hgz).trans e2, (b.cell (p := ⟨_, _, none⟩) hgz).trans e3, Nat.lt_of_lt_of_le hgz b.size⟩)
  clear hwz bz hg e0 e1 e2 e3 hgz ha he ha' he' cx3 cx4 hm0 hm1 hm0b hm1b hN1 hN1p hN1q hvx hux O1
  go_wp2_with fail
  go_loopw [40] (fun jv wr => PsA wz wr 2 jv) (fun jv _ => 2 - (intOf jv).toNat)
  case atStart => exact ⟨0, rfl, Nat.zero_le _, Below.refl _ _⟩
  case round =>
    obtain ⟨j, rfl, hj, hC⟩ := hrel
    have C := Lib.hid hC
    by_cases hjt : j < 2
    · have q1 : decide (j < 2) = true := decide_eq_true hjt
      have q1' : decide ((j : Int) < 2) = true := decide_eq_true (by omega)
      obtain ⟨P, s0, s1, zg⟩ := SC.out j hjt wr hC
      obtain ⟨p0, hp0⟩ : ∃ z, P.1 = z := ⟨_, rfl⟩
      obtain ⟨p1, hp1⟩ : ∃ z, P.2 = z := ⟨_, rfl⟩
      rw [hp0] at s0
      rw [hp1] at s1
      obtain ⟨w9, hw9⟩ : ∃ X, X = (wr.alloc (.cells #[.int .i64 p0, .int .i64 p1] 41)) := ⟨_, rfl⟩
      have b9 : Below wr.heap.size wr w9 := by rw [hw9]; exact (Below.refl _ _).alloc (Nat.le_refl _) _
      have g0 : w9.cell? ⟨wr.heap.size, 0, none⟩ = some (.int .i64 p0) := by rw [hw9]; go_simp
      have g1 : w9.cell? ⟨wr.heap.size, 1, none⟩ = some (.int .i64 p1) := by rw [hw9]; go_simp
      have hz9 : wr.heap.size < w9.heap.size := by rw [hw9]; simp
      have L9 := Lib.hid (LZ.out.below (hC.trans (b9.mono hC.size)) (Nat.le_refl _))
      have C9 := Lib.hid (hC.trans (b9.mono hC.size))
      have GC : Hid (∀ wq, Below w9.heap.size w9 wq → wq.cell? ⟨wr.heap.size, 0, none⟩ = some (.int .i64 p0) ∧ wq.cell? ⟨wr.heap.size, 1, none⟩ = some (.int .i64 p1) ∧ wr.heap.size < wq.heap.size) := Lib.hid (fun wq b =>
        ⟨(b.cell (p := ⟨_, _, none⟩) hz9).trans g0, (b.cell (p := ⟨_, _, none⟩) hz9).trans g1, Nat.lt_of_lt_of_le hz9 b.size⟩)
      clear hp0 hp1 hC
      go_upto_region 5 with fail
      rw [← hw9]
      clear hw9 b9 s0 s1 zg q1 q1'
      obtain ⟨mn, hmn⟩ : ∃ z, min p0 p1 = z := ⟨_, rfl⟩
      obtain ⟨mx, hmx⟩ : ∃ z, max p0 p1 = z := ⟨_, rfl⟩
      by_cases hin : 0 ≤ p0 ∧ p0 < N ∧ 0 ≤ p1 ∧ p1 < N
      · obtain ⟨hi1, hi2, hi3, hi4⟩ := hin
        obtain ⟨v, rfl⟩ := Int.eq_ofNat_of_zero_le hi1
        obtain ⟨u, rfl⟩ := Int.eq_ofNat_of_zero_le hi3
        have hvN : v < N := by omega
        have huN : u < N := by omega
        have d1 : decide (mn < 0) = false := decide_eq_false (by omega)
        have d2 : decide ((N : Int) ≤ mx) = false := decide_eq_false (by omega)
        clear hi1 hi2 hi3 hi4
        have PT := Lib.hid (path_ (.slice A N c) L N v u w9 L9.out (by omega) H0.out hvN huN)
        have FA := Lib.hid (fun wq (b : Below w9.heap.size w9 wq) => refFar (.slice A N c) L N v wq (L9.out.below b (Nat.le_refl _)) (by omega) HG.out hvN)
        by_cases hc : Con L v u
        · obtain ⟨f, hf, -, -⟩ := far_nat hc
          have PY : Hid (Calls Try.prog 14 #[.slice A N c, .int .i64 v, .int .i64 u] w9 fun e w' => Below w9.heap.size w9 w' ∧ ∃ (P : List Nat) (A : Option Addr) (c : Nat), e = .returned (.tuple #[.slice A f c, .int .i64 0]) ∧ P.length = f ∧ ZsAt w' (.slice A f c) (castN P) f ∧ Pth L v P u) := Lib.hid (PT.out.mono (fun e w' h => by
            obtain ⟨hb, ⟨hn, _⟩ | ⟨_, P, A', c', m, rfl, hm, ho, hp, hfm, _⟩⟩ := h
            · exact absurd hc hn
            · obtain rfl : f = m := by omega
              exact ⟨hb, P, A', c', rfl, hm, ho.zs, hp⟩))
          have hfN := far_lt HG.out hvN huN
          rw [hf] at hfN
          have hf2 : f ≤ 20 := by omega
          have HFF := Lib.hid hf
          clear hf hc PT
          go_upto_region 6 with (go_at_call 14; refine PY.out.mono ?_; rintro e w5 ⟨b5, Q, A5, c5, rfl, hq5, z5, p5⟩; have B5 := Lib.hid b5; have HQ5 := Lib.hid hq5; have Z5 := Lib.hid z5; have P5 := Lib.hid p5; clear b5 hq5 z5 p5)
          obtain ⟨k0, k1, kz⟩ := GC.out _ B5.out
          have GS : Hid (∀ wq, Below w5.heap.size w5 wq → wq.cell? ⟨wr.heap.size, 0, none⟩ = some (.int .i64 (v : Int)) ∧ wq.cell? ⟨wr.heap.size, 1, none⟩ = some (.int .i64 (u : Int)) ∧ wr.heap.size < wq.heap.size) := Lib.hid (fun wq b => GC.out wq (B5.out.trans (b.mono B5.out.size)))
          have FB := Lib.hid (fun wq (b : Below w5.heap.size w5 wq) => FA.out wq (B5.out.trans (b.mono B5.out.size)))
          clear g0 g1 hz9 GC FA PY
          go_upto_region 9 with fail
          go_region_with
            ((go_at_call 15; refine (FB.out _ (by first | exact (Below.refl _ _).drew | exact drewN_bel13n _ (Below.refl _ _))).mono ?_; rintro e w6 ⟨gf, rfl, f6, b6⟩; have fu := f6.cell huN; rw [HFF.out] at fu; have fl := f6.lt.2; have B6 : Hid (Below w5.heap.size w5 w6) := Lib.hid ((Below.refl _ _).drew.trans b6); obtain ⟨k3, k4, kz6⟩ := GS.out _ B6.out; clear b6 f6))
          all_goals
            obtain ⟨k0, k1, kz⟩ := GS.out _ B6.out
            have q3 : decide ((f : Int) < 0) = false := decide_eq_false (by omega)
            have Z6 := Lib.hid (Z5.out.below B6.out (Nat.le_refl _))
            have BF := Lib.hid (C9.out.trans ((B5.out.trans (B6.out.mono B5.out.size)).mono C9.out.size))
            have L6 := Lib.hid (L9.out.below (B5.out.trans (B6.out.mono B5.out.size)) (Nat.le_refl _))
            have GT : Hid (∀ wq, Below w6.heap.size w6 wq → wq.cell? ⟨wr.heap.size, 0, none⟩ = some (.int .i64 (v : Int)) ∧ wq.cell? ⟨wr.heap.size, 1, none⟩ = some (.int .i64 (u : Int)) ∧ wr.heap.size < wq.heap.size) := Lib.hid (fun wq b => GS.out wq (B6.out.trans (b.mono B6.out.size)))
            clear GS FB Z5 B5 fu fl
            go_upto_region 15 with fail
            clear k0 k1 kz q3
            go_loopw [14, 97] (fun av iv wr => PsB L N u Q w6 av iv wr) (fun _ iv _ => f - (intOf iv).toNat)
            case atStart => exact ⟨0, v, rfl, rfl, Nat.zero_le _, hvN, P5.out, Below.refl _ _⟩
            case round =>
              obtain ⟨i, cur, rfl, rfl, hi, hcn, hp, hB⟩ := hrel
              have PP := Lib.hid hp
              have B7 := Lib.hid hB
              rw [HQ5.out] at hi
              clear hp hB
              by_cases hlt : i < f
              · have q4 : decide (i < f) = true := decide_eq_true hlt
                obtain ⟨b, o, c', e, hb, hx⟩ := (Z6.out.below B7.out (Nat.le_refl _)).nth hlt
                simp only [Value.slice.injEq, true_and] at e
                obtain ⟨rfl, rfl⟩ := e
                have hiQ : i < Q.length := by rw [HQ5.out]; exact hlt
                rw [castN_get hiQ] at hx
                obtain ⟨hd4, t, ht, hpt⟩ := PP.out.drop hiQ
                obtain ⟨d, hd⟩ : ∃ d, Q.getD i 0 = d := ⟨_, rfl⟩
                rw [hd] at hx hd4 ht
                have htn := (next_lt HG.out hcn hd4 ht).1
                have PT2 := Lib.hid hpt
                obtain ⟨b', o9, c'', e, hb', hx', -⟩ := (L6.out.below B7.out (Nat.le_refl _)).nth hcn
                simp only [Value.slice.injEq, true_and] at e
                obtain ⟨rfl, rfl⟩ := e
                have f0 := hx' d hd4
                rw [ht] at f0
                have q5 : decide ((d : Int) < 0) = false := decide_eq_false (by omega)
                have q6 : decide ((3 : Int) < (d : Int)) = false := decide_eq_false (by omega)
                have q7 : decide ((t : Int) < 0) = false := decide_eq_false (by omega)
                clear hx' ht hpt hd hiQ
                go_wp2_with fail
                go_roundw
                case rel => exact ⟨i + 1, t, by go_num, rfl, by rw [HQ5.out]; omega, htn, PT2.out, B7.out⟩
                case measure => (simp [intOf] <;> omega)
              · have hif : i = f := by omega
                have q4 : decide (i < f) = false := decide_eq_false hlt
                have hcu : cur = u := PP.out.end_ (by rw [HQ5.out]; exact hif)
                subst hcu
                subst hif
                obtain ⟨k0, k1, kz⟩ := GT.out _ B7.out
                have q5 : ((i : Int) == (i : Int)) = true := by simp
                have q6 : ((cur : Int) == (cur : Int)) = true := by simp
                have q7 : ((cur : Int) != (cur : Int)) = false := by simp
                have q8 : ((i : Int) != (i : Int)) = false := by simp
                go_wp2_with fail
                go_roundw
                case rel => exact ⟨j + 1, by go_num, by omega, BF.out.trans (B7.out.mono BF.out.size)⟩
                case measure => (simp [intOf] <;> omega)
        · have hf : farI L v u = -1 := far_none.2 hc
          have PN : Hid (Calls Try.prog 14 #[.slice A N c, .int .i64 v, .int .i64 u] w9 fun e w' => Below w9.heap.size w9 w' ∧ e = .returned (.tuple #[.slice none 0 0, .int .i64 13])) := Lib.hid (PT.out.mono (fun e w' h => by
            obtain ⟨hb, ⟨_, rfl⟩ | ⟨hy, _⟩⟩ := h
            · exact ⟨hb, rfl⟩
            · exact absurd hy hc))
          have HFF := Lib.hid hf
          clear hf hc PT
          go_upto_region 6 with (go_at_call 14; refine PN.out.mono ?_; rintro e w5 ⟨b5, rfl⟩; have B5 := Lib.hid b5; clear b5)
          obtain ⟨k0, k1, kz⟩ := GC.out _ B5.out
          have GS : Hid (∀ wq, Below w5.heap.size w5 wq → wq.cell? ⟨wr.heap.size, 0, none⟩ = some (.int .i64 (v : Int)) ∧ wq.cell? ⟨wr.heap.size, 1, none⟩ = some (.int .i64 (u : Int)) ∧ wr.heap.size < wq.heap.size) := Lib.hid (fun wq b => GC.out wq (B5.out.trans (b.mono B5.out.size)))
          have FB := Lib.hid (fun wq (b : Below w5.heap.size w5 wq) => FA.out wq (B5.out.trans (b.mono B5.out.size)))
          clear g0 g1 hz9 GC FA PN
          go_upto_region 9 with fail
          go_region_with
            ((go_at_call 15; refine (FB.out _ (by first | exact (Below.refl _ _).drew | exact drewN_bel13n _ (Below.refl _ _))).mono ?_; rintro e w6 ⟨gf, rfl, f6, b6⟩; have fu := f6.cell huN; rw [HFF.out] at fu; have fl := f6.lt.2; have B6 : Hid (Below w5.heap.size w5 w6) := Lib.hid ((Below.refl _ _).drew.trans b6); obtain ⟨k3, k4, kz6⟩ := GS.out _ B6.out; clear b6 f6))
          all_goals
            have BF := Lib.hid (C9.out.trans ((B5.out.trans (B6.out.mono B5.out.size)).mono C9.out.size))
            go_wp2_with fail
            go_roundw
            case rel => exact ⟨j + 1, by go_num, by omega, BF.out⟩
            case measure => (simp [intOf] <;> omega)
      · have PA := Lib.hid (pathArg (.slice A N c) L N p0 p1 w9 L9.out (by omega) H0.out hin)
        by_cases hlow : mn < 0
        · have d1 : decide (mn < 0) = true := decide_eq_true hlow
          clear hin hlow
          go_upto_region 6 with (go_at_call 14; refine PA.out.mono ?_; rintro e w5 ⟨rfl, b5⟩; have B5 := Lib.hid b5; clear b5)
          obtain ⟨k0, k1, kz⟩ := GC.out _ B5.out
          clear g0 g1 hz9
          go_wp2_with fail
          go_roundw
          case rel => exact ⟨j + 1, by go_num, by omega, C9.out.trans (B5.out.mono C9.out.size)⟩
          case measure => (simp [intOf] <;> omega)
        · have d1 : decide (mn < 0) = false := decide_eq_false hlow
          have d2 : decide ((N : Int) ≤ mx) = true := decide_eq_true (by omega)
          clear hin hlow
          go_upto_region 6 with (go_at_call 14; refine PA.out.mono ?_; rintro e w5 ⟨rfl, b5⟩; have B5 := Lib.hid b5; clear b5)
          obtain ⟨k0, k1, kz⟩ := GC.out _ B5.out
          clear g0 g1 hz9
          go_wp2_with fail
          go_roundw
          case rel => exact ⟨j + 1, by go_num, by omega, C9.out.trans (B5.out.mono C9.out.size)⟩
          case measure => (simp [intOf] <;> omega)
    · have hj2 : j = 2 := by omega
      subst hj2
      have q1 : decide (2 < 2) = false := by decide
      have BF := Lib.hid (BWZ.out.trans (C.out.mono BWZ.out.size))
      clear hC SC
      go_wp2_with (go_at_call 10; refine (WK.out _).mono ?_; rintro e w3 ⟨rfl, b3⟩; have B3 := Lib.hid (BF.out.trans (b3.mono BF.out.size)); clear b3)
      go_ret
      exact ⟨rfl, B3.out⟩
end Go.Proofs.Ytieffijdhcbcfaa
