/-
  JoinBack: the walk: at all places and every three bytes the call answers true and turns nothing that was there. Conditions: none.
-/
import Derived.Test.YtieffijdhcbcfaaJnK
import Derived.Test.YtieffijdhcbcfaaFcO
import Derived.BigQuiet
namespace Go.Proofs.Ytieffijdhcbcfaa
open Go.RowKit Go.Proofs.Ytieffijdhcbcfaa.GrM Go.Proofs.Ytieffijdhcbcfaa.JoM

theorem good_chk13b {L : List Int} {n : Nat} (h : GoodG L n) (hn : n ≤ 4096) : chkG L n = 0 := chk_good.2 ⟨hn, h⟩
/-- What a path's answer looks like: how long, and its error. -/
def PlP (L : List Int) (N v u : Nat) (w : World) (e : Ending) (w' : World) : Prop :=
  Below w.heap.size w w' ∧ ∃ (A : Option Addr) (c m : Nat) (x : Int), e = .returned (.tuple #[.slice A m c, .int .i64 x]) ∧ m ≤ N ∧ ((¬ Con L v u ∧ x = 13 ∧ m = 0) ∨ (Con L v u ∧ x = 0 ∧ farI L v u = (m : Int)))
theorem pathLen (lv : Value) (L : List Int) (n v u : Nat) (w : World) (hL : CelAt w lv L n) (hn : n ≤ 100000) (h0 : chkG L n = 0) (hv : v < n) (hu : u < n) :
    Calls Try.prog 14 #[lv, .int .i64 v, .int .i64 u] w (PlP L n v u w) := by
  refine (path_ lv L n v u w hL hn h0 hv hu).mono ?_
  rintro e w' ⟨hb, ⟨hc, rfl⟩ | ⟨hc, P, A, c, m, rfl, _, _, _, hf, hm⟩⟩
  · exact ⟨hb, none, 0, 0, 13, rfl, Nat.zero_le _, Or.inl ⟨hc, rfl, rfl⟩⟩
  · exact ⟨hb, A, c, m, 0, rfl, by omega, Or.inr ⟨hc, rfl, hf⟩⟩
set_option maxHeartbeats 16000000 in
set_option maxRecDepth 100000 in
theorem back13 {A1 A2 A3 : Option Addr} {n1 n2 n3 : Nat} (c1 c2 c3 : Nat) {D1 D2 D3 : Nat → Int} (u0 u1 u2 : Nat) (w : World) (h : Plane w A1 A2 A3 n1 n2 n3 D1 D2 D3) (h0 : u0 ≤ 255) (h1 : u1 ≤ 255) (h2 : u2 ≤ 255) :
    Calls Try.prog 5 #[.agg #[.slice A1 n1 c1, .slice A2 n2 c2, .slice A3 n3 c3], .agg #[.int .u8 u0, .int .u8 u1, .int .u8 u2]] w fun e w' => e = .returned (.bool true) ∧ Below w.heap.size w w' := by
  have HP := Lib.hid h
  have WK := Lib.hid (fun w => wakes13 w)
  clear h
  go_enter Try.func5, Try.ntmps5
  go_upto_region 1 with (fail)
  obtain ⟨wb, hwb⟩ : ∃ W, W = ((w.alloc (.cells #[.slice A1 n1 c1, .slice A2 n2 c2, .slice A3 n3 c3] 25)).alloc (.cells #[.int .u8 (u0 : Int), .int .u8 (u1 : Int), .int .u8 (u2 : Int)] 50)) := ⟨_, rfl⟩
  have BB : Hid (Below w.heap.size w wb) := Lib.hid (by rw [hwb]; exact ((Below.refl _ _).alloc (Nat.le_refl _) _).alloc (by simp) _)
  have x0 : wb.cell? ⟨w.heap.size, 0, none⟩ = some (.slice A1 n1 c1) := by rw [hwb]; go_simp
  have x1 : wb.cell? ⟨w.heap.size, 1, none⟩ = some (.slice A2 n2 c2) := by rw [hwb]; go_simp
  have x2 : wb.cell? ⟨w.heap.size, 2, none⟩ = some (.slice A3 n3 c3) := by rw [hwb]; go_simp
  have k0 : wb.cell? ⟨w.heap.size + 1, 0, none⟩ = some (.int .u8 (u0 : Int)) := by rw [hwb]; go_simp
  have k1 : wb.cell? ⟨w.heap.size + 1, 1, none⟩ = some (.int .u8 (u1 : Int)) := by rw [hwb]; go_simp
  have k2 : wb.cell? ⟨w.heap.size + 1, 2, none⟩ = some (.int .u8 (u2 : Int)) := by rw [hwb]; go_simp
  have hgb : w.heap.size + 1 < wb.heap.size := by rw [hwb]; simp
  have KK : Hid (∀ wr, Below wb.heap.size wb wr → wr.cell? ⟨w.heap.size + 1, 0, none⟩ = some (.int .u8 (u0 : Int)) ∧ wr.cell? ⟨w.heap.size + 1, 1, none⟩ = some (.int .u8 (u1 : Int)) ∧ wr.cell? ⟨w.heap.size + 1, 2, none⟩ = some (.int .u8 (u2 : Int)) ∧ w.heap.size + 1 < wr.heap.size) := Lib.hid (fun wr b => ⟨(b.cell (p := ⟨w.heap.size + 1, 0, none⟩) hgb).trans k0, (b.cell (p := ⟨w.heap.size + 1, 1, none⟩) hgb).trans k1, (b.cell (p := ⟨w.heap.size + 1, 2, none⟩) hgb).trans k2, Nat.lt_of_lt_of_le hgb b.size⟩)
  have MK := Lib.hid (makeN 20 (by decide) c1 c2 c3 (HP.out.below BB.out))
  rw [← hwb]
  clear hwb k0 k1 k2
  go_upto_region 2 with (go_at_call 7; refine MK.out.mono ?_; rintro e w1 ⟨N, L, A, c, pv, rfl, o1, hg, hN, b1⟩; have O1 := Lib.hid (OwnG.cel o1); have HG := Lib.hid hg; have C1 := Lib.hid b1; have B1 := Lib.hid (BB.out.trans (b1.mono BB.out.size)); clear o1 hg b1)
  have H0 : Hid (chkG L N = 0) := Lib.hid (good_chk13b HG.out (by omega))
  clear x0 x1 x2 hgb MK HP
  by_cases hN0 : N = 0
  · subst hN0
    go_wp2_with (first
      | (go_at_call 10; have _z := B2; refine (WK.out _).mono ?_; rintro e w3 ⟨rfl, b3⟩; have B3 := Lib.hid (B2.out.trans (b3.mono B2.out.size)); clear b3)
      | (go_at_call 10; refine (WK.out _).mono ?_; rintro e w2 ⟨rfl, b2⟩; have B2 := Lib.hid (B1.out.trans (b2.mono B1.out.size)); clear b2))
    go_ret
    exact ⟨rfl, B3.out⟩
  · have hNp : 0 < N := by omega
    have n0 : ((N : Int) == 0) = false := by rw [beq_eq_false_iff_ne]; omega
    go_upto_region 4 with (go_at_call 10; refine (WK.out _).mono ?_; rintro e w2 ⟨rfl, b2⟩; have B2 := Lib.hid (B1.out.trans (b2.mono B1.out.size)); have L2 := Lib.hid (O1.out.below b2 (Nat.le_refl _)); have C2 := Lib.hid (C1.out.trans (b2.mono C1.out.size)); clear b2)
    obtain ⟨k0, k1, k2, hz⟩ := KK.out _ C2.out
    obtain ⟨a, ha⟩ : ∃ a, u0 % N = a := ⟨_, rfl⟩
    obtain ⟨b, hb⟩ : ∃ b, u1 % N = b := ⟨_, rfl⟩
    obtain ⟨d, hd⟩ : ∃ d, u2 % N = d := ⟨_, rfl⟩
    have han : a < N := by rw [← ha]; exact Nat.mod_lt _ hNp
    have hbn : b < N := by rw [← hb]; exact Nat.mod_lt _ hNp
    have hdn : d < N := by rw [← hd]; exact Nat.mod_lt _ hNp
    have cx0 : IntKind.i64.wrap (u0 : Int) = (u0 : Int) := IntWalk.i64_in _ (by omega)
    have cx1 : IntKind.i64.wrap (u1 : Int) = (u1 : Int) := IntWalk.i64_in _ (by omega)
    have cx2 : IntKind.i64.wrap (u2 : Int) = (u2 : Int) := IntWalk.i64_in _ (by omega)
    have ha' : (u0 : Int).tmod (N : Int) = (a : Int) := by rw [Int.tmod_eq_emod_of_nonneg (by omega), ← ha]; rfl
    have hb' : (u1 : Int).tmod (N : Int) = (b : Int) := by rw [Int.tmod_eq_emod_of_nonneg (by omega), ← hb]; rfl
    have hd' : (u2 : Int).tmod (N : Int) = (d : Int) := by rw [Int.tmod_eq_emod_of_nonneg (by omega), ← hd]; rfl
    clear ha hb hd n0 KK C1 C2 O1
    go_quiet (fail)
    obtain ⟨wz, hwz⟩ : ∃ W, W = w2.drewN nq := ⟨_, rfl⟩
    rw [← hwz]
    have BZ : Hid (Below w.heap.size w wz) := Lib.hid (by rw [hwz]; exact ⟨B2.out.os, B2.out.tape, B2.out.output, B2.out.size, B2.out.block⟩)
    have LZ : Hid (CelAt wz (.slice A N c) L N) := Lib.hid (by rw [hwz]; exact L2.out.below (C := w2.heap.size) ⟨rfl, rfl, rfl, Nat.le_refl _, fun _ _ => rfl⟩ (Nat.le_refl _))
    have PL := Lib.hid (fun v u (hv : v < N) (hu : u < N) wq (b : Below wz.heap.size wz wq) => pathLen (.slice A N c) L N v u wq (LZ.out.below b (Nat.le_refl _)) (by omega) H0.out hv hu)
    clear hwz k0 k1 k2 hz ha' hb' hd' cx0 cx1 cx2 B2 L2
    go_upto_region 9 with (first
      | (go_at_call 14; have _z := Y3; refine (PL.out d b hdn hbn _ Y3.out).mono ?_; rintro e w6 ⟨b6, A6, c6, m6, x6, rfl, hm6, h6⟩; have E4 := Lib.hid h6; have M4 := Lib.hid hm6; have Y4 := Lib.hid (Y3.out.trans (b6.mono Y3.out.size)); clear b6 h6 hm6)
      | (go_at_call 14; have _z := Y2; refine (PL.out a d han hdn _ Y2.out).mono ?_; rintro e w5 ⟨b5, A5, c5, m5, x5, rfl, hm5, h5⟩; have E3 := Lib.hid h5; have M3 := Lib.hid hm5; have Y3 := Lib.hid (Y2.out.trans (b5.mono Y2.out.size)); clear b5 h5 hm5)
      | (go_at_call 14; have _z := Y1; refine (PL.out b a hbn han _ Y1.out).mono ?_; rintro e w4 ⟨b4, A4, c4, m4, x4, rfl, hm4, h4⟩; have E2 := Lib.hid h4; have Y2 := Lib.hid (Y1.out.trans (b4.mono Y1.out.size)); clear b4 h4 hm4)
      | (go_at_call 14; refine (PL.out a b han hbn _ (Below.refl _ _)).mono ?_; rintro e w3 ⟨b3, A3, c3, m3, x3, rfl, hm3, h3⟩; have E1 := Lib.hid h3; have M1 := Lib.hid hm3; have Y1 := Lib.hid b3; clear b3 h3 hm3))
    have hs : x3 = x4 ∧ m3 = m4 := by
      rcases E1.out with ⟨g1, g2, g3⟩ | ⟨g1, g2, g3⟩ <;> rcases E2.out with ⟨f1, f2, f3⟩ | ⟨f1, f2, f3⟩
      · exact ⟨by omega, by omega⟩
      · exact absurd (f1.symm HG.out hbn) g1
      · exact absurd (g1.symm HG.out han) f1
      · refine ⟨by omega, ?_⟩
        rw [far_back HG.out han hbn] at g3
        omega
    obtain ⟨rfl, rfl⟩ := hs
    have ht : x5 = 0 → x6 = 0 → x3 = 0 ∧ m3 ≤ m5 + m6 := fun e5 e6 => by
      have t1 : Con L a d ∧ farI L a d = (m5 : Int) := by
        rcases E3.out with ⟨_, g2, _⟩ | ⟨g1, _, g3⟩
        · omega
        · exact ⟨g1, g3⟩
      have t2 : Con L d b ∧ farI L d b = (m6 : Int) := by
        rcases E4.out with ⟨_, g2, _⟩ | ⟨g1, _, g3⟩
        · omega
        · exact ⟨g1, g3⟩
      obtain ⟨t3, t4⟩ := far_tri t1.1 t2.1
      rcases E1.out with ⟨g1, _, _⟩ | ⟨_, g2, g3⟩
      · exact absurd t3 g1
      · exact ⟨g2, by omega⟩
    have HTT := Lib.hid ht
    have hm3 := M1.out
    have hm5 := M3.out
    have hm6 := M4.out
    have qx : (x3 == x3) = true := by simp
    have qy : (x3 != x3) = false := by simp
    have BF := Lib.hid (BZ.out.trans (Y4.out.mono BZ.out.size))
    clear ht E1 E2 E3 E4 PL
    by_cases z5 : x5 = 0
    · subst z5
      by_cases z6 : x6 = 0
      · subst z6
        obtain ⟨e3, hle⟩ := HTT.out rfl rfl
        subst e3
        have q1 : decide ((m3 : Int) ≤ (m5 : Int) + (m6 : Int)) = true := decide_eq_true (by omega)
        go_wp2_with fail
        go_ret
        exact ⟨ret_bool (by first | rfl | (simp; omega)), BF.out⟩
      · have n6 : (x6 == 0) = false := by rw [beq_eq_false_iff_ne]; exact z6
        have n7 : (x6 != 0) = true := by rw [bne, n6]; rfl
        clear z6
        go_wp2_with fail
        go_ret
        exact ⟨rfl, BF.out⟩
    · have n6 : (x5 == 0) = false := by rw [beq_eq_false_iff_ne]; exact z5
      have n7 : (x5 != 0) = true := by rw [bne, n6]; rfl
      clear z5
      go_wp2_with fail
      go_ret
      exact ⟨rfl, BF.out⟩
end Go.Proofs.Ytieffijdhcbcfaa
