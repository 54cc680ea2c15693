/-
  FlowScale: the walk. Conditions: what Solve and Supply are asked to leave.
  FlowScale: its arguments opened. Conditions: what Solve and Supply are asked to leave.
-/
import Derived.Test.YtkloaekmjnbacaaFlowLa
import Derived.Test.YtkloaekmjnbacaaFlowLc
import Derived.Test.YtkloaekmjnbacaaFlowLb
import Derived.Deep.RegionHeld3
import Derived.IntWalk
namespace Go.Proofs.Ytkloaekmjnbacaa
open Go.RowKit Go.Proofs.Ytkloaekmjnbacaa.DagM

def ScaRel (c : Int) (K : List Arc) (w0 : World) (v : Value) (wr : World) (iv : Value) : Prop := ∃ (k : Nat), iv = .int .i64 k ∧ k ≤ K.length ∧ Below w0.heap.size w0 wr ∧ World.ownsRow wr w0.heap.size 43 3 v K.length ((partA c K k).flatMap encA)
theorem sca_own {w : World} {B : Nat} {v : Value} {c : Int} {K : List Arc} {k : Nat} (h : w.ownsRow B 43 3 v K.length ((partA c K k).flatMap encA)) : OwnA w B v (partA c K k) := by
  unfold OwnA
  rw [partA_len]
  exact h
theorem sca_step {w : World} {B g cap : Nat} {c : Int} {K : List Arc} {k : Nat} (h : w.ownsRow B 43 3 (.slice (some ⟨g, 0, none⟩) K.length cap) K.length ((partA c K k).flatMap encA)) (hk : k < K.length) {z : Int} (hz : K[k].2.2 * c = z) :
    (w.setCell ⟨g, k * 3 + 2, none⟩ (.int .i64 z)).ownsRow B 43 3 (.slice (some ⟨g, 0, none⟩) K.length cap) K.length ((partA c K (k + 1)).flatMap encA) := by
  have hl := partA_len c K k
  have h1 : OwnA w B (.slice (some ⟨g, 0, none⟩) (partA c K k).length cap) (partA c K k) := by rw [hl]; exact sca_own h
  have h2 := h1.weigh k z (by rw [hl]; exact hk)
  simp only [partA_at c K k hk] at h2
  rw [← hz, partA_next c K k hk, hl] at h2
  unfold OwnA at h2
  rw [partA_len, hz] at h2
  exact h2
theorem sca_cell {w : World} {B g cap : Nat} {c : Int} {K : List Arc} {k : Nat} (h : w.ownsRow B 43 3 (.slice (some ⟨g, 0, none⟩) K.length cap) K.length ((partA c K k).flatMap encA)) (hk : k < K.length) : w.cell? ⟨g, k * 3 + 2, none⟩ = some (.int .i64 K[k].2.2) ∧ w.frozen? ⟨g, k * 3 + 2, none⟩ = false ∧ g < w.heap.size := by
  have hl := partA_len c K k
  refine ⟨?_, h.frozenAt _, (h.lt g rfl).2⟩
  rw [h.cellAt (k * 3 + 2) (by omega), arc_at (partA c K k) k (by rw [hl]; exact hk) 2 (by omega), partA_at c K k hk]
  rfl
theorem times_dag {n : Nat} {K : List Arc} (h : Rise n K) (hn : n ≤ 4096) {c : Int} (h0 : 1 ≤ c) (h1 : c ≤ 9) : May n (timesA c K) ∧ ordErr n (timesA c K) = 0 := by
  have each : ∀ b ∈ timesA c K, 0 ≤ b.1 ∧ b.1 < b.2.1 ∧ b.2.1 < (n : Int) ∧ 0 ≤ b.2.2 ∧ b.2.2 ≤ 100 := by
    intro b hb
    obtain ⟨a, ha, rfl⟩ := List.mem_map.1 hb
    have := h.ok a ha
    have h2 : a.2.2 * c ≤ 7 * 9 := Int.mul_le_mul (by omega) h1 (by omega) (by omega)
    have h3 : 0 ≤ a.2.2 * c := Int.mul_nonneg (by omega) (by omega)
    simp only
    omega
  have hM : May n (timesA c K) := ⟨by omega, by omega, by have := h.len; simp [timesA]; omega, fun b hb => by have := each b hb; omega⟩
  exact ⟨hM, ord_rises hM (fun i => (i : Int)) (fun b hb => by have := each b hb; omega)⟩
theorem one_dag {n : Nat} {K : List Arc} (h : Rise n K) (hn : n ≤ 4096) {a b : Nat} {z : Int} (hab : a < b) (hb : b < n) (h0 : 0 ≤ z) (h1 : z ≤ 8) : May n (K ++ [((a : Int), (b : Int), z)]) ∧ ordErr n (K ++ [((a : Int), (b : Int), z)]) = 0 := by
  have each : ∀ c ∈ K ++ [((a : Int), (b : Int), z)], 0 ≤ c.1 ∧ c.1 < c.2.1 ∧ c.2.1 < (n : Int) ∧ 0 ≤ c.2.2 ∧ c.2.2 ≤ 8 := by
    intro c hc
    rcases List.mem_append.1 hc with hc | hc
    · have := h.ok c hc; omega
    · obtain rfl := List.mem_singleton.1 hc
      simp only
      omega
  have hM : May n (K ++ [((a : Int), (b : Int), z)]) := ⟨by omega, by omega, by have := h.len; simp; omega, fun c hc => by have := each c hc; omega⟩
  exact ⟨hM, ord_rises hM (fun i => (i : Int)) (fun c hc => by have := each c hc; omega)⟩

/-- One arc more, or none. -/
def ScaOne (n : Nat) (K : List Arc) (w0 w : World) (v : Value) : Prop := ∃ K3 : List Arc, OwnA w w0.heap.size v K3 ∧ May n K3 ∧ ordErr n K3 = 0 ∧ K3.length ≤ 41 ∧ (K3 = K ∨ ∃ c : Arc, 0 ≤ c.2.2 ∧ K3 = K ++ [c])
theorem sca_less {n : Nat} {K K3 : List Arc} {x1 f1 x3 f3 : List Int} {u v : Int} (hE : ∀ a ∈ K, 0 ≤ a.1 ∧ a.1 < n ∧ 0 ≤ a.2.1 ∧ a.2.1 < n) (h1 : SolvedF n K x1 f1 u) (h3 : SolvedF n K3 x3 f3 v) (h : K3 = K ∨ ∃ c : Arc, 0 ≤ c.2.2 ∧ K3 = K ++ [c]) : costSum x1 K ≤ costSum x3 K3 := by
  rcases h with rfl | ⟨c, hc, rfl⟩
  · exact h1.best hE h3.fit
  · exact longer hE hc h1 h3

set_option maxHeartbeats 8000000 in
set_option maxRecDepth 100000 in
theorem scaleLaw (hS : SolveSpec) (hU : SupplySpec) (N : Int) (A : Option Addr) (len cap : Nat) (D : Nat → Int × Int × Int) (by_ p q r : Int) (w : World) (hN0 : 0 ≤ N) (hN1 : N ≤ 255) (hT : TriAt w A len D) (hb0 : 0 ≤ by_) (_hb1 : by_ ≤ 255) (hp0 : 0 ≤ p) (hp1 : p ≤ 255) (hq0 : 0 ≤ q) (hq1 : q ≤ 255) (hr0 : 0 ≤ r) (hr1 : r ≤ 255) :
    Calls Try.prog 6 #[.agg #[.int .u8 N, .slice A len cap], .int .u8 by_, .agg #[.int .u8 p, .int .u8 q, .int .u8 r]] w fun e w' => e = .returned (.bool true) ∧ Below w.heap.size w w' := by
  have T := Lib.hid hT
  have SV := Lib.hid hS
  have SU := Lib.hid hU
  clear hT hS hU
  obtain ⟨i0, hi, hz0, hz1, hz2⟩ := info_parts infoA3c
  obtain ⟨d, hd⟩ : ∃ d : Int, by_.tmod 9 = d := ⟨_, rfl⟩
  have hd0 : 0 ≤ d ∧ d ≤ 8 := by rw [← hd, Int.tmod_eq_emod_of_nonneg hb0]; omega
  obtain ⟨hd1, hd2⟩ := hd0
  obtain ⟨kk, hkk⟩ : ∃ kk : Int, 1 + d = kk := ⟨_, rfl⟩
  have hk1 : 1 ≤ kk := by omega
  have hk2 : kk ≤ 9 := by omega
  go_enter Try.func6, Try.ntmps6
  go_wp2_with (first
    | (go_at_call 17; refine (cloneA _ K _ OA1.out.arcs (by omega)).mono ?_; rintro e w2 ⟨v2, rfl, ho, hb⟩; obtain ⟨a2, c2, rfl⟩ := ho.form; have O2 := Lib.hid ho; have B2 := Lib.hid hb; have z2 := hb.size; clear ho hb)
    | (go_at_call 8; refine (make_ N A len cap 14 D _ hN0 hN1 (by omega) (by omega) (T.out.below (((Below.refl _ _).alloc (Nat.le_refl _) _).alloc (by simp) _))).mono ?_; rintro e w1 ⟨n, vK, K, rfl, hnm, hRi, hO, hb⟩; obtain ⟨aK, cK, rfl⟩ := hO.form; have R := Lib.hid hRi; have OA1 := Lib.hid hO; have k0 : w1.cell? ⟨w.heap.size + 1, 0, none⟩ = some (.int .u8 p) := (hb.cell (p := ⟨w.heap.size + 1, 0, none⟩) (by simp)).trans (by go_simp); have k1 : w1.cell? ⟨w.heap.size + 1, 1, none⟩ = some (.int .u8 q) := (hb.cell (p := ⟨w.heap.size + 1, 1, none⟩) (by simp)).trans (by go_simp); have k2 : w1.cell? ⟨w.heap.size + 1, 2, none⟩ = some (.int .u8 r) := (hb.cell (p := ⟨w.heap.size + 1, 2, none⟩) (by simp)).trans (by go_simp); have B1 : Hid (Below w.heap.size w w1) := Lib.hid ((((Below.refl _ _).alloc (Nat.le_refl _) _).alloc (by simp) _).trans (hb.mono (by simp; omega))); have z1 : w.heap.size + 2 ≤ w1.heap.size := (by have := hb.size; simpa using this); have hn1 : 1 ≤ n := hRi.n1; have hKl : K.length ≤ 40 := hRi.len; clear hRi hO hb))
  clear hd
  go_loopw [35, 11] (fun iv _ wr => ScaRel kk K w1 (.slice a2 K.length c2) wr iv) (fun iv _ _ => K.length - (intOf iv).toNat)
  case atStart => exact ⟨0, rfl, by omega, B2.out, by have h := O2.out; unfold OwnA at h; simpa [partA, timesA] using h⟩
  case round =>
    clear O2 B2
    obtain ⟨k, rfl, hk, hB, hO⟩ := hrel
    have B := Lib.hid hB
    have O := Lib.hid hO
    by_cases hlt : k < K.length
    · obtain ⟨g, cp', e, _, _, _⟩ := ownsRow_form hO (by omega)
      simp only [Value.slice.injEq, true_and] at e
      obtain ⟨rfl, rfl⟩ := e
      obtain ⟨d0, d1, d2⟩ := sca_cell hO hlt
      have hgb := (hO.lt g rfl).1
      have ok := R.out.ok K[k] (List.getElem_mem hlt)
      obtain ⟨z, hz⟩ : ∃ z, K[k].2.2 = z := ⟨_, rfl⟩
      rw [hz] at d0 ok
      obtain ⟨pz, hpz⟩ : ∃ pz, z * kk = pz := ⟨_, rfl⟩
      have hpz1 : 0 ≤ pz := by rw [← hpz]; exact Int.mul_nonneg (by omega) (by omega)
      have hpz2 : pz ≤ 63 := by
        have h : z * kk ≤ 7 * 9 := Int.mul_le_mul (by omega) hk2 (by omega) (by omega)
        omega
      have ST := Lib.hid (sca_step hO hlt (z := pz) (by rw [hz]; exact hpz))
      have BB := Lib.hid (hB.setCell (p := ⟨g, k * 3 + 2, none⟩) hgb (.int .i64 pz))
      clear hB hO hz ok hgb
      go_wp2
      go_roundw
      case rel => exact ⟨k + 1, by go_num, by omega, BB.out, ST.out⟩
      case measure => simp [intOf]; omega
    · have hkl : k = K.length := by omega
      have t0 : decide (k < K.length) = false := by simpa using hlt
      have OB : Hid (OwnA wr w1.heap.size (.slice a2 K.length c2) (timesA kk K)) := Lib.hid (by have h := sca_own hO; rw [hkl, partA_all] at h; exact h)
      obtain ⟨wl, hwl⟩ : ∃ W, W = wr := ⟨_, rfl⟩
      subst hwl
      have OA2 := Lib.hid (OA1.out.below hB)
      have m0 := (hB.cell (p := ⟨w.heap.size + 1, 0, none⟩) (show w.heap.size + 1 < w1.heap.size by omega)).trans k0
      have m1 := (hB.cell (p := ⟨w.heap.size + 1, 1, none⟩) (show w.heap.size + 1 < w1.heap.size by omega)).trans k1
      have m2 := (hB.cell (p := ⟨w.heap.size + 1, 2, none⟩) (show w.heap.size + 1 < w1.heap.size by omega)).trans k2
      have hzl := hB.size
      have hbl : w.heap.size + 1 < wl.heap.size := by omega
      have BL : Hid (Below w.heap.size w wl) := Lib.hid (B1.out.trans (hB.mono (by omega)))
      have hn3 : ¬ n = 0 := by omega
      have hn5 : ¬ (n : Int) = 0 := by omega
      obtain ⟨a, ha⟩ : ∃ r : Nat, p % (n : Int) = (r : Int) := ⟨(p % (n : Int)).toNat, by have := Int.emod_nonneg p (b := (n : Int)) (by omega); omega⟩
      have ha2 : p.tmod (n : Int) = (a : Int) := by rw [Int.tmod_eq_emod_of_nonneg hp0]; exact ha
      obtain ⟨b, hb⟩ : ∃ r : Nat, q % (n : Int) = (r : Int) := ⟨(q % (n : Int)).toNat, by have := Int.emod_nonneg q (b := (n : Int)) (by omega); omega⟩
      have hb2 : q.tmod (n : Int) = (b : Int) := by rw [Int.tmod_eq_emod_of_nonneg hq0]; exact hb
      have ham : a < n := by have := Int.emod_lt_of_pos p (b := (n : Int)) (by omega); omega
      have hbm : b < n := by have := Int.emod_lt_of_pos q (b := (n : Int)) (by omega); omega
      have hwp : IntKind.i64.wrap p = p := IntWalk.i64_in _ (by omega)
      have hwq : IntKind.i64.wrap q = q := IntWalk.i64_in _ (by omega)
      obtain ⟨zz, hzz⟩ : ∃ zz : Int, r.tmod 9 = zz := ⟨_, rfl⟩
      have hzz0 : 0 ≤ zz ∧ zz ≤ 8 := by rw [← hzz, Int.tmod_eq_emod_of_nonneg hr0]; omega
      obtain ⟨hzz1, hzz2⟩ := hzz0
      clear k0 k1 k2 hlt hkl hk hB hO O B OA1 B1
      go_upto_region 10 with (go_at_call 17; refine (cloneA _ K _ OA2.out.arcs (by omega)).mono ?_; rintro e w4 ⟨v4, rfl, ho, hb⟩; obtain ⟨a4, c4, rfl⟩ := ho.form; have O4 := Lib.hid ho; have B4 := Lib.hid hb; have z4 := hb.size; have g0 := (hb.cell (p := ⟨w.heap.size + 1, 0, none⟩) hbl).trans m0; have g1 := (hb.cell (p := ⟨w.heap.size + 1, 1, none⟩) hbl).trans m1; have g2 := (hb.cell (p := ⟨w.heap.size + 1, 2, none⟩) hbl).trans m2; clear ho hb)
      have hb4 : w.heap.size + 1 < w4.heap.size := by omega
      clear m0 m1 m2
      go_quiet (fail)
      clear hn3 hn5 ha ha2 hb hb2 hwp hwq g0 g1
      go_upto_if 62 with (fail)
      generalize hwq : w4.drewN _ = w5
      have b5 : Below w4.heap.size w4 w5 := by rw [← hwq]; exact belowN (Below.refl _ _) _
      have h2 := (b5.cell (p := ⟨w.heap.size + 1, 2, none⟩) hb4).trans g2
      have hb5 := Nat.lt_of_lt_of_le hb4 b5.size
      have O5 := Lib.hid (O4.out.below b5)
      have B5 := Lib.hid (B4.out.trans (b5.mono B4.out.size))
      have z5 := B5.out.size
      clear hwq b5 g2 O4 B4
      go_cut [12] from 62 to 72 (fun ov wx => Below wl.heap.size wl wx ∧ ScaOne n K wl wx ov)
      case first =>
        by_cases hab : a < b
        · have t1 : decide (a < b) = true := by simpa using hab
          have t2 : decide ((a : Int) < (b : Int)) = true := by simpa using hab
          have OD := Lib.hid (one_dag R.out (by omega) hab hbm hzz1 hzz2)
          go_wp2_with (at_builtin; (refine wpList_append_fresh rfl (.tmp 63) (.tmp 71) 26 rfl wl.heap.size 43 i0 (.agg #[.int .i64 0, .int .i64 0, .int .i64 0]) 3 24 Try.underlying26 hi hz0 hz1 hz2 rfl (by decide) (.slice a4 K.length c4) K.length (K.flatMap encA) rfl (O5.out.below ((Below.refl _ _).alloc (Nat.le_refl _) _)) ⟨w5.heap.size, 0, none⟩ 1 1 (encA ((a : Int), (b : Int), zz)) rfl rfl (newsA _ _ _ _ (by simp)) (encA_one _) (by unfold maxLen; omega) (by omega) (by simp; omega) ?_); intro v6 w6 hown hgrow hfr; have H6 := Lib.hid (arc_app (w0 := wl) (B5.out.alloc B5.out.size _) (O5.out.below ((Below.refl _ _).alloc (Nat.le_refl _) _)) hown hgrow); clear hown hgrow hfr)
          all_goals
            first
              | (exfalso; omega)
              | (go_meet; exact ⟨H6.out.2, _, H6.out.1, OD.out.1, OD.out.2, by simp; omega, Or.inr ⟨_, hzz1, rfl⟩⟩)
        · have t1 : decide (a < b) = false := by simpa using hab
          have t2 : decide ((a : Int) < (b : Int)) = false := by simp; omega
          go_wp2
          all_goals
            first
              | (exfalso; omega)
              | (go_meet; exact ⟨B5.out, _, O5.out, R.out.may (by omega), R.out.ord (by omega), by omega, Or.inl rfl⟩)
      case rest =>
        obtain ⟨hB, K3, hO3, hM3, hE3, hK3, hor⟩ := hcut
        obtain ⟨wv, hwv⟩ : ∃ W, W = wc := ⟨_, rfl⟩
        subst hwv
        obtain ⟨a3, c3, rfl⟩ := hO3.form
        have AKz := Lib.hid (OA2.out.arcs.below hB)
        have ABz := Lib.hid ((OB.out.below hB).arcs)
        have A3z := Lib.hid hO3.arcs
        have BV := Lib.hid (BL.out.trans (hB.mono BL.out.size))
        have oK : Hid (May n K ∧ ordErr n K = 0) := Lib.hid ⟨R.out.may (by omega), R.out.ord (by omega)⟩
        have oB := Lib.hid (times_dag R.out (show n ≤ 4096 by omega) hk1 hk2)
        have oO : Hid (May n K3 ∧ ordErr n K3 = 0) := Lib.hid ⟨hM3, hE3⟩
        have OR := Lib.hid hor
        obtain ⟨BL2, hBL2⟩ : ∃ BL2, timesA kk K = BL2 := ⟨_, rfl⟩
        have hbl2 : BL2.length = K.length := by rw [← hBL2]; simp [timesA]
        have HB2 := Lib.hid hBL2
        rw [hBL2] at ABz oB
        have ABy : Hid (ArcsAt wv (.slice a2 K.length c2) BL2) := ABz
        clear hO3 hM3 hE3 hor hB hBL2 O5 B5 h2 hb5 OB OA2 hzz hbl BL ABz
        go_wp2_with (first
          | (go_at_call 9; have _hz := z2b; refine (SV.out.ok n _ K3 _ (A3z.out.below (Q2.out.trans (((Below.refl _ _).alloc (Nat.le_refl _) _).mono Q2.out.size))) oO.out.2).mono ?_; rintro e s3 ⟨xv3, fv3, x3, f3, ways3, rfl, hx, hf, hs, hb⟩; obtain ⟨ax3, cx3, h1⟩ := hx.form; rw [hs.len] at h1; subst h1; obtain ⟨af3, cf3, h2⟩ := hf.form; rw [hs.flen] at h2; subst h2; have S3 := Lib.hid hs; have X3 := Lib.hid hx.ints; have b3 : Below s2.heap.size s2 s3 := ((Below.refl _ _).alloc (Nat.le_refl _) _).trans (hb.mono (by simp)); have Q3 := Lib.hid (Q2.out.trans (b3.mono Q2.out.size)); have z3 := Q3.out.size; have W3 := Lib.hid b3; have K2 : Hid (s3.cell? ⟨s2.heap.size, 0, none⟩ = some (.slice ax2 n cx2)) := Lib.hid ((hb.cell (p := ⟨s2.heap.size, 0, none⟩) (by simp)).trans (by go_simp)); have y3 : s2.heap.size < s3.heap.size := (by have := hb.size; simp at this; omega); clear hx hf hs hb b3)
          | (go_at_call 9; have _hz := z1b; refine (SV.out.ok n _ BL2 _ (ABy.out.below (Q1.out.trans (((Below.refl _ _).alloc (Nat.le_refl _) _).mono Q1.out.size))) oB.out.2).mono ?_; rintro e s2 ⟨xv2, fv2, x2, f2, ways2, rfl, hx, hf, hs, hb⟩; obtain ⟨ax2, cx2, h1⟩ := hx.form; rw [hs.len] at h1; subst h1; obtain ⟨af2, cf2, h2⟩ := hf.form; rw [hs.flen] at h2; subst h2; have S2 := Lib.hid hs; have X2 := Lib.hid hx.ints; have b2 : Below s1.heap.size s1 s2 := ((Below.refl _ _).alloc (Nat.le_refl _) _).trans (hb.mono (by simp)); have W2 := Lib.hid b2; have Q2 := Lib.hid (Q1.out.trans (b2.mono Q1.out.size)); have z2b := Q2.out.size; have K1 : Hid (s2.cell? ⟨s1.heap.size, 0, none⟩ = some (.slice ax1 n cx1)) := Lib.hid ((hb.cell (p := ⟨s1.heap.size, 0, none⟩) (by simp)).trans (by go_simp)); have y2 : s1.heap.size < s2.heap.size := (by have := hb.size; simp at this; omega); clear hx hf hs hb b2)
          | (go_at_call 9; refine (SV.out.ok n _ K _ AKz.out oK.out.2).mono ?_; rintro e s1 ⟨xv1, fv1, x1, f1, ways1, rfl, hx, hf, hs, hb⟩; obtain ⟨ax1, cx1, h1⟩ := hx.form; rw [hs.len] at h1; subst h1; obtain ⟨af1, cf1, h2⟩ := hf.form; rw [hs.flen] at h2; subst h2; have S1 := Lib.hid hs; have X1 := Lib.hid hx.ints; have Q1 := Lib.hid hb; have z1b := hb.size; clear hx hf hs hb)
          | (go_at_call 10; have _hz := z3; refine (wakes5 SV.out SU.out _).mono ?_; rintro e s4 ⟨rfl, hb⟩; have b4 : Below s3.heap.size s3 s4 := ((Below.refl _ _).alloc (Nat.le_refl _) _).trans (hb.mono (by simp)); have g3 : s4.cell? ⟨s3.heap.size, 0, none⟩ = some (.slice ax3 n cx3) := (hb.cell (p := ⟨s3.heap.size, 0, none⟩) (by simp)).trans (by go_simp); have y4 : s3.heap.size < s4.heap.size := (by have := hb.size; simp at this; omega); have g2 := (b4.cell (p := ⟨s2.heap.size, 0, none⟩) y3).trans K2.out; have g1 := (b4.cell (p := ⟨s1.heap.size, 0, none⟩) (show s1.heap.size < s3.heap.size by omega)).trans ((W3.out.cell (p := ⟨s1.heap.size, 0, none⟩) y2).trans K1.out); have Q4 := Lib.hid (Q3.out.trans (b4.mono z3)); have z4b := Q4.out.size; have W4 := Lib.hid b4; clear hb b4))
        have e2 : costSum x2 BL2 = kk * costSum x1 K := by
          have h := S2.out
          rw [← HB2.out] at h ⊢
          exact scaled (may_ends oK.out.1) hk1 S1.out h
        have e3 := sca_less (may_ends oK.out.1) S1.out S3.out OR.out
        have nr1 := cost_near oK.out.1 S1.out.val_near
        have nr2 := cost_near oB.out.1 S2.out.val_near
        have nr3 := cost_near oO.out.1 S3.out.val_near
        have I1 := Lib.hid (X1.out.below (W2.out.trans ((W3.out.trans (W4.out.mono (Nat.le_of_lt y3))).mono (Nat.le_of_lt y2))))
        have I2 := Lib.hid (X2.out.below (W3.out.trans (W4.out.mono (Nat.le_of_lt y3))))
        have I3 := Lib.hid (X3.out.below W4.out)
        obtain ⟨c0, hc0⟩ : ∃ c0, costSum x1 K = c0 := ⟨_, rfl⟩
        obtain ⟨cc, hcc⟩ : ∃ cc, costSum x3 K3 = cc := ⟨_, rfl⟩
        obtain ⟨ee, hee⟩ : ∃ ee, kk * c0 = ee := ⟨_, rfl⟩
        rw [e2, hc0, hee] at nr2
        rw [hc0, hee] at e2
        rw [hc0] at nr1
        rw [hc0, hcc] at e3
        rw [hcc] at nr3
        have V1 := Lib.hid hc0
        have V2 := Lib.hid e2
        have V3 := Lib.hid hcc
        have he1 : -400000000000 ≤ ee := by omega
        have he2 : ee ≤ 400000000000 := by omega
        have t9 : decide (c0 ≤ cc) = true := by simpa using e3
        have BF := Lib.hid (BV.out.trans (Q4.out.mono BV.out.size))
        have hs4 := BF.out.size
        clear e2 e3 nr1 nr2 nr3 hc0 hcc g1
        go_wp2_with (first
          | (go_at_call 13; have _hz := p2; refine (refCost n _ _ K3 x3 _ oO.out.1 (S3.out.coord oO.out.1) S3.out.fit (A3z.out.below (Q4.out.trans (P2.out.mono z4b))) (I3.out.below P2.out)).mono ?_; rintro e s7 ⟨rfl, hb⟩; rw [V3.out]; have P3 := Lib.hid (P2.out.trans (hb.mono p2)); clear hb)
          | (go_at_call 13; have _hz := p1; refine (refCost n _ _ BL2 x2 _ oB.out.1 (S2.out.coord oB.out.1) S2.out.fit (ABy.out.below (Q4.out.trans (P1.out.mono z4b))) (I2.out.below P1.out)).mono ?_; rintro e s6 ⟨rfl, hb⟩; rw [V2.out]; have P2 := Lib.hid (P1.out.trans (hb.mono p1)); have p2 := P2.out.size; have g3' := (P2.out.cell (p := ⟨s3.heap.size, 0, none⟩) y4).trans g3; clear hb)
          | (go_at_call 13; refine (refCost n _ _ K x1 _ oK.out.1 (S1.out.coord oK.out.1) S1.out.fit (AKz.out.below Q4.out) I1.out).mono ?_; rintro e s5 ⟨rfl, hb⟩; rw [V1.out]; have P1 := Lib.hid hb; have p1 := hb.size; have g2' := (hb.cell (p := ⟨s2.heap.size, 0, none⟩) (show s2.heap.size < s4.heap.size by omega)).trans g2; clear hb))
        go_ret
        exact ⟨rfl, BF.out.trans (P3.out.mono hs4)⟩
end Go.Proofs.Ytkloaekmjnbacaa

namespace Go.Proofs.Ytkloaekmjnbacaa
open Go.RowKit Go.ChangeShapes Go.WideShapes Go.Deep Go.Proofs.Ytkloaekmjnbacaa.DagM

set_option maxRecDepth 100000 in
theorem scale_arg {H : Type} {enc : TypeId × Value → H} {w : World} {v v' : Value} {d d' : DataW H} {p p' : List MemPlace} {spare spare' : Nat → Bool} {held held' : Bool} {b0 b0' : Nat} {by_ : Int} (hS : SolveSpec) (hU : SupplySpec)
    (hv : Value.okWide Try.prog w .any b0 24 v) (h : DataW.Trod enc Try.prog w 0 spare held 24 v d p) (hw : (Lit.int .u8 by_).wf = true)
    (hv' : Value.okWide Try.prog w .any b0' 53 v') (h' : DataW.Trod enc Try.prog w 0 spare' held' 53 v' d' p') :
    Calls Try.prog 6 #[v, .int .u8 by_, v'] w fun e w' => e = .returned (.bool true) ∧ Below w.heap.size w w' := by
  obtain ⟨N, A, len, cap, D, rfl, h0, h1, hT⟩ := raw_open hv h
  obtain ⟨a, b, c, rfl, ha, hb, hc⟩ := triple_open hv' h'
  have hw2 := wf_u8 hw
  exact scaleLaw hS hU N A len cap D by_ a b c w h0 h1 hT hw2.1 hw2.2 ha.1 ha.2 hb.1 hb.2 hc.1 hc.2
end Go.Proofs.Ytkloaekmjnbacaa
