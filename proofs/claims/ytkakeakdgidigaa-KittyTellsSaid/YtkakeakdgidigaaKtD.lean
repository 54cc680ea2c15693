/-
  kitty's Rot: the rotation between two corners; of what is none, an error. Conditions: at most a hundred thousand turns.
-/
import Derived.Test.YtkakeakdgidigaaKtC
namespace Go.Proofs.Ytkakeakdgidigaa
open Go.RowKit Go.Proofs.Ytkakeakdgidigaa.KtM

theorem ahd_range {T : List Int} (h : GoodT T) {a p : Nat} (ha : a ≤ T.length) (hp : p ≤ 1) : -(2 * (T.length : Int)) - 1 ≤ ahdC T (a, p) ∧ ahdC T (a, p) ≤ T.length := by
  have := sum_take_range h a ha
  unfold ahdC
  simp only
  omega
theorem part_le {T : List Int} {a p : Nat} (h : (a, p) ∈ crns T) : a < T.length ∧ p ≤ 1 := by
  obtain ⟨h1, h2⟩ := mem_prt.1 h
  refine ⟨h1, ?_⟩
  have : ∀ t, prtN t ≤ 2 := fun t => by unfold prtN; split; omega; split <;> omega
  have := this (T.getD a 0)
  simp only at h2
  omega
set_option maxHeartbeats 4000000 in
theorem rotYes15 (v : Value) (T : List Int) (m a p b q : Nat) (w : World) (hZ : ZcAt w v T m) (hm : m ≤ 100000) (hg : GoodT T) (ha : (a, p) ∈ crns T) (hb : (b, q) ∈ crns T) :
    Calls Try.prog 10 #[v, .agg #[.int .i64 (a : Int), .int .i64 (p : Int)], .agg #[.int .i64 (b : Int), .int .i64 (q : Int)]] w fun e w' =>
      e = .returned (.tuple #[.int .i64 (rotC T (a, p) (b, q)), .int .i64 0]) ∧ Below w.heap.size w w' := by
  obtain ⟨wb, hwb⟩ : ∃ W, W = (w.alloc (.cells #[.int .i64 (a : Int), .int .i64 (p : Int)] 24)).alloc (.cells #[.int .i64 (b : Int), .int .i64 (q : Int)] 24) := ⟨_, rfl⟩
  have bb : Below w.heap.size w wb := by rw [hwb]; exact (below_alloc15 _ _).trans ((below_alloc15 _ _).mono (by simp))
  have BB := Lib.hid bb
  obtain ⟨pa, hpa⟩ := part_le ha
  obtain ⟨pb, hpb⟩ := part_le hb
  have hl := hZ.1.1
  have HA := Lib.hid (fun wq (o : Below w.heap.size w wq) => ahead15 v T m a p wq (hZ.below o (Nat.le_refl _)) (by omega) hg (by omega) hpa)
  have HB := Lib.hid (fun wq (o : Below w.heap.size w wq) => ahead15 v T m b q wq (hZ.below o (Nat.le_refl _)) (by omega) hg (by omega) hpb)
  have RO := Lib.hid (fun wq (o : Below w.heap.size w wq) => rotation15 v T m wq (hZ.1.below o (Nat.le_refl _)) (by omega) hg)
  have MB : Hid (∀ wq, Below w.heap.size w wq → Calls Try.prog 17 #[v] wq fun e w' => e = .returned (.bool true) ∧ Below wq.heap.size wq w') := Lib.hid (fun wq o => by
    have := mayBe15 v T m wq (hZ.1.below o (Nat.le_refl _)) (by omega)
    rw [good_iff.2 hg] at this
    exact this)
  have CA : Hid (∀ wq, Below w.heap.size w wq → Calls Try.prog 18 #[v, .agg #[.int .i64 (a : Int), .int .i64 (p : Int)]] wq fun e w' => e = .returned (.bool true) ∧ Below wq.heap.size wq w') := Lib.hid (fun wq o => by
    have := isCorner15 v T m (a : Int) (p : Int) wq (hZ.1.below o (Nat.le_refl _))
    rw [inC_iff.2 ⟨_, ha, rfl, rfl⟩] at this
    exact this)
  have CB : Hid (∀ wq, Below w.heap.size w wq → Calls Try.prog 18 #[v, .agg #[.int .i64 (b : Int), .int .i64 (q : Int)]] wq fun e w' => e = .returned (.bool true) ∧ Below wq.heap.size wq w') := Lib.hid (fun wq o => by
    have := isCorner15 v T m (b : Int) (q : Int) wq (hZ.1.below o (Nat.le_refl _))
    rw [inC_iff.2 ⟨_, hb, rfl, rfl⟩] at this
    exact this)
  have RC := Lib.hid (rot_code ha hb)
  have ra := ahd_range hg (p := p) (show a ≤ T.length by omega) hpa
  have rb := ahd_range hg (p := q) (show b ≤ T.length by omega) hpb
  have rs := sum_range hg
  rw [hl] at ra rb rs
  obtain ⟨xa, hxa⟩ : ∃ x, ahdC T (a, p) = x := ⟨_, rfl⟩
  obtain ⟨xb, hxb⟩ : ∃ x, ahdC T (b, q) = x := ⟨_, rfl⟩
  obtain ⟨s, hs⟩ : ∃ x, sumI T = x := ⟨_, rfl⟩
  obtain ⟨r, hr⟩ : ∃ x, rotC T (a, p) (b, q) = x := ⟨_, rfl⟩
  rw [hxa] at HA RC ra
  rw [hxb] at HB RC rb
  rw [hs] at RO RC rs
  rw [hr] at RC
  rw [hr]
  have x0 : wb.cell? ⟨w.heap.size, 0, none⟩ = some (.int .i64 (a : Int)) := by rw [hwb]; go_simp
  have x1 : wb.cell? ⟨w.heap.size, 1, none⟩ = some (.int .i64 (p : Int)) := by rw [hwb]; go_simp
  have y0 : wb.cell? ⟨w.heap.size + 1, 0, none⟩ = some (.int .i64 (b : Int)) := by rw [hwb]; go_simp
  have y1 : wb.cell? ⟨w.heap.size + 1, 1, none⟩ = some (.int .i64 (q : Int)) := by rw [hwb]; go_simp
  have hgb : w.heap.size + 1 < wb.heap.size := by rw [hwb]; simp
  obtain ⟨g, hgg⟩ : ∃ g, w.heap.size = g := ⟨_, rfl⟩
  have XC : Hid (∀ wq, Below wb.heap.size wb wq → (wq.cell? ⟨g, 0, none⟩ = some (.int .i64 (a : Int)) ∧ wq.cell? ⟨g, 1, none⟩ = some (.int .i64 (p : Int)) ∧ wq.cell? ⟨g + 1, 0, none⟩ = some (.int .i64 (b : Int)) ∧ wq.cell? ⟨g + 1, 1, none⟩ = some (.int .i64 (q : Int))) ∧ g + 1 < wq.heap.size ∧ g < wq.heap.size ∧ Below w.heap.size w wq) := Lib.hid (fun wq o => by
    rw [hgg] at x0 x1 y0 y1 hgb
    have hs := o.size
    exact ⟨⟨(o.cell (p := ⟨g, 0, none⟩) (by simp only; omega)).trans x0, (o.cell (p := ⟨g, 1, none⟩) (by simp only; omega)).trans x1, (o.cell (p := ⟨g + 1, 0, none⟩) (by simp only; omega)).trans y0, (o.cell (p := ⟨g + 1, 1, none⟩) (by simp only; omega)).trans y1⟩, by omega, by omega, bb.trans (o.mono bb.size)⟩)
  have hgb2 : w.heap.size < wb.heap.size := by omega
  clear hZ hs hr hxa hxb hl bb pa pb hpa hpb
  go_enter Try.func10, Try.ntmps10
  go_upto_region 1 with (fail)
  rw [← hwb]
  clear hwb
  rw [hgg] at x0 x1 y0 y1 hgb hgb2
  go_upto_region 3 with (first
    | (go_at_call 18; have _z := B2; refine (CB.out _ (XC.out _ B2.out).2.2.2).mono ?_; rintro e w3 ⟨rfl, b3⟩; have B3 := Lib.hid (B2.out.trans (b3.mono B2.out.size)); obtain ⟨⟨k0, k1, k2, k3⟩, kg, kh, -⟩ := XC.out w3 B3.out; clear b3)
    | (go_at_call 18; have _z := B1; refine (CA.out _ (XC.out _ B1.out).2.2.2).mono ?_; rintro e w2 ⟨rfl, b2⟩; have B2 := Lib.hid (B1.out.trans (b2.mono B1.out.size)); obtain ⟨⟨j0, j1, j2, j3⟩, jg, jh, -⟩ := XC.out w2 B2.out; clear b2)
    | (go_at_call 17; refine (MB.out _ BB.out).mono ?_; rintro e w1 ⟨rfl, b1⟩; have B1 := Lib.hid b1; obtain ⟨⟨i0, i1, i2, i3⟩, ig, ih, -⟩ := XC.out w1 B1.out; clear b1))
  clear x0 x1 y0 y1 hgb hgb2 i0 i1 i2 i3 ig ih j0 j1 j2 j3 jg jh B1 B2
  obtain ⟨d, hd⟩ : ∃ d, xb - xa = d := ⟨_, rfl⟩
  have cw : IntKind.i64.wrap d = d := IntWalk.i64_in _ (by omega)
  have cw2 : IntKind.i64.wrap (xb - xa) = d := by rw [hd]; exact cw
  go_region_held3 (fun w' => w'.cell? ⟨g, 0, none⟩ = some (.int .i64 (a : Int)) ∧ w'.cell? ⟨g, 1, none⟩ = some (.int .i64 (p : Int)) ∧ w'.cell? ⟨g + 1, 0, none⟩ = some (.int .i64 (b : Int)) ∧ w'.cell? ⟨g + 1, 1, none⟩ = some (.int .i64 (q : Int))) (first | go_keep | exact (XC.out _ B5.out).1 | exact (XC.out _ B4.out).1) (first
    | (go_at_call 19; have _z := B4; ((with_reducible refine (HA.out _ (XC.out _ B4.out).2.2.2).mono ?_); rintro e w5 ⟨rfl, b5⟩); have B5 := Lib.hid (B4.out.trans (b5.mono B4.out.size)); obtain ⟨⟨m0, m1, m2, m3⟩, mg, mh, -⟩ := XC.out w5 B5.out; clear b5)
    | (go_at_call 19; ((with_reducible refine (HB.out _ (XC.out _ (B3.out.drew)).2.2.2).mono ?_); rintro e w4 ⟨rfl, b4⟩); have B4 := Lib.hid (B3.out.drew.trans (b4.mono B3.out.drew.size)); obtain ⟨⟨l0, l1, l2, l3⟩, lg, lh, -⟩ := XC.out w4 B4.out; clear b4))
  clear HA HB MB CA CB k0 k1 k2 k3 kg kh l0 l1 l2 l3 lg lh
  have IA := Lib.hid (fun wq => isAhead15 b q a p wq)
  by_cases hc : b < a ∨ b = a ∧ q < p
  · rw [decide_eq_true hc] at IA
    have RE : Hid (r = d + s) := Lib.hid (by have := RC.out; rw [if_pos hc] at this; omega)
    clear RC hc
    go_wp2_with (first
      | (go_at_call 21; have _z := B6; refine (RO.out _ (XC.out _ B6.out).2.2.2).mono ?_; rintro e w7 ⟨rfl, rfl⟩)
      | (go_at_call 20; refine (IA.out _).mono ?_; rintro e w6 ⟨rfl, b6⟩; have B6 := Lib.hid (B5.out.trans (b6.mono B5.out.size)); obtain ⟨⟨m0, m1, m2, m3⟩, mg, mh, -⟩ := XC.out w6 B6.out; clear b6))
    go_ret2
    exact ⟨by rw [RE.out]; rfl, (XC.out _ B6.out).2.2.2⟩
  · rw [decide_eq_false hc] at IA
    have RE : Hid (r = d) := Lib.hid (by have := RC.out; rw [if_neg hc] at this; omega)
    clear RC hc
    go_wp2_with (go_at_call 20; refine (IA.out _).mono ?_; rintro e w6 ⟨rfl, b6⟩; have B6 := Lib.hid (B5.out.trans (b6.mono B5.out.size)); clear b6)
    go_ret2
    exact ⟨by rw [RE.out]; rfl, (XC.out _ B6.out).2.2.2⟩
set_option maxHeartbeats 4000000 in
theorem rotNo15 (v : Value) (T : List Int) (m : Nat) (a p b q : Int) (w : World) (hZ : ZiAt w v T m) (hm : m ≤ 100000) (h : ¬ (goodY T = true ∧ inC T a p = true ∧ inC T b q = true)) :
    Calls Try.prog 10 #[v, .agg #[.int .i64 a, .int .i64 p], .agg #[.int .i64 b, .int .i64 q]] w fun e w' =>
      e = .returned (.tuple #[.int .i64 0, .int .i64 2]) ∧ Below w.heap.size w w' := by
  obtain ⟨wb, hwb⟩ : ∃ W, W = (w.alloc (.cells #[.int .i64 a, .int .i64 p] 24)).alloc (.cells #[.int .i64 b, .int .i64 q] 24) := ⟨_, rfl⟩
  have bb : Below w.heap.size w wb := by rw [hwb]; exact (below_alloc15 _ _).trans ((below_alloc15 _ _).mono (by simp))
  have BB := Lib.hid bb
  have MB := Lib.hid (fun wq (o : Below w.heap.size w wq) => mayBe15 v T m wq (hZ.below o (Nat.le_refl _)) (by omega))
  have CA := Lib.hid (fun wq (o : Below w.heap.size w wq) => isCorner15 v T m a p wq (hZ.below o (Nat.le_refl _)))
  have CB := Lib.hid (fun wq (o : Below w.heap.size w wq) => isCorner15 v T m b q wq (hZ.below o (Nat.le_refl _)))
  have x0 : wb.cell? ⟨w.heap.size, 0, none⟩ = some (.int .i64 a) := by rw [hwb]; go_simp
  have x1 : wb.cell? ⟨w.heap.size, 1, none⟩ = some (.int .i64 p) := by rw [hwb]; go_simp
  have y0 : wb.cell? ⟨w.heap.size + 1, 0, none⟩ = some (.int .i64 b) := by rw [hwb]; go_simp
  have y1 : wb.cell? ⟨w.heap.size + 1, 1, none⟩ = some (.int .i64 q) := by rw [hwb]; go_simp
  have hgb : w.heap.size + 1 < wb.heap.size := by rw [hwb]; simp
  obtain ⟨g, hgg⟩ : ∃ g, w.heap.size = g := ⟨_, rfl⟩
  have XC : Hid (∀ wq, Below wb.heap.size wb wq → (wq.cell? ⟨g, 0, none⟩ = some (.int .i64 a) ∧ wq.cell? ⟨g, 1, none⟩ = some (.int .i64 p) ∧ wq.cell? ⟨g + 1, 0, none⟩ = some (.int .i64 b) ∧ wq.cell? ⟨g + 1, 1, none⟩ = some (.int .i64 q)) ∧ g + 1 < wq.heap.size ∧ g < wq.heap.size ∧ Below w.heap.size w wq) := Lib.hid (fun wq o => by
    rw [hgg] at x0 x1 y0 y1 hgb
    have hs := o.size
    exact ⟨⟨(o.cell (p := ⟨g, 0, none⟩) (by simp only; omega)).trans x0, (o.cell (p := ⟨g, 1, none⟩) (by simp only; omega)).trans x1, (o.cell (p := ⟨g + 1, 0, none⟩) (by simp only; omega)).trans y0, (o.cell (p := ⟨g + 1, 1, none⟩) (by simp only; omega)).trans y1⟩, by omega, by omega, bb.trans (o.mono bb.size)⟩)
  have hgb2 : w.heap.size < wb.heap.size := by omega
  obtain ⟨z, hz⟩ : ∃ z, goodY T = z := ⟨_, rfl⟩
  obtain ⟨z1, hz1⟩ : ∃ z, inC T a p = z := ⟨_, rfl⟩
  obtain ⟨z2, hz2⟩ : ∃ z, inC T b q = z := ⟨_, rfl⟩
  rw [hz, hz1, hz2] at h
  rw [hz] at MB
  rw [hz1] at CA
  rw [hz2] at CB
  clear hZ bb hz hz1 hz2
  go_enter Try.func10, Try.ntmps10
  go_upto_region 1 with (fail)
  rw [← hwb]
  clear hwb
  rw [hgg] at x0 x1 y0 y1 hgb hgb2
  cases z
  · clear h
    go_wp2_with (go_at_call 17; refine (MB.out _ BB.out).mono ?_; rintro e w1 ⟨rfl, b1⟩; have B1 := Lib.hid b1; clear b1)
    go_ret2
    exact ⟨rfl, (XC.out _ B1.out).2.2.2⟩
  · cases z1
    · clear h
      go_wp2_with (first
        | (go_at_call 18; have _z := B1; refine (CA.out _ (XC.out _ B1.out).2.2.2).mono ?_; rintro e w2 ⟨rfl, b2⟩; have B2 := Lib.hid (B1.out.trans (b2.mono B1.out.size)); obtain ⟨⟨j0, j1, j2, j3⟩, jg, jh, -⟩ := XC.out w2 B2.out; clear b2)
        | (go_at_call 17; refine (MB.out _ BB.out).mono ?_; rintro e w1 ⟨rfl, b1⟩; have B1 := Lib.hid b1; obtain ⟨⟨i0, i1, i2, i3⟩, ig, ih, -⟩ := XC.out w1 B1.out; clear b1))
      go_ret2
      exact ⟨rfl, (XC.out _ B2.out).2.2.2⟩
    · cases z2
      · clear h
        go_wp2_with (first
          | (go_at_call 18; have _z := B2; refine (CB.out _ (XC.out _ B2.out).2.2.2).mono ?_; rintro e w3 ⟨rfl, b3⟩; have B3 := Lib.hid (B2.out.trans (b3.mono B2.out.size)); obtain ⟨⟨k0, k1, k2, k3⟩, kg, kh, -⟩ := XC.out w3 B3.out; clear b3)
          | (go_at_call 18; have _z := B1; refine (CA.out _ (XC.out _ B1.out).2.2.2).mono ?_; rintro e w2 ⟨rfl, b2⟩; have B2 := Lib.hid (B1.out.trans (b2.mono B1.out.size)); obtain ⟨⟨j0, j1, j2, j3⟩, jg, jh, -⟩ := XC.out w2 B2.out; clear b2)
          | (go_at_call 17; refine (MB.out _ BB.out).mono ?_; rintro e w1 ⟨rfl, b1⟩; have B1 := Lib.hid b1; obtain ⟨⟨i0, i1, i2, i3⟩, ig, ih, -⟩ := XC.out w1 B1.out; clear b1))
        go_ret2
        exact ⟨rfl, (XC.out _ B3.out).2.2.2⟩
      · exact absurd ⟨rfl, rfl, rfl⟩ h
end Go.Proofs.Ytkakeakdgidigaa
