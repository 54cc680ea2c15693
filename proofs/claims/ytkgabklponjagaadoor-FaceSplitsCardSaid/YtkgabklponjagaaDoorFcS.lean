/-
  What the document's Behind answers of a dart. Conditions: cells that may be.
-/
import Derived.Test.YtkgabklponjagaaDoorFcR
namespace Go.Proofs.YtkgabklponjagaaDoor
open Go.RowKit Go.Proofs.YtkgabklponjagaaDoor.GrM Go.Proofs.YtkgabklponjagaaDoor.FcM

set_option maxHeartbeats 8000000 in
set_option maxRecDepth 100000 in
theorem refBehind (lv : Value) (L : List Int) (n k : Nat) (w : World) (hL : CelAt w lv L n) (hg : GoodG L n) (hk : isK L n k) :
    Calls Tryd.prog 20 #[lv, dartV k] w (BhP (dartV (behK L k)) w) := by
  obtain ⟨g1, g2, g3⟩ := hk.good hg
  have hv : nxG L (k / 4) (k % 4) = (headK L k : Nat) := g1
  have hw := way_is (L := L) (v := headK L k) (d := k % 4) (by rw [g3]; omega)
  have hw3 := way_le L (headK L k) (k % 4)
  have e1 : behK L k / 4 = headK L k := beh_cell L k
  have e2 : behK L k % 4 = (k % 4 + ordI (wayK L k)) % 4 := beh_dir L k
  have hx := (hL.nth (i := k / 4) (by have := hk.1; omega))
  have hy := (hL.nth (i := headK L k) g2)
  have hgd := fun d (hd : d < 4) => (nx_ge (d := d) hg g2 hd)
  unfold dartV
  rw [e1, e2]
  unfold wayK
  obtain ⟨a, ha⟩ : ∃ a, k / 4 = a := ⟨_, rfl⟩
  obtain ⟨d, hd⟩ : ∃ d, k % 4 = d := ⟨_, rfl⟩
  have han : a < n := by have := hk.1; omega
  have hd4 : d < 4 := by omega
  obtain ⟨u, hu⟩ : ∃ u, headK L k = u := ⟨_, rfl⟩
  rw [hd, hu] at hw hw3 ⊢
  rw [ha, hd, hu] at hv
  rw [hu] at g2 hy hgd
  rw [ha] at hx ⊢
  obtain ⟨W, hW⟩ : ∃ W, wayI L u d = W := ⟨_, rfl⟩
  rw [hW] at hw hw3 ⊢
  have HW := Lib.hid hw
  have HGD := Lib.hid hgd
  obtain ⟨b, o, cap, rfl, hb, hx0, -⟩ := hx
  obtain ⟨b', o', cap', ev, -, hy0, -⟩ := hy
  simp only [Value.slice.injEq, Option.some.injEq, Addr.mk.injEq, true_and, and_true] at ev
  obtain ⟨⟨rfl, rfl⟩, rfl⟩ := ev
  have f0 := hx0 d hd4
  rw [hv] at f0
  have HY := Lib.hid hy0
  clear hL hk hg g1 g3 hv hw e1 e2 ha hd hu hW hx0 hy0 hgd
  go_enter Tryd.func20, Tryd.ntmps20
  go_upto_region 1 with (fail)
  obtain ⟨wb, hwb⟩ : ∃ X, X = ((w.alloc (.cells #[.int .i64 (a : Int), .int .i64 (d : Int)] 47)).alloc (.cells #[.int .i64 0, .int .i64 0] 47)) := ⟨_, rfl⟩
  have bb : Below w.heap.size w wb := by rw [hwb]; exact ((Below.refl _ _).alloc (Nat.le_refl _) _).alloc (by simp) _
  have x0 : wb.cell? ⟨w.heap.size, 0, none⟩ = some (.int .i64 (a : Int)) := by rw [hwb]; go_simp
  have x1 : wb.cell? ⟨w.heap.size, 1, none⟩ = some (.int .i64 (d : Int)) := by rw [hwb]; go_simp
  have r0 : wb.cell? ⟨w.heap.size + 1, 0, none⟩ = some (.int .i64 0) := by rw [hwb]; go_simp
  have r1 : wb.cell? ⟨w.heap.size + 1, 1, none⟩ = some (.int .i64 0) := by rw [hwb]; go_simp
  have p0 : wb.frozen? ⟨w.heap.size + 1, 0, none⟩ = false := by rw [hwb]; go_simp
  have p1 : wb.frozen? ⟨w.heap.size + 1, 1, none⟩ = false := by rw [hwb]; go_simp
  have hgb : w.heap.size + 1 < wb.heap.size := by rw [hwb]; simp
  have hgb0 : w.heap.size < wb.heap.size := by omega
  have g0 := (bb.cell (p := ⟨b, o + a * 8 + d, none⟩) hb).trans f0
  have hbb := Nat.lt_of_lt_of_le hb bb.size
  have BB := Lib.hid bb
  rw [← hwb]
  have CX : Hid (∀ wr, Below wb.heap.size wb wr → wr.cell? ⟨w.heap.size, 0, none⟩ = some (.int .i64 (a : Int)) ∧ wr.cell? ⟨w.heap.size, 1, none⟩ = some (.int .i64 (d : Int)) ∧ wr.cell? ⟨w.heap.size + 1, 0, none⟩ = some (.int .i64 0) ∧ wr.cell? ⟨w.heap.size + 1, 1, none⟩ = some (.int .i64 0) ∧ wr.frozen? ⟨w.heap.size + 1, 0, none⟩ = false ∧ wr.frozen? ⟨w.heap.size + 1, 1, none⟩ = false ∧ w.heap.size + 1 < wr.heap.size ∧ w.heap.size < wr.heap.size ∧ b < wr.heap.size) := Lib.hid (fun wr b =>
    ⟨(b.cell (p := ⟨_, _, none⟩) hgb0).trans x0, (b.cell (p := ⟨_, _, none⟩) hgb0).trans x1, (b.cell (p := ⟨_, _, none⟩) hgb).trans r0, (b.cell (p := ⟨_, _, none⟩) hgb).trans r1, (b.frozen (p := ⟨_, _, none⟩) hgb).trans p0, (b.frozen (p := ⟨_, _, none⟩) hgb).trans p1, Nat.lt_of_lt_of_le hgb b.size, Nat.lt_of_lt_of_le hgb0 b.size, Nat.lt_of_lt_of_le hbb b.size⟩)
  clear hwb bb r0 r1 p0 p1 f0
  have hdI : (d : Int) < 4 := by omega
  have hanI : (a : Int) < (n : Int) := by omega
  go_quiet (fail)
  obtain ⟨wq, hwq⟩ : ∃ X, X = wb.drewN nq := ⟨_, rfl⟩
  have bq : Below wb.heap.size wb wq := by rw [hwq]; exact drewN_below (Below.refl _ _) _
  have BQ := Lib.hid bq
  rw [← hwq]
  clear hwq bq x0 x1 g0 hgb hgb0 hbb
  go_upto_region 3 with (fail)
  obtain ⟨wo, hwo⟩ : ∃ X, X = (wq.alloc (.cells #[.int .i64 1, .int .i64 0, .int .i64 3, .int .i64 2] 3)) := ⟨_, rfl⟩
  have bo : Below wq.heap.size wq wo := by rw [hwo]; exact (Below.refl _ _).alloc (Nat.le_refl _) _
  have O : Hid (∀ i, i < 4 → wo.cell? ⟨wq.heap.size, i, none⟩ = some (.int .i64 (ordI i))) := Lib.hid (fun i hi => by
    have hc : i = 0 ∨ i = 1 ∨ i = 2 ∨ i = 3 := by omega
    rw [hwo]
    rcases hc with rfl | rfl | rfl | rfl <;> (go_simp; try rfl))
  have ho : wq.heap.size < wo.heap.size := by rw [hwo]; simp
  rw [← hwo]
  have BO := Lib.hid (BQ.out.trans (bo.mono BQ.out.size))
  obtain ⟨g, hgq⟩ : ∃ g, wq.heap.size = g := ⟨_, rfl⟩
  rw [hgq] at O ho ⊢
  clear hwo bo hgq
  go_wp2_with fail
  go_loopw [7] (fun iv wr => BhRel wo W iv wr) (fun iv _ => 4 - (intOf iv).toNat)
  case atStart => exact ⟨0, rfl, Nat.zero_le _, Below.refl _ _⟩
  case round =>
    obtain ⟨i, rfl, hi, hB⟩ := hrel
    have hi4 : i < 4 := by omega
    have hiI : (i : Int) < 4 := by omega
    have q0 : decide (i < 4) = true := decide_eq_true hi4
    have q1 : decide ((i : Int) < 4) = true := decide_eq_true hiI
    have hBb := BO.out.trans (hB.mono BO.out.size)
    obtain ⟨-, c1, -, -, -, -, -, z0, zb⟩ := CX.out wr hBb
    have s0 := (hB.cell (p := ⟨g, i, none⟩) ho).trans (O.out i hi4)
    have zg := Nat.lt_of_lt_of_le ho hB.size
    obtain ⟨e, he⟩ : ∃ e, (d + ordI i) % 4 = e := ⟨_, rfl⟩
    have he4 : e < 4 := by omega
    have f1 := ((BB.out.trans (hBb.mono BB.out.size)).cell (p := ⟨b, o + u * 8 + e, none⟩) hb).trans (HY.out e he4)
    have hoi : ordI i < 4 := by unfold ordI; split <;> (try split) <;> (try split) <;> omega
    have NG := HGD.out e he4
    have HWi := HW.out.2 i
    have HWW : i = W → nxG L u e ≠ -1 := fun h => by rw [← he, h]; exact HW.out.1
    rw [he] at HWi
    have HE : Hid (i = W → (d + ordI W) % 4 = e) := Lib.hid (fun h => by rw [← h]; exact he)
    have HR : Hid (i < W → nxG L u e = -1) := Lib.hid HWi
    have HRW := Lib.hid HWW
    obtain ⟨oi, hoe⟩ : ∃ z, ordI i = z := ⟨_, rfl⟩
    rw [hoe] at s0 he hoi
    obtain ⟨y, hy⟩ : ∃ y, nxG L u e = y := ⟨_, rfl⟩
    rw [hy] at f1 NG
    have HYE := Lib.hid hy
    have cx1 : IntKind.i64.wrap ((d : Int) + (oi : Int)) = (d : Int) + (oi : Int) := IntWalk.i64_in _ (by omega)
    have cx2 : ((d : Int) + (oi : Int)) % 4 = (e : Int) := by omega
    have cx3 : ((d : Int) + (oi : Int)).tmod 4 = (e : Int) := by rw [Int.tmod_eq_emod_of_nonneg (by omega)]; exact cx2
    have B := Lib.hid hB
    have BBb := Lib.hid hBb
    have heI : (e : Int) < 4 := by omega
    have huI : (u : Int) < (n : Int) := by omega
    obtain ⟨y9, hye⟩ : ∃ z : Bool, decide (0 ≤ y) = z := ⟨_, rfl⟩
    have Y9 := Lib.hid hye
    clear hB hBb HWi HWW hoe hy he
    by_cases hlt : i < W
    · have hyn : y = -1 := by rw [← HYE.out]; exact HR.out hlt
      have y8 : y9 = false := by rw [← Y9.out]; exact decide_eq_false (by omega)
      subst hyn
      clear hye NG HE y8
      go_upto_region 6 with (fail)
      go_quiet (fail)
      go_wp2_with fail
      go_roundw
      case rel => exact ⟨i + 1, by go_num, by omega, drewN_below B.out _⟩
      case measure => (simp [intOf] <;> omega)
    · have hiW : i = W := by omega
      have hyn : y ≠ -1 := by rw [← HYE.out]; exact HRW.out hiW
      have y8 : decide (0 ≤ y) = true := decide_eq_true (NG.1.2 hyn)
      rw [HE.out hiW]
      clear hye HE hyn NG hiW hlt
      go_upto_region 6 with (fail)
      go_quiet (fail)
      obtain ⟨wz, hwz⟩ : ∃ X, X = wr.drewN nq := ⟨_, rfl⟩
      have bz : Below wr.heap.size wr wz := by rw [hwz]; exact drewN_below (Below.refl _ _) _
      rw [← hwz]
      have f2 := (bz.cell (p := ⟨b, o + u * 8 + e, none⟩) zb).trans f1
      have zb2 := Nat.lt_of_lt_of_le zb bz.size
      have BZ := Lib.hid (BBb.out.trans (bz.mono BBb.out.size))
      obtain ⟨-, -, r0, r1, p0, p1, z1, -, -⟩ := CX.out wz BZ.out
      clear hwz bz c1 s0 f1 z0 zb zg
      go_wp2_with fail
      refine bodyPost_ret (v := .agg #[.int .i64 (u : Int), .int .i64 (e : Int)]) (by simp [results, Tryd.results20, go_sem, r0, r1]) rfl ⟨rfl, ?_⟩
      exact ((BB.out.trans (BZ.out.mono BB.out.size)).setCell (p := ⟨w.heap.size + 1, 0, none⟩) (Nat.le_succ _) _).setCell (p := ⟨w.heap.size + 1, 1, none⟩) (Nat.le_succ _) _
end Go.Proofs.YtkgabklponjagaaDoor
