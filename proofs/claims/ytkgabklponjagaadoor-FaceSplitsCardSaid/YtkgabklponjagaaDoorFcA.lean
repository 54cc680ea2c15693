/-
  What the code's behind answers: the dart behind a dart, and how one turns. Conditions: the ways read as the program lays them.
-/
import Derived.Test.YtkgabklponjagaaDoorFcM
import Derived.Test.YtkgabklponjagaaDoorNzDb
import Derived.Test.YtkgabklponjagaaDoorNzDc
namespace Go.Proofs.YtkgabklponjagaaDoor
open Go.RowKit Go.Proofs.YtkgabklponjagaaDoor.GrM Go.Proofs.YtkgabklponjagaaDoor.FcM

/-- The table of ways: four numbers. -/
structure WayT (w : World) : Prop where
  lt : 0 < w.heap.size
  at_ : ∀ j, j < 4 → w.cell? ⟨0, j, none⟩ = some (.int .i64 (1 - (j : Int)))
theorem WayT.below {w w' : World} {C : Nat} (h : WayT w) (o : Below C w w') (hC : w.heap.size ≤ C) : WayT w' :=
  ⟨Nat.lt_of_lt_of_le h.lt o.size, fun j hj => (o.cell (p := ⟨0, j, none⟩) (Nat.lt_of_lt_of_le h.lt hC)).trans (h.at_ j hj)⟩
theorem ixW0 (w : World) : (Instr.index 55 (.agg #[.int .i64 1, .int .i64 0, .int .i64 (-1), .int .i64 (-2)]) (.int .i64 0)).run Tryd.prog w = .ok (.int .i64 1) w := by kernel_rfl
theorem ixW1 (w : World) : (Instr.index 55 (.agg #[.int .i64 1, .int .i64 0, .int .i64 (-1), .int .i64 (-2)]) (.int .i64 1)).run Tryd.prog w = .ok (.int .i64 0) w := by kernel_rfl
theorem ixW2 (w : World) : (Instr.index 55 (.agg #[.int .i64 1, .int .i64 0, .int .i64 (-1), .int .i64 (-2)]) (.int .i64 2)).run Tryd.prog w = .ok (.int .i64 (-1)) w := by kernel_rfl
theorem ixW3 (w : World) : (Instr.index 55 (.agg #[.int .i64 1, .int .i64 0, .int .i64 (-1), .int .i64 (-2)]) (.int .i64 3)).run Tryd.prog w = .ok (.int .i64 (-2)) w := by kernel_rfl
theorem ixW (i : Nat) (hi : i < 4) (w : World) : (Instr.index 55 (.agg #[.int .i64 1, .int .i64 0, .int .i64 (-1), .int .i64 (-2)]) (.int .i64 (i : Int))).run Tryd.prog w = .ok (.int .i64 (1 - (i : Int))) w := by
  have hc : i = 0 ∨ i = 1 ∨ i = 2 ∨ i = 3 := by omega
  rcases hc with rfl | rfl | rfl | rfl
  · exact ixW0 w
  · exact ixW1 w
  · exact ixW2 w
  · exact ixW3 w
theorem left_way {d i : Nat} (hd : d < 4) (hi : i < 4) : leftI (d : Int) (1 - (i : Int)) = (((d + ordI i) % 4 : Nat) : Int) := by
  rw [leftI_t (by omega) (by omega)]
  have hc : i = 0 ∨ i = 1 ∨ i = 2 ∨ i = 3 := by omega
  rcases hc with rfl | rfl | rfl | rfl <;> unfold ordI <;> simp <;> omega
def dartV (k : Nat) : Value := .agg #[.int .i64 ((k / 4 : Nat) : Int), .int .i64 ((k % 4 : Nat) : Int)]
def BhRel (w0 : World) (W : Nat) (iv : Value) (wr : World) : Prop := ∃ i : Nat, iv = .int .i64 i ∧ i ≤ W ∧ Below w0.heap.size w0 wr
def BhP (v : Value) (w : World) (e : Ending) (w' : World) : Prop := e = .returned v ∧ Below w.heap.size w w'
set_option maxHeartbeats 4000000 in
set_option maxRecDepth 100000 in
theorem behindYes {w : World} {p n : Nat} {v : Value} {L : List Int} {k : Nat} (h : GrdAt w p v L n) (hg : GoodG L n) (hT : WayT w) (hk : isK L n k) :
    Calls Tryd.prog 35 #[.pointer (some ⟨p, 0, none⟩), dartV k] w (BhP (.tuple #[dartV (behK L k), .int .i64 (trnK L k), .bool true]) w) := by
  obtain ⟨g1, g2, g3⟩ := hk.good hg
  have hst := step_yes (L := L) (n := n) (a := k / 4) (e := k % 4) (by have := hk.1; omega) (by omega) hk.2
  have hv : nxG L (k / 4) (k % 4) = (headK L k : Nat) := g1
  rw [hv] at hst
  have hw := way_is (L := L) (v := headK L k) (d := k % 4) (by rw [g3]; omega)
  have hw3 := way_le L (headK L k) (k % 4)
  have e1 : behK L k / 4 = headK L k := beh_cell L k
  have e2 : behK L k % 4 = (k % 4 + ordI (wayK L k)) % 4 := beh_dir L k
  have e3 : trnK L k = 1 - (wayK L k : Int) := rfl
  unfold dartV
  rw [e1, e2, e3]
  unfold wayK
  obtain ⟨a, ha⟩ : ∃ a, k / 4 = a := ⟨_, rfl⟩
  obtain ⟨d, hd⟩ : ∃ d, k % 4 = d := ⟨_, rfl⟩
  have hd4 : d < 4 := by omega
  obtain ⟨u, hu⟩ : ∃ u, headK L k = u := ⟨_, rfl⟩
  rw [ha, hd] at hst
  rw [hd, hu] at hw hw3 ⊢
  rw [hu] at hst g2
  rw [ha]
  obtain ⟨W, hW⟩ : ∃ W, wayI L u d = W := ⟨_, rfl⟩
  rw [hW] at hw hw3 ⊢
  have HN := Lib.hid (fun w' (b : RowKit.Below w.heap.size w w') x d => nextY (h.below b) x d)
  have HT := Lib.hid hT
  have HW := Lib.hid hw
  have HS := Lib.hid hst
  have LE := Lib.hid (fun t w => kept (left_any (d : Int) t w))
  clear h hg hk g1 g3 hst hv e1 e2 e3 ha hd hu hW hw hT
  go_enter Tryd.func35, Tryd.ntmps35
  go_upto_region 1 with (fail)
  obtain ⟨wb, hwb⟩ : ∃ X, X = ((w.alloc (.cells #[.int .i64 (a : Int), .int .i64 (d : Int)] 28)).alloc (.cells #[.int .i64 0, .int .i64 0] 28)) := ⟨_, rfl⟩
  have bb : RowKit.Below w.heap.size w wb := by rw [hwb]; exact ((Below.refl _ _).alloc (Nat.le_refl _) _).alloc (by simp) _
  have x0 : wb.cell? ⟨w.heap.size, 0, none⟩ = some (.int .i64 (a : Int)) := by rw [hwb]; go_simp
  have x1 : wb.cell? ⟨w.heap.size, 1, none⟩ = some (.int .i64 (d : Int)) := by rw [hwb]; go_simp
  have r0 : wb.cell? ⟨w.heap.size + 1, 0, none⟩ = some (.int .i64 0) := by rw [hwb]; go_simp
  have r1 : wb.cell? ⟨w.heap.size + 1, 1, none⟩ = some (.int .i64 0) := by rw [hwb]; go_simp
  have f0 : wb.frozen? ⟨w.heap.size + 1, 0, none⟩ = false := by rw [hwb]; go_simp
  have f1 : wb.frozen? ⟨w.heap.size + 1, 1, none⟩ = false := by rw [hwb]; go_simp
  have hgb : w.heap.size + 1 < wb.heap.size := by rw [hwb]; simp
  have BB := Lib.hid bb
  rw [← hwb]
  have TB := HT.out.below bb (Nat.le_refl _)
  have CX : Hid (∀ wr, RowKit.Below wb.heap.size wb wr → wr.cell? ⟨w.heap.size, 0, none⟩ = some (.int .i64 (a : Int)) ∧ wr.cell? ⟨w.heap.size, 1, none⟩ = some (.int .i64 (d : Int)) ∧ wr.cell? ⟨w.heap.size + 1, 0, none⟩ = some (.int .i64 0) ∧ wr.cell? ⟨w.heap.size + 1, 1, none⟩ = some (.int .i64 0) ∧ wr.frozen? ⟨w.heap.size + 1, 0, none⟩ = false ∧ wr.frozen? ⟨w.heap.size + 1, 1, none⟩ = false ∧ w.heap.size + 1 < wr.heap.size ∧ w.heap.size < wr.heap.size) := Lib.hid (fun wr b => by
    have h0 : w.heap.size < wb.heap.size := by omega
    exact ⟨(b.cell (p := ⟨_, _, none⟩) h0).trans x0, (b.cell (p := ⟨_, _, none⟩) h0).trans x1, (b.cell (p := ⟨_, _, none⟩) hgb).trans r0, (b.cell (p := ⟨_, _, none⟩) hgb).trans r1, (b.frozen (p := ⟨_, _, none⟩) hgb).trans f0, (b.frozen (p := ⟨_, _, none⟩) hgb).trans f1, Nat.lt_of_lt_of_le hgb b.size, Nat.lt_of_lt_of_le h0 b.size⟩)
  obtain ⟨S0, S1, S2⟩ := HS.out
  clear hwb bb r0 r1 f0 f1 hgb
  go_upto_region 4 with (go_at_call 41; refine (HN.out _ BB.out (a : Int) (d : Int)).mono ?_; rw [S0, S1]; rintro e w1 ⟨rfl, b1⟩; have B1 : Hid (RowKit.Below wb.heap.size wb w1) := Lib.hid b1; clear b1)
  have T1 := TB.below B1.out (Nat.le_refl _)
  have t0 : w1.cell? ⟨0, 0, none⟩ = some (.int .i64 1) := T1.at_ 0 (by decide)
  have t1 : w1.cell? ⟨0, 1, none⟩ = some (.int .i64 0) := T1.at_ 1 (by decide)
  have t2 : w1.cell? ⟨0, 2, none⟩ = some (.int .i64 (-1)) := T1.at_ 2 (by decide)
  have t3 : w1.cell? ⟨0, 3, none⟩ = some (.int .i64 (-2)) := T1.at_ 3 (by decide)
  have tl := T1.lt
  clear x0 x1 TB S0 S1 S2 T1
  go_wp2_with fail
  clear t0 t1 t2 t3 tl
  go_loopw [30] (fun iv wr => BhRel wb W iv wr) (fun iv _ => 4 - (intOf iv).toNat)
  case atStart => exact ⟨0, rfl, Nat.zero_le _, B1.out⟩
  case round =>
    clear B1
    obtain ⟨i, rfl, hi, hB⟩ := hrel
    have B := Lib.hid hB
    have hi4 : i < 4 := by omega
    have q0 : decide (i < 4) = true := decide_eq_true hi4
    have q1 : decide ((i : Int) < 4) = true := decide_eq_true (by omega)
    have hix := ixW i hi4
    obtain ⟨c0, c1, r0, r1, f0, f1, z1, z0⟩ := CX.out wr hB
    have LY := LE.out (1 - (i : Int))
    rw [left_way hd4 hi4] at LY
    have LYH := Lib.hid LY
    clear LY
    obtain ⟨e, he⟩ : ∃ e, (d + ordI i) % 4 = e := ⟨_, rfl⟩
    have he4 : e < 4 := by omega
    have bw : RowKit.Below w.heap.size w wr := BB.out.trans (hB.mono BB.out.size)
    have BW := Lib.hid bw
    clear hB bw
    obtain ⟨y, hy⟩ : ∃ y : Int, 1 - (i : Int) = y := ⟨_, rfl⟩
    have hyr : -2 ≤ y ∧ y ≤ 1 := by omega
    rw [hy] at hix LYH
    rw [he] at LYH
    by_cases hlt : i < W
    · have hst := step_free (n := n) ((HW.out.2 i hlt))
      rw [he] at hst
      have HS2 := Lib.hid (And.intro hst (step_no hst))
      clear hst he hy
      go_upto_region 8 with (go_at_call 42; refine (LYH.out _).mono ?_; rintro e w5 ⟨rfl, rfl⟩)
      obtain ⟨wx, hwx⟩ : ∃ X, X = (wr.alloc (.cells #[.int .i64 (u : Int), .int .i64 (e : Int)] 28)) := ⟨_, rfl⟩
      have bx : RowKit.Below wr.heap.size wr wx := by rw [hwx]; exact (Below.refl _ _).alloc (Nat.le_refl _) _
      have y0 : wx.cell? ⟨wr.heap.size, 0, none⟩ = some (.int .i64 (u : Int)) := by rw [hwx]; go_simp
      have y1 : wx.cell? ⟨wr.heap.size, 1, none⟩ = some (.int .i64 (e : Int)) := by rw [hwx]; go_simp
      have hzx : wr.heap.size < wx.heap.size := by rw [hwx]; simp
      have BX := Lib.hid (BW.out.trans (bx.mono BW.out.size))
      have B2 := Lib.hid (B.out.trans (bx.mono B.out.size))
      rw [← hwx]
      clear hwx bx c0 c1 r0 r1 f0 f1 z1 z0
      go_wp2_with (go_at_call 41; refine (HN.out _ BX.out (u : Int) (e : Int)).mono ?_; rw [HS2.out.1, HS2.out.2.1, HS2.out.2.2]; rintro e w6 ⟨rfl, b6⟩; have B6 := Lib.hid b6; clear b6)
      go_roundw
      case rel => exact ⟨i + 1, by go_num, by omega, B2.out.trans (B6.out.mono B2.out.size)⟩
      case measure => (simp [intOf] <;> omega)
    · have hiW : i = W := by omega
      have hst := step_yes (L := L) (n := n) (a := u) (e := e) g2 he4 (by rw [← he, hiW]; exact HW.out.1)
      have HS2 := Lib.hid hst
      have HE : Hid ((d + ordI W) % 4 = e) := Lib.hid (by rw [← hiW]; exact he)
      have HY : Hid (1 - (W : Int) = y) := Lib.hid (by rw [← hiW]; exact hy)
      rw [HE.out, HY.out]
      clear hst he hy hlt hiW
      go_upto_region 8 with (go_at_call 42; refine (LYH.out _).mono ?_; rintro e w5 ⟨rfl, rfl⟩)
      obtain ⟨wx, hwx⟩ : ∃ X, X = (wr.alloc (.cells #[.int .i64 (u : Int), .int .i64 (e : Int)] 28)) := ⟨_, rfl⟩
      have bx : RowKit.Below wr.heap.size wr wx := by rw [hwx]; exact (Below.refl _ _).alloc (Nat.le_refl _) _
      have y0 : wx.cell? ⟨wr.heap.size, 0, none⟩ = some (.int .i64 (u : Int)) := by rw [hwx]; go_simp
      have y1 : wx.cell? ⟨wr.heap.size, 1, none⟩ = some (.int .i64 (e : Int)) := by rw [hwx]; go_simp
      have hzx : wr.heap.size < wx.heap.size := by rw [hwx]; simp
      have BX := Lib.hid (BW.out.trans (bx.mono BW.out.size))
      have B2 := Lib.hid (B.out.trans (bx.mono B.out.size))
      rw [← hwx]
      clear hwx bx c0 c1 r0 r1 f0 f1 z1 z0
      have YC : Hid (∀ wq, RowKit.Below wx.heap.size wx wq → wq.cell? ⟨wr.heap.size, 0, none⟩ = some (.int .i64 (u : Int)) ∧ wq.cell? ⟨wr.heap.size, 1, none⟩ = some (.int .i64 (e : Int)) ∧ wr.heap.size < wq.heap.size) := Lib.hid (fun wq b =>
        ⟨(b.cell (p := ⟨_, _, none⟩) hzx).trans y0, (b.cell (p := ⟨_, _, none⟩) hzx).trans y1, Nat.lt_of_lt_of_le hzx b.size⟩)
      go_upto_region 9 with (go_at_call 41; refine (HN.out _ BX.out (u : Int) (e : Int)).mono ?_; rw [HS2.out.1, HS2.out.2.1, HS2.out.2.2]; rintro e w6 ⟨rfl, b6⟩; have B6 := Lib.hid b6; clear b6)
      obtain ⟨v0, v1, v2⟩ := YC.out _ B6.out
      have B7 := B2.out.trans (B6.out.mono B2.out.size)
      obtain ⟨c0, c1, r0, r1, f0, f1, z1, z0⟩ := CX.out _ B7
      clear y0 y1 hzx c0 c1 B7
      go_wp2_with fail
      refine bodyPost_ret (v := .tuple #[.agg #[.int .i64 (u : Int), .int .i64 (e : Int)], .int .i64 y, .bool true]) (by simp [results, Tryd.results35, go_sem, r0, r1]) rfl ⟨rfl, ?_⟩
      exact ((BX.out.trans (B6.out.mono BX.out.size)).setCell (p := ⟨w.heap.size + 1, 0, none⟩) (Nat.le_succ _) _).setCell (p := ⟨w.heap.size + 1, 1, none⟩) (Nat.le_succ _) _
set_option maxHeartbeats 4000000 in
set_option maxRecDepth 100000 in
/-- What is no dart. -/
theorem behindNo {w : World} {p n : Nat} {v : Value} {L : List Int} {x d : Int} (h : GrdAt w p v L n) (hk : stepB L n x d = false) :
    Calls Tryd.prog 35 #[.pointer (some ⟨p, 0, none⟩), .agg #[.int .i64 x, .int .i64 d]] w (BhP (.tuple #[.agg #[.int .i64 0, .int .i64 0], .int .i64 0, .bool false]) w) := by
  have HN := Lib.hid (fun w' (b : RowKit.Below w.heap.size w w') x d => nextY (h.below b) x d)
  have HS := Lib.hid (And.intro hk (step_no hk))
  clear h hk
  go_enter Tryd.func35, Tryd.ntmps35
  go_upto_region 1 with (fail)
  obtain ⟨wb, hwb⟩ : ∃ X, X = ((w.alloc (.cells #[.int .i64 x, .int .i64 d] 28)).alloc (.cells #[.int .i64 0, .int .i64 0] 28)) := ⟨_, rfl⟩
  have bb : RowKit.Below w.heap.size w wb := by rw [hwb]; exact ((Below.refl _ _).alloc (Nat.le_refl _) _).alloc (by simp) _
  have x0 : wb.cell? ⟨w.heap.size, 0, none⟩ = some (.int .i64 x) := by rw [hwb]; go_simp
  have x1 : wb.cell? ⟨w.heap.size, 1, none⟩ = some (.int .i64 d) := by rw [hwb]; go_simp
  have r0 : wb.cell? ⟨w.heap.size + 1, 0, none⟩ = some (.int .i64 0) := by rw [hwb]; go_simp
  have r1 : wb.cell? ⟨w.heap.size + 1, 1, none⟩ = some (.int .i64 0) := by rw [hwb]; go_simp
  have f0 : wb.frozen? ⟨w.heap.size + 1, 0, none⟩ = false := by rw [hwb]; go_simp
  have f1 : wb.frozen? ⟨w.heap.size + 1, 1, none⟩ = false := by rw [hwb]; go_simp
  have hgb : w.heap.size + 1 < wb.heap.size := by rw [hwb]; simp
  have hgb0 : w.heap.size < wb.heap.size := by omega
  have BB := Lib.hid bb
  have CX : Hid (∀ wr, RowKit.Below wb.heap.size wb wr → wr.cell? ⟨w.heap.size + 1, 0, none⟩ = some (.int .i64 0) ∧ wr.cell? ⟨w.heap.size + 1, 1, none⟩ = some (.int .i64 0) ∧ wr.frozen? ⟨w.heap.size + 1, 0, none⟩ = false ∧ wr.frozen? ⟨w.heap.size + 1, 1, none⟩ = false ∧ w.heap.size + 1 < wr.heap.size) := Lib.hid (fun wr b =>
    ⟨(b.cell (p := ⟨_, _, none⟩) hgb).trans r0, (b.cell (p := ⟨_, _, none⟩) hgb).trans r1, (b.frozen (p := ⟨_, _, none⟩) hgb).trans f0, (b.frozen (p := ⟨_, _, none⟩) hgb).trans f1, Nat.lt_of_lt_of_le hgb b.size⟩)
  rw [← hwb]
  clear hwb bb r0 r1 f0 f1 hgb
  go_upto_region 2 with (go_at_call 41; refine (HN.out _ BB.out x d).mono ?_; rw [HS.out.1, HS.out.2.1, HS.out.2.2]; rintro e w6 ⟨rfl, b6⟩; have B6 := Lib.hid b6; clear b6)
  obtain ⟨r0, r1, f0, f1, z1⟩ := CX.out _ B6.out
  clear x0 x1
  go_wp2_with fail
  refine bodyPost_ret (v := .tuple #[.agg #[.int .i64 0, .int .i64 0], .int .i64 0, .bool false]) (by simp [results, Tryd.results35, go_sem, r0, r1]) rfl ⟨rfl, ?_⟩
  exact ((BB.out.trans (B6.out.mono BB.out.size)).setCell (p := ⟨w.heap.size + 1, 0, none⟩) (Nat.le_succ _) _).setCell (p := ⟨w.heap.size + 1, 1, none⟩) (Nat.le_succ _) _
set_option maxHeartbeats 4000000 in
set_option maxRecDepth 100000 in
/-- Of the nil grid. -/
theorem behindNil (x d : Int) (w : World) : Calls Tryd.prog 35 #[.pointer none, .agg #[.int .i64 x, .int .i64 d]] w (BhP (.tuple #[.agg #[.int .i64 0, .int .i64 0], .int .i64 0, .bool false]) w) := by
  have HN := Lib.hid (fun w => nextN x d w)
  go_enter Tryd.func35, Tryd.ntmps35
  go_wp2_with (go_at_call 41; refine (HN.out _).mono ?_; rintro e w6 ⟨rfl, rfl⟩)
  refine bodyPost_ret (v := .tuple #[.agg #[.int .i64 0, .int .i64 0], .int .i64 0, .bool false]) (by simp [results, Tryd.results35, go_sem]) rfl ⟨rfl, ?_⟩
  exact ((Below.refl _ _).alloc (Nat.le_refl _) _).alloc (by simp) _
end Go.Proofs.YtkgabklponjagaaDoor
