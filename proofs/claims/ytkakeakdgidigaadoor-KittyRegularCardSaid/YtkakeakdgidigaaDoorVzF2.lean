/-
  What the code's behind answers: the dart behind a dart, and how one turns. Conditions: the ways read as the program lays them.
  Rows of ints, rows of darts, rows of faces in memory: of the call's own, and to be read. Conditions: none.
  What the code's Next, Turns and Rotation answer. Conditions: at most 100000 cells, a million darts; the ways read as the program lays them.
  The law's arguments: what the reference's Make lays; a list of darts, cut to at most twenty. Conditions: none.
  What the reference's Edge answers: some edge, or none. Conditions: cells that may be, at most 1000.
-/
import Derived.Test.YtkakeakdgidigaaDoorVzF1
import Derived.Test.YtkakeakdgidigaaDoorVzD
import Derived.Test.YtkakeakdgidigaaDoorVzQ0
import Derived.Lib.Slices
import Derived.Test.YtkakeakdgidigaaDoorVzO
import Derived.Deep.QuietTactic
namespace Go.Proofs.YtkakeakdgidigaaDoor
open Go.RowKit Go.Proofs.YtkakeakdgidigaaDoor.GrM Go.Proofs.YtkakeakdgidigaaDoor.FcM

/-- The table of ways: four numbers. -/
structure WayT (w : World) : Prop where
  lt : 0 < w.heap.size
  at_ : ∀ j, j < 4 → w.cell? ⟨0, j, none⟩ = some (.int .i64 (1 - (j : Int)))
theorem WayT.below {w w' : World} {C : Nat} (h : WayT w) (o : Below C w w') (hC : w.heap.size ≤ C) : WayT w' :=
  ⟨Nat.lt_of_lt_of_le h.lt o.size, fun j hj => (o.cell (p := ⟨0, j, none⟩) (Nat.lt_of_lt_of_le h.lt hC)).trans (h.at_ j hj)⟩
theorem ixW0 (w : World) : (Instr.index 71 (.agg #[.int .i64 1, .int .i64 0, .int .i64 (-1), .int .i64 (-2)]) (.int .i64 0)).run Tryd.prog w = .ok (.int .i64 1) w := by kernel_rfl
theorem ixW1 (w : World) : (Instr.index 71 (.agg #[.int .i64 1, .int .i64 0, .int .i64 (-1), .int .i64 (-2)]) (.int .i64 1)).run Tryd.prog w = .ok (.int .i64 0) w := by kernel_rfl
theorem ixW2 (w : World) : (Instr.index 71 (.agg #[.int .i64 1, .int .i64 0, .int .i64 (-1), .int .i64 (-2)]) (.int .i64 2)).run Tryd.prog w = .ok (.int .i64 (-1)) w := by kernel_rfl
theorem ixW3 (w : World) : (Instr.index 71 (.agg #[.int .i64 1, .int .i64 0, .int .i64 (-1), .int .i64 (-2)]) (.int .i64 3)).run Tryd.prog w = .ok (.int .i64 (-2)) w := by kernel_rfl
theorem ixW (i : Nat) (hi : i < 4) (w : World) : (Instr.index 71 (.agg #[.int .i64 1, .int .i64 0, .int .i64 (-1), .int .i64 (-2)]) (.int .i64 (i : Int))).run Tryd.prog w = .ok (.int .i64 (1 - (i : Int))) w := by
  have hc : i = 0 ∨ i = 1 ∨ i = 2 ∨ i = 3 := by omega
  rcases hc with rfl | rfl | rfl | rfl
  · exact ixW0 w
  · exact ixW1 w
  · exact ixW2 w
  · exact ixW3 w
theorem left_way {d i : Nat} (hd : d < 4) (hi : i < 4) : leftI (d : Int) (1 - (i : Int)) = (((d + ordI i) % 4 : Nat) : Int) := by
  rw [leftI_t (by omega) (by omega)]
  have hc : i = 0 ∨ i = 1 ∨ i = 2 ∨ i = 3 := by omega
  rcases hc with rfl | rfl | rfl | rfl <;> unfold ordI <;> simp <;> omega
def dartV (k : Nat) : Value := .agg #[.int .i64 ((k / 4 : Nat) : Int), .int .i64 ((k % 4 : Nat) : Int)]
def BhRel (w0 : World) (W : Nat) (iv : Value) (wr : World) : Prop := ∃ i : Nat, iv = .int .i64 i ∧ i ≤ W ∧ Below w0.heap.size w0 wr
def BhP (v : Value) (w : World) (e : Ending) (w' : World) : Prop := e = .returned v ∧ Below w.heap.size w w'
set_option maxHeartbeats 4000000 in
set_option maxRecDepth 100000 in
theorem behindYes {w : World} {p n : Nat} {v : Value} {L : List Int} {k : Nat} (h : GrdAt w p v L n) (hg : GoodG L n) (hT : WayT w) (hk : isK L n k) :
    Calls Tryd.prog 34 #[.pointer (some ⟨p, 0, none⟩), dartV k] w (BhP (.tuple #[dartV (behK L k), .int .i64 (trnK L k), .bool true]) w) := by
  obtain ⟨g1, g2, g3⟩ := hk.good hg
  have hst := step_yes (L := L) (n := n) (a := k / 4) (e := k % 4) (by have := hk.1; omega) (by omega) hk.2
  have hv : nxG L (k / 4) (k % 4) = (headK L k : Nat) := g1
  rw [hv] at hst
  have hw := way_is (L := L) (v := headK L k) (d := k % 4) (by rw [g3]; omega)
  have hw3 := way_le L (headK L k) (k % 4)
  have e1 : behK L k / 4 = headK L k := beh_cell L k
  have e2 : behK L k % 4 = (k % 4 + ordI (wayK L k)) % 4 := beh_dir L k
  have e3 : trnK L k = 1 - (wayK L k : Int) := rfl
  unfold dartV
  rw [e1, e2, e3]
  unfold wayK
  obtain ⟨a, ha⟩ : ∃ a, k / 4 = a := ⟨_, rfl⟩
  obtain ⟨d, hd⟩ : ∃ d, k % 4 = d := ⟨_, rfl⟩
  have hd4 : d < 4 := by omega
  obtain ⟨u, hu⟩ : ∃ u, headK L k = u := ⟨_, rfl⟩
  rw [ha, hd] at hst
  rw [hd, hu] at hw hw3 ⊢
  rw [hu] at hst g2
  rw [ha]
  obtain ⟨W, hW⟩ : ∃ W, wayI L u d = W := ⟨_, rfl⟩
  rw [hW] at hw hw3 ⊢
  have HN := Lib.hid (fun w' (b : RowKit.Below w.heap.size w w') x d => nextY (h.below b) x d)
  have HT := Lib.hid hT
  have HW := Lib.hid hw
  have HS := Lib.hid hst
  have LE := Lib.hid (fun t w => kept (left_any (d : Int) t w))
  clear h hg hk g1 g3 hst hv e1 e2 e3 ha hd hu hW hw hT
  go_enter Tryd.func34, Tryd.ntmps34
  go_upto_region 1 with (fail)
  obtain ⟨wb, hwb⟩ : ∃ X, X = ((w.alloc (.cells #[.int .i64 (a : Int), .int .i64 (d : Int)] 62)).alloc (.cells #[.int .i64 0, .int .i64 0] 62)) := ⟨_, rfl⟩
  have bb : RowKit.Below w.heap.size w wb := by rw [hwb]; exact ((Below.refl _ _).alloc (Nat.le_refl _) _).alloc (by simp) _
  have x0 : wb.cell? ⟨w.heap.size, 0, none⟩ = some (.int .i64 (a : Int)) := by rw [hwb]; go_simp
  have x1 : wb.cell? ⟨w.heap.size, 1, none⟩ = some (.int .i64 (d : Int)) := by rw [hwb]; go_simp
  have r0 : wb.cell? ⟨w.heap.size + 1, 0, none⟩ = some (.int .i64 0) := by rw [hwb]; go_simp
  have r1 : wb.cell? ⟨w.heap.size + 1, 1, none⟩ = some (.int .i64 0) := by rw [hwb]; go_simp
  have f0 : wb.frozen? ⟨w.heap.size + 1, 0, none⟩ = false := by rw [hwb]; go_simp
  have f1 : wb.frozen? ⟨w.heap.size + 1, 1, none⟩ = false := by rw [hwb]; go_simp
  have hgb : w.heap.size + 1 < wb.heap.size := by rw [hwb]; simp
  have BB := Lib.hid bb
  rw [← hwb]
  have TB := HT.out.below bb (Nat.le_refl _)
  have CX : Hid (∀ wr, RowKit.Below wb.heap.size wb wr → wr.cell? ⟨w.heap.size, 0, none⟩ = some (.int .i64 (a : Int)) ∧ wr.cell? ⟨w.heap.size, 1, none⟩ = some (.int .i64 (d : Int)) ∧ wr.cell? ⟨w.heap.size + 1, 0, none⟩ = some (.int .i64 0) ∧ wr.cell? ⟨w.heap.size + 1, 1, none⟩ = some (.int .i64 0) ∧ wr.frozen? ⟨w.heap.size + 1, 0, none⟩ = false ∧ wr.frozen? ⟨w.heap.size + 1, 1, none⟩ = false ∧ w.heap.size + 1 < wr.heap.size ∧ w.heap.size < wr.heap.size) := Lib.hid (fun wr b => by
    have h0 : w.heap.size < wb.heap.size := by omega
    exact ⟨(b.cell (p := ⟨_, _, none⟩) h0).trans x0, (b.cell (p := ⟨_, _, none⟩) h0).trans x1, (b.cell (p := ⟨_, _, none⟩) hgb).trans r0, (b.cell (p := ⟨_, _, none⟩) hgb).trans r1, (b.frozen (p := ⟨_, _, none⟩) hgb).trans f0, (b.frozen (p := ⟨_, _, none⟩) hgb).trans f1, Nat.lt_of_lt_of_le hgb b.size, Nat.lt_of_lt_of_le h0 b.size⟩)
  obtain ⟨S0, S1, S2⟩ := HS.out
  clear hwb bb r0 r1 f0 f1 hgb
  go_upto_region 4 with (go_at_call 50; refine (HN.out _ BB.out (a : Int) (d : Int)).mono ?_; rw [S0, S1]; rintro e w1 ⟨rfl, b1⟩; have B1 : Hid (RowKit.Below wb.heap.size wb w1) := Lib.hid b1; clear b1)
  have T1 := TB.below B1.out (Nat.le_refl _)
  have t0 : w1.cell? ⟨0, 0, none⟩ = some (.int .i64 1) := T1.at_ 0 (by decide)
  have t1 : w1.cell? ⟨0, 1, none⟩ = some (.int .i64 0) := T1.at_ 1 (by decide)
  have t2 : w1.cell? ⟨0, 2, none⟩ = some (.int .i64 (-1)) := T1.at_ 2 (by decide)
  have t3 : w1.cell? ⟨0, 3, none⟩ = some (.int .i64 (-2)) := T1.at_ 3 (by decide)
  have tl := T1.lt
  clear x0 x1 TB S0 S1 S2 T1
  go_wp2_with fail
  clear t0 t1 t2 t3 tl
  go_loopw [30] (fun iv wr => BhRel wb W iv wr) (fun iv _ => 4 - (intOf iv).toNat)
  case atStart => exact ⟨0, rfl, Nat.zero_le _, B1.out⟩
  case round =>
    clear B1
    obtain ⟨i, rfl, hi, hB⟩ := hrel
    have B := Lib.hid hB
    have hi4 : i < 4 := by omega
    have q0 : decide (i < 4) = true := decide_eq_true hi4
    have q1 : decide ((i : Int) < 4) = true := decide_eq_true (by omega)
    have hix := ixW i hi4
    obtain ⟨c0, c1, r0, r1, f0, f1, z1, z0⟩ := CX.out wr hB
    have LY := LE.out (1 - (i : Int))
    rw [left_way hd4 hi4] at LY
    have LYH := Lib.hid LY
    clear LY
    obtain ⟨e, he⟩ : ∃ e, (d + ordI i) % 4 = e := ⟨_, rfl⟩
    have he4 : e < 4 := by omega
    have bw : RowKit.Below w.heap.size w wr := BB.out.trans (hB.mono BB.out.size)
    have BW := Lib.hid bw
    clear hB bw
    obtain ⟨y, hy⟩ : ∃ y : Int, 1 - (i : Int) = y := ⟨_, rfl⟩
    have hyr : -2 ≤ y ∧ y ≤ 1 := by omega
    rw [hy] at hix LYH
    rw [he] at LYH
    by_cases hlt : i < W
    · have hst := step_free (n := n) ((HW.out.2 i hlt))
      rw [he] at hst
      have HS2 := Lib.hid (And.intro hst (step_no hst))
      clear hst he hy
      go_upto_region 8 with (go_at_call 51; refine (LYH.out _).mono ?_; rintro e w5 ⟨rfl, rfl⟩)
      obtain ⟨wx, hwx⟩ : ∃ X, X = (wr.alloc (.cells #[.int .i64 (u : Int), .int .i64 (e : Int)] 62)) := ⟨_, rfl⟩
      have bx : RowKit.Below wr.heap.size wr wx := by rw [hwx]; exact (Below.refl _ _).alloc (Nat.le_refl _) _
      have y0 : wx.cell? ⟨wr.heap.size, 0, none⟩ = some (.int .i64 (u : Int)) := by rw [hwx]; go_simp
      have y1 : wx.cell? ⟨wr.heap.size, 1, none⟩ = some (.int .i64 (e : Int)) := by rw [hwx]; go_simp
      have hzx : wr.heap.size < wx.heap.size := by rw [hwx]; simp
      have BX := Lib.hid (BW.out.trans (bx.mono BW.out.size))
      have B2 := Lib.hid (B.out.trans (bx.mono B.out.size))
      rw [← hwx]
      clear hwx bx c0 c1 r0 r1 f0 f1 z1 z0
      go_wp2_with (go_at_call 50; refine (HN.out _ BX.out (u : Int) (e : Int)).mono ?_; rw [HS2.out.1, HS2.out.2.1, HS2.out.2.2]; rintro e w6 ⟨rfl, b6⟩; have B6 := Lib.hid b6; clear b6)
      go_roundw
      case rel => exact ⟨i + 1, by go_num, by omega, B2.out.trans (B6.out.mono B2.out.size)⟩
      case measure => (simp [intOf] <;> omega)
    · have hiW : i = W := by omega
      have hst := step_yes (L := L) (n := n) (a := u) (e := e) g2 he4 (by rw [← he, hiW]; exact HW.out.1)
      have HS2 := Lib.hid hst
      have HE : Hid ((d + ordI W) % 4 = e) := Lib.hid (by rw [← hiW]; exact he)
      have HY : Hid (1 - (W : Int) = y) := Lib.hid (by rw [← hiW]; exact hy)
      rw [HE.out, HY.out]
      clear hst he hy hlt hiW
      go_upto_region 8 with (go_at_call 51; refine (LYH.out _).mono ?_; rintro e w5 ⟨rfl, rfl⟩)
      obtain ⟨wx, hwx⟩ : ∃ X, X = (wr.alloc (.cells #[.int .i64 (u : Int), .int .i64 (e : Int)] 62)) := ⟨_, rfl⟩
      have bx : RowKit.Below wr.heap.size wr wx := by rw [hwx]; exact (Below.refl _ _).alloc (Nat.le_refl _) _
      have y0 : wx.cell? ⟨wr.heap.size, 0, none⟩ = some (.int .i64 (u : Int)) := by rw [hwx]; go_simp
      have y1 : wx.cell? ⟨wr.heap.size, 1, none⟩ = some (.int .i64 (e : Int)) := by rw [hwx]; go_simp
      have hzx : wr.heap.size < wx.heap.size := by rw [hwx]; simp
      have BX := Lib.hid (BW.out.trans (bx.mono BW.out.size))
      have B2 := Lib.hid (B.out.trans (bx.mono B.out.size))
      rw [← hwx]
      clear hwx bx c0 c1 r0 r1 f0 f1 z1 z0
      have YC : Hid (∀ wq, RowKit.Below wx.heap.size wx wq → wq.cell? ⟨wr.heap.size, 0, none⟩ = some (.int .i64 (u : Int)) ∧ wq.cell? ⟨wr.heap.size, 1, none⟩ = some (.int .i64 (e : Int)) ∧ wr.heap.size < wq.heap.size) := Lib.hid (fun wq b =>
        ⟨(b.cell (p := ⟨_, _, none⟩) hzx).trans y0, (b.cell (p := ⟨_, _, none⟩) hzx).trans y1, Nat.lt_of_lt_of_le hzx b.size⟩)
      go_upto_region 9 with (go_at_call 50; refine (HN.out _ BX.out (u : Int) (e : Int)).mono ?_; rw [HS2.out.1, HS2.out.2.1, HS2.out.2.2]; rintro e w6 ⟨rfl, b6⟩; have B6 := Lib.hid b6; clear b6)
      obtain ⟨v0, v1, v2⟩ := YC.out _ B6.out
      have B7 := B2.out.trans (B6.out.mono B2.out.size)
      obtain ⟨c0, c1, r0, r1, f0, f1, z1, z0⟩ := CX.out _ B7
      clear y0 y1 hzx c0 c1 B7
      go_wp2_with fail
      refine bodyPost_ret (v := .tuple #[.agg #[.int .i64 (u : Int), .int .i64 (e : Int)], .int .i64 y, .bool true]) (by simp [results, Tryd.results34, go_sem, r0, r1]) rfl ⟨rfl, ?_⟩
      exact ((BX.out.trans (B6.out.mono BX.out.size)).setCell (p := ⟨w.heap.size + 1, 0, none⟩) (Nat.le_succ _) _).setCell (p := ⟨w.heap.size + 1, 1, none⟩) (Nat.le_succ _) _
set_option maxHeartbeats 4000000 in
set_option maxRecDepth 100000 in
/-- What is no dart. -/
theorem behindNo {w : World} {p n : Nat} {v : Value} {L : List Int} {x d : Int} (h : GrdAt w p v L n) (hk : stepB L n x d = false) :
    Calls Tryd.prog 34 #[.pointer (some ⟨p, 0, none⟩), .agg #[.int .i64 x, .int .i64 d]] w (BhP (.tuple #[.agg #[.int .i64 0, .int .i64 0], .int .i64 0, .bool false]) w) := by
  have HN := Lib.hid (fun w' (b : RowKit.Below w.heap.size w w') x d => nextY (h.below b) x d)
  have HS := Lib.hid (And.intro hk (step_no hk))
  clear h hk
  go_enter Tryd.func34, Tryd.ntmps34
  go_upto_region 1 with (fail)
  obtain ⟨wb, hwb⟩ : ∃ X, X = ((w.alloc (.cells #[.int .i64 x, .int .i64 d] 62)).alloc (.cells #[.int .i64 0, .int .i64 0] 62)) := ⟨_, rfl⟩
  have bb : RowKit.Below w.heap.size w wb := by rw [hwb]; exact ((Below.refl _ _).alloc (Nat.le_refl _) _).alloc (by simp) _
  have x0 : wb.cell? ⟨w.heap.size, 0, none⟩ = some (.int .i64 x) := by rw [hwb]; go_simp
  have x1 : wb.cell? ⟨w.heap.size, 1, none⟩ = some (.int .i64 d) := by rw [hwb]; go_simp
  have r0 : wb.cell? ⟨w.heap.size + 1, 0, none⟩ = some (.int .i64 0) := by rw [hwb]; go_simp
  have r1 : wb.cell? ⟨w.heap.size + 1, 1, none⟩ = some (.int .i64 0) := by rw [hwb]; go_simp
  have f0 : wb.frozen? ⟨w.heap.size + 1, 0, none⟩ = false := by rw [hwb]; go_simp
  have f1 : wb.frozen? ⟨w.heap.size + 1, 1, none⟩ = false := by rw [hwb]; go_simp
  have hgb : w.heap.size + 1 < wb.heap.size := by rw [hwb]; simp
  have hgb0 : w.heap.size < wb.heap.size := by omega
  have BB := Lib.hid bb
  have CX : Hid (∀ wr, RowKit.Below wb.heap.size wb wr → wr.cell? ⟨w.heap.size + 1, 0, none⟩ = some (.int .i64 0) ∧ wr.cell? ⟨w.heap.size + 1, 1, none⟩ = some (.int .i64 0) ∧ wr.frozen? ⟨w.heap.size + 1, 0, none⟩ = false ∧ wr.frozen? ⟨w.heap.size + 1, 1, none⟩ = false ∧ w.heap.size + 1 < wr.heap.size) := Lib.hid (fun wr b =>
    ⟨(b.cell (p := ⟨_, _, none⟩) hgb).trans r0, (b.cell (p := ⟨_, _, none⟩) hgb).trans r1, (b.frozen (p := ⟨_, _, none⟩) hgb).trans f0, (b.frozen (p := ⟨_, _, none⟩) hgb).trans f1, Nat.lt_of_lt_of_le hgb b.size⟩)
  rw [← hwb]
  clear hwb bb r0 r1 f0 f1 hgb
  go_upto_region 2 with (go_at_call 50; refine (HN.out _ BB.out x d).mono ?_; rw [HS.out.1, HS.out.2.1, HS.out.2.2]; rintro e w6 ⟨rfl, b6⟩; have B6 := Lib.hid b6; clear b6)
  obtain ⟨r0, r1, f0, f1, z1⟩ := CX.out _ B6.out
  clear x0 x1
  go_wp2_with fail
  refine bodyPost_ret (v := .tuple #[.agg #[.int .i64 0, .int .i64 0], .int .i64 0, .bool false]) (by simp [results, Tryd.results34, go_sem, r0, r1]) rfl ⟨rfl, ?_⟩
  exact ((BB.out.trans (B6.out.mono BB.out.size)).setCell (p := ⟨w.heap.size + 1, 0, none⟩) (Nat.le_succ _) _).setCell (p := ⟨w.heap.size + 1, 1, none⟩) (Nat.le_succ _) _
set_option maxHeartbeats 4000000 in
set_option maxRecDepth 100000 in
/-- Of the nil grid. -/
theorem behindNil (x d : Int) (w : World) : Calls Tryd.prog 34 #[.pointer none, .agg #[.int .i64 x, .int .i64 d]] w (BhP (.tuple #[.agg #[.int .i64 0, .int .i64 0], .int .i64 0, .bool false]) w) := by
  have HN := Lib.hid (fun w => nextN x d w)
  go_enter Tryd.func34, Tryd.ntmps34
  go_wp2_with (go_at_call 50; refine (HN.out _).mono ?_; rintro e w6 ⟨rfl, rfl⟩)
  refine bodyPost_ret (v := .tuple #[.agg #[.int .i64 0, .int .i64 0], .int .i64 0, .bool false]) (by simp [results, Tryd.results34, go_sem]) rfl ⟨rfl, ?_⟩
  exact ((Below.refl _ _).alloc (Nat.le_refl _) _).alloc (by simp) _
end Go.Proofs.YtkakeakdgidigaaDoor

namespace Go.Proofs.YtkakeakdgidigaaDoor
open Go.RowKit Go.Proofs.YtkakeakdgidigaaDoor.GrM Go.Proofs.YtkakeakdgidigaaDoor.FcM

theorem own_kind12 {w : World} {B k n p : Nat} {e T : TypeId} {v : Value} {xs : List Value} {cur : Array Value} {fz : Nat × Nat} (h : w.ownsRow B e k v n xs) (hp : w.heap[p]? = some (.cells cur T fz)) (hT : T ≠ e) : v.ownBlock ≠ some p := by
  intro hc
  rcases h.2 with ⟨rfl, _⟩ | ⟨g, cap, c2, rfl, _, hg, _⟩
  · cases hc
  · have : g = p := by simpa [Value.ownBlock] using hc
    subst this; rw [hg] at hp
    simp only [Option.some.injEq, Obj.cells.injEq] at hp
    exact hT hp.2.1.symm
theorem row_ne12 {w : World} {base base' size size' n n' : Nat} {e e' : TypeId} {v v' : Value} {xs xs' : List Value} (h : w.ownsRow base e size v n xs) (h' : w.ownsRow base' e' size' v' n' xs') (hne : e ≠ e') : ∀ b, v.ownBlock = some b → v'.ownBlock ≠ some b := by
  intro b hb hc
  rcases h.2 with ⟨rfl, _⟩ | ⟨g, cap, c2, rfl, _, hg, _⟩
  · cases hb
  · have : g = b := by simpa [Value.ownBlock] using hb
    subst this
    exact own_kind12 h' hg hne hc
theorem row_base12 {w : World} {B C k n : Nat} {e : TypeId} {v : Value} {xs : List Value} (h : w.ownsRow B e k v n xs) (hC : C ≤ B) : w.ownsRow C e k v n xs := by
  refine ⟨h.1, ?_⟩
  rcases h.2 with q | ⟨g, cap, cur, hv, hg, r⟩
  · exact Or.inl q
  · exact Or.inr ⟨g, cap, cur, hv, by omega, r⟩
theorem row_below12 {w w' : World} {B C k n : Nat} {e : TypeId} {v : Value} {xs : List Value} (h : w.ownsRow B e k v n xs) (o : Below C w w') (hC : w.heap.size ≤ C) : w'.ownsRow B e k v n xs := ownsRow_out (S := fun _ => False) h (Out.ofBelow (o.mono hC)) (fun _ _ e => e)
theorem row_form12 {w : World} {B k n : Nat} {e : TypeId} {v : Value} {xs : List Value} (h : w.ownsRow B e k v n xs) : ∃ ao cap, v = .slice ao n cap := by
  rcases h.2 with ⟨h1, h2⟩ | ⟨_, _, _, h, _⟩
  · exact ⟨none, 0, by rw [h2]; exact h1⟩
  · exact ⟨_, _, h⟩

/-! Ints. -/
def ZsAt (w : World) (v : Value) (x : List Int) (n : Nat) : Prop :=
  x.length = n ∧ ∃ A c, v = .slice A n c ∧ (0 < n → ∃ b o, A = some ⟨b, o, none⟩ ∧ b < w.heap.size ∧ ∀ k, k < n → w.cell? ⟨b, o + k, none⟩ = some (.int .i64 (x.getD k 0)))
theorem ZsAt.below {w w' : World} {C n : Nat} {v : Value} {x : List Int} (h : ZsAt w v x n) (o : Below C w w') (hC : w.heap.size ≤ C) : ZsAt w' v x n := by
  obtain ⟨hl, A, c, rfl, hA⟩ := h
  refine ⟨hl, A, c, rfl, fun h0 => ?_⟩
  obtain ⟨b, q, e, hb, hc⟩ := hA h0
  exact ⟨b, q, e, Nat.lt_of_lt_of_le hb o.size, fun k hk => (o.cell (p := ⟨b, q + k, none⟩) (Nat.lt_of_lt_of_le hb hC)).trans (hc k hk)⟩
theorem ZsAt.form {w : World} {n : Nat} {v : Value} {x : List Int} (h : ZsAt w v x n) : ∃ A c, v = .slice A n c := by obtain ⟨_, A, c, e, _⟩ := h; exact ⟨A, c, e⟩
theorem ZsAt.nth {w : World} {n : Nat} {v : Value} {x : List Int} (h : ZsAt w v x n) {k : Nat} (hk : k < n) : ∃ b o c, v = .slice (some ⟨b, o, none⟩) n c ∧ b < w.heap.size ∧ w.cell? ⟨b, o + k, none⟩ = some (.int .i64 (x.getD k 0)) := by
  obtain ⟨hl, A, c, rfl, hA⟩ := h
  obtain ⟨b, q, rfl, hb, hc⟩ := hA (by omega)
  exact ⟨b, q, c, rfl, hb, hc k hk⟩
def OwnZ (w : World) (B : Nat) (v : Value) (x : List Int) (n : Nat) : Prop := w.ownsRow B 3 1 v n (x.map intV)
theorem OwnZ.len {w : World} {B n : Nat} {v : Value} {x : List Int} (h : OwnZ w B v x n) : x.length = n := by simpa using h.1
theorem OwnZ.zs {w : World} {B n : Nat} {v : Value} {x : List Int} (h : OwnZ w B v x n) : ZsAt w v x n := by
  have h' := h
  have hl := h.len
  rcases h.2 with ⟨h1, h2⟩ | ⟨g, cap, cur, hv, _, hg, r⟩
  · exact ⟨hl, none, 0, by rw [h2]; exact h1, fun h => absurd h (by omega)⟩
  · refine ⟨hl, _, cap, hv, fun _ => ⟨g, 0, rfl, (Array.getElem?_eq_some_iff.1 hg).1, fun k hk => ?_⟩⟩
    rw [Nat.zero_add]
    have h2 := h'
    unfold OwnZ at h2
    rw [hv] at h2
    rw [h2.cellAt k (by simp; omega)]
    have : k < x.length := by omega
    simp [this, intV, List.getD_eq_getElem?_getD]
theorem OwnZ.more {w : World} {B n : Nat} {v : Value} {x : List Int} {a : Int} (h : w.ownsRow B 3 1 v (n + 1) (x.map intV ++ [.int .i64 a])) : OwnZ w B v (x ++ [a]) (n + 1) := by
  unfold OwnZ
  rw [List.map_append]
  exact h
theorem OwnZ.set {w : World} {B n g cap : Nat} {x : List Int} (h : OwnZ w B (.slice (some ⟨g, 0, none⟩) n cap) x n) (j : Nat) (a : Int) : OwnZ (w.setCell ⟨g, j, none⟩ (.int .i64 a)) B (.slice (some ⟨g, 0, none⟩) n cap) (x.set j a) n := by
  have := (World.ownsRow.stored h j (.int .i64 a)).1
  unfold OwnZ
  rw [List.map_set]
  exact this
theorem infoInt12 : (Tryd.prog.info? 3).map (fun i => (i.zero, i.size, i.bytes)) = some (some (.int .i64 0), 1, 8) := by kernel_rfl
theorem mkInts12 (N : Nat) (hN : N ≤ 1000000) (w : World) : (Instr.makeSlice 43 (.int .i64 (N : Int)) (.int .i64 (N : Int))).run Tryd.prog w = .ok (.slice (some ⟨w.heap.size, 0, none⟩) N N) (w.alloc (.cells (madeCells #[.int .i64 0] N) 3)) := by
  obtain ⟨i, hi, hz, hs, hb⟩ := info_parts infoInt12
  have h := run_make (P := Tryd.prog) w 43 3 i (.int .i64 0) Tryd.underlying43 hi hz .i64 .i64 (N : Int) (N : Int) (by omega) (by omega) (by rw [hb]; omega) (by omega)
  rw [hs, Nat.mul_one] at h
  simp only [Int.toNat_natCast] at h
  exact h
theorem ownZ_made (w : World) (N : Nat) (hN : N ≤ 1000000) : OwnZ (w.alloc (.cells (madeCells #[.int .i64 0] N) 3)) w.heap.size (.slice (some ⟨w.heap.size, 0, none⟩) N N) (List.replicate N 0) N := by
  refine ⟨by simp, Or.inr ⟨w.heap.size, N, _, rfl, Nat.le_refl _, heap_alloc_new w _, Nat.le_refl _, by unfold maxLen; omega, by simp [size_madeCells], ?_⟩⟩
  rw [toList_madeCells_one]
  simp [intV]

/-! Darts: a row of two numbers each, of one type or the other. -/
def OwnPr (T : TypeId) (w : World) (B : Nat) (v : Value) (P : List (Int × Int)) : Prop := w.ownsRow B T 2 v P.length (P.flatMap encP)
theorem OwnPr.nil (T : TypeId) (w : World) (B : Nat) : OwnPr T w B (.slice none 0 0) [] := World.ownsRow_nil _ _ _ _
theorem OwnPr.below {T : TypeId} {w w' : World} {B C : Nat} {v : Value} {P : List (Int × Int)} (h : OwnPr T w B v P) (o : Below C w w') (hC : w.heap.size ≤ C) : OwnPr T w' B v P := row_below12 h o hC
theorem OwnPr.base {T : TypeId} {w : World} {B C : Nat} {v : Value} {P : List (Int × Int)} (h : OwnPr T w B v P) (hC : C ≤ B) : OwnPr T w C v P := row_base12 h hC
theorem OwnPr.form {T : TypeId} {w : World} {B : Nat} {v : Value} {P : List (Int × Int)} (h : OwnPr T w B v P) : ∃ ao cap, v = .slice ao P.length cap := row_form12 h
theorem OwnPr.pts {T : TypeId} {w : World} {B : Nat} {v : Value} {P : List (Int × Int)} (h : OwnPr T w B v P) : PtsAt w v P := by
  have h' := h
  rcases h.2 with ⟨rfl, h2⟩ | ⟨g, cap, cur, rfl, _, hg, hn, hr⟩
  · exact ⟨none, 0, by rw [h2], by omega, fun h => absurd h (by omega)⟩
  · refine ⟨_, cap, rfl, hn, fun _ => ⟨g, 0, rfl, (Array.getElem?_eq_some_iff.1 hg).1, fun k hk => ?_⟩⟩
    have e := encP_at P k hk
    have hl := encP_len P
    rw [Nat.zero_add, h'.cellAt (k * 2) (by omega), h'.cellAt (k * 2 + 1) (by omega)]
    exact e
theorem OwnPr.more {T : TypeId} {w : World} {B n : Nat} {v : Value} {P : List (Int × Int)} {p : Int × Int} (hn : P.length = n) (h : w.ownsRow B T 2 v (n + 1) (P.flatMap encP ++ [.int .i64 p.1, .int .i64 p.2])) : OwnPr T w B v (P ++ [p]) := by
  unfold OwnPr
  rw [List.length_append, List.flatMap_append, hn]
  simpa [encP] using h
theorem encP_one (P : List (Int × Int)) : ∀ u ∈ P.flatMap encP, u.oneCell' = true := fun u hu => by
  obtain ⟨p, _, hp⟩ := List.mem_flatMap.1 hu
  simp only [encP, List.mem_cons, List.not_mem_nil, or_false] at hp
  rcases hp with rfl | rfl <;> rfl

/-! Faces: a row of rows of darts. -/
def FcsAt (w : World) (v : Value) (F : List (List (Int × Int))) (n : Nat) : Prop :=
  F.length = n ∧ ∃ A c, v = .slice A n c ∧ (0 < n → ∃ b o, A = some ⟨b, o, none⟩ ∧ b < w.heap.size ∧ ∀ k, k < n → ∃ s, w.cell? ⟨b, o + k, none⟩ = some s ∧ PtsAt w s (F.getD k []))
theorem FcsAt.below {w w' : World} {C n : Nat} {v : Value} {F : List (List (Int × Int))} (h : FcsAt w v F n) (o : Below C w w') (hC : w.heap.size ≤ C) : FcsAt w' v F n := by
  obtain ⟨hl, A, c, rfl, hA⟩ := h
  refine ⟨hl, A, c, rfl, fun h0 => ?_⟩
  obtain ⟨b, q, e, hb, hc⟩ := hA h0
  refine ⟨b, q, e, Nat.lt_of_lt_of_le hb o.size, fun k hk => ?_⟩
  obtain ⟨s, hs, hp⟩ := hc k hk
  exact ⟨s, (o.cell (p := ⟨b, q + k, none⟩) (Nat.lt_of_lt_of_le hb hC)).trans hs, hp.below o hC⟩
theorem FcsAt.form {w : World} {n : Nat} {v : Value} {F : List (List (Int × Int))} (h : FcsAt w v F n) : ∃ A c, v = .slice A n c := by obtain ⟨_, A, c, e, _⟩ := h; exact ⟨A, c, e⟩
theorem FcsAt.nth {w : World} {n : Nat} {v : Value} {F : List (List (Int × Int))} (h : FcsAt w v F n) {k : Nat} (hk : k < n) : ∃ b o c s, v = .slice (some ⟨b, o, none⟩) n c ∧ b < w.heap.size ∧ w.cell? ⟨b, o + k, none⟩ = some s ∧ PtsAt w s (F.getD k []) := by
  obtain ⟨hl, A, c, rfl, hA⟩ := h
  obtain ⟨b, q, rfl, hb, hc⟩ := hA (by omega)
  obtain ⟨s, hs, hp⟩ := hc k hk
  exact ⟨b, q, c, s, rfl, hb, hs, hp⟩
/-- .. of the call's own: the outer row's type, the inner rows'. -/
def OwnFc (To Ti : TypeId) (w : World) (B : Nat) (v : Value) (F : List (List (Int × Int))) (n : Nat) : Prop :=
  F.length = n ∧ ∃ S : List Value, w.ownsRow B To 1 v n S ∧ ∀ k, k < n → ∃ s, S[k]? = some s ∧ OwnPr Ti w B s (F.getD k [])
theorem OwnFc.nil (To Ti : TypeId) (w : World) (B : Nat) : OwnFc To Ti w B (.slice none 0 0) [] 0 := ⟨rfl, [], World.ownsRow_nil _ _ _ _, fun k hk => absurd hk (by omega)⟩
theorem OwnFc.below {To Ti : TypeId} {w w' : World} {B C n : Nat} {v : Value} {F : List (List (Int × Int))} (h : OwnFc To Ti w B v F n) (o : Below C w w') (hC : w.heap.size ≤ C) : OwnFc To Ti w' B v F n := by
  obtain ⟨hl, S, hr, hk⟩ := h
  exact ⟨hl, S, row_below12 hr o hC, fun k h => let ⟨s, a, b⟩ := hk k h; ⟨s, a, b.below o hC⟩⟩
theorem OwnFc.out {To Ti : TypeId} {w w' : World} {B n : Nat} {v : Value} {F : List (List (Int × Int))} {S : Nat → Prop} (h : OwnFc To Ti w B v F n) (o : Out S w w') (hS : ∀ b, B ≤ b → b < w.heap.size → ¬ S b) : OwnFc To Ti w' B v F n := by
  obtain ⟨hl, Z, hr, hk⟩ := h
  refine ⟨hl, Z, ownsRow_out hr o (fun b hb => hS b (hr.lt b hb).1 (hr.lt b hb).2), fun k h => let ⟨s, a, b⟩ := hk k h; ⟨s, a, ?_⟩⟩
  exact ownsRow_out b o (fun q hq => hS q (b.lt q hq).1 (b.lt q hq).2)
theorem OwnFc.form {To Ti : TypeId} {w : World} {B n : Nat} {v : Value} {F : List (List (Int × Int))} (h : OwnFc To Ti w B v F n) : ∃ ao cap, v = .slice ao n cap := by obtain ⟨_, S, hr, _⟩ := h; exact row_form12 hr
theorem OwnFc.fcs {To Ti : TypeId} {w : World} {B n : Nat} {v : Value} {F : List (List (Int × Int))} (h : OwnFc To Ti w B v F n) : FcsAt w v F n := by
  obtain ⟨hl, S, hr, hk⟩ := h
  have hr' := hr
  rcases hr.2 with ⟨h1, h2⟩ | ⟨g, cap, cur, hv, _, hg, r⟩
  · exact ⟨hl, none, 0, by rw [h2]; exact h1, fun h => absurd h (by omega)⟩
  · refine ⟨hl, _, cap, hv, fun _ => ⟨g, 0, rfl, (Array.getElem?_eq_some_iff.1 hg).1, fun k hkn => ?_⟩⟩
    obtain ⟨s, hs, hp⟩ := hk k hkn
    rw [hv] at hr'
    have hSl : S.length = n * 1 := hr'.1
    refine ⟨s, ?_, hp.pts⟩
    rw [Nat.zero_add, hr'.cellAt k (by omega), hs]
/-- A face more. -/
theorem OwnFc.more {To Ti : TypeId} {w w1 : World} {B n : Nat} {v v' s : Value} {F : List (List (Int × Int))} {f : List (Int × Int)} {S : List Value} (hne : Ti ≠ To) (hl : F.length = n) (hr : w.ownsRow B To 1 v n S) (hk : ∀ k, k < n → ∃ s, S[k]? = some s ∧ OwnPr Ti w B s (F.getD k []))
    (hf : OwnPr Ti w B s f) (hown : w1.ownsRow B To 1 v' (n + 1) (S ++ [s])) (hgrow : w.grownBy w1 v.ownBlock) : OwnFc To Ti w1 B v' (F ++ [f]) (n + 1) := by
  have o1 : Out (fun b => v.ownBlock = some b) w w1 := (Out.refl _ w).grown hgrow (fun _ _ e => e)
  have keep : ∀ {u : Value} {g : List (Int × Int)}, OwnPr Ti w B u g → OwnPr Ti w1 B u g := fun h => ownsRow_out h o1 (fun b hb e => row_ne12 h hr hne b hb e)
  have hSl : S.length = n := by have := hr.1; omega
  refine ⟨by simp [hl], S ++ [s], hown, fun k hkn => ?_⟩
  by_cases e : k = n
  · subst e
    refine ⟨s, by rw [List.getElem?_append_right (by omega), hSl]; simp, ?_⟩
    rw [List.getD_eq_getElem?_getD, List.getElem?_append_right (by omega), hl]
    simpa using keep hf
  · obtain ⟨u, hu, hp⟩ := hk k (by omega)
    refine ⟨u, by rw [List.getElem?_append_left (by omega)]; exact hu, ?_⟩
    rw [List.getD_eq_getElem?_getD, List.getElem?_append_left (by omega), ← List.getD_eq_getElem?_getD]
    exact keep hp
theorem sliceCell {v : Value} {A : Option Addr} {n c : Nat} (h : v = .slice A n c) : v.oneCell' = true := by subst h; rfl
end Go.Proofs.YtkakeakdgidigaaDoor

namespace Go.Proofs.YtkakeakdgidigaaDoor
open Go.RowKit Go.Proofs.YtkakeakdgidigaaDoor.GrM Go.Proofs.YtkakeakdgidigaaDoor.FcM

def pairK (k : Nat) : Int × Int := (((k / 4 : Nat) : Int), ((k % 4 : Nat) : Int))
def dkN (p : Int × Int) : Nat := 4 * p.1.toNat + p.2.toNat
/-- Is it a dart of cells that may be? -/
def okQ (L : List Int) (n : Nat) (p : Int × Int) : Bool := decide (chkG L n = 0) && stepB L n p.1 p.2
def bhQ (L : List Int) (n : Nat) (p : Int × Int) : Int × Int := if okQ L n p = true then pairK (behK L (dkN p)) else (0, 0)
def trQ (L : List Int) (n : Nat) (p : Int × Int) : Int := if okQ L n p = true then trnK L (dkN p) else 0
theorem step_dart {L : List Int} {n : Nat} {p : Int × Int} (h : stepB L n p.1 p.2 = true) : isK L n (dkN p) ∧ p = pairK (dkN p) := by
  unfold stepB hasB goodB at h
  simp only [Bool.and_eq_true, decide_eq_true_eq] at h
  obtain ⟨⟨a1, a2⟩, ⟨b1, b2⟩, c⟩ := h
  have e1 : dkN p / 4 = p.1.toNat := by unfold dkN; omega
  have e2 : dkN p % 4 = p.2.toNat := by unfold dkN; omega
  refine ⟨⟨by unfold dkN; omega, by unfold nxK; rw [e1, e2]; exact c⟩, ?_⟩
  unfold pairK
  rw [e1, e2]
  exact Prod.ext (by simp; omega) (by simp; omega)
theorem okQ_dart {L : List Int} {n k : Nat} (h0 : chkG L n = 0) (hk : isK L n k) : okQ L n (pairK k) = true := by
  unfold okQ
  rw [decide_eq_true h0]
  have := (step_yes (L := L) (n := n) (a := k / 4) (e := k % 4) (by have := hk.1; omega) (by omega) hk.2).1
  exact this
theorem dk_pair (k : Nat) : dkN (pairK k) = k := by unfold dkN pairK; simp only [Int.toNat_natCast]; omega
theorem trQ_range (L : List Int) (n : Nat) (p : Int × Int) : -2 ≤ trQ L n p ∧ trQ L n p ≤ 1 := by
  unfold trQ
  split
  · exact trn_range L _
  · omega
/-- What behind answers of any two numbers, on the grid of cells, or on none. -/
theorem behindGrid {w : World} {g n : Nat} {v : Value} {L : List Int} (h : GrdAt w g v L n) (h0 : chkG L n = 0) (hT : WayT w) (p : Int × Int) :
    Calls Tryd.prog 34 #[.pointer (some ⟨g, 0, none⟩), .agg #[.int .i64 p.1, .int .i64 p.2]] w
      (BhP (.tuple #[.agg #[.int .i64 (bhQ L n p).1, .int .i64 (bhQ L n p).2], .int .i64 (trQ L n p), .bool (okQ L n p)]) w) := by
  by_cases hs : stepB L n p.1 p.2 = true
  · obtain ⟨hk, hp⟩ := step_dart hs
    have ok : okQ L n p = true := by unfold okQ; rw [decide_eq_true h0, hs]; rfl
    unfold bhQ trQ
    rw [if_pos ok, if_pos ok, ok]
    have := behindYes h (chk_good.1 h0).2 hT hk
    unfold dartV at this
    rw [show (.agg #[.int .i64 p.1, .int .i64 p.2] : Value) = .agg #[.int .i64 ((dkN p / 4 : Nat) : Int), .int .i64 ((dkN p % 4 : Nat) : Int)] by rw [congrArg Prod.fst hp, congrArg Prod.snd hp]; rfl]
    exact this
  · have hs' : stepB L n p.1 p.2 = false := by simpa using hs
    have ok : okQ L n p = false := by unfold okQ; rw [hs']; simp
    unfold bhQ trQ
    rw [if_neg (by rw [ok]; decide), if_neg (by rw [ok]; decide), ok]
    exact behindNo h hs'
theorem behindNone {n : Nat} {L : List Int} (h0 : chkG L n ≠ 0) (p : Int × Int) (w : World) :
    Calls Tryd.prog 34 #[.pointer none, .agg #[.int .i64 p.1, .int .i64 p.2]] w
      (BhP (.tuple #[.agg #[.int .i64 (bhQ L n p).1, .int .i64 (bhQ L n p).2], .int .i64 (trQ L n p), .bool (okQ L n p)]) w) := by
  have ok : okQ L n p = false := by unfold okQ; rw [decide_eq_false h0]; rfl
  unfold bhQ trQ
  rw [if_neg (by rw [ok]; decide), if_neg (by rw [ok]; decide), ok]
  exact behindNil _ _ w
/-- A grid, or none: what behind answers on it. -/
def BhAt (L : List Int) (n : Nat) (gv : Value) (w : World) : Prop := ∀ w', Below w.heap.size w w' → ∀ p : Int × Int, Calls Tryd.prog 34 #[gv, .agg #[.int .i64 p.1, .int .i64 p.2]] w'
      (BhP (.tuple #[.agg #[.int .i64 (bhQ L n p).1, .int .i64 (bhQ L n p).2], .int .i64 (trQ L n p), .bool (okQ L n p)]) w')
def OfAny (L : List Int) (n : Nat) (w : World) (e : Ending) (w' : World) : Prop := ∃ gv, e = .returned (.tuple #[gv, .int .i64 (chkG L n)]) ∧ BhAt L n gv w' ∧ Below w.heap.size w w'
theorem ofAny (lv : Value) (L : List Int) (n : Nat) (w : World) (hL : CelAt w lv L n) (hn : n ≤ 100000) (hT : WayT w) :
    Calls Tryd.prog 32 #[lv] w (OfAny L n w) := by
  by_cases h0 : chkG L n = 0
  · refine (ofY lv L n w hL hn h0).mono ?_
    rintro e w1 ⟨p, v, rfl, g, f, b⟩
    refine ⟨.pointer (some ⟨p, 0, none⟩), by rw [h0], fun w' b' q => ?_, b⟩
    exact behindGrid (g.below b') h0 (hT.below (b.trans (b'.mono b.size)) (Nat.le_refl _)) q
  · refine (ofN lv L n w hL hn h0).mono ?_
    rintro e w1 ⟨rfl, b⟩
    exact ⟨.pointer none, rfl, fun w' _ q => behindNone h0 q w', b⟩

def TurnsP (L : List Int) (n : Nat) (D : List (Int × Int)) (m : Nat) (w : World) (e : Ending) (w' : World) : Prop :=
  ∃ A c, e = .returned (.slice A m c) ∧ OwnZ w' w.heap.size (.slice A m c) (D.map (trQ L n)) m ∧ Below w.heap.size w w'
def TuRel (L : List Int) (n : Nat) (D : List (Int × Int)) (m g : Nat) (w0 wr : World) (iv : Value) : Prop :=
  ∃ k : Nat, iv = .int .i64 k ∧ k ≤ m ∧ OwnZ wr g (.slice (some ⟨g, 0, none⟩) m m) ((D.map (trQ L n)).take k ++ List.replicate (m - k) 0) m ∧ Below g w0 wr
theorem tu_step {Z : List Int} {m k : Nat} (hl : Z.length = m) (hk : k < m) : (Z.take k ++ List.replicate (m - k) 0).set k (Z.getD k 0) = Z.take (k + 1) ++ List.replicate (m - (k + 1)) 0 := by
  have e : m - k = (m - (k + 1)) + 1 := by omega
  have hkl : k < Z.length := by omega
  have ht : (Z.take k).length = k := by rw [List.length_take]; omega
  rw [e, List.replicate_succ, List.set_append_right _ _ (by omega), ht, Nat.sub_self, List.set_cons_zero, List.take_succ_eq_append_getElem hkl, List.append_assoc]
  simp [List.getD_eq_getElem?_getD, hkl]
set_option maxHeartbeats 4000000 in
set_option maxRecDepth 100000 in
theorem turnsAny (lv dv : Value) (L : List Int) (D : List (Int × Int)) (n m : Nat) (w : World) (hL : CelAt w lv L n) (hD : PtsAt w dv D) (hn : n ≤ 100000) (hm : D.length = m) (hm2 : m ≤ 1000000) (hT : WayT w) :
    Calls Tryd.prog 17 #[lv, dv] w (TurnsP L n D m w) := by
  have HL := Lib.hid hL
  have HT := Lib.hid hT
  have HD := Lib.hid hD
  obtain ⟨DA, dc, e, -, -⟩ := hD
  rw [hm] at e
  subst e
  have HM := Lib.hid hm
  have hmk := mkInts12 m hm2
  clear hL hT hm
  go_enter Tryd.func17, Tryd.ntmps17
  go_upto_region 2 with (go_at_call 32; refine (ofAny _ L n _ HL.out hn HT.out).mono ?_; rintro e w1 ⟨gv, rfl, h1, b1⟩; have H1 := Lib.hid h1; have B1 := Lib.hid b1; clear h1 b1)
  have MO := Lib.hid (ownZ_made w1 m hm2)
  have hgl : w.heap.size ≤ w1.heap.size := B1.out.size
  go_wp2_with fail
  clear hmk
  obtain ⟨g, hg⟩ : ∃ g, w1.heap.size = g := ⟨_, rfl⟩
  rw [hg] at MO hgl ⊢
  have HG := Lib.hid hg
  clear hg
  go_loopw [20] (fun iv wr => TuRel L n D m g w1 wr iv) (fun iv _ => m - (intOf iv).toNat)
  case atStart =>
    refine ⟨0, rfl, Nat.zero_le _, ?_, ?_⟩
    · simpa using MO.out
    · exact (Below.refl _ _).alloc (by rw [HG.out]; exact Nat.le_refl _) _
  case round =>
    clear MO
    obtain ⟨k, rfl, hk, hO, hB⟩ := hrel
    have O := Lib.hid hO
    have B := Lib.hid hB
    clear hO
    have hgr : g < wr.heap.size := (World.ownsRow.lt O.out g rfl).2
    by_cases hlt : k < m
    · have q0 : decide (k < m) = true := decide_eq_true hlt
      obtain ⟨A, cap, e, hc, hA⟩ := HD.out
      rw [HM.out] at e
      simp only [Value.slice.injEq, true_and] at e
      obtain ⟨rfl, rfl⟩ := e
      obtain ⟨b, o, rfl, hb, hx⟩ := hA (by rw [HM.out]; omega)
      obtain ⟨x0, x1⟩ := hx k (by rw [HM.out]; exact hlt)
      have hbw := B1.out.trans (hB.mono hgl)
      have f0 := (hbw.cell (p := ⟨b, o + k * 2, none⟩) hb).trans x0
      have f1 := (hbw.cell (p := ⟨b, o + k * 2 + 1, none⟩) hb).trans x1
      have z1 := Nat.lt_of_lt_of_le hb hbw.size
      have hkd : k < D.length := by rw [HM.out]; exact hlt
      have TZ := Lib.hid (tu_step (Z := D.map (trQ L n)) (m := m) (by rw [List.length_map]; exact HM.out) hlt)
      have GE : (D.map (trQ L n)).getD k 0 = trQ L n (D.getD k (0, 0)) := by simp [List.getD_eq_getElem?_getD, hkd]
      rw [GE] at TZ
      obtain ⟨P, hP⟩ : ∃ P, D.getD k (0, 0) = P := ⟨_, rfl⟩
      rw [hP] at f0 f1 TZ
      obtain ⟨p0, hp0⟩ : ∃ x, P.1 = x := ⟨_, rfl⟩
      obtain ⟨p1, hp1⟩ : ∃ x, P.2 = x := ⟨_, rfl⟩
      obtain ⟨t, ht⟩ : ∃ x, trQ L n P = x := ⟨_, rfl⟩
      have PE := Lib.hid (And.intro hp0 (And.intro hp1 ht))
      rw [hp0] at f0
      rw [hp1] at f1
      rw [ht] at TZ
      have BW1 : Hid (Below w1.heap.size w1 wr) := Lib.hid (by rw [HG.out]; exact hB)
      clear hx x0 x1 GE hP hp0 hp1 ht hA hbw hB
      go_upto_region 6 with (fail)
      obtain ⟨wx, hwx⟩ : ∃ X, X = (wr.alloc (.cells #[.int .i64 p0, .int .i64 p1] 62)) := ⟨_, rfl⟩
      have bx : Below wr.heap.size wr wx := by rw [hwx]; exact (Below.refl _ _).alloc (Nat.le_refl _) _
      have y0 : wx.cell? ⟨wr.heap.size, 0, none⟩ = some (.int .i64 p0) := by rw [hwx]; go_simp
      have y1 : wx.cell? ⟨wr.heap.size, 1, none⟩ = some (.int .i64 p1) := by rw [hwx]; go_simp
      have hzx : wr.heap.size < wx.heap.size := by rw [hwx]; simp
      have BX := Lib.hid (BW1.out.trans (bx.mono BW1.out.size))
      have BQ := Lib.hid (B.out.trans (bx.mono (by omega)))
      have O2 := Lib.hid (O.out)
      have OX : Hid (OwnZ wx g (.slice (some ⟨g, 0, none⟩) m m) ((D.map (trQ L n)).take k ++ List.replicate (m - k) 0) m) := Lib.hid (row_below12 O.out bx (Nat.le_refl _))
      rw [← hwx]
      clear hwx bx f0 f1 z1 O O2 B BW1
      go_wp2_with (go_at_call 34; have hb := H1.out _ BX.out P; rw [PE.out.1, PE.out.2.1, PE.out.2.2] at hb; refine hb.mono ?_; rintro e w2 ⟨rfl, b2⟩; have B2 := Lib.hid b2; have O2 : Hid (OwnZ w2 g (.slice (some ⟨g, 0, none⟩) m m) ((D.map (trQ L n)).take k ++ List.replicate (m - k) 0) m) := Lib.hid (row_below12 OX.out b2 (Nat.le_refl _)); obtain ⟨c9, hc9⟩ : ∃ c9, w2.cell? ⟨g, k, none⟩ = some c9 := (by have hl := O2.out.len; exact ⟨_, by rw [World.ownsRow.cellAt O2.out k (by simp; have := HM.out; omega)]; exact List.getElem?_eq_getElem (by simp; omega)⟩); have hf9 := World.ownsRow.frozenAt O2.out k; have hz9 := (World.ownsRow.lt O2.out g rfl).2; clear b2 hb)
      go_roundw
      case rel => exact ⟨k + 1, by go_num, by omega, by rw [← TZ.out]; exact OwnZ.set O2.out k t, (BQ.out.trans (B2.out.mono (by have := BQ.out.size; omega))).setCell (p := ⟨g, k, none⟩) (Nat.le_refl _) _⟩
      case measure => (simp [intOf] <;> omega)
    · have hkm : k = m := by omega
      subst hkm
      go_wp2_with fail
      go_ret
      have h := O.out
      rw [List.take_of_length_le (by rw [List.length_map]; have := HM.out; omega), Nat.sub_self, List.replicate_zero, List.append_nil] at h
      exact ⟨_, _, rfl, row_base12 h hgl, B1.out.trans (B.out.mono hgl)⟩
end Go.Proofs.YtkakeakdgidigaaDoor

namespace Go.Proofs.YtkakeakdgidigaaDoor
open Go.RowKit Go.ChangeShapes Go.WideShapes Go.Deep Go.Proofs.YtkakeakdgidigaaDoor.GrM

def MkN (m : Nat) (w : World) (e : Ending) (w' : World) : Prop :=
  ∃ (N : Nat) (L : List Int) (A : Option Addr) (c : Nat) (pv : Value), e = .returned (.tuple #[.slice A N c, pv]) ∧ OwnG w' w.heap.size (.slice A N c) L N ∧ GoodG L N ∧ N ≤ m ∧ Below w.heap.size w w'
theorem makeN (m : Nat) (hm : m ≤ 100000) {A1 A2 A3 : Option Addr} {n1 n2 n3 : Nat} (c1 c2 c3 : Nat) {D1 D2 D3 : Nat → Int} {w : World} (h : Plane w A1 A2 A3 n1 n2 n3 D1 D2 D3) :
    Calls Tryd.prog 4 #[.agg #[.slice A1 n1 c1, .slice A2 n2 c2, .slice A3 n3 c3], .int .i64 m] w (MkN m w) := by
  refine (refMakeG crossed A1 A2 A3 n1 n2 n3 c1 c2 c3 m D1 D2 D3 w h.h1 h.h2 h.h3 h.b1 h.b2 h.b3 hm).mono ?_
  rintro e w' ⟨⟨P, L, lv, pv, t, rfl, o1, o2, ap, mk, hP⟩, b⟩
  obtain ⟨ao, co, rfl⟩ := o1.form
  exact ⟨P.length, L, ao, co, pv, rfl, o1, mk.good, hP, b⟩
/-- A list of darts, cut to at most twenty. -/
def RawD (w : World) (v : Value) : Prop := ∃ A n cap D, v = .slice A n cap ∧ n ≤ cap ∧ n ≤ 9223372036854775807 ∧ D.length = min n 20 ∧ PtsAt w (.slice A (min n 20) cap) D
set_option maxRecDepth 100000 in
theorem darts_cells {H : Type} {enc : TypeId × Value → H} {w : World} {v : Value} {x : DataW H × List MemPlace} {fuel : Nat} {spare : Nat → Bool} {held : Bool}
    (h : DataW.trod enc Tryd.prog w 0 spare held fuel 59 [v] = some x) : RawD w v := by
  rcases rows_of10 Tryd.underlying59 (K := 2) (by kernel_rfl) (by decide) h with ⟨A, cap, rfl, hA⟩ | ⟨b, o, n, cap, rfl, R⟩
  · exact ⟨A, 0, cap, [], rfl, by omega, by omega, rfl, A, cap, rfl, by simp, fun h => absurd h (by simp)⟩
  · have each : ∀ i, i < n → ∃ q : Int × Int, w.cell? ⟨b, o + i * 2, none⟩ = some (.int .i64 q.1) ∧ w.cell? ⟨b, o + i * 2 + 1, none⟩ = some (.int .i64 q.2) := by
      intro i hi
      obtain ⟨cs, hlen, hat, fuel, x, hx⟩ := R.at_ i hi
      match cs, hlen with
      | [c0, c1], _ =>
        obtain ⟨f0, y0, g0⟩ := elem_field Tryd.underlying62 hx 0 _ rfl
        obtain ⟨f1, y1, g1⟩ := elem_field Tryd.underlying62 hx 1 _ rfl
        have h0 : DataW.trod enc Tryd.prog w 0 spare held f0 3 (([c0, c1].drop 0).take (Tryd.prog.cellsOf 3)) = some y0 := g0
        have h1 : DataW.trod enc Tryd.prog w 0 spare held f1 3 (([c0, c1].drop 1).take (Tryd.prog.cellsOf 3)) = some y1 := g1
        rw [cInt] at h0 h1
        obtain ⟨n0, e0, _⟩ := elem_int Tryd.underlying3 h0
        obtain ⟨n1, e1, _⟩ := elem_int Tryd.underlying3 h1
        have e0' : [c0] = [Value.int .i64 n0] := e0
        have e1' : [c1] = [Value.int .i64 n1] := e1
        simp only [List.cons.injEq, and_true] at e0' e1'
        subst e0' e1'
        exact ⟨(n0, n1), hat 0 (by decide), hat 1 (by decide)⟩
    obtain ⟨D, hD⟩ := choose_lt each
    have hm := R.max
    have hl := R.le
    unfold maxLen at hm
    refine ⟨_, n, cap, (List.range (min n 20)).map D, rfl, hl, by omega, by simp, _, cap, by simp, by simp; omega, fun _ => ⟨b, o, rfl, R.lt, fun k hk => ?_⟩⟩
    have hk' : k < min n 20 := by simpa using hk
    have := hD k (by omega)
    simpa [List.getD_eq_getElem?_getD, hk'] using this
set_option maxRecDepth 100000 in
theorem darts_open {H : Type} {enc : TypeId × Value → H} {w : World} {v : Value} {d : DataW H} {p : List MemPlace} {spare : Nat → Bool} {held : Bool} {b0 : Nat}
    (hv : Value.okWide Tryd.prog w .any b0 59 v) (h : DataW.Trod enc Tryd.prog w 0 spare held 59 v d p) : RawD w v := by
  obtain ⟨a, n, cap, rfl⟩ := okWide_slice Tryd.underlying59 hv
  obtain ⟨fuel, hf⟩ := h
  exact darts_cells (v := .slice a n cap) hf
set_option maxRecDepth 100000 in
theorem cells_open {H : Type} {enc : TypeId × Value → H} {w : World} {v : Value} {d : DataW H} {p : List MemPlace} {spare : Nat → Bool} {held : Bool} {b0 : Nat}
    (hv : Value.okWide Tryd.prog w .any b0 26 v) (h : DataW.Trod enc Tryd.prog w 0 spare held 26 v d p) : RawAt w v := by
  obtain ⟨a, n, cap, rfl⟩ := okWide_slice Tryd.underlying26 hv
  obtain ⟨fuel, hf⟩ := h
  exact cells_cells (v := .slice a n cap) hf
end Go.Proofs.YtkakeakdgidigaaDoor

namespace Go.Proofs.YtkakeakdgidigaaDoor
open Go.RowKit Go.Proofs.YtkakeakdgidigaaDoor.GrM Go.Proofs.YtkakeakdgidigaaDoor.FcM

def EgP (L : List Int) (n : Nat) (w : World) (e : Ending) (w' : World) : Prop :=
  (e = .returned (.tuple #[.int .i64 0, .int .i64 0, .bool false]) ∨ ∃ v d : Nat, v < n ∧ d < 4 ∧ nxG L v d ≠ -1 ∧ e = .returned (.tuple #[.int .i64 v, .int .i64 d, .bool true])) ∧ Below w.heap.size w w'
def EgRel (n : Nat) (w wr : World) (iv : Value) : Prop := ∃ i : Nat, iv = .int .i64 i ∧ i ≤ 4 * n ∧ Below w.heap.size w wr

end Go.Proofs.YtkakeakdgidigaaDoor
