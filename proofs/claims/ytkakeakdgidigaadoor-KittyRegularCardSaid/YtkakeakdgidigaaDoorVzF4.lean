/-
  What the document's Is and Behind answer. Conditions: cells that may be.
  What the document's Behind answers of a dart. Conditions: cells that may be.
  What the document's Turns, and both Rotations, answer. Conditions: cells that may be; at most a million turns.
  What the document's Faces answers. Conditions: at most 100000 cells that may be.
-/
import Derived.Test.YtkakeakdgidigaaDoorVzF2
import Derived.BigQuiet
import Derived.Test.YtkakeakdgidigaaDoorNzC
import Derived.Test.YtkakeakdgidigaaDoorVzF3
namespace Go.Proofs.YtkakeakdgidigaaDoor
open Go.RowKit Go.Proofs.YtkakeakdgidigaaDoor.GrM Go.Proofs.YtkakeakdgidigaaDoor.FcM

theorem nx_ge {L : List Int} {n a d : Nat} (hg : GoodG L n) (ha : a < n) (hd : d < 4) : (0 ≤ nxG L a d ↔ nxG L a d ≠ -1) ∧ -1 ≤ nxG L a d ∧ nxG L a d < 4611686018427387904 + n := by
  rcases hg.side ha hd with h | h
  · omega
  · omega

end Go.Proofs.YtkakeakdgidigaaDoor

namespace Go.Proofs.YtkakeakdgidigaaDoor
open Go.RowKit Go.Proofs.YtkakeakdgidigaaDoor.GrM Go.Proofs.YtkakeakdgidigaaDoor.FcM

set_option maxHeartbeats 8000000 in
set_option maxRecDepth 100000 in
theorem refBehind (lv : Value) (L : List Int) (n k : Nat) (w : World) (hL : CelAt w lv L n) (hg : GoodG L n) (hk : isK L n k) :
    Calls Tryd.prog 23 #[lv, dartV k] w (BhP (dartV (behK L k)) w) := by
  obtain ⟨g1, g2, g3⟩ := hk.good hg
  have hv : nxG L (k / 4) (k % 4) = (headK L k : Nat) := g1
  have hw := way_is (L := L) (v := headK L k) (d := k % 4) (by rw [g3]; omega)
  have hw3 := way_le L (headK L k) (k % 4)
  have e1 : behK L k / 4 = headK L k := beh_cell L k
  have e2 : behK L k % 4 = (k % 4 + ordI (wayK L k)) % 4 := beh_dir L k
  have hx := (hL.nth (i := k / 4) (by have := hk.1; omega))
  have hy := (hL.nth (i := headK L k) g2)
  have hgd := fun d (hd : d < 4) => (nx_ge (d := d) hg g2 hd)
  unfold dartV
  rw [e1, e2]
  unfold wayK
  obtain ⟨a, ha⟩ : ∃ a, k / 4 = a := ⟨_, rfl⟩
  obtain ⟨d, hd⟩ : ∃ d, k % 4 = d := ⟨_, rfl⟩
  have han : a < n := by have := hk.1; omega
  have hd4 : d < 4 := by omega
  obtain ⟨u, hu⟩ : ∃ u, headK L k = u := ⟨_, rfl⟩
  rw [hd, hu] at hw hw3 ⊢
  rw [ha, hd, hu] at hv
  rw [hu] at g2 hy hgd
  rw [ha] at hx ⊢
  obtain ⟨W, hW⟩ : ∃ W, wayI L u d = W := ⟨_, rfl⟩
  rw [hW] at hw hw3 ⊢
  have HW := Lib.hid hw
  have HGD := Lib.hid hgd
  obtain ⟨b, o, cap, rfl, hb, hx0, -⟩ := hx
  obtain ⟨b', o', cap', ev, -, hy0, -⟩ := hy
  simp only [Value.slice.injEq, Option.some.injEq, Addr.mk.injEq, true_and, and_true] at ev
  obtain ⟨⟨rfl, rfl⟩, rfl⟩ := ev
  have f0 := hx0 d hd4
  rw [hv] at f0
  have HY := Lib.hid hy0
  clear hL hk hg g1 g3 hv hw e1 e2 ha hd hu hW hx0 hy0 hgd
  go_enter Tryd.func23, Tryd.ntmps23
  go_upto_region 1 with (fail)
  obtain ⟨wb, hwb⟩ : ∃ X, X = ((w.alloc (.cells #[.int .i64 (a : Int), .int .i64 (d : Int)] 74)).alloc (.cells #[.int .i64 0, .int .i64 0] 74)) := ⟨_, rfl⟩
  have bb : Below w.heap.size w wb := by rw [hwb]; exact ((Below.refl _ _).alloc (Nat.le_refl _) _).alloc (by simp) _
  have x0 : wb.cell? ⟨w.heap.size, 0, none⟩ = some (.int .i64 (a : Int)) := by rw [hwb]; go_simp
  have x1 : wb.cell? ⟨w.heap.size, 1, none⟩ = some (.int .i64 (d : Int)) := by rw [hwb]; go_simp
  have r0 : wb.cell? ⟨w.heap.size + 1, 0, none⟩ = some (.int .i64 0) := by rw [hwb]; go_simp
  have r1 : wb.cell? ⟨w.heap.size + 1, 1, none⟩ = some (.int .i64 0) := by rw [hwb]; go_simp
  have p0 : wb.frozen? ⟨w.heap.size + 1, 0, none⟩ = false := by rw [hwb]; go_simp
  have p1 : wb.frozen? ⟨w.heap.size + 1, 1, none⟩ = false := by rw [hwb]; go_simp
  have hgb : w.heap.size + 1 < wb.heap.size := by rw [hwb]; simp
  have hgb0 : w.heap.size < wb.heap.size := by omega
  have g0 := (bb.cell (p := ⟨b, o + a * 8 + d, none⟩) hb).trans f0
  have hbb := Nat.lt_of_lt_of_le hb bb.size
  have BB := Lib.hid bb
  rw [← hwb]
  have CX : Hid (∀ wr, Below wb.heap.size wb wr → wr.cell? ⟨w.heap.size, 0, none⟩ = some (.int .i64 (a : Int)) ∧ wr.cell? ⟨w.heap.size, 1, none⟩ = some (.int .i64 (d : Int)) ∧ wr.cell? ⟨w.heap.size + 1, 0, none⟩ = some (.int .i64 0) ∧ wr.cell? ⟨w.heap.size + 1, 1, none⟩ = some (.int .i64 0) ∧ wr.frozen? ⟨w.heap.size + 1, 0, none⟩ = false ∧ wr.frozen? ⟨w.heap.size + 1, 1, none⟩ = false ∧ w.heap.size + 1 < wr.heap.size ∧ w.heap.size < wr.heap.size ∧ b < wr.heap.size) := Lib.hid (fun wr b =>
    ⟨(b.cell (p := ⟨_, _, none⟩) hgb0).trans x0, (b.cell (p := ⟨_, _, none⟩) hgb0).trans x1, (b.cell (p := ⟨_, _, none⟩) hgb).trans r0, (b.cell (p := ⟨_, _, none⟩) hgb).trans r1, (b.frozen (p := ⟨_, _, none⟩) hgb).trans p0, (b.frozen (p := ⟨_, _, none⟩) hgb).trans p1, Nat.lt_of_lt_of_le hgb b.size, Nat.lt_of_lt_of_le hgb0 b.size, Nat.lt_of_lt_of_le hbb b.size⟩)
  clear hwb bb r0 r1 p0 p1 f0
  have hdI : (d : Int) < 4 := by omega
  have hanI : (a : Int) < (n : Int) := by omega
  go_quiet (fail)
  obtain ⟨wq, hwq⟩ : ∃ X, X = wb.drewN nq := ⟨_, rfl⟩
  have bq : Below wb.heap.size wb wq := by rw [hwq]; exact drewN_below (Below.refl _ _) _
  have BQ := Lib.hid bq
  rw [← hwq]
  clear hwq bq x0 x1 g0 hgb hgb0 hbb
  go_upto_region 3 with (fail)
  obtain ⟨wo, hwo⟩ : ∃ X, X = (wq.alloc (.cells #[.int .i64 1, .int .i64 0, .int .i64 3, .int .i64 2] 3)) := ⟨_, rfl⟩
  have bo : Below wq.heap.size wq wo := by rw [hwo]; exact (Below.refl _ _).alloc (Nat.le_refl _) _
  have O : Hid (∀ i, i < 4 → wo.cell? ⟨wq.heap.size, i, none⟩ = some (.int .i64 (ordI i))) := Lib.hid (fun i hi => by
    have hc : i = 0 ∨ i = 1 ∨ i = 2 ∨ i = 3 := by omega
    rw [hwo]
    rcases hc with rfl | rfl | rfl | rfl <;> (go_simp; try rfl))
  have ho : wq.heap.size < wo.heap.size := by rw [hwo]; simp
  rw [← hwo]
  have BO := Lib.hid (BQ.out.trans (bo.mono BQ.out.size))
  obtain ⟨g, hgq⟩ : ∃ g, wq.heap.size = g := ⟨_, rfl⟩
  rw [hgq] at O ho ⊢
  clear hwo bo hgq
  go_wp2_with fail
  go_loopw [7] (fun iv wr => BhRel wo W iv wr) (fun iv _ => 4 - (intOf iv).toNat)
  case atStart => exact ⟨0, rfl, Nat.zero_le _, Below.refl _ _⟩
  case round =>
    obtain ⟨i, rfl, hi, hB⟩ := hrel
    have hi4 : i < 4 := by omega
    have hiI : (i : Int) < 4 := by omega
    have q0 : decide (i < 4) = true := decide_eq_true hi4
    have q1 : decide ((i : Int) < 4) = true := decide_eq_true hiI
    have hBb := BO.out.trans (hB.mono BO.out.size)
    obtain ⟨-, c1, -, -, -, -, -, z0, zb⟩ := CX.out wr hBb
    have s0 := (hB.cell (p := ⟨g, i, none⟩) ho).trans (O.out i hi4)
    have zg := Nat.lt_of_lt_of_le ho hB.size
    obtain ⟨e, he⟩ : ∃ e, (d + ordI i) % 4 = e := ⟨_, rfl⟩
    have he4 : e < 4 := by omega
    have f1 := ((BB.out.trans (hBb.mono BB.out.size)).cell (p := ⟨b, o + u * 8 + e, none⟩) hb).trans (HY.out e he4)
    have hoi : ordI i < 4 := by unfold ordI; split <;> (try split) <;> (try split) <;> omega
    have NG := HGD.out e he4
    have HWi := HW.out.2 i
    have HWW : i = W → nxG L u e ≠ -1 := fun h => by rw [← he, h]; exact HW.out.1
    rw [he] at HWi
    have HE : Hid (i = W → (d + ordI W) % 4 = e) := Lib.hid (fun h => by rw [← h]; exact he)
    have HR : Hid (i < W → nxG L u e = -1) := Lib.hid HWi
    have HRW := Lib.hid HWW
    obtain ⟨oi, hoe⟩ : ∃ z, ordI i = z := ⟨_, rfl⟩
    rw [hoe] at s0 he hoi
    obtain ⟨y, hy⟩ : ∃ y, nxG L u e = y := ⟨_, rfl⟩
    rw [hy] at f1 NG
    have HYE := Lib.hid hy
    have cx1 : IntKind.i64.wrap ((d : Int) + (oi : Int)) = (d : Int) + (oi : Int) := IntWalk.i64_in _ (by omega)
    have cx2 : ((d : Int) + (oi : Int)) % 4 = (e : Int) := by omega
    have cx3 : ((d : Int) + (oi : Int)).tmod 4 = (e : Int) := by rw [Int.tmod_eq_emod_of_nonneg (by omega)]; exact cx2
    have B := Lib.hid hB
    have BBb := Lib.hid hBb
    have heI : (e : Int) < 4 := by omega
    have huI : (u : Int) < (n : Int) := by omega
    obtain ⟨y9, hye⟩ : ∃ z : Bool, decide (0 ≤ y) = z := ⟨_, rfl⟩
    have Y9 := Lib.hid hye
    clear hB hBb HWi HWW hoe hy he
    by_cases hlt : i < W
    · have hyn : y = -1 := by rw [← HYE.out]; exact HR.out hlt
      have y8 : y9 = false := by rw [← Y9.out]; exact decide_eq_false (by omega)
      subst hyn
      clear hye NG HE y8
      go_upto_region 6 with (fail)
      go_quiet (fail)
      go_wp2_with fail
      go_roundw
      case rel => exact ⟨i + 1, by go_num, by omega, drewN_below B.out _⟩
      case measure => (simp [intOf] <;> omega)
    · have hiW : i = W := by omega
      have hyn : y ≠ -1 := by rw [← HYE.out]; exact HRW.out hiW
      have y8 : decide (0 ≤ y) = true := decide_eq_true (NG.1.2 hyn)
      rw [HE.out hiW]
      clear hye HE hyn NG hiW hlt
      go_upto_region 6 with (fail)
      go_quiet (fail)
      obtain ⟨wz, hwz⟩ : ∃ X, X = wr.drewN nq := ⟨_, rfl⟩
      have bz : Below wr.heap.size wr wz := by rw [hwz]; exact drewN_below (Below.refl _ _) _
      rw [← hwz]
      have f2 := (bz.cell (p := ⟨b, o + u * 8 + e, none⟩) zb).trans f1
      have zb2 := Nat.lt_of_lt_of_le zb bz.size
      have BZ := Lib.hid (BBb.out.trans (bz.mono BBb.out.size))
      obtain ⟨-, -, r0, r1, p0, p1, z1, -, -⟩ := CX.out wz BZ.out
      clear hwz bz c1 s0 f1 z0 zb zg
      go_wp2_with fail
      refine bodyPost_ret (v := .agg #[.int .i64 (u : Int), .int .i64 (e : Int)]) (by simp [results, Tryd.results23, go_sem, r0, r1]) rfl ⟨rfl, ?_⟩
      exact ((BB.out.trans (BZ.out.mono BB.out.size)).setCell (p := ⟨w.heap.size + 1, 0, none⟩) (Nat.le_succ _) _).setCell (p := ⟨w.heap.size + 1, 1, none⟩) (Nat.le_succ _) _
end Go.Proofs.YtkakeakdgidigaaDoor

namespace Go.Proofs.YtkakeakdgidigaaDoor
open Go.RowKit Go.Proofs.YtkakeakdgidigaaDoor.GrM Go.Proofs.YtkakeakdgidigaaDoor.FcM

theorem turn_way {d W : Nat} (hd : d < 4) (hW : W ≤ 3) : turnI (d : Int) (((d + ordI W) % 4 : Nat) : Int) = 1 - (W : Int) := by
  have hdc : d = 0 ∨ d = 1 ∨ d = 2 ∨ d = 3 := by omega
  have hwc : W = 0 ∨ W = 1 ∨ W = 2 ∨ W = 3 := by omega
  rcases hdc with rfl | rfl | rfl | rfl <;> rcases hwc with rfl | rfl | rfl | rfl <;> decide
theorem turn_beh (L : List Int) (k : Nat) : turnI ((k % 4 : Nat) : Int) ((behK L k % 4 : Nat) : Int) = trnK L k := by
  rw [beh_dir]
  exact turn_way (Nat.mod_lt _ (by decide)) (way_le _ _ _)
def rotS (s t : Int) : Int := if -2 ≤ t ∧ t ≤ 1 then s + t else s
/-- The sum of all turns. -/
def rotI (Z : List Int) : Int := Z.foldl rotS 0
theorem rot_snoc (Z : List Int) (t : Int) : rotI (Z ++ [t]) = rotS (rotI Z) t := by unfold rotI; rw [List.foldl_append]; rfl
theorem rotS_range (s t : Int) : s - 2 ≤ rotS s t ∧ rotS s t ≤ s + 1 := by unfold rotS; split <;> omega
theorem rot_range (Z : List Int) : -(2 * (Z.length : Int)) ≤ rotI Z ∧ rotI Z ≤ Z.length := by
  have : ∀ (Z : List Int) (s : Int), s - 2 * (Z.length : Int) ≤ Z.foldl rotS s ∧ Z.foldl rotS s ≤ s + Z.length := by
    intro Z
    induction Z with
    | nil => intro s; simp
    | cons a Z ih =>
      intro s
      have h1 := rotS_range s a
      have h2 := ih (rotS s a)
      simp only [List.foldl_cons, List.length_cons]
      omega
  have := this Z 0
  unfold rotI
  omega
theorem rot_take {Z : List Int} {k : Nat} (hk : k < Z.length) : rotI (Z.take (k + 1)) = rotS (rotI (Z.take k)) (Z.getD k 0) := by
  rw [List.take_succ_eq_append_getElem hk, rot_snoc, List.getD_eq_getElem?_getD, List.getElem?_eq_getElem hk]; rfl
def RoRel (Z : List Int) (m : Nat) (sv iv : Value) : Prop := ∃ k : Nat, iv = .int .i64 k ∧ k ≤ m ∧ sv = .int .i64 (rotI (Z.take k))
set_option maxHeartbeats 4000000 in
theorem rotAny (zv : Value) (Z : List Int) (m : Nat) (w : World) (hZ : ZsAt w zv Z m) (hm : m ≤ 1000000) : Calls Tryd.prog 40 #[zv] w fun e w' => e = .returned (.int .i64 (rotI Z)) ∧ w = w' := by
  have HZ := Lib.hid hZ
  obtain ⟨A, c, e⟩ := hZ.form
  subst e
  have hl := hZ.1
  have HLn := Lib.hid hl
  clear hZ hl
  go_enter Tryd.func40, Tryd.ntmps40
  go_wp2_with fail
  go_loop [3, 8] (fun sv iv => RoRel Z m sv iv) (fun _ iv => m - (intOf iv).toNat)
  case atStart => exact ⟨0, rfl, Nat.zero_le _, rfl⟩
  case round =>
    obtain ⟨k, rfl, hk, rfl⟩ := hrel
    have hr := rot_range (Z.take k)
    have htl : ((Z.take k).length : Int) ≤ 1000000 := by rw [List.length_take, HLn.out]; omega
    by_cases hlt : k < m
    · have q0 : decide (k < m) = true := decide_eq_true hlt
      obtain ⟨b, o, c', e, hb, f0⟩ := HZ.out.nth hlt
      simp only [Value.slice.injEq, true_and] at e
      obtain ⟨rfl, rfl⟩ := e
      have RT := Lib.hid (rot_take (Z := Z) (k := k) (by rw [HLn.out]; exact hlt))
      obtain ⟨t, ht⟩ : ∃ t, Z.getD k 0 = t := ⟨_, rfl⟩
      obtain ⟨s, hs⟩ : ∃ s, rotI (Z.take k) = s := ⟨_, rfl⟩
      rw [ht] at f0 RT
      rw [hs] at RT hr
      rw [hs]
      have hsr : -2000000 ≤ s ∧ s ≤ 1000000 := by omega
      clear ht hs hr htl
      by_cases h1 : -2 ≤ t
      · have q1 : decide (-2 ≤ t) = true := decide_eq_true h1
        by_cases h2 : t ≤ 1
        · have q2 : decide (t ≤ 1) = true := decide_eq_true h2
          have RE : Hid (rotI (Z.take (k + 1)) = s + t) := Lib.hid (by rw [RT.out]; unfold rotS; rw [if_pos ⟨h1, h2⟩])
          clear RT
          go_wp2_with fail
          go_round
          case rel => exact ⟨k + 1, by go_num, by omega, by rw [RE.out]⟩
          case measure => (simp [intOf] <;> omega)
        · have q2 : decide (t ≤ 1) = false := decide_eq_false h2
          have RE : Hid (rotI (Z.take (k + 1)) = s) := Lib.hid (by rw [RT.out]; unfold rotS; rw [if_neg (fun e => h2 e.2)])
          clear RT
          go_wp2_with fail
          go_round
          case rel => exact ⟨k + 1, by go_num, by omega, by rw [RE.out]⟩
          case measure => (simp [intOf] <;> omega)
      · have q1 : decide (-2 ≤ t) = false := decide_eq_false h1
        have RE : Hid (rotI (Z.take (k + 1)) = s) := Lib.hid (by rw [RT.out]; unfold rotS; rw [if_neg (fun e => h1 e.1)])
        clear RT
        go_wp2_with fail
        go_round
        case rel => exact ⟨k + 1, by go_num, by omega, by rw [RE.out]⟩
        case measure => (simp [intOf] <;> omega)
    · have hkm : k = m := by omega
      subst hkm
      have E : Hid (rotI (Z.take k) = rotI Z) := Lib.hid (by rw [List.take_of_length_le (by rw [HLn.out]; omega)])
      clear hr htl
      go_wp2_with fail
      go_ret
      exact ⟨by rw [E.out]; rfl, rfl⟩
set_option maxHeartbeats 4000000 in
theorem refRot (zv : Value) (Z : List Int) (m : Nat) (w : World) (hZ : ZsAt w zv Z m) (hm : m ≤ 1000000) : Calls Tryd.prog 22 #[zv] w fun e w' => e = .returned (.int .i64 (rotI Z)) ∧ w = w' := by
  have HZ := Lib.hid hZ
  obtain ⟨A, c, e⟩ := hZ.form
  subst e
  have hl := hZ.1
  have HLn := Lib.hid hl
  clear hZ hl
  go_enter Tryd.func22, Tryd.ntmps22
  go_wp2_with fail
  go_loop [3, 4] (fun sv iv => RoRel Z m sv iv) (fun _ iv => m - (intOf iv).toNat)
  case atStart => exact ⟨0, rfl, Nat.zero_le _, rfl⟩
  case round =>
    obtain ⟨k, rfl, hk, rfl⟩ := hrel
    have hr := rot_range (Z.take k)
    have htl : ((Z.take k).length : Int) ≤ 1000000 := by rw [List.length_take, HLn.out]; omega
    by_cases hlt : k < m
    · have q0 : decide (k < m) = true := decide_eq_true hlt
      obtain ⟨b, o, c', e, hb, f0⟩ := HZ.out.nth hlt
      simp only [Value.slice.injEq, true_and] at e
      obtain ⟨rfl, rfl⟩ := e
      have RT := Lib.hid (rot_take (Z := Z) (k := k) (by rw [HLn.out]; exact hlt))
      obtain ⟨t, ht⟩ : ∃ t, Z.getD k 0 = t := ⟨_, rfl⟩
      obtain ⟨s, hs⟩ : ∃ s, rotI (Z.take k) = s := ⟨_, rfl⟩
      rw [ht] at f0 RT
      rw [hs] at RT hr
      rw [hs]
      have hsr : -2000000 ≤ s ∧ s ≤ 1000000 := by omega
      clear ht hs hr htl
      by_cases h1 : -2 ≤ t
      · have q1 : decide (-2 ≤ t) = true := decide_eq_true h1
        by_cases h2 : t ≤ 1
        · have q2 : decide (t ≤ 1) = true := decide_eq_true h2
          have RE : Hid (rotI (Z.take (k + 1)) = s + t) := Lib.hid (by rw [RT.out]; unfold rotS; rw [if_pos ⟨h1, h2⟩])
          clear RT
          go_wp2_with fail
          go_round
          case rel => exact ⟨k + 1, by go_num, by omega, by rw [RE.out]⟩
          case measure => (simp [intOf] <;> omega)
        · have q2 : decide (t ≤ 1) = false := decide_eq_false h2
          have RE : Hid (rotI (Z.take (k + 1)) = s) := Lib.hid (by rw [RT.out]; unfold rotS; rw [if_neg (fun e => h2 e.2)])
          clear RT
          go_wp2_with fail
          go_round
          case rel => exact ⟨k + 1, by go_num, by omega, by rw [RE.out]⟩
          case measure => (simp [intOf] <;> omega)
      · have q1 : decide (-2 ≤ t) = false := decide_eq_false h1
        have RE : Hid (rotI (Z.take (k + 1)) = s) := Lib.hid (by rw [RT.out]; unfold rotS; rw [if_neg (fun e => h1 e.1)])
        clear RT
        go_wp2_with fail
        go_round
        case rel => exact ⟨k + 1, by go_num, by omega, by rw [RE.out]⟩
        case measure => (simp [intOf] <;> omega)
    · have hkm : k = m := by omega
      subst hkm
      have E : Hid (rotI (Z.take k) = rotI Z) := Lib.hid (by rw [List.take_of_length_le (by rw [HLn.out]; omega)])
      clear hr htl
      go_wp2_with fail
      go_ret
      exact ⟨by rw [E.out]; rfl, rfl⟩
def RtRelF (L : List Int) (ks : List Nat) (w0 wr : World) (tv iv : Value) : Prop :=
  ∃ k : Nat, iv = .int .i64 k ∧ k ≤ ks.length ∧ OwnZ wr w0.heap.size tv ((ks.take k).map (trnK L)) k ∧ Below w0.heap.size w0 wr
theorem map_pair_at {ks : List Nat} {k : Nat} (h : k < ks.length) : (ks.map pairK).getD k (0, 0) = pairK (ks.getD k 0) := by simp [List.getD_eq_getElem?_getD, h]
theorem oneInt12 (a : Int) : ∀ u ∈ [Value.int .i64 a], u.oneCell' = true := fun u hu => by
  obtain rfl := List.mem_singleton.1 hu; rfl
theorem newsI12 (w : World) (g : Nat) (x : Int) (T : TypeId) (h : w.heap[g]? = some (.cells #[.int .i64 x] T (0, 0))) : ∀ j z, [Value.int .i64 x][j]? = some z → w.cell? ((⟨g, 0, none⟩ : Addr).add j) = some z := by
  intro j z hz
  match j with
  | 0 =>
    simp only [List.getElem?_cons_zero, Option.some.injEq] at hz
    subst hz
    rw [show (⟨g, 0, none⟩ : Addr).add 0 = ⟨g, 0, none⟩ by unfold Addr.add; split <;> simp_all]
    simp [World.cell?, h]
  | j + 1 => simp at hz
set_option maxHeartbeats 4000000 in
set_option maxRecDepth 100000 in
theorem refTurnsF (lv dv : Value) (L : List Int) (ks : List Nat) (n : Nat) (w : World) (hL : CelAt w lv L n) (hD : PtsAt w dv (ks.map pairK)) (hg : GoodG L n) (hk : ∀ k ∈ ks, isK L n k) (hm2 : ks.length ≤ 1000000) :
    Calls Tryd.prog 9 #[lv, dv] w fun e w' => (∃ A c, e = .returned (.slice A ks.length c) ∧ OwnZ w' w.heap.size (.slice A ks.length c) (ks.map (trnK L)) ks.length) ∧ Below w.heap.size w w' := by
  have HL := Lib.hid hL
  have HD := Lib.hid hD
  have HK := Lib.hid hk
  obtain ⟨DA, dc, e, -, -⟩ := hD
  rw [List.length_map] at e
  subst e
  obtain ⟨i0, hi, hz0, hz1, hz2⟩ := info_parts infoInt12
  obtain ⟨m, hm⟩ : ∃ m, ks.length = m := ⟨_, rfl⟩
  have HM := Lib.hid hm
  rw [hm] at hm2 ⊢
  clear hL hk hm
  go_enter Tryd.func9, Tryd.ntmps9
  go_wp2_with fail
  go_loopw [5, 6] (fun tv iv wr => RtRelF L ks w wr tv iv) (fun _ iv _ => m - (intOf iv).toNat)
  case atStart => exact ⟨0, rfl, Nat.zero_le _, World.ownsRow_nil _ _ _ _, Below.refl _ _⟩
  case round =>
    obtain ⟨k, rfl, hk, hO, hB⟩ := hrel
    rw [HM.out] at hk
    have O := Lib.hid hO
    have B := Lib.hid hB
    obtain ⟨ao, co, e⟩ := row_form12 hO
    subst e
    have hws := hB.size
    clear hO
    by_cases hlt : k < m
    · have q0 : decide (k < m) = true := decide_eq_true hlt
      obtain ⟨A, cap, e, hc, hA⟩ := HD.out
      rw [List.length_map, HM.out] at e
      simp only [Value.slice.injEq, true_and] at e
      obtain ⟨rfl, rfl⟩ := e
      obtain ⟨b, o, rfl, hb, hx⟩ := hA (by rw [List.length_map, HM.out]; omega)
      obtain ⟨x0, x1⟩ := hx k (by rw [List.length_map, HM.out]; exact hlt)
      have hkl : k < ks.length := by rw [HM.out]; exact hlt
      rw [map_pair_at hkl] at x0 x1
      have hkd : isK L n (ks.getD k 0) := HK.out _ (getD_mem hkl)
      have TK : Hid ((ks.take (k + 1)).map (trnK L) = (ks.take k).map (trnK L) ++ [trnK L (ks.getD k 0)]) := Lib.hid (by rw [List.take_succ_eq_append_getElem hkl, List.map_append, List.getD_eq_getElem?_getD, List.getElem?_eq_getElem hkl]; rfl)
      obtain ⟨q, hq⟩ : ∃ q, ks.getD k 0 = q := ⟨_, rfl⟩
      rw [hq] at x0 x1 hkd TK
      have f0 := (hB.cell (p := ⟨b, o + k * 2, none⟩) hb).trans x0
      have f1 := (hB.cell (p := ⟨b, o + k * 2 + 1, none⟩) hb).trans x1
      have z1 := Nat.lt_of_lt_of_le hb hB.size
      have BH := Lib.hid (fun w' (b' : Below wr.heap.size wr w') => refBehind lv L n q w' (HL.out.below (hB.trans (b'.mono hws)) (Nat.le_refl _)) hg hkd)
      have TB := Lib.hid (turn_beh L q)
      unfold pairK at f0 f1
      unfold dartV at BH
      obtain ⟨p0, hp0⟩ : ∃ z : Nat, q / 4 = z := ⟨_, rfl⟩
      obtain ⟨p1, hp1⟩ : ∃ z : Nat, q % 4 = z := ⟨_, rfl⟩
      obtain ⟨n0, hn0⟩ : ∃ z : Nat, behK L q / 4 = z := ⟨_, rfl⟩
      obtain ⟨n1, hn1⟩ : ∃ z : Nat, behK L q % 4 = z := ⟨_, rfl⟩
      obtain ⟨t, ht⟩ : ∃ z, trnK L q = z := ⟨_, rfl⟩
      have htr := trn_range L q
      rw [hp0] at f0 BH
      rw [hp1] at f1 BH TB
      rw [hn0, hn1] at BH
      rw [hn1, ht] at TB
      rw [ht] at TK htr
      have TU := Lib.hid (fun w => rturn_any (p1 : Int) (n1 : Int) w)
      rw [TB.out] at TU
      clear hx x0 x1 hA hB hq hp0 hp1 hn0 hn1 ht hkl hkd TB
      go_upto_region 6 with (go_at_call 23; refine (BH.out _ (Below.refl _ _)).mono ?_; rintro e w2 ⟨rfl, b2⟩; have B2 := Lib.hid b2; clear b2)
      obtain ⟨wx, hwx⟩ : ∃ X, X = (w2.alloc (.cells #[.int .i64 (n0 : Int), .int .i64 (n1 : Int)] 74)) := ⟨_, rfl⟩
      have bx : Below wr.heap.size wr wx := by rw [hwx]; exact B2.out.alloc B2.out.size _
      have y1 : wx.cell? ⟨w2.heap.size, 1, none⟩ = some (.int .i64 (n1 : Int)) := by rw [hwx]; go_simp
      have hzx : w2.heap.size < wx.heap.size := by rw [hwx]; simp
      have x1 := (bx.cell (p := ⟨b, o + k * 2 + 1, none⟩) z1).trans f1
      have z2 := Nat.lt_of_lt_of_le z1 bx.size
      have BX := Lib.hid bx
      rw [← hwx]
      have hkI : (k : Int) < (m : Int) := by omega
      clear hwx bx f0 f1 z1
      go_quiet ((go_at_call 26; exact Calls.quiet_of_same (TU.out _)))
      obtain ⟨wq, hwq⟩ : ∃ X, X = wx.drewN nq := ⟨_, rfl⟩
      have bq : Below wx.heap.size wx wq := by rw [hwq]; exact drewN_below (Below.refl _ _) _
      have BQ := Lib.hid (BX.out.trans (bq.mono BX.out.size))
      rw [← hwq]
      have O2 : Hid (OwnZ wq w.heap.size (.slice ao k co) ((ks.take k).map (trnK L)) k) := Lib.hid (row_below12 O.out BQ.out (Nat.le_refl _))
      clear hwq bq y1 hzx x1 z2
      go_wp2_with (at_builtin; refine wpList_append_fresh rfl (.tmp 29) (.tmp 31) 43 rfl w.heap.size 3 i0 (.int .i64 0) 1 8 Tryd.underlying43 hi hz0 hz1 hz2 rfl (by decide) (.slice ao k co) k (((ks.take k).map (trnK L)).map intV) rfl (row_below12 O2.out ((Below.refl _ _).alloc (Nat.le_refl _) _) (Nat.le_refl _)) ⟨wq.heap.size, 0, none⟩ 1 1 [.int .i64 t] rfl rfl (newsI12 _ _ _ 3 (heap_alloc_new wq _)) (oneInt12 _) (by unfold maxLen; omega) (by omega) (by have := BQ.out.size; simp; omega) ?_; intro v5 w5 hown hgrow hfr; have o5 := OwnZ.more hown; rw [← TK.out] at o5; have O5 := Lib.hid o5; have B5 : Hid (Below w.heap.size w w5) := Lib.hid ((B.out.trans ((BQ.out.alloc BQ.out.size _).mono hws)).grown hgrow (by have := BQ.out.size; simp; omega) (fun q hq => (World.ownsRow.lt O.out q hq).1)); clear hown hgrow hfr o5)
      go_roundw
      case rel => exact ⟨k + 1, by go_num, by rw [HM.out]; omega, O5.out, B5.out⟩
      case measure => (simp [intOf] <;> omega)
    · have hkm : k = m := by omega
      subst hkm
      have q0 : decide (k < k) = false := decide_eq_false hlt
      go_wp2_with fail
      go_ret
      have h := O.out
      rw [List.take_of_length_le (by rw [HM.out]; omega)] at h
      exact ⟨⟨_, _, rfl, h⟩, B.out⟩
end Go.Proofs.YtkakeakdgidigaaDoor

namespace Go.Proofs.YtkakeakdgidigaaDoor
open Go.RowKit Go.Maps Go.Proofs.YtkakeakdgidigaaDoor.GrM Go.Proofs.YtkakeakdgidigaaDoor.FcM

abbrev tyP12 : TypeId := 38
abbrev tyJ12 : TypeId := 74
/-- Which of N numbers are on a list: a row of bools of the call's own. -/
def BolAt (w : World) (g N : Nat) (M : List Nat) : Prop := w.ownsRow g 4 1 (.slice (some ⟨g, 0, none⟩) N N) N ((List.range N).map fun k => Value.bool (decide (k ∈ M)))
theorem BolAt.lt {w : World} {g N : Nat} {M : List Nat} (h : BolAt w g N M) : g < w.heap.size := (World.ownsRow.lt h g rfl).2
theorem BolAt.at_ {w : World} {g N : Nat} {M : List Nat} (h : BolAt w g N M) {k : Nat} (hk : k < N) : w.cell? ⟨g, k, none⟩ = some (.bool (decide (k ∈ M))) := by
  rw [World.ownsRow.cellAt h k (by simpa using hk)]
  simp [hk]
theorem BolAt.fr {w : World} {g N : Nat} {M : List Nat} (h : BolAt w g N M) (k : Nat) : w.frozen? ⟨g, k, none⟩ = false := World.ownsRow.frozenAt h k
theorem BolAt.set {w : World} {g N : Nat} {M : List Nat} (h : BolAt w g N M) {k : Nat} : BolAt (w.setCell ⟨g, k, none⟩ (.bool true)) g N (M ++ [k]) := by
  have h1 := (World.ownsRow.stored h k (.bool true)).1
  unfold BolAt
  have e : ((List.range N).map fun j => Value.bool (decide (j ∈ M ++ [k]))) = ((List.range N).map fun j => Value.bool (decide (j ∈ M))).set k (.bool true) := by
    apply List.ext_getElem?
    intro i
    rw [List.getElem?_set]
    by_cases hi : i < N
    · by_cases e : k = i
      · subst e
        simp [hi]
      · have e' : ¬ i = k := fun h => e h.symm
        simp [hi, e, e']
    · by_cases e : k = i
      · subst e; simp [hi]
      · simp [hi, e]
  rw [e]
  exact h1
theorem BolAt.below {w w' : World} {g N C : Nat} {M : List Nat} (h : BolAt w g N M) (o : Below C w w') (hC : w.heap.size ≤ C) : BolAt w' g N M := row_below12 h o hC
theorem BolAt.out {w w' : World} {g N : Nat} {M : List Nat} {S : Nat → Prop} (h : BolAt w g N M) (o : Out S w w') (hS : ¬ S g) : BolAt w' g N M := ownsRow_out h o (fun b hb e => by simp only [Value.ownBlock, Option.some.injEq] at hb; subst hb; exact hS e)
theorem infoBool12 : (Tryd.prog.info? 4).map (fun i => (i.zero, i.size, i.bytes)) = some (some (.bool false), 1, 1) := by kernel_rfl
theorem mkBools12 (N : Nat) (hN : N ≤ 1000000) (w : World) : (Instr.makeSlice 70 (.int .i64 (N : Int)) (.int .i64 (N : Int))).run Tryd.prog w = .ok (.slice (some ⟨w.heap.size, 0, none⟩) N N) (w.alloc (.cells (madeCells #[.bool false] N) 4)) := by
  obtain ⟨i, hi, hz, hs, hb⟩ := info_parts infoBool12
  have h := run_make (P := Tryd.prog) w 70 4 i (.bool false) Tryd.underlying70 hi hz .i64 .i64 (N : Int) (N : Int) (by omega) (by omega) (by rw [hb]; omega) (by omega)
  rw [hs, Nat.mul_one] at h
  simp only [Int.toNat_natCast] at h
  exact h
theorem bol_made (w : World) (N : Nat) (hN : N ≤ 1000000) : BolAt (w.alloc (.cells (madeCells #[.bool false] N) 4)) w.heap.size N [] := by
  refine ⟨by simp, Or.inr ⟨w.heap.size, N, _, rfl, Nat.le_refl _, heap_alloc_new w _, Nat.le_refl _, by unfold maxLen; omega, by simp [size_madeCells], ?_⟩⟩
  rw [toList_madeCells_one, List.take_of_length_le (by simp)]
  simp [List.map_const']
structure RfR (L : List Int) (n g j : Nat) (w0 wr : World) (ov : Value) : Prop where
  row : OwnFc tyP12 tyJ12 wr (g + 1) ov (pairF (facS L n j)) (facS L n j).length
  met : BolAt wr g (4 * n) (facS L n j).flatten
  bel : Below g w0 wr
def RfO (L : List Int) (n g : Nat) (w0 wr : World) (ov iv : Value) : Prop := ∃ v : Nat, iv = .int .i64 v ∧ v ≤ n ∧ RfR L n g (4 * v) w0 wr ov
def RfI (L : List Int) (n g v : Nat) (w0 wr : World) (ov iv : Value) : Prop := ∃ d : Nat, iv = .int .i64 d ∧ d ≤ 4 ∧ RfR L n g (4 * v + d) w0 wr ov
def RgR (L : List Int) (n g db : Nat) (met T : List Nat) (w0 wr : World) (fv : Value) : Prop :=
  ∃ (f : List Nat) (cur : Nat), T = f ++ orb L (4 * n - (met ++ f).length) (met ++ f) cur ∧ isK L n cur ∧ FcM.Met L n (met ++ f) ∧ OwnPr tyJ12 wr (db + 1) fv (f.map pairK) ∧ BolAt wr g (4 * n) (met ++ f) ∧
    wr.heap[db]? = some (.cells #[.int .i64 (pairK cur).1, .int .i64 (pairK cur).2] tyJ12 (0, 0)) ∧ Out (fun b => b = g) w0 wr
def RefFacesP (L : List Int) (n : Nat) (w : World) (e : Ending) (w' : World) : Prop :=
  ∃ A c, e = .returned (.slice A (facesK L n).length c) ∧ OwnFc tyP12 tyJ12 w' w.heap.size (.slice A (facesK L n).length c) (pairF (facesK L n)) (facesK L n).length ∧ Below w.heap.size w w'
theorem infoP12 : (Tryd.prog.info? 38).map (fun i => (i.zero, i.size, i.bytes)) = some (some (.slice none 0 0), 1, 24) := by kernel_rfl
theorem infoJ12 : (Tryd.prog.info? 74).map (fun i => (i.zero, i.size, i.bytes)) = some (some (.agg #[.int .i64 0, .int .i64 0]), 2, 16) := by kernel_rfl
/-- A face more. -/
theorem RfR.face {L : List Int} {n g j : Nat} {w0 w w' w5 : World} {ov v5 s : Value} {f : List Nat} (h : RfR L n g j w0 w ov) (h1 : nxK L j ≠ -1) (h2 : j ∉ (facS L n j).flatten) (hf : orb L (4 * n - (facS L n j).flatten.length) (facS L n j).flatten j = f)
    (hs : BolAt w' g (4 * n) ((facS L n j).flatten ++ f)) (o : Out (fun b => b = g) w w') (hr : OwnPr tyJ12 w' w.heap.size s (f.map pairK))
    {S : List Value} (hS : w'.ownsRow (g + 1) tyP12 1 ov (facS L n j).length S) (hk : ∀ k, k < (facS L n j).length → ∃ s, S[k]? = some s ∧ OwnPr tyJ12 w' (g + 1) s ((pairF (facS L n j)).getD k []))
    (hown : w5.ownsRow (g + 1) tyP12 1 v5 ((facS L n j).length + 1) (S ++ [s])) (ob : Obj) (hgrow : (w'.alloc ob).grownBy w5 ov.ownBlock) : RfR L n g (j + 1) w0 w5 v5 := by
  have e : facS L n (j + 1) = facS L n j ++ [f] := by rw [facS, if_neg (fun e => e.elim h1 h2), hf]
  have hm := h.met.lt
  have ba : Below w'.heap.size w' (w'.alloc ob) := (Below.refl _ _).alloc (Nat.le_refl _) _
  have hsm : g < w'.heap.size := Nat.lt_of_lt_of_le hm o.size
  have og : Out (fun b => ov.ownBlock = some b) (w'.alloc ob) w5 := (Out.refl _ _).grown hgrow (fun _ _ e => e)
  have hlt := fun b hb => World.ownsRow.lt hS b hb
  refine ⟨?_, ?_, ?_⟩
  · rw [e, pairF_more, List.length_append]
    exact OwnFc.more (To := tyP12) (Ti := tyJ12) (w := w'.alloc ob) (by decide) (pairF_len _) (row_below12 hS ba (Nat.le_refl _)) (fun k hkk => let ⟨s, a, b⟩ := hk k hkk; ⟨s, a, b.below ba (Nat.le_refl _)⟩) ((hr.base (by omega)).below ba (Nat.le_refl _)) hown hgrow
  · rw [e, List.flatten_append, List.flatten_cons, List.flatten_nil, List.append_nil]
    exact (hs.below ba (Nat.le_refl _)).out og (fun e => by have := (hlt _ e).1; omega)
  · have b1 := h.bel.trans (o.below (Nat.le_of_lt hm) (fun i _ e => by subst e; exact Nat.le_refl _))
    have b2 := b1.trans (ba.mono (Nat.le_of_lt hsm))
    exact b2.grown hgrow (by simp; omega) (fun q hq => by have := (hlt q hq).1; omega)
theorem RfR.skip {L : List Int} {n g j : Nat} {w0 w : World} {ov : Value} (h : RfR L n g j w0 w ov) (hc : nxK L j = -1 ∨ j ∈ (facS L n j).flatten) : RfR L n g (j + 1) w0 w ov := by
  have e : facS L n (j + 1) = facS L n j := by rw [facS, if_pos hc]
  exact ⟨by rw [e]; exact h.row, by rw [e]; exact h.met, h.bel⟩
theorem RfR.same {L : List Int} {n g j : Nat} {w0 w w' : World} {ov : Value} (h : RfR L n g j w0 w ov) (b : Below w.heap.size w w') : RfR L n g j w0 w' ov :=
  ⟨h.row.below b (Nat.le_refl _), h.met.below b (Nat.le_refl _), h.bel.trans (b.mono (Nat.le_of_lt h.met.lt))⟩
set_option maxHeartbeats 16000000 in
set_option maxRecDepth 100000 in
theorem refFaces (lv : Value) (L : List Int) (n : Nat) (w : World) (hL : CelAt w lv L n) (hn : n ≤ 100000) (hg : GoodG L n) :
    Calls Tryd.prog 7 #[lv] w (RefFacesP L n w) := by
  obtain ⟨i0, hi, hz0, hz1, hz2⟩ := info_parts infoP12
  obtain ⟨j0, hj, ji0, ji1, ji2⟩ := info_parts infoJ12
  have HL := Lib.hid hL
  have HG := Lib.hid hg
  obtain ⟨N4, hN4⟩ : ∃ N4 : Nat, (4 : Int) * (n : Int) = (N4 : Int) := ⟨4 * n, by omega⟩
  have hN4' : 4 * n = N4 := by omega
  have HN4 := Lib.hid hN4'
  have hmk := mkBools12 N4 (by omega)
  have hNb : N4 ≤ 400000 := by omega
  obtain ⟨A0, c0, e⟩ := hL.form
  have HLv := Lib.hid e
  rw [e]
  clear hL hg e hN4'
  go_enter Tryd.func7, Tryd.ntmps7
  go_wp2_with fail
  clear hmk hN4
  obtain ⟨g, hgs⟩ : ∃ m, w.heap.size = m := ⟨_, rfl⟩
  have HGS := Lib.hid hgs
  have S0 : Hid (BolAt (w.alloc (.cells (madeCells #[.bool false] N4) 4)) g (4 * n) []) := Lib.hid (by rw [← hgs, HN4.out]; exact bol_made w N4 (by omega))
  rw [hgs]
  clear hgs
  go_loopw [4, 5] (fun ov iv wr => RfO L n g w wr ov iv) (fun _ iv _ => n - (intOf iv).toNat)
  case atStart => exact ⟨0, rfl, Nat.zero_le _, ⟨OwnFc.nil _ _ _ _, S0.out, (Below.refl _ _).alloc (by rw [HGS.out]; exact Nat.le_refl _) _⟩⟩
  case round =>
    clear S0
    obtain ⟨v, rfl, hv, hR⟩ := hrel
    have R := Lib.hid hR
    obtain ⟨ao, co, e⟩ := hR.row.form
    obtain ⟨wo, hwo⟩ : ∃ W, W = wr := ⟨_, rfl⟩
    subst hwo
    subst e
    clear hR
    by_cases hlt : v < n
    · have q0 : decide (v < n) = true := decide_eq_true hlt
      go_wp2_with fail
      go_loopw [4, 6] (fun ov iv wr => RfI L n g v w wr ov iv) (fun _ iv _ => 4 - (intOf iv).toNat)
      case atStart => exact ⟨0, rfl, Nat.zero_le _, R.out⟩
      case round =>
        clear R
        obtain ⟨d, rfl, hd, hR⟩ := hrel
        have R := Lib.hid hR
        obtain ⟨ai, ci, e⟩ := hR.row.form
        have hml := hR.met.lt
        have hBw : Below w.heap.size w wr := by rw [HGS.out]; exact hR.bel
        subst e
        clear hR
        by_cases hd4 : d < 4
        · have q1 : decide (d < 4) = true := decide_eq_true hd4
          have q2 : decide ((d : Int) < 4) = true := decide_eq_true (by omega)
          have hdI : (d : Int) < 4 := by omega
          obtain ⟨b, o9, c', e, hb, hx, -⟩ := HL.out.nth hlt
          have e2 := HLv.out.symm.trans e
          simp only [Value.slice.injEq, true_and] at e2
          obtain ⟨rfl, rfl⟩ := e2
          have f0 := (hBw.cell (p := ⟨b, o9 + v * 8 + d, none⟩) hb).trans (hx d hd4)
          have z1 := Nat.lt_of_lt_of_le hb hBw.size
          obtain ⟨k, hk⟩ : ∃ k, 4 * v + d = k := ⟨_, rfl⟩
          have hkd : k / 4 = v ∧ k % 4 = d := by omega
          have nk : nxG L v d = nxK L k := by unfold nxK; rw [hkd.1, hkd.2]
          have hk4 : k < 4 * n := by omega
          have hkN : k < N4 := by rw [← HN4.out]; exact hk4
          have HKN : Hid (4 * v + (d + 1) = k + 1) := Lib.hid (by omega)
          have HKD := Lib.hid hkd
          obtain ⟨v4, hv4⟩ : ∃ v4 : Nat, (4 : Int) * (v : Int) = (v4 : Int) := ⟨4 * v, by omega⟩
          have hs4 : (v4 : Int) + (d : Int) = (k : Int) := by omega
          have nxr := nx_ge HG.out hlt hd4
          rw [nk] at f0 nxr
          rw [hk] at R ⊢
          have FI := Lib.hid (facs_is HG.out k (by omega))
          have m0 := R.out.met.at_ hk4
          obtain ⟨y, hy⟩ : ∃ y, nxK L k = y := ⟨_, rfl⟩
          rw [hy] at f0 nxr
          have HY := Lib.hid hy
          clear hk hkd nk hx hy
          by_cases h1 : y = -1
          · have p0 : decide (y < 0) = true := decide_eq_true (by omega)
            have R2 := Lib.hid (R.out.skip (Or.inl (by rw [HY.out]; exact h1)))
            subst h1
            clear R FI nxr m0 hBw hs4 hv4
            go_wp2_with fail
            go_roundw
            case rel => exact ⟨d + 1, by go_num, by omega, by rw [HKN.out]; exact R2.out⟩
            case measure => (simp [intOf] <;> omega)
          · have p0 : decide (y < 0) = false := decide_eq_false (by have := nxr.1.2 h1; omega)
            by_cases h2 : k ∈ (facS L n k).flatten
            · have p1 : decide (k ∈ (facS L n k).flatten) = true := decide_eq_true h2
              rw [p1] at m0
              have R2 := Lib.hid (R.out.skip (Or.inr h2))
              clear R FI nxr h1 h2 p1 hBw
              go_wp2_with fail
              go_roundw
              case rel => exact ⟨d + 1, by go_num, by omega, by rw [HKN.out]; exact R2.out⟩
              case measure => (simp [intOf] <;> omega)
            · have p1 : decide (k ∈ (facS L n k).flatten) = false := decide_eq_false h2
              rw [p1] at m0
              have hyn : nxK L k ≠ -1 := by rw [HY.out]; exact h1
              have HK : Hid (isK L n k) := Lib.hid ⟨hk4, hyn⟩
              obtain ⟨T, hT⟩ : ∃ T, orb L (4 * n - (facS L n k).flatten.length) (facS L n k).flatten k = T := ⟨_, rfl⟩
              have HT := Lib.hid hT
              have H12 := Lib.hid (And.intro hyn h2)
              obtain ⟨db, hdb⟩ : ∃ m, wr.heap.size = m := ⟨_, rfl⟩
              have HDB := Lib.hid hdb
              obtain ⟨wi, hwi⟩ : ∃ W, W = wr := ⟨_, rfl⟩
              subst hwi
              obtain ⟨wj, hwj⟩ : ∃ W, W = (wi.alloc (.cells #[.int .i64 (v : Int), .int .i64 (d : Int)] 74)) := ⟨_, rfl⟩
              have bj : Below wi.heap.size wi wj := by rw [hwj]; exact (Below.refl _ _).alloc (Nat.le_refl _) _
              have XJ : Hid (wj.heap[db]? = some (.cells #[.int .i64 (pairK k).1, .int .i64 (pairK k).2] tyJ12 (0, 0))) := Lib.hid (by
                rw [hwj, ← hdb]
                have := heap_alloc_new wi (.cells #[.int .i64 (v : Int), .int .i64 (d : Int)] 74)
                unfold pairK
                rw [HKD.out.1, HKD.out.2]
                exact this)
              have BJ := Lib.hid bj
              have MJ := Lib.hid (R.out.met.below bj (Nat.le_refl _))
              have hgdb : g < db := by rw [← hdb]; exact hml
              clear hT bj nxr hyn h1 h2 p1
              go_upto_region 10 with fail
              clear m0 f0 z1 p0
              go_wp2_with fail
              rw [← hwj]
              clear hwj hdb hv4 hs4
              go_loopw [7] (fun fv wr => RgR L n g db (facS L n k).flatten T wi wr fv) (fun fv _ => 4 * n + 1 - lenV fv)
              case atStart => exact ⟨[], k, by rw [List.nil_append, List.append_nil]; exact HT.out.symm, HK.out, by rw [List.append_nil]; exact FI.out.met, OwnPr.nil _ _ _, by rw [List.append_nil]; exact MJ.out, XJ.out, Out.ofBelow BJ.out⟩
              case round =>
                clear XJ MJ
                obtain ⟨f, cur, hT, hc, hm, ho, hs, hx, hout⟩ := hrel
                have HT2 := Lib.hid hT
                have HC := Lib.hid hc
                have HM2 := Lib.hid hm
                have O := Lib.hid ho
                have HS2 := Lib.hid hs
                have X := Lib.hid hx
                have OU := Lib.hid hout
                obtain ⟨af, cf, e⟩ := ho.form
                rw [List.length_map] at e
                subst e
                obtain ⟨c0, hc0⟩ : ∃ z, cur / 4 = z := ⟨_, rfl⟩
                obtain ⟨c1, hc1⟩ : ∃ z, cur % 4 = z := ⟨_, rfl⟩
                have PE : Hid (pairK cur = ((c0 : Int), (c1 : Int))) := Lib.hid (by unfold pairK; rw [hc0, hc1])
                rw [PE.out] at hx X
                have hx0 : wr.cell? ⟨db, 0, none⟩ = some (.int .i64 (c0 : Int)) := by simp [World.cell?, hx]
                have hx1 : wr.cell? ⟨db, 1, none⟩ = some (.int .i64 (c1 : Int)) := by simp [World.cell?, hx]
                have hxl : db < wr.heap.size := (Array.getElem?_eq_some_iff.1 hx).1
                have hgl : g < wr.heap.size := by omega
                have hfl : f.length ≤ 4 * n := by have := hm.len; rw [List.length_append] at this; omega
                have hcl : cur < N4 := by rw [← HN4.out]; exact hc.1
                have m0 := hs.at_ hc.1
                obtain ⟨cc, hcc⟩ : ∃ cc : Nat, (4 : Int) * (c0 : Int) = (cc : Int) := ⟨4 * c0, by omega⟩
                have hs5 : (cc : Int) + (c1 : Int) = (cur : Int) := by omega
                have hcn : c0 < n := by have := hc.1; omega
                have hcc4 : c1 < 4 := by omega
                have hccb : cc ≤ 400000 := by omega
                obtain ⟨nf, hnf⟩ : ∃ m, f.length = m := ⟨_, rfl⟩
                have HNF := Lib.hid hnf
                rw [hnf] at hfl O
                rw [hnf]
                clear hT hc hm ho hs hx hout hnf hc0 hc1
                by_cases hin : cur ∈ (facS L n k).flatten ++ f
                · have p1 : decide (cur ∈ (facS L n k).flatten ++ f) = true := decide_eq_true hin
                  rw [p1] at m0
                  have E : Hid (T = f) := Lib.hid (by rw [HT2.out, orb_in hin, List.append_nil])
                  clear p1 hin
                  go_upto_region 16 with fail
                  obtain ⟨-, S, hS, hkS⟩ := R.out.row.out OU.out (fun b h1 _ h3 => by omega)
                  have RS := Lib.hid hS
                  have KS := Lib.hid hkS
                  have hfn := facs_len L n k
                  obtain ⟨nq, hnq⟩ : ∃ x, (facS L n k).length = x := ⟨_, rfl⟩
                  have HNQ := Lib.hid hnq
                  rw [hnq] at hfn
                  have OA : Hid (∀ o, (wr.alloc o).ownsRow (g + 1) tyP12 1 (.slice ai nq ci) nq S) := Lib.hid (fun o => by
                    have h := RS.out
                    rw [HNQ.out] at h
                    exact row_below12 h ((Below.refl _ _).alloc (Nat.le_refl _) o) (Nat.le_refl _))
                  rw [hnq]
                  clear hS hkS hnq m0 hx0 hx1 hcc hs5
                  go_wp2_with (at_builtin; refine wpList_append_fresh rfl (.tmp 68) (.tmp 70) 36 rfl (g + 1) tyP12 i0 (.slice none 0 0) 1 24 Tryd.underlying36 hi hz0 hz1 hz2 rfl (by decide) (.slice ai nq ci) nq S rfl (OA.out _) ⟨wr.heap.size, 0, none⟩ 1 1 [.slice af nf cf] rfl rfl (newsS12 _ _ _ tyP12 (heap_alloc_new wr _)) (fun u hu => by obtain rfl := List.mem_singleton.1 hu; rfl) (by unfold maxLen; omega) (by omega) (by simp; omega) ?_; intro v5 w5 hown hgrow hfr)
                  have R5 : Hid (RfR L n g (k + 1) w w5 v5) := Lib.hid (by
                    refine R.out.face H12.out.1 H12.out.2 (HT.out.trans E.out) HS2.out OU.out (s := .slice af nf cf) ?_ RS.out KS.out ?_ (.cells #[.slice af nf cf] tyP12) ?_
                    · rw [HDB.out]; exact O.out.base (Nat.le_succ _)
                    · rw [HNQ.out]; exact hown
                    · rw [HNQ.out]; exact hgrow)
                  clear hown hgrow hfr
                  go_roundw
                  case rel => exact ⟨d + 1, by go_num, by omega, by rw [HKN.out]; exact R5.out⟩
                  case measure => (simp [intOf] <;> omega)
                · have p1 : decide (cur ∈ (facS L n k).flatten ++ f) = false := decide_eq_false hin
                  rw [p1] at m0
                  obtain ⟨os1, os2⟩ := orb_step HM2.out HC.out hin
                  have OS := Lib.hid os1
                  have hnf4 : nf < 4 * n := by rw [List.length_append, HNF.out] at os2; omega
                  have MM := Lib.hid (HM2.out.more HC.out hin)
                  have fz := HS2.out.fr cur
                  clear p1 hin os1 os2
                  go_upto_region 13 with fail
                  go_upto_region 14 with fail
                  obtain ⟨w3, hw3⟩ : ∃ W, W = wr.setCell ⟨g, cur, none⟩ (.bool true) := ⟨_, rfl⟩
                  have o3 : Out (fun b => b = g) wr w3 := by rw [hw3]; exact (Out.refl _ _).setIn _ _
                  have S3 : Hid (BolAt w3 g (4 * n) ((facS L n k).flatten ++ f ++ [cur])) := Lib.hid (by rw [hw3]; exact HS2.out.set)
                  have hrow : ∀ b, (Value.slice af nf cf).ownBlock = some b → db + 1 ≤ b ∧ b < wr.heap.size := fun b hb => World.ownsRow.lt O.out b hb
                  have O3 : Hid (OwnPr tyJ12 w3 (db + 1) (.slice af nf cf) (f.map pairK)) := Lib.hid (ownsRow_out O.out o3 (fun b hb e => by have := (hrow b hb).1; omega))
                  have X3 : Hid (w3.heap[db]? = some (.cells #[.int .i64 (c0 : Int), .int .i64 (c1 : Int)] tyJ12 (0, 0))) := Lib.hid ((o3.block db hxl (by omega)).trans X.out)
                  have OU3 : Hid (Out (fun b => b = g) wi w3) := Lib.hid (OU.out.trans o3 (fun _ _ e => e))
                  have OA : Hid (∀ o, (w3.alloc o).ownsRow (db + 1) tyJ12 2 (.slice af nf cf) nf ((f.map pairK).flatMap encP)) := Lib.hid (fun o => by
                    have h := O3.out
                    unfold OwnPr at h
                    rw [List.length_map, HNF.out] at h
                    exact row_below12 h ((Below.refl _ _).alloc (Nat.le_refl _) o) (Nat.le_refl _))
                  have x0 : w3.cell? ⟨db, 0, none⟩ = some (.int .i64 (c0 : Int)) := by have h := X3.out; simp [World.cell?, h]
                  have x1 : w3.cell? ⟨db, 1, none⟩ = some (.int .i64 (c1 : Int)) := by have h := X3.out; simp [World.cell?, h]
                  have xl : db < w3.heap.size := Nat.lt_of_lt_of_le hxl o3.size
                  have HR := Lib.hid hrow
                  have hz3 := o3.size
                  have Z3 := Lib.hid hz3
                  rw [← hw3]
                  clear hw3 o3 hrow hx0 hx1 m0 fz hz3 hcc hs5
                  go_upto_region 15 with (at_builtin; refine wpList_append_fresh rfl (.tmp 61) (.tmp 63) 38 rfl (db + 1) tyJ12 j0 (.agg #[.int .i64 0, .int .i64 0]) 2 16 Tryd.underlying38 hj ji0 ji1 ji2 rfl (by decide) (.slice af nf cf) nf ((f.map pairK).flatMap encP) rfl (OA.out _) ⟨w3.heap.size, 0, none⟩ 1 1 [.int .i64 (c0 : Int), .int .i64 (c1 : Int)] rfl rfl (newsP12 _ _ _ _ tyJ12 (heap_alloc_new w3 _)) (onePr12 _ _) (by unfold maxLen; omega) (by omega) (by simp; omega) ?_; intro v5 w5 hown hgrow hfr)
                  have o5 : Out (fun b => (Value.slice af nf cf).ownBlock = some b) w3 w5 := ((Out.refl _ _).alloc _).grown hgrow (fun _ _ e => e)
                  have n1 : ¬ (Value.slice af nf cf).ownBlock = some db := fun e => by have := (HR.out _ e).1; omega
                  have n3 : ¬ (Value.slice af nf cf).ownBlock = some g := fun e => by have := (HR.out _ e).1; omega
                  have V5 : Hid (OwnPr tyJ12 w5 (db + 1) v5 ((f ++ [cur]).map pairK)) := Lib.hid (by
                    rw [List.map_append, List.map_cons, List.map_nil, PE.out]
                    exact OwnPr.more (n := nf) (by rw [List.length_map]; exact HNF.out) hown)
                  obtain ⟨a5, c5, e5⟩ := row_form12 hown
                  subst e5
                  have VB := Lib.hid (fun b hb => (World.ownsRow.lt V5.out b hb).1)
                  have S5 : Hid (BolAt w5 g (4 * n) ((facS L n k).flatten ++ (f ++ [cur]))) := Lib.hid (by
                    rw [← List.append_assoc]
                    exact S3.out.out o5 n3)
                  have X5 := (o5.block db xl n1).trans X3.out
                  have xl5 := Nat.lt_of_lt_of_le xl o5.size
                  have OU5 : Hid (Out (fun b => b = g) wi w5) := Lib.hid (OU3.out.trans o5 (fun i hi e => by have := (HR.out i e).1; have := HDB.out; omega))
                  have y0 : w5.cell? ⟨db, 0, none⟩ = some (.int .i64 (c0 : Int)) := by simp [World.cell?, X5]
                  have y1 : w5.cell? ⟨db, 1, none⟩ = some (.int .i64 (c1 : Int)) := by simp [World.cell?, X5]
                  have BWi : Below w.heap.size w w5 := by
                    rw [HGS.out]
                    exact R.out.bel.trans (OU5.out.below (Nat.le_of_lt hml) (fun i _ e => by subst e; exact Nat.le_refl _))
                  have BH := refBehind _ L n cur w5 (HL.out.below BWi (Nat.le_refl _)) HG.out HC.out
                  rw [HLv.out] at BH
                  have pe : dartV cur = .agg #[.int .i64 (c0 : Int), .int .i64 (c1 : Int)] := by
                    have := PE.out
                    unfold pairK at this
                    unfold dartV
                    simp only [Prod.mk.injEq] at this
                    rw [this.1, this.2]
                  rw [pe] at BH
                  unfold dartV at BH
                  obtain ⟨r0, hr0⟩ : ∃ z, behK L cur / 4 = z := ⟨_, rfl⟩
                  obtain ⟨r1, hr1⟩ : ∃ z, behK L cur % 4 = z := ⟨_, rfl⟩
                  have PR : Hid (pairK (behK L cur) = ((r0 : Int), (r1 : Int))) := Lib.hid (by unfold pairK; rw [hr0, hr1])
                  rw [hr0, hr1] at BH
                  have HBH := Lib.hid BH
                  have XX := Lib.hid X5
                  clear o5 n1 n3 hown hgrow hfr x0 x1 xl X5 BWi BH pe hr0 hr1
                  go_wp2_with (go_at_call 23; refine HBH.out.mono ?_; rintro e w6 ⟨rfl, b6⟩; have B6 := Lib.hid b6; have X6 := Lib.hid ((b6.block db xl5).trans XX.out); have xl6 := Nat.lt_of_lt_of_le xl5 b6.size; have g0 : w6.frozen? ⟨db, 0, none⟩ = false := (by have h := X6.out; simp [World.frozen?, h]); have g1 : w6.frozen? ⟨db, 1, none⟩ = false := (by have h := X6.out; simp [World.frozen?, h]); have k0 : w6.cell? ⟨db, 0, none⟩ = some (.int .i64 (c0 : Int)) := (by have h := X6.out; simp [World.cell?, h]); have k1 : w6.cell? ⟨db, 1, none⟩ = some (.int .i64 (c1 : Int)) := (by have h := X6.out; simp [World.cell?, h]); clear b6)
                  go_roundw
                  case rel =>
                    have o7 : Out (fun b => b = db) w6 ((w6.setCell ⟨db, 0, none⟩ (.int .i64 (r0 : Int))).setCell ⟨db, 1, none⟩ (.int .i64 (r1 : Int))) := ((Out.refl _ _).setIn _ _).setIn _ _
                    refine ⟨f ++ [cur], behK L cur, ?_, beh_dart HC.out HG.out, ?_, ?_, ?_, ?_, ?_⟩
                    · rw [← List.append_assoc, List.append_assoc f, List.singleton_append, ← OS.out]; exact HT2.out
                    · rw [← List.append_assoc]; exact MM.out
                    · exact ownsRow_out (V5.out.below B6.out (Nat.le_refl _)) o7 (fun b hb e => by have := VB.out b hb; omega)
                    · exact (S5.out.below B6.out (Nat.le_refl _)).out o7 (by omega)
                    · rw [PR.out]
                      have h1 := heap_setCell_at (w := w6) X6.out 0 (.int .i64 (r0 : Int))
                      rw [heap_setCell_at h1]
                      rfl
                    · have OU6 := OU5.out.trans (S' := fun _ => False) (Out.ofBelow B6.out) (fun _ _ e => e.elim)
                      exact (OU6.setCell (p := ⟨db, 0, none⟩) (fun h => absurd h (by rw [HDB.out]; exact Nat.lt_irrefl _)) _).setCell (p := ⟨db, 1, none⟩) (fun h => absurd h (by rw [HDB.out]; exact Nat.lt_irrefl _)) _
                  case measure => (simp [lenV]; omega)
        · have hd5 : d = 4 := by omega
          subst hd5
          have q1 : decide (4 < 4) = false := by decide
          go_wp2_with fail
          go_roundw
          case rel => exact ⟨v + 1, by go_num, by omega, by rw [show 4 * (v + 1) = 4 * v + 4 by omega]; exact R.out⟩
          case measure => (simp [intOf] <;> omega)
    · have hvn : v = n := by omega
      subst hvn
      have q0 : decide (v < v) = false := decide_eq_false hlt
      go_wp2_with fail
      go_ret
      have h := R.out
      refine ⟨ao, co, rfl, ?_, by rw [HGS.out]; exact h.bel⟩
      obtain ⟨hl, S, hr, hk⟩ := h.row
      rw [HGS.out]
      exact ⟨hl, S, row_base12 hr (by omega), fun k hkk => let ⟨s, a, b⟩ := hk k hkk; ⟨s, a, b.base (by omega)⟩⟩
end Go.Proofs.YtkakeakdgidigaaDoor
