/-
  A box's cells joined. Conditions: the borders read as the program lays them; the box's rows lie below the grid.
-/
import Derived.Test.YtecifgaekefkpaaDoorNcJ
import Derived.Test.YtecifgaekefkpaaDoorNmK
import Derived.Test.YtecifgaekefkpaaDoorNzDc
namespace Go.Proofs.YtecifgaekefkpaaDoor
open Go.RowKit Go.Proofs.YtecifgaekefkpaaDoor.LexM Go.Proofs.YtecifgaekefkpaaDoor.ParM Go.Proofs.YtecifgaekefkpaaDoor.GrM Go.Proofs.YtecifgaekefkpaaDoor.NmM

/-- The table of borders: twelve numbers. -/
def borL : List Int := [1, 1, 2, 3, 0, 2, 0, 1, 3, 0, 0, 1]
structure BorT (w : World) : Prop where
  lt : 0 < w.heap.size
  at_ : ∀ j, j < 12 → w.cell? ⟨0, j, none⟩ = some (.int .i64 (borL.getD j 0))
theorem BorT.below {w w' : World} {C : Nat} (h : BorT w) (o : Below C w w') (hC : w.heap.size ≤ C) : BorT w' :=
  ⟨Nat.lt_of_lt_of_le h.lt o.size, fun j hj => (o.cell (p := ⟨0, j, none⟩) (Nat.lt_of_lt_of_le h.lt hC)).trans (h.at_ j hj)⟩
/-- A grid above a base. -/
structure GrB (G : Nat) (w0 w : World) (p : Nat) (v : Value) (L : List Int) (N : Nat) : Prop where
  grd : GrdAt w p v L N
  foot : ∀ b, FootG p v b → G ≤ b
  bel : Below G w0 w
theorem GrB.step {G : Nat} {w0 w w' : World} {p N : Nat} {v : Value} {L M : List Int} (h : GrB G w0 w p v L N) (hG : G ≤ w.heap.size) (t : Turned p v M N w w') : ∃ v', GrB G w0 w' p v' M N ∧ Out (FootG p v) w w' := by
  obtain ⟨v', a, b, c⟩ := t
  refine ⟨v', ⟨a, fun q hq => ?_, h.bel.trans (b.below hG (fun i _ hi => h.foot i hi))⟩, b⟩
  rcases hq with rfl | hq
  · exact h.foot q (Or.inl rfl)
  · rcases c q hq with h1 | h1
    · exact h.foot q (Or.inr h1)
    · omega
theorem GrB.quiet {G : Nat} {w0 w w' : World} {p N : Nat} {v : Value} {L : List Int} (h : GrB G w0 w p v L N) (hG : G ≤ w.heap.size) (b : Below w.heap.size w w') : GrB G w0 w' p v L N :=
  ⟨h.grd.below b, h.foot, h.bel.trans (b.mono hG)⟩
/-- A block of another kind is none of a grid's. -/
theorem GrdAt.notFoot {w : World} {p q N : Nat} {v : Value} {L : List Int} {cur : Array Value} {T : TypeId} (h : GrdAt w p v L N) (hq : w.heap[q]? = some (.cells cur T (0, 0))) (h1 : T ≠ 51) (h2 : T ≠ 103) : ¬ FootG p v q := by
  rintro (rfl | e)
  · rw [h.blk] at hq
    injection hq with hq
    injection hq with _ hq _
    exact h2 hq.symm
  · exact own_kind h.row hq h1 e
theorem ixB0 (w : World) : (Instr.index 106 (.agg #[.int .i64 1, .int .i64 1, .int .i64 2, .int .i64 3, .int .i64 0, .int .i64 2, .int .i64 0, .int .i64 1, .int .i64 3, .int .i64 0, .int .i64 0, .int .i64 1]) (.int .i64 0)).run Tryd.prog w = .ok (.agg #[.int .i64 1, .int .i64 1, .int .i64 2]) w := by kernel_rfl
theorem ixB1 (w : World) : (Instr.index 106 (.agg #[.int .i64 1, .int .i64 1, .int .i64 2, .int .i64 3, .int .i64 0, .int .i64 2, .int .i64 0, .int .i64 1, .int .i64 3, .int .i64 0, .int .i64 0, .int .i64 1]) (.int .i64 1)).run Tryd.prog w = .ok (.agg #[.int .i64 3, .int .i64 0, .int .i64 2]) w := by kernel_rfl
theorem ixB2 (w : World) : (Instr.index 106 (.agg #[.int .i64 1, .int .i64 1, .int .i64 2, .int .i64 3, .int .i64 0, .int .i64 2, .int .i64 0, .int .i64 1, .int .i64 3, .int .i64 0, .int .i64 0, .int .i64 1]) (.int .i64 2)).run Tryd.prog w = .ok (.agg #[.int .i64 0, .int .i64 1, .int .i64 3]) w := by kernel_rfl
theorem ixB3 (w : World) : (Instr.index 106 (.agg #[.int .i64 1, .int .i64 1, .int .i64 2, .int .i64 3, .int .i64 0, .int .i64 2, .int .i64 0, .int .i64 1, .int .i64 3, .int .i64 0, .int .i64 0, .int .i64 1]) (.int .i64 3)).run Tryd.prog w = .ok (.agg #[.int .i64 0, .int .i64 0, .int .i64 1]) w := by kernel_rfl
theorem ixB (d : Nat) (hd : d < 4) (w : World) : (Instr.index 106 (.agg #[.int .i64 1, .int .i64 1, .int .i64 2, .int .i64 3, .int .i64 0, .int .i64 2, .int .i64 0, .int .i64 1, .int .i64 3, .int .i64 0, .int .i64 0, .int .i64 1]) (.int .i64 (d : Int))).run Tryd.prog w = .ok (.agg #[.int .i64 (frN d : Nat), .int .i64 (wyC d), .int .i64 (toN d : Nat)]) w := by
  have hc : d = 0 ∨ d = 1 ∨ d = 2 ∨ d = 3 := by omega
  rcases hc with rfl | rfl | rfl | rfl
  · exact ixB0 w
  · exact ixB1 w
  · exact ixB2 w
  · exact ixB3 w
def JbD (G : Nat) (w0 wr : World) (p N : Nat) (L : List Int) (c : Nat) (l : Nat → List Int) (xb : Nat) (xs : Array Value) (dv : Value) : Prop :=
  ∃ (d : Nat) (v : Value), dv = .int .i64 d ∧ d ≤ 4 ∧ GrB G w0 wr p v (jnA N L (bxJ c l d)) N ∧ wr.heap[xb]? = some (.cells xs 90 (0, 0))
def JbI (G : Nat) (w0 wr : World) (p N : Nat) (L : List Int) (way fr : Int) (l : List Int) (n : Nat) (xb yb : Nat) (xs ys : Array Value) (av iv : Value) : Prop :=
  ∃ (i : Nat) (v : Value), iv = .int .i64 i ∧ i ≤ n ∧ av = .int .i64 (chA fr l i) ∧ GrB G w0 wr p v (jnA N L (chJ way fr l i)) N ∧ wr.heap[xb]? = some (.cells xs 90 (0, 0)) ∧ wr.heap[yb]? = some (.cells ys 105 (0, 0))
set_option maxHeartbeats 16000000 in
set_option maxRecDepth 100000 in
theorem joinBoxY {w0 w : World} {G C p N c : Nat} {v : Value} {L : List Int} {S : Nat → Value} {l : Nat → List Int} (h : GrB G w0 w p v L N) (hG : G = w0.heap.size) (hGw : G ≤ w.heap.size) (hT : BorT w0) (hS : ∀ d, d < 4 → OwnZ w0 C (S d) (l d) (l d).length) (hnl : ∀ d, d < 4 → (l d).length ≤ 10000) :
    Calls Tryd.prog 39 #[.pointer (some ⟨p, 0, none⟩), .agg #[.int .i64 c, .int .i64 ((c + 1 : Nat) : Int), .int .i64 ((c + 2 : Nat) : Int), .int .i64 ((c + 3 : Nat) : Int), S 0, S 1, S 2, S 3]] w fun e w' => e = .returned (.tuple #[]) ∧ ∃ v', GrB G w0 w' p v' (jnA N L (bxJ c l 4)) N := by
  have H := Lib.hid h
  have HT := Lib.hid hT
  have HS := Lib.hid hS
  have HNL := Lib.hid hnl
  have HG := Lib.hid hG
  have HGW := Lib.hid hGw
  clear h hT hS hG hGw hnl
  obtain ⟨k1, hk1⟩ : ∃ k : Int, ((c + 1 : Nat) : Int) = k := ⟨_, rfl⟩
  obtain ⟨k2, hk2⟩ : ∃ k : Int, ((c + 2 : Nat) : Int) = k := ⟨_, rfl⟩
  obtain ⟨k3, hk3⟩ : ∃ k : Int, ((c + 3 : Nat) : Int) = k := ⟨_, rfl⟩
  have K1 := Lib.hid hk1
  have K2 := Lib.hid hk2
  have K3 := Lib.hid hk3
  rw [hk1, hk2, hk3]
  clear hk1 hk2 hk3
  obtain ⟨xs, hxs⟩ : ∃ xs : Array Value, #[.int .i64 c, .int .i64 k1, .int .i64 k2, .int .i64 k3, S 0, S 1, S 2, S 3] = xs := ⟨_, rfl⟩
  have XA : Hid (∀ d, d < 4 → xs[d]? = some (.int .i64 ((c + d : Nat) : Int)) ∧ xs[4 + d]? = some (S d)) := Lib.hid (fun d hd => by
    rw [← hxs]
    have hc : d = 0 ∨ d = 1 ∨ d = 2 ∨ d = 3 := by omega
    rcases hc with rfl | rfl | rfl | rfl
    · exact ⟨rfl, rfl⟩
    · exact ⟨by simp [← K1.out], rfl⟩
    · exact ⟨by simp [← K2.out], rfl⟩
    · exact ⟨by simp [← K3.out], rfl⟩)
  go_enter Tryd.func39, Tryd.ntmps39
  go_upto_region 1 with (fail)
  obtain ⟨w1, hw1⟩ : ∃ W, W = (w.alloc (.cells xs 90)) := ⟨_, rfl⟩
  have b1 : Below w.heap.size w w1 := by rw [hw1]; exact (Below.refl _ _).alloc (Nat.le_refl _) _
  have hx : w1.heap[w.heap.size]? = some (.cells xs 90 (0, 0)) := by rw [hw1]; exact heap_alloc_new w _
  have HX := Lib.hid hx
  have H1 := Lib.hid (H.out.quiet HGW.out b1)
  have T1 := HT.out.below (H1.out.bel) (Nat.le_of_eq HG.out.symm)
  rw [← hw1]
  obtain ⟨xb, hxb⟩ : ∃ x, x = w.heap.size := ⟨_, rfl⟩
  rw [← hxb] at HX ⊢
  have t0 := T1.at_ 0 (by decide)
  have t1 := T1.at_ 1 (by decide)
  have t2 := T1.at_ 2 (by decide)
  have t3 := T1.at_ 3 (by decide)
  have t4 := T1.at_ 4 (by decide)
  have t5 := T1.at_ 5 (by decide)
  have t6 := T1.at_ 6 (by decide)
  have t7 := T1.at_ 7 (by decide)
  have t8 := T1.at_ 8 (by decide)
  have t9 := T1.at_ 9 (by decide)
  have t10 := T1.at_ 10 (by decide)
  have t11 := T1.at_ 11 (by decide)
  have tl := T1.lt
  simp only [borL, List.getD_cons_zero, List.getD_cons_succ] at t0 t1 t2 t3 t4 t5 t6 t7 t8 t9 t10 t11
  clear hw1 b1 hx hxb T1 H hxs
  go_wp2_with fail
  go_loopw [10] (fun dv wr => JbD G w0 wr p N L c l xb xs dv) (fun dv _ => 4 - (intOf dv).toNat)
  case atStart => exact ⟨0, v, rfl, by omega, H1.out, HX.out⟩
  case round =>
    clear H1 HX t0 t1 t2 t3 t4 t5 t6 t7 t8 t9 t10 t11 tl
    obtain ⟨d, v2, rfl, hd, hG2, hX2⟩ := hrel
    have H2 := Lib.hid hG2
    have X2 := Lib.hid hX2
    have G2 := Lib.hid (show G ≤ wr.heap.size by rw [HG.out]; exact hG2.bel.size)
    clear hG2 hX2
    by_cases hd4 : d < 4
    · have q0 : decide (d < 4) = true := decide_eq_true hd4
      have q0' : decide ((d : Int) < 4) = true := decide_eq_true (by omega)
      have hdI : (d : Int) < 4 := by omega
      have hix := ixB d hd4
      have hf4 := frN_lt d
      have ht4 := toN_lt d
      have FC := Lib.hid (frC_n c d)
      have TC := Lib.hid (toC_n c d hd4)
      have BN : Hid (bxJ c l (d + 1) = bxJ c l d ++ sdJ (wyC d) (frC c d) (toC c d) (l d)) := Lib.hid rfl
      obtain ⟨wy, hwy⟩ : ∃ z, wyC d = z := ⟨_, rfl⟩
      rw [hwy] at hix BN
      obtain ⟨f, hf⟩ : ∃ z, frN d = z := ⟨_, rfl⟩
      rw [hf] at hix hf4 FC
      obtain ⟨tt, htt⟩ : ∃ z, toN d = z := ⟨_, rfl⟩
      rw [htt] at hix ht4 TC
      clear hwy hf htt
      have hfI : (f : Int) < 4 := by omega
      have htI : (tt : Int) < 4 := by omega
      go_upto_region 4 with (fail)
      obtain ⟨wx, hwx⟩ : ∃ W, W = (wr.alloc (.cells #[.int .i64 (f : Int), .int .i64 wy, .int .i64 (tt : Int)] 105)) := ⟨_, rfl⟩
      have bx : Below wr.heap.size wr wx := by rw [hwx]; exact (Below.refl _ _).alloc (Nat.le_refl _) _
      have hy : wx.heap[wr.heap.size]? = some (.cells #[.int .i64 (f : Int), .int .i64 wy, .int .i64 (tt : Int)] 105 (0, 0)) := by rw [hwx]; exact heap_alloc_new wr _
      have HY := Lib.hid hy
      have X3 := Lib.hid ((bx.block xb (Array.getElem?_eq_some_iff.1 X2.out).1).trans X2.out)
      have H3 := Lib.hid (H2.out.quiet G2.out bx)
      have G3 := Lib.hid (Nat.le_trans G2.out bx.size)
      rw [← hwx]
      obtain ⟨yb, hyb⟩ : ∃ x, x = wr.heap.size := ⟨_, rfl⟩
      rw [← hyb] at HY ⊢
      clear hwx bx hy hyb H2 X2 G2 hix
      obtain ⟨fr, hfr⟩ : ∃ z, frC c d = z := ⟨_, rfl⟩
      obtain ⟨tq, htq⟩ : ∃ z, toC c d = z := ⟨_, rfl⟩
      rw [hfr] at FC BN
      rw [htq] at TC BN
      clear hfr htq
      obtain ⟨M0, hM0⟩ : ∃ z, jnA N L (bxJ c l d) = z := ⟨_, rfl⟩
      have HM := Lib.hid hM0
      rw [hM0] at H3
      clear hM0
      obtain ⟨A, cc, eS⟩ := (HS.out d hd4).form
      have OS : Hid (OwnZ w0 C (S d) (l d) (l d).length) := Lib.hid (HS.out d hd4)
      obtain ⟨n, hn⟩ : ∃ n, (l d).length = n := ⟨_, rfl⟩
      have hnb : n ≤ 10000 := by rw [← hn]; exact HNL.out d hd4
      rw [hn] at eS OS
      rw [eS] at OS
      have XF : Hid (∀ wq : World, wq.heap[xb]? = some (.cells xs 90 (0, 0)) → wq.cell? ⟨xb, f, none⟩ = some (.int .i64 fr) ∧ wq.cell? ⟨xb, tt, none⟩ = some (.int .i64 tq) ∧ wq.cell? ⟨xb, 4 + d, none⟩ = some (.slice A n cc) ∧ xb < wq.heap.size) := Lib.hid (fun wq h => by
        obtain ⟨a1, -⟩ := XA.out f hf4
        obtain ⟨a2, -⟩ := XA.out tt ht4
        obtain ⟨-, a3⟩ := XA.out d hd4
        rw [← FC.out] at a1
        rw [← TC.out] at a2
        rw [eS] at a3
        exact ⟨by simp [World.cell?, h, a1], by simp [World.cell?, h, a2], by simp [World.cell?, h, a3], (Array.getElem?_eq_some_iff.1 h).1⟩)
      have YF : Hid (∀ wq : World, wq.heap[yb]? = some (.cells #[.int .i64 (f : Int), .int .i64 wy, .int .i64 (tt : Int)] 105 (0, 0)) → wq.cell? ⟨yb, 0, none⟩ = some (.int .i64 (f : Int)) ∧ wq.cell? ⟨yb, 1, none⟩ = some (.int .i64 wy) ∧ wq.cell? ⟨yb, 2, none⟩ = some (.int .i64 (tt : Int)) ∧ yb < wq.heap.size) := Lib.hid (fun wq h =>
        ⟨by simp [World.cell?, h], by simp [World.cell?, h], by simp [World.cell?, h], (Array.getElem?_eq_some_iff.1 h).1⟩)
      obtain ⟨ld, hld⟩ : ∃ z, l d = z := ⟨_, rfl⟩
      rw [hld] at OS BN hn
      have LN := Lib.hid hn
      clear eS hld hn
      obtain ⟨a1, a2, a3, a4⟩ := XF.out _ X3.out
      obtain ⟨e1, e2, e3, e4⟩ := YF.out _ HY.out
      go_wp2_with fail
      clear a1 a2 a3 a4 e1 e2 e3 e4
      go_loopw [6, 24] (fun av iv wr => JbI G w0 wr p N M0 wy fr ld n xb yb xs #[.int .i64 (f : Int), .int .i64 wy, .int .i64 (tt : Int)] av iv) (fun _ iv _ => n - (intOf iv).toNat)
      case atStart => exact ⟨0, v2, rfl, Nat.zero_le _, rfl, H3.out, X3.out, HY.out⟩
      case round =>
        clear H3 X3 HY G3
        obtain ⟨i, v4, rfl, hi, rfl, hH4, hX4, hY4⟩ := hrel
        have H4 := Lib.hid hH4
        have X4 := Lib.hid hX4
        have Y4 := Lib.hid hY4
        have G4 := Lib.hid (show G ≤ wr.heap.size by rw [HG.out]; exact hH4.bel.size)
        clear hH4 hX4 hY4
        obtain ⟨a1, a2, a3, a4⟩ := XF.out _ X4.out
        obtain ⟨e1, e2, e3, e4⟩ := YF.out _ Y4.out
        obtain ⟨at_, hat⟩ : ∃ z, chA fr ld i = z := ⟨_, rfl⟩
        have HAT := Lib.hid hat
        rw [hat]
        clear hat
        by_cases hlt : i < n
        · have q1 : decide (i < n) = true := decide_eq_true hlt
          have OZ := OS.out.below H4.out.bel (Nat.le_of_eq HG.out.symm)
          obtain ⟨b, cap, hv, _, hbw, _⟩ := ownsRow_form OZ.2 (by omega)
          simp only [Value.slice.injEq] at hv
          obtain ⟨rfl, -, -⟩ := hv
          have f0 := OZ.at_ hlt
          obtain ⟨nx, hnx⟩ : ∃ z, ld.getD i 0 = z := ⟨_, rfl⟩
          rw [hnx] at f0
          have CJ : Hid (jnA N M0 (chJ wy fr ld (i + 1)) = (joiO (jnA N M0 (chJ wy fr ld i)) N at_ wy nx (-1)).2) := Lib.hid (by
            show jnA N M0 (chJ wy fr ld i ++ [(chA fr ld i, wy, ld.getD i 0, -1)]) = _
            rw [jnA_snoc, HAT.out, hnx]; rfl)
          have CA : Hid (chA fr ld (i + 1) = nx) := Lib.hid hnx
          clear OZ hnx
          go_wp2_with (go_at_call 51; refine (joinAny H4.out.grd at_ wy nx (-1)).mono ?_; rintro e w5 ⟨rfl, t5⟩; obtain ⟨v5, g5, o5⟩ := H4.out.step G4.out t5; have H5 := Lib.hid g5; have X5 := Lib.hid ((o5.block xb (Array.getElem?_eq_some_iff.1 X4.out).1 (H4.out.grd.notFoot X4.out (by decide) (by decide))).trans X4.out); have Y5 := Lib.hid ((o5.block yb (Array.getElem?_eq_some_iff.1 Y4.out).1 (H4.out.grd.notFoot Y4.out (by decide) (by decide))).trans Y4.out); clear t5 g5 o5)
          go_roundw
          case rel => exact ⟨i + 1, v5, by go_num, by omega, by rw [CA.out], by rw [CJ.out]; exact H5.out, X5.out, Y5.out⟩
          case measure => (simp [intOf] <;> omega)
        · have hin : i = n := by omega
          have q1 : decide (i < n) = false := decide_eq_false hlt
          have CJ : Hid (jnA N L (bxJ c l (d + 1)) = (joiO (jnA N M0 (chJ wy fr ld i)) N at_ wy tq (-1)).2) := Lib.hid (by
            rw [BN.out, jnA_app, HM.out]
            unfold sdJ
            rw [jnA_snoc, LN.out, ← hin, HAT.out]; rfl)
          go_upto_region 11 with (fail)
          go_still_tail 9, (by kernel_rfl)
          change wpList _ _ _ _ _ wr.drew
          go_wp2_with (go_at_call 51; have H5' := H4.out.quiet G4.out (Below.refl _ _).drew; refine (joinAny H5'.grd at_ wy tq (-1)).mono ?_; rintro e w5 ⟨rfl, t5⟩; obtain ⟨v5, g5, o5⟩ := H5'.step G4.out t5; have H5 := Lib.hid g5; have X5 := Lib.hid ((o5.block xb (Array.getElem?_eq_some_iff.1 X4.out).1 (H4.out.grd.notFoot X4.out (by decide) (by decide))).trans X4.out); clear t5 g5 o5 H5')
          go_roundw
          case rel => exact ⟨d + 1, v5, by go_num, by omega, by rw [CJ.out]; exact H5.out, X5.out⟩
          case measure => (simp [intOf] <;> omega)
    · have hd5 : d = 4 := by omega
      subst hd5
      have q0 : decide (4 < 4) = false := by decide
      go_wp2_with fail
      go_end0
      exact ⟨rfl, v2, H2.out⟩
end Go.Proofs.YtecifgaekefkpaaDoor
