/-
  What checkSide, Check and Of answer. Conditions: at most 100000 cells.
-/
import Derived.Test.YtkgknbjcllcndaaGdG
namespace Go.Proofs.Ytkgknbjcllcndaa
open Go.RowKit Go.Proofs.Ytkgknbjcllcndaa.GrM

theorem CelAt.at2 {w : World} {b o n c : Nat} {L : List Int} (h : CelAt w (.slice (some ⟨b, o, none⟩) n c) L n) {i e : Nat} (hi : i < n) (he : e < 4) :
    w.cell? ⟨b, o + i * 8 + e, none⟩ = some (.int .i64 (nxG L i e)) ∧ w.cell? ⟨b, o + i * 8 + 4 + e, none⟩ = some (.int .i64 (owG L i e)) := by
  obtain ⟨b', o', c', e', _, h1, h2⟩ := h.nth hi
  simp only [Value.slice.injEq, Option.some.injEq, Addr.mk.injEq, true_and, and_true] at e'
  obtain ⟨⟨rfl, rfl⟩, rfl⟩ := e'
  exact ⟨h1 e he, h2 e he⟩
set_option maxHeartbeats 8000000 in
set_option maxRecDepth 100000 in
theorem sideY (lv : Value) (L : List Int) (n v d : Nat) (w : World) (hL : CelAt w lv L n) (hv : v < n) (hd : d < 4) :
    Calls Try.prog 36 #[lv, .int .i64 v, .int .i64 d] w fun r w' => r = .returned (.int .i64 (chk1 L n v d)) ∧ Below w.heap.size w w' := by
  have CO := Lib.hid (contraryY d)
  obtain ⟨b, o9, c0, e, hb, -, -⟩ := hL.nth hv
  subst e
  have HL := Lib.hid hL
  obtain ⟨f1, f2⟩ := hL.at2 hv hd
  clear hL
  by_cases g1 : nxG L v d = -1
  · by_cases g2 : owG L v d = 0
    · have E := Lib.hid (chk_free (n := n) g1 g2)
      rw [g1] at f1
      rw [g2] at f2
      clear g1 g2
      go_enter Try.func36, Try.ntmps36
      go_wp2_with fail
      go_quiet (fail)
      go_wp2_with fail
      go_ret
      exact ⟨ret_int E.out.symm, drewN_below (Below.refl _ _) _⟩
    · have E := Lib.hid (chk_owned (n := n) g1 g2)
      rw [g1] at f1
      have q2 : (owG L v d == 0) = false := by rw [beq_eq_false_iff_ne]; exact g2
      have q3 : (owG L v d != 0) = true := by rw [bne, q2]; rfl
      clear g1 g2
      generalize owG L v d = y2 at *
      go_enter Try.func36, Try.ntmps36
      go_wp2_with fail
      go_quiet (fail)
      go_wp2_with fail
      go_ret
      exact ⟨ret_int E.out.symm, drewN_below (Below.refl _ _) _⟩
  · have r1 : (nxG L v d == -1) = false := by rw [beq_eq_false_iff_ne]; exact g1
    by_cases g3 : nxG L v d < 0 ∨ (n : Int) ≤ nxG L v d ∨ nxG L v d = v
    · have E := Lib.hid (chk_out (n := n) g1 g3)
      clear g1
      generalize nxG L v d = y1 at *
      generalize owG L v d = y2 at *
      rcases Int.lt_or_le y1 0 with k1 | k1
      · have r2 : decide (y1 < 0) = true := by rw [decide_eq_true_eq]; exact k1
        clear g3 k1
        go_enter Try.func36, Try.ntmps36
        go_wp2_with fail
        go_quiet (fail)
        go_wp2_with fail
        go_ret
        exact ⟨ret_int E.out.symm, drewN_below (Below.refl _ _) _⟩
      · have r2 : decide (y1 < 0) = false := by rw [decide_eq_false_iff_not]; omega
        rcases Int.lt_or_le y1 n with k2 | k2
        · have k3 : y1 = (v : Int) := by omega
          have r3 : decide ((n : Int) ≤ y1) = false := by rw [decide_eq_false_iff_not]; omega
          have r4 : (y1 == (v : Int)) = true := by rw [beq_iff_eq]; exact k3
          clear g3 k1 k2 k3
          go_enter Try.func36, Try.ntmps36
          go_wp2_with fail
          go_quiet (fail)
          go_wp2_with fail
          go_ret
          exact ⟨ret_int E.out.symm, drewN_below (Below.refl _ _) _⟩
        · have r3 : decide ((n : Int) ≤ y1) = true := by rw [decide_eq_true_eq]; exact k2
          clear g3 k1 k2
          go_enter Try.func36, Try.ntmps36
          go_wp2_with fail
          go_quiet (fail)
          go_wp2_with fail
          go_ret
          exact ⟨ret_int E.out.symm, drewN_below (Below.refl _ _) _⟩
    · obtain ⟨x, hx⟩ : ∃ x : Nat, nxG L v d = (x : Int) := ⟨(nxG L v d).toNat, by omega⟩
      have hxn : x < n := by omega
      have hxv : x ≠ v := by omega
      have CF := chk_far hx hxn hxv
      rw [hx] at f1 r1
      have r2 : decide ((x : Int) < 0) = false := by rw [decide_eq_false_iff_not]; omega
      have r3 : decide ((n : Int) ≤ (x : Int)) = false := by rw [decide_eq_false_iff_not]; omega
      have r3' : decide (n ≤ x) = false := by rw [decide_eq_false_iff_not]; omega
      have r4 : ((x : Int) == (v : Int)) = false := by rw [beq_eq_false_iff_ne]; omega
      obtain ⟨f3, f4⟩ := HL.out.at2 hxn (opp_lt d)
      have hm4 := opp_lt d
      clear g1 g3 hx hxv
      generalize opp d = d2 at *
      have NF : Hid (nxG L x d2 = v → owG L x d2 = owG L v d → -2 ≤ owG L v d → chk1 L n v d = 0) := Lib.hid (fun a1 a2 a3 => by rw [CF, if_neg (by omega)])
      have EF : Hid (nxG L x d2 ≠ v ∨ owG L x d2 ≠ owG L v d ∨ owG L v d < -2 → chk1 L n v d = 9) := Lib.hid (fun a => by rw [CF, if_pos a])
      clear CF
      generalize owG L v d = y2 at *
      generalize nxG L x d2 = y3 at *
      generalize owG L x d2 = y4 at *
      by_cases t1 : y3 = v
      · have s1 : (y3 == (v : Int)) = true := by rw [beq_iff_eq]; exact t1
        have s1' : (y3 != (v : Int)) = false := by rw [bne, s1]; rfl
        by_cases t2 : y4 = y2
        · have s2 : (y4 == y2) = true := by rw [beq_iff_eq]; exact t2
          have s2' : (y4 != y2) = false := by rw [bne, s2]; rfl
          by_cases t3 : -2 ≤ y2
          · have s3 : decide (y2 < -2) = false := by rw [decide_eq_false_iff_not]; omega
            have E := Lib.hid (NF.out t1 t2 t3)
            clear t1 t2 t3 NF EF
            go_enter Try.func36, Try.ntmps36
            go_wp2_with fail
            go_quiet (fail)
            go_wp2_with (go_at_call 32; refine (CO.out _ hd).mono ?_; rintro e w' ⟨rfl, rfl⟩)
            go_ret
            exact ⟨ret_int E.out.symm, drewN_below (Below.refl _ _) _⟩
          · have s3 : decide (y2 < -2) = true := by rw [decide_eq_true_eq]; omega
            have E := Lib.hid (EF.out (by omega))
            clear t1 t2 t3 NF EF
            go_enter Try.func36, Try.ntmps36
            go_wp2_with fail
            go_quiet (fail)
            go_wp2_with (go_at_call 32; refine (CO.out _ hd).mono ?_; rintro e w' ⟨rfl, rfl⟩)
            go_ret
            exact ⟨ret_int E.out.symm, drewN_below (Below.refl _ _) _⟩
        · have s2 : (y4 == y2) = false := by rw [beq_eq_false_iff_ne]; exact t2
          have s2' : (y4 != y2) = true := by rw [bne, s2]; rfl
          have E := Lib.hid (EF.out (by omega))
          clear t1 t2 NF EF
          go_enter Try.func36, Try.ntmps36
          go_wp2_with fail
          go_quiet (fail)
          go_wp2_with (go_at_call 32; refine (CO.out _ hd).mono ?_; rintro e w' ⟨rfl, rfl⟩)
          go_ret
          exact ⟨ret_int E.out.symm, drewN_below (Below.refl _ _) _⟩
      · have s1 : (y3 == (v : Int)) = false := by rw [beq_eq_false_iff_ne]; exact t1
        have s1' : (y3 != (v : Int)) = true := by rw [bne, s1]; rfl
        have E := Lib.hid (EF.out (by omega))
        clear t1 NF EF
        go_enter Try.func36, Try.ntmps36
        go_wp2_with fail
        go_quiet (fail)
        go_wp2_with (go_at_call 32; refine (CO.out _ hd).mono ?_; rintro e w' ⟨rfl, rfl⟩)
        go_ret
        exact ⟨ret_int E.out.symm, drewN_below (Below.refl _ _) _⟩
set_option maxHeartbeats 8000000 in
set_option maxRecDepth 100000 in
theorem checkY (lv : Value) (L : List Int) (n : Nat) (w : World) (hL : CelAt w lv L n) (hn : n ≤ 100000) :
    Calls Try.prog 24 #[lv] w fun r w' => r = .returned (.int .i64 (chkG L n)) ∧ Below w.heap.size w w' := by
  have HL := Lib.hid hL
  obtain ⟨A0, c0, e⟩ := hL.form
  subst e
  clear hL
  by_cases hbig : 4096 < n
  · have E : Hid (chkG L n = 6) := Lib.hid (by unfold chkG; rw [if_pos hbig])
    have p0 : decide ((4096 : Int) < (n : Int)) = true := by rw [decide_eq_true_eq]; omega
    have p1 : decide (4096 < n) = true := by rw [decide_eq_true_eq]; omega
    clear hbig
    go_enter Try.func24, Try.ntmps24
    go_wp2
    go_ret
    exact ⟨ret_int E.out.symm, Below.refl _ _⟩
  · have hsm : n ≤ 4096 := by omega
    have p0 : decide ((4096 : Int) < (n : Int)) = false := by rw [decide_eq_false_iff_not]; omega
    have p1 : decide (4096 < n) = false := by rw [decide_eq_false_iff_not]; omega
    clear hbig hn
    go_enter Try.func24, Try.ntmps24
    go_wp2
    go_loopw [12] (fun iv wr => RcRel L n w wr iv) (fun iv _ => n - (intOf iv).toNat)
    case atStart => exact ⟨0, rfl, Nat.zero_le _, fun j hj => absurd hj (by omega), Below.refl _ _⟩
    case round =>
      obtain ⟨v, rfl, hv, hG, hB⟩ := hrel
      have G := Lib.hid hG
      have B := Lib.hid hB
      clear hG hB
      obtain ⟨wo, hwo⟩ : ∃ W, W = wr := ⟨_, rfl⟩
      subst hwo
      by_cases hlt : v < n
      · have q1 : decide (v < n) = true := by rw [decide_eq_true_eq]; exact hlt
        obtain ⟨b, o9, c', e, hb, -, -⟩ := HL.out.nth hlt
        simp only [Value.slice.injEq, true_and] at e
        obtain ⟨rfl, rfl⟩ := e
        have HN := HL.out.below B.out (Nat.le_refl _)
        have f0 := (HN.at2 hlt (e := 0) (by decide)).1
        have f1 := (HN.at2 hlt (e := 1) (by decide)).1
        have f2 := (HN.at2 hlt (e := 2) (by decide)).1
        have f3 := (HN.at2 hlt (e := 3) (by decide)).1
        have f4 := (HN.at2 hlt (e := 0) (by decide)).2
        have f5 := (HN.at2 hlt (e := 1) (by decide)).2
        have f6 := (HN.at2 hlt (e := 2) (by decide)).2
        have f7 := (HN.at2 hlt (e := 3) (by decide)).2
        simp only [Nat.add_zero, Nat.add_assoc, Nat.reduceAdd] at f0 f1 f2 f3 f4 f5 f6 f7
        simp only [← Nat.add_assoc] at f0 f1 f2 f3 f4 f5 f6 f7
        clear HN
        generalize nxG L v 0 = y0 at *
        generalize nxG L v 1 = y1 at *
        generalize nxG L v 2 = y2 at *
        generalize nxG L v 3 = y3 at *
        generalize owG L v 0 = y4 at *
        generalize owG L v 1 = y5 at *
        generalize owG L v 2 = y6 at *
        generalize owG L v 3 = y7 at *
        go_wp2_with fail
        clear f0 f1 f2 f3 f4 f5 f6 f7 hb
        go_loopw [17] (fun iv wr2 => RcIn L n v w wr2 iv) (fun iv _ => 4 - (intOf iv).toNat)
        case atStart =>
          exact ⟨0, rfl, Nat.zero_le _, G.out, B.out.alloc B.out.size _⟩
        case round =>
          clear G B
          obtain ⟨d, rfl, hd, hG, hB⟩ := hrel
          have G := Lib.hid hG
          have B := Lib.hid hB
          clear hG hB
          by_cases hd4 : d < 4
          · have q2 : decide (d < 4) = true := by rw [decide_eq_true_eq]; exact hd4
            have q3 : decide ((d : Int) < 4) = true := by rw [decide_eq_true_eq]; omega
            have SI := Lib.hid (sideY _ L n v d wr (HL.out.below B.out (Nat.le_refl _)) hlt hd4)
            by_cases hz : chk1 L n v d = 0
            · have GN := Lib.hid (chk_more hd4 G.out hz)
              rw [hz] at SI
              clear hz
              go_wp2_with (go_at_call 36; refine SI.out.mono ?_; rintro e w1 ⟨rfl, b1⟩; have B1 := Lib.hid b1; clear b1)
              go_roundw
              case rel => exact ⟨d + 1, by go_num, by omega, GN.out, B.out.trans (B1.out.mono B.out.size)⟩
              case measure => (simp [intOf] <;> omega)
            · have E := Lib.hid (chk_first hsm hlt hd4 G.out hz)
              have q4 : (chk1 L n v d == 0) = false := by rw [beq_eq_false_iff_ne]; exact hz
              have q5 : (chk1 L n v d != 0) = true := by rw [bne, q4]; rfl
              clear hz
              generalize chk1 L n v d = cv at *
              go_wp2_with (go_at_call 36; refine SI.out.mono ?_; rintro e w1 ⟨rfl, b1⟩; have B1 := Lib.hid b1; clear b1)
              go_ret
              exact ⟨ret_int E.out.symm, B.out.trans (B1.out.mono B.out.size)⟩
          · have hd5 : d = 4 := by omega
            subst hd5
            go_wp2_with fail
            go_roundw
            case rel => exact ⟨v + 1, by go_num, by omega, fun j hj => G.out j (by omega), B.out⟩
            case measure => (simp [intOf] <;> omega)
      · have hvn : v = n := by omega
        subst hvn
        have E : Hid (chkG L v = 0) := Lib.hid (chk_all hsm G.out)
        have q1 : decide (v < v) = false := by rw [decide_eq_false_iff_not]; exact hlt
        go_wp2_with fail
        go_ret
        exact ⟨ret_int E.out.symm, B.out⟩
/-- What Of answers of cells that may be: a grid of its own. -/
theorem ofY (lv : Value) (L : List Int) (n : Nat) (w : World) (hL : CelAt w lv L n) (hn : n ≤ 100000) (h0 : chkG L n = 0) :
    Calls Try.prog 23 #[lv] w (MadeG L n w) := by
  have CK := checkY lv L n w hL hn
  rw [h0] at CK
  have CY := Lib.hid CK
  have HL := Lib.hid hL
  clear CK h0 hL
  go_enter Try.func23, Try.ntmps23
  go_wp2_with (first | (go_at_call 33; refine (copiedY _ L n _ (HL.out.below B1.out (Nat.le_refl _)) hn).mono ?_; rintro e w2 ⟨A2, c2, rfl, o2, b2⟩; have O2 := Lib.hid o2; have B2 := Lib.hid b2; clear o2 b2) | (go_at_call 24; refine CY.out.mono ?_; rintro e w1 ⟨rfl, b1⟩; have B1 := Lib.hid b1; clear b1))
  go_ret2
  have hs1 := B1.out.size
  have hs2 := B2.out.size
  have hr : OwnG (w2.alloc (.cells #[.slice A2 n c2] 69)) w1.heap.size (.slice A2 n c2) L n := O2.out.below ((Below.refl _ _).alloc (Nat.le_refl _) _) (Nat.le_refl _)
  have hlt : ∀ b, (Value.slice A2 n c2).ownBlock = some b → w1.heap.size ≤ b ∧ b < w2.heap.size := fun b hb => World.ownsRow.lt O2.out b hb
  refine ⟨w2.heap.size, .slice A2 n c2, rfl, ⟨heap_alloc_new w2 _, hr.base (Nat.zero_le _), fun e => by have := hlt _ e; omega⟩, ?_, (B1.out.trans (B2.out.mono hs1)).alloc (by omega) _⟩
  rintro b (rfl | hb)
  · omega
  · have := hlt b hb; omega
theorem ofN (lv : Value) (L : List Int) (n : Nat) (w : World) (hL : CelAt w lv L n) (hn : n ≤ 100000) (h0 : chkG L n ≠ 0) :
    Calls Try.prog 23 #[lv] w fun e w' => e = .returned (.tuple #[.pointer none, .int .i64 (chkG L n)]) ∧ Below w.heap.size w w' := by
  have CK := checkY lv L n w hL hn
  have q4 : (chkG L n == 0) = false := by rw [beq_eq_false_iff_ne]; exact h0
  have q5 : (chkG L n != 0) = true := by rw [bne, q4]; rfl
  have CY := Lib.hid CK
  clear CK h0 hL
  generalize chkG L n = cv at *
  go_enter Try.func23, Try.ntmps23
  go_wp2_with (go_at_call 24; refine CY.out.mono ?_; rintro e w1 ⟨rfl, b1⟩; have B1 := Lib.hid b1; clear b1)
  go_ret2
  exact ⟨rfl, B1.out⟩
end Go.Proofs.Ytkgknbjcllcndaa
