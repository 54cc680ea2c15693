/-
  The row of points of the reference's Make; what its Nearest answers. Conditions: at most 100000 cells.
-/
import Derived.Test.YtkgknbjcllcndaaGrA
import Derived.Deep.QuietTactic
import Derived.BigQuiet
namespace Go.Proofs.Ytkgknbjcllcndaa
open Go.RowKit Go.Proofs.Ytkgknbjcllcndaa.GrM

/-- Points, to be read. -/
def PtsAt (w : World) (v : Value) (P : List (Int × Int)) : Prop :=
  ∃ A cap, v = .slice A P.length cap ∧ P.length ≤ cap ∧ (0 < P.length → ∃ b o, A = some ⟨b, o, none⟩ ∧ b < w.heap.size ∧ ∀ k, k < P.length → w.cell? ⟨b, o + k * 2, none⟩ = some (.int .i64 (P.getD k (0, 0)).1) ∧ w.cell? ⟨b, o + k * 2 + 1, none⟩ = some (.int .i64 (P.getD k (0, 0)).2))
theorem PtsAt.below {C : Nat} {w w' : World} {v : Value} {P : List (Int × Int)} (h : PtsAt w v P) (hb : Below C w w') (hC : w.heap.size ≤ C) : PtsAt w' v P := by
  obtain ⟨A, cap, rfl, hc, hA⟩ := h
  refine ⟨A, cap, rfl, hc, fun h0 => ?_⟩
  obtain ⟨b, o, e, hlt, h⟩ := hA h0
  refine ⟨b, o, e, Nat.lt_of_lt_of_le hlt hb.size, fun k hk => ?_⟩
  rw [hb.cell (p := ⟨b, o + k * 2, none⟩) (Nat.lt_of_lt_of_le hlt hC), hb.cell (p := ⟨b, o + k * 2 + 1, none⟩) (Nat.lt_of_lt_of_le hlt hC)]
  exact h k hk
theorem drewN_below {B : Nat} {a w : World} (h : Below B a w) (n : Nat) : Below B a (w.drewN n) := h.trans ⟨rfl, rfl, rfl, Nat.le_refl _, fun _ _ => rfl⟩
theorem near_keep {P : List (Int × Int)} {i d m : Nat} {q : Int} (hq : nearK P i d m = q) (h : ¬ (ahP P i d m = true ∧ (q < 0 ∨ alP P d m < alP P d q.toNat))) : nearK P i d (m + 1) = q := by
  rw [nearK, hq, if_neg h]
theorem near_take {P : List (Int × Int)} {i d m : Nat} {q : Int} (hq : nearK P i d m = q) (h : ahP P i d m = true ∧ (q < 0 ∨ alP P d m < alP P d q.toNat)) : nearK P i d (m + 1) = m := by
  rw [nearK, hq, if_pos h]
def RnkRel (P : List (Int × Int)) (i d : Nat) (w wr : World) (bv kv : Value) : Prop := ∃ k : Nat, kv = .int .i64 k ∧ k ≤ P.length ∧ bv = .int .i64 (nearK P i d k) ∧ Below w.heap.size w wr

set_option maxHeartbeats 16000000 in
set_option maxRecDepth 100000 in
theorem refNearest0 (pv : Value) (P : List (Int × Int)) (i : Nat) (w : World) (hP : PtsAt w pv P) (hi : i < P.length) (hn : P.length ≤ 100000) :
    Calls Try.prog 34 #[pv, .int .i64 i, .int .i64 0] w fun r w' => r = .returned (.int .i64 (nearP P i 0)) ∧ Below w.heap.size w w' := by
  obtain ⟨A0, c0, e, hcap, hA⟩ := hP
  subst e
  obtain ⟨b, o9, e, hb, hA2⟩ := hA (by omega)
  clear hA
  subst e
  have hA := hA2
  clear hA2
  have HA := Lib.hid hA
  have NP : Hid (nearP P i 0 = nearK P i 0 P.length) := Lib.hid rfl
  obtain ⟨hxi, hyi⟩ := hA i hi
  obtain ⟨n, hnn⟩ : ∃ n, P.length = n := ⟨_, rfl⟩
  have HN := Lib.hid hnn
  rw [hnn] at hi hn hcap ⊢
  clear hA hnn
  go_enter Try.func34, Try.ntmps34
  go_wp2
  go_loopw [7, 8] (fun bv kv wr => RnkRel P i 0 w wr bv kv) (fun _ kv _ => n - (intOf kv).toNat)
  case atStart => exact ⟨0, rfl, Nat.zero_le _, rfl, Below.refl _ _⟩
  case round =>
    obtain ⟨k, rfl, hk, rfl, hB⟩ := hrel
    rw [HN.out] at hk
    have B := Lib.hid hB
    clear hB
    by_cases hlt : k < n
    · obtain ⟨hxk, hyk⟩ := HA.out k (by rw [HN.out]; exact hlt)
      have fxk := (B.out.cell (p := ⟨b, o9 + k * 2, none⟩) hb).trans hxk
      have fyk := (B.out.cell (p := ⟨b, o9 + k * 2 + 1, none⟩) hb).trans hyk
      have fxi := (B.out.cell (p := ⟨b, o9 + i * 2, none⟩) hb).trans hxi
      have fyi := (B.out.cell (p := ⟨b, o9 + i * 2 + 1, none⟩) hb).trans hyi
      have z1 := Nat.lt_of_lt_of_le hb B.out.size
      have hAH : ahP P i 0 k = true ↔ acP P 0 k = acP P 0 i ∧ alP P 0 i < alP P 0 k := ahP_iff
      have cx : acP P 0 k = (P.getD k (0, 0)).2 ∧ acP P 0 i = (P.getD i (0, 0)).2 ∧ alP P 0 i = (P.getD i (0, 0)).1 ∧ alP P 0 k = (P.getD k (0, 0)).1 := ⟨rfl, rfl, rfl, rfl⟩
      rw [cx.1, cx.2.1, cx.2.2.1, cx.2.2.2] at hAH
      obtain ⟨q, hq⟩ : ∃ q, nearK P i 0 k = q := ⟨_, rfl⟩
      have KP : Hid (¬ (ahP P i 0 k = true ∧ (q < 0 ∨ (P.getD k (0, 0)).1 < alP P 0 q.toNat)) → nearK P i 0 (k + 1) = q) := Lib.hid (near_keep hq)
      have TK : Hid ((ahP P i 0 k = true ∧ (q < 0 ∨ (P.getD k (0, 0)).1 < alP P 0 q.toNat)) → nearK P i 0 (k + 1) = k) := Lib.hid (near_take hq)
      have RG : q = -1 ∨ ∃ j : Nat, q = j ∧ j < n := by
        rcases near_is P i 0 k with ⟨h, _⟩ | ⟨j, hj, h, _⟩
        · left; rw [← hq, h]
        · right; exact ⟨j, by rw [← hq, h], by omega⟩
      rw [hq]
      clear hq cx hxk hyk
      clear hxi hyi
      generalize (P.getD k (0, 0)).1 = xk at *
      generalize (P.getD k (0, 0)).2 = yk at *
      generalize (P.getD i (0, 0)).1 = xi at *
      generalize (P.getD i (0, 0)).2 = yi at *
      by_cases g1 : yk = yi
      · have p1 : (yk == yi) = true := by rw [beq_iff_eq]; exact g1
        by_cases g2 : xi < xk
        · have p2 : decide (xi < xk) = true := by rw [decide_eq_true_eq]; exact g2
          have ah := hAH.2 ⟨g1, g2⟩
          rcases RG with rfl | ⟨j, rfl, hj⟩
          · have NX := Lib.hid (TK.out ⟨ah, Or.inl (by decide)⟩)
            clear KP TK hAH ah g1 g2
            go_wp2
            go_quiet (fail)
            go_wp2
            go_quiet (fail)
            go_wp2
            go_roundw
            case rel => exact ⟨k + 1, by go_num, by rw [HN.out]; omega, by rw [NX.out], (by first | exact drewN_below B.out _ | exact drewN_below (drewN_below B.out _) _ | exact B.out)⟩
            case measure => (simp [intOf] <;> omega)
          · have hj0 : ¬ ((j : Int) < 0) := by omega
            have p3 : decide ((j : Int) < 0) = false := by rw [decide_eq_false_iff_not]; exact hj0
            obtain ⟨hxj, hyj⟩ := HA.out j (by rw [HN.out]; exact hj)
            have fxj := (B.out.cell (p := ⟨b, o9 + j * 2, none⟩) hb).trans hxj
            have fyj := (B.out.cell (p := ⟨b, o9 + j * 2 + 1, none⟩) hb).trans hyj
            rw [Int.toNat_natCast] at KP TK
            rw [show alP P 0 j = (P.getD j (0, 0)).1 from rfl] at KP TK
            clear hxj hyj
            generalize (P.getD j (0, 0)).1 = xj at *
            generalize (P.getD j (0, 0)).2 = yj at *
            by_cases g4 : xk < xj
            · have p4 : decide (xk < xj) = true := by rw [decide_eq_true_eq]; exact g4
              have NX := Lib.hid (TK.out ⟨ah, Or.inr g4⟩)
              clear KP TK hAH ah g1 g2 g4 hj0
              go_wp2
              go_quiet (fail)
              go_wp2
              go_quiet (fail)
              go_wp2
              go_roundw
              case rel => exact ⟨k + 1, by go_num, by rw [HN.out]; omega, by rw [NX.out], (by first | exact drewN_below B.out _ | exact drewN_below (drewN_below B.out _) _ | exact B.out)⟩
              case measure => (simp [intOf] <;> omega)
            · have p4 : decide (xk < xj) = false := by rw [decide_eq_false_iff_not]; exact g4
              have NX := Lib.hid (KP.out (fun a => a.2.elim hj0 g4))
              clear KP TK hAH ah g1 g2 g4 hj0
              go_wp2
              go_quiet (fail)
              go_wp2
              go_quiet (fail)
              go_wp2
              go_roundw
              case rel => exact ⟨k + 1, by go_num, by rw [HN.out]; omega, by rw [NX.out], (by first | exact drewN_below B.out _ | exact drewN_below (drewN_below B.out _) _ | exact B.out)⟩
              case measure => (simp [intOf] <;> omega)
        · have p2 : decide (xi < xk) = false := by rw [decide_eq_false_iff_not]; exact g2
          have NX := Lib.hid (KP.out (fun a => g2 (hAH.1 a.1).2))
          clear KP TK hAH g1 g2 RG
          go_wp2
          go_quiet (fail)
          go_wp2
          go_quiet (fail)
          go_wp2
          go_roundw
          case rel => exact ⟨k + 1, by go_num, by rw [HN.out]; omega, by rw [NX.out], (by first | exact drewN_below B.out _ | exact drewN_below (drewN_below B.out _) _ | exact B.out)⟩
          case measure => (simp [intOf] <;> omega)
      · have p1 : (yk == yi) = false := by rw [beq_eq_false_iff_ne]; exact g1
        have NX := Lib.hid (KP.out (fun a => g1 (hAH.1 a.1).1))
        clear KP TK hAH g1 RG
        go_wp2
        go_quiet (fail)
        go_wp2
        go_quiet (fail)
        go_wp2
        go_roundw
        case rel => exact ⟨k + 1, by go_num, by rw [HN.out]; omega, by rw [NX.out], (by first | exact drewN_below B.out _ | exact drewN_below (drewN_below B.out _) _ | exact B.out)⟩
        case measure => (simp [intOf] <;> omega)
    · have hkn : k = n := by omega
      have NE : Hid (nearP P i 0 = nearK P i 0 k) := Lib.hid (by rw [NP.out, HN.out, hkn])
      go_wp2
      go_ret
      exact ⟨by rw [NE.out]; rfl, B.out⟩

set_option maxHeartbeats 16000000 in
set_option maxRecDepth 100000 in
theorem refNearest1 (pv : Value) (P : List (Int × Int)) (i : Nat) (w : World) (hP : PtsAt w pv P) (hi : i < P.length) (hn : P.length ≤ 100000) :
    Calls Try.prog 34 #[pv, .int .i64 i, .int .i64 1] w fun r w' => r = .returned (.int .i64 (nearP P i 1)) ∧ Below w.heap.size w w' := by
  obtain ⟨A0, c0, e, hcap, hA⟩ := hP
  subst e
  obtain ⟨b, o9, e, hb, hA2⟩ := hA (by omega)
  clear hA
  subst e
  have hA := hA2
  clear hA2
  have HA := Lib.hid hA
  have NP : Hid (nearP P i 1 = nearK P i 1 P.length) := Lib.hid rfl
  obtain ⟨hxi, hyi⟩ := hA i hi
  obtain ⟨n, hnn⟩ : ∃ n, P.length = n := ⟨_, rfl⟩
  have HN := Lib.hid hnn
  rw [hnn] at hi hn hcap ⊢
  clear hA hnn
  go_enter Try.func34, Try.ntmps34
  go_wp2
  go_loopw [7, 8] (fun bv kv wr => RnkRel P i 1 w wr bv kv) (fun _ kv _ => n - (intOf kv).toNat)
  case atStart => exact ⟨0, rfl, Nat.zero_le _, rfl, Below.refl _ _⟩
  case round =>
    obtain ⟨k, rfl, hk, rfl, hB⟩ := hrel
    rw [HN.out] at hk
    have B := Lib.hid hB
    clear hB
    by_cases hlt : k < n
    · obtain ⟨hxk, hyk⟩ := HA.out k (by rw [HN.out]; exact hlt)
      have fxk := (B.out.cell (p := ⟨b, o9 + k * 2, none⟩) hb).trans hxk
      have fyk := (B.out.cell (p := ⟨b, o9 + k * 2 + 1, none⟩) hb).trans hyk
      have fxi := (B.out.cell (p := ⟨b, o9 + i * 2, none⟩) hb).trans hxi
      have fyi := (B.out.cell (p := ⟨b, o9 + i * 2 + 1, none⟩) hb).trans hyi
      have z1 := Nat.lt_of_lt_of_le hb B.out.size
      have hAH : ahP P i 1 k = true ↔ acP P 1 k = acP P 1 i ∧ alP P 1 i < alP P 1 k := ahP_iff
      have cx : acP P 1 k = (P.getD k (0, 0)).1 ∧ acP P 1 i = (P.getD i (0, 0)).1 ∧ alP P 1 i = (P.getD i (0, 0)).2 ∧ alP P 1 k = (P.getD k (0, 0)).2 := ⟨rfl, rfl, rfl, rfl⟩
      rw [cx.1, cx.2.1, cx.2.2.1, cx.2.2.2] at hAH
      obtain ⟨q, hq⟩ : ∃ q, nearK P i 1 k = q := ⟨_, rfl⟩
      have KP : Hid (¬ (ahP P i 1 k = true ∧ (q < 0 ∨ (P.getD k (0, 0)).2 < alP P 1 q.toNat)) → nearK P i 1 (k + 1) = q) := Lib.hid (near_keep hq)
      have TK : Hid ((ahP P i 1 k = true ∧ (q < 0 ∨ (P.getD k (0, 0)).2 < alP P 1 q.toNat)) → nearK P i 1 (k + 1) = k) := Lib.hid (near_take hq)
      have RG : q = -1 ∨ ∃ j : Nat, q = j ∧ j < n := by
        rcases near_is P i 1 k with ⟨h, _⟩ | ⟨j, hj, h, _⟩
        · left; rw [← hq, h]
        · right; exact ⟨j, by rw [← hq, h], by omega⟩
      rw [hq]
      clear hq cx hxk hyk
      clear hxi hyi
      generalize (P.getD k (0, 0)).1 = xk at *
      generalize (P.getD k (0, 0)).2 = yk at *
      generalize (P.getD i (0, 0)).1 = xi at *
      generalize (P.getD i (0, 0)).2 = yi at *
      by_cases g1 : xk = xi
      · have p1 : (xk == xi) = true := by rw [beq_iff_eq]; exact g1
        by_cases g2 : yi < yk
        · have p2 : decide (yi < yk) = true := by rw [decide_eq_true_eq]; exact g2
          have ah := hAH.2 ⟨g1, g2⟩
          rcases RG with rfl | ⟨j, rfl, hj⟩
          · have NX := Lib.hid (TK.out ⟨ah, Or.inl (by decide)⟩)
            clear KP TK hAH ah g1 g2
            go_wp2
            go_quiet (fail)
            go_wp2
            go_quiet (fail)
            go_wp2
            go_roundw
            case rel => exact ⟨k + 1, by go_num, by rw [HN.out]; omega, by rw [NX.out], (by first | exact drewN_below B.out _ | exact drewN_below (drewN_below B.out _) _ | exact B.out)⟩
            case measure => (simp [intOf] <;> omega)
          · have hj0 : ¬ ((j : Int) < 0) := by omega
            have p3 : decide ((j : Int) < 0) = false := by rw [decide_eq_false_iff_not]; exact hj0
            obtain ⟨hxj, hyj⟩ := HA.out j (by rw [HN.out]; exact hj)
            have fxj := (B.out.cell (p := ⟨b, o9 + j * 2, none⟩) hb).trans hxj
            have fyj := (B.out.cell (p := ⟨b, o9 + j * 2 + 1, none⟩) hb).trans hyj
            rw [Int.toNat_natCast] at KP TK
            rw [show alP P 1 j = (P.getD j (0, 0)).2 from rfl] at KP TK
            clear hxj hyj
            generalize (P.getD j (0, 0)).1 = xj at *
            generalize (P.getD j (0, 0)).2 = yj at *
            by_cases g4 : yk < yj
            · have p4 : decide (yk < yj) = true := by rw [decide_eq_true_eq]; exact g4
              have NX := Lib.hid (TK.out ⟨ah, Or.inr g4⟩)
              clear KP TK hAH ah g1 g2 g4 hj0
              go_wp2
              go_quiet (fail)
              go_wp2
              go_quiet (fail)
              go_wp2
              go_roundw
              case rel => exact ⟨k + 1, by go_num, by rw [HN.out]; omega, by rw [NX.out], (by first | exact drewN_below B.out _ | exact drewN_below (drewN_below B.out _) _ | exact B.out)⟩
              case measure => (simp [intOf] <;> omega)
            · have p4 : decide (yk < yj) = false := by rw [decide_eq_false_iff_not]; exact g4
              have NX := Lib.hid (KP.out (fun a => a.2.elim hj0 g4))
              clear KP TK hAH ah g1 g2 g4 hj0
              go_wp2
              go_quiet (fail)
              go_wp2
              go_quiet (fail)
              go_wp2
              go_roundw
              case rel => exact ⟨k + 1, by go_num, by rw [HN.out]; omega, by rw [NX.out], (by first | exact drewN_below B.out _ | exact drewN_below (drewN_below B.out _) _ | exact B.out)⟩
              case measure => (simp [intOf] <;> omega)
        · have p2 : decide (yi < yk) = false := by rw [decide_eq_false_iff_not]; exact g2
          have NX := Lib.hid (KP.out (fun a => g2 (hAH.1 a.1).2))
          clear KP TK hAH g1 g2 RG
          go_wp2
          go_quiet (fail)
          go_wp2
          go_quiet (fail)
          go_wp2
          go_roundw
          case rel => exact ⟨k + 1, by go_num, by rw [HN.out]; omega, by rw [NX.out], (by first | exact drewN_below B.out _ | exact drewN_below (drewN_below B.out _) _ | exact B.out)⟩
          case measure => (simp [intOf] <;> omega)
      · have p1 : (xk == xi) = false := by rw [beq_eq_false_iff_ne]; exact g1
        have NX := Lib.hid (KP.out (fun a => g1 (hAH.1 a.1).1))
        clear KP TK hAH g1 RG
        go_wp2
        go_quiet (fail)
        go_wp2
        go_quiet (fail)
        go_wp2
        go_roundw
        case rel => exact ⟨k + 1, by go_num, by rw [HN.out]; omega, by rw [NX.out], (by first | exact drewN_below B.out _ | exact drewN_below (drewN_below B.out _) _ | exact B.out)⟩
        case measure => (simp [intOf] <;> omega)
    · have hkn : k = n := by omega
      have NE : Hid (nearP P i 1 = nearK P i 1 k) := Lib.hid (by rw [NP.out, HN.out, hkn])
      go_wp2
      go_ret
      exact ⟨by rw [NE.out]; rfl, B.out⟩
end Go.Proofs.Ytkgknbjcllcndaa
