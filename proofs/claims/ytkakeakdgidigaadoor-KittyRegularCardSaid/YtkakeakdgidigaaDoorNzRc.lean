/-
  What the reference's Check answers. Conditions: at most 100000 cells.
  The row of points of the reference's Make; what its Nearest answers. Conditions: at most 100000 cells.
-/
import Derived.Test.YtkakeakdgidigaaDoorNzRa
import Derived.Deep.QuietTactic
import Derived.BigQuiet
namespace Go.Proofs.YtkakeakdgidigaaDoor
open Go.RowKit Go.Proofs.YtkakeakdgidigaaDoor.GrM

theorem bad_first {f : Nat → Int} : ∀ {m k j : Nat}, k ≤ j → j < k + m → (∀ i, k ≤ i → i < j → f i = 0) → f j ≠ 0 → firstBad f m k = f j
  | 0, k, j, h1, h2, _, _ => by omega
  | m + 1, k, j, h1, h2, g, hne => by
    rw [firstBad]
    by_cases e : k = j
    · subst e; rw [if_pos hne]
    · rw [if_neg (by simpa using g k (Nat.le_refl _) (by omega))]
      exact bad_first (by omega) (by omega) (fun i a b => g i (by omega) b) hne
theorem chk_all {L : List Int} {n : Nat} (h : n ≤ 4096) (g : ∀ j, j < 4 * n → chkP L n j = 0) : chkG L n = 0 := by
  unfold chkG
  rw [if_neg (by omega), bad_none]
  exact fun j _ h2 => g j (by omega)
theorem chk_first {L : List Int} {n v d : Nat} (h : n ≤ 4096) (hv : v < n) (hd : d < 4) (g : ∀ j, j < 4 * v + d → chkP L n j = 0) (hne : chk1 L n v d ≠ 0) : chkG L n = chk1 L n v d := by
  have e : chkP L n (4 * v + d) = chk1 L n v d := by
    unfold chkP
    rw [show (4 * v + d) / 4 = v by omega, show (4 * v + d) % 4 = d by omega]
  unfold chkG
  rw [if_neg (by omega), bad_first (j := 4 * v + d) (Nat.zero_le _) (by omega) (fun i _ h2 => g i h2) (by rw [e]; exact hne), e]
theorem chk_more {L : List Int} {n v d : Nat} (hd : d < 4) (g : ∀ j, j < 4 * v + d → chkP L n j = 0) (he : chk1 L n v d = 0) : ∀ j, j < 4 * v + (d + 1) → chkP L n j = 0 := by
  intro j hj
  by_cases e : j = 4 * v + d
  · subst e
    unfold chkP
    rw [show (4 * v + d) / 4 = v by omega, show (4 * v + d) % 4 = d by omega]
    exact he
  · exact g j (by omega)
theorem chk_free {L : List Int} {n v d : Nat} (h : nxG L v d = -1) (h0 : owG L v d = 0) : chk1 L n v d = 0 := by
  unfold chk1; rw [if_pos h, if_pos h0]
theorem chk_owned {L : List Int} {n v d : Nat} (h : nxG L v d = -1) (h0 : owG L v d ≠ 0) : chk1 L n v d = 9 := by
  unfold chk1; rw [if_pos h, if_neg h0]
theorem chk_out {L : List Int} {n v d : Nat} (h : nxG L v d ≠ -1) (h0 : nxG L v d < 0 ∨ (n : Int) ≤ nxG L v d ∨ nxG L v d = v) : chk1 L n v d = 3 := by
  unfold chk1; rw [if_neg h, if_pos h0]
theorem chk_far {L : List Int} {n v d x : Nat} (h : nxG L v d = (x : Int)) (hx : x < n) (hne : x ≠ v) : chk1 L n v d = if nxG L x (opp d) ≠ v ∨ owG L x (opp d) ≠ owG L v d ∨ owG L v d < -2 then 9 else 0 := by
  unfold chk1
  rw [h, if_neg (by omega), if_neg (by omega), Int.toNat_natCast]

def RcRel (L : List Int) (n : Nat) (w wr : World) (iv : Value) : Prop := ∃ k : Nat, iv = .int .i64 k ∧ k ≤ n ∧ (∀ j, j < 4 * k → chkP L n j = 0) ∧ Below w.heap.size w wr
def RcIn (L : List Int) (n v : Nat) (w wr : World) (iv : Value) : Prop := ∃ d : Nat, iv = .int .i64 d ∧ d ≤ 4 ∧ (∀ j, j < 4 * v + d → chkP L n j = 0) ∧ Below w.heap.size w wr
set_option maxHeartbeats 16000000 in
set_option maxRecDepth 100000 in
theorem refCheckG (lv : Value) (L : List Int) (n : Nat) (w : World) (hL : CelAt w lv L n) (hn : n ≤ 100000) :
    Calls Tryd.prog 20 #[lv] w fun r w' => r = .returned (.int .i64 (chkG L n)) ∧ Below w.heap.size w w' := by
  have HL := Lib.hid hL
  obtain ⟨A0, c0, e⟩ := hL.form
  subst e
  clear hL
  by_cases hbig : 4096 < n
  · have E : Hid (chkG L n = 6) := Lib.hid (by unfold chkG; rw [if_pos hbig])
    have p0 : decide ((4096 : Int) < (n : Int)) = true := by rw [decide_eq_true_eq]; omega
    have p1 : decide (4096 < n) = true := by rw [decide_eq_true_eq]; omega
    clear hbig
    go_enter Tryd.func20, Tryd.ntmps20
    go_wp2
    go_ret
    exact ⟨by rw [E.out]; rfl, Below.refl _ _⟩
  · have hsm : n ≤ 4096 := by omega
    have p0 : decide ((4096 : Int) < (n : Int)) = false := by rw [decide_eq_false_iff_not]; omega
    have p1 : decide (4096 < n) = false := by rw [decide_eq_false_iff_not]; omega
    clear hbig hn
    go_enter Tryd.func20, Tryd.ntmps20
    go_wp2
    go_loopw [3] (fun iv wr => RcRel L n w wr iv) (fun iv _ => n - (intOf iv).toNat)
    case atStart => exact ⟨0, rfl, Nat.zero_le _, fun j hj => absurd hj (by omega), Below.refl _ _⟩
    case round =>
      obtain ⟨v, rfl, hv, hG, hB⟩ := hrel
      have G := Lib.hid hG
      have B := Lib.hid hB
      clear hG hB
      obtain ⟨wo, hwo⟩ : ∃ W, W = wr := ⟨_, rfl⟩
      subst hwo
      by_cases hlt : v < n
      · go_wp2
        go_loopw [4] (fun iv wr2 => RcIn L n v w wr2 iv) (fun iv _ => 4 - (intOf iv).toNat)
        case atStart => exact ⟨0, rfl, Nat.zero_le _, G.out, B.out⟩
        case round =>
          clear G B
          obtain ⟨d, rfl, hd, hG, hB⟩ := hrel
          have G := Lib.hid hG
          have B := Lib.hid hB
          clear hG hB
          by_cases hd4 : d < 4
          · obtain ⟨b, o9, c', e, hb, hx, hy⟩ := HL.out.nth hlt
            simp only [Value.slice.injEq, true_and] at e
            obtain ⟨e1, e2⟩ := e
            subst e1
            obtain ⟨cc, hcc⟩ : ∃ x, x = c0 := ⟨_, rfl⟩
            rw [← hcc] at HL ⊢
            clear e2 hcc
            have f1 : wr.cell? ⟨b, o9 + v * 8 + d, none⟩ = some (.int .i64 (nxG L v d)) := (B.out.cell (p := ⟨b, o9 + v * 8 + d, none⟩) hb).trans (hx d hd4)
            have f2 : wr.cell? ⟨b, o9 + v * 8 + 4 + d, none⟩ = some (.int .i64 (owG L v d)) := (B.out.cell (p := ⟨b, o9 + v * 8 + 4 + d, none⟩) hb).trans (hy d hd4)
            have z1 := Nat.lt_of_lt_of_le hb B.out.size
            have hxx : ∀ i, i < n → ∀ e, e < 4 → w.cell? ⟨b, o9 + i * 8 + e, none⟩ = some (.int .i64 (nxG L i e)) := by
              intro i hi e he
              obtain ⟨b', o', c', e', _, h1, _⟩ := HL.out.nth hi
              simp only [Value.slice.injEq, Option.some.injEq, Addr.mk.injEq, true_and, and_true] at e'
              obtain ⟨⟨rfl, rfl⟩, rfl⟩ := e'
              exact h1 e he
            have hxy : ∀ i, i < n → ∀ e, e < 4 → w.cell? ⟨b, o9 + i * 8 + 4 + e, none⟩ = some (.int .i64 (owG L i e)) := by
              intro i hi e he
              obtain ⟨b', o', c', e', _, _, h1⟩ := HL.out.nth hi
              simp only [Value.slice.injEq, Option.some.injEq, Addr.mk.injEq, true_and, and_true] at e'
              obtain ⟨⟨rfl, rfl⟩, rfl⟩ := e'
              exact h1 e he
            clear hx hy
            by_cases g1 : nxG L v d = -1
            · by_cases g2 : owG L v d = 0
              · have GN := Lib.hid (chk_more hd4 G.out (chk_free (n := n) g1 g2))
                rw [g1] at f1
                rw [g2] at f2
                clear g1 g2 hxx hxy
                go_wp2
                go_roundw
                case rel => exact ⟨d + 1, by go_num, by omega, GN.out, B.out⟩
                case measure => (simp [intOf] <;> omega)
              · have E : Hid (chkG L n = 9) := Lib.hid (by
                  have e := chk_owned (n := n) g1 g2
                  rw [chk_first hsm hlt hd4 G.out (by rw [e]; decide), e])
                rw [g1] at f1
                have q2 : (owG L v d == 0) = false := by rw [beq_eq_false_iff_ne]; exact g2
                have q3 : (owG L v d != 0) = true := by rw [bne, q2]; rfl
                clear g1 g2 hxx hxy
                generalize owG L v d = y2 at *
                go_wp2
                go_ret
                exact ⟨by rw [E.out]; rfl, B.out⟩
            · have r1 : (nxG L v d == -1) = false := by rw [beq_eq_false_iff_ne]; exact g1
              by_cases g3 : nxG L v d < 0 ∨ (n : Int) ≤ nxG L v d ∨ nxG L v d = v
              · have E : Hid (chkG L n = 3) := Lib.hid (by
                  have e := chk_out (n := n) g1 g3
                  rw [chk_first hsm hlt hd4 G.out (by rw [e]; decide), e])
                clear g1 hxx hxy
                generalize nxG L v d = y1 at *
                generalize owG L v d = y2 at *
                rcases Int.lt_or_le y1 0 with k1 | k1
                · have r2 : decide (y1 < 0) = true := by rw [decide_eq_true_eq]; exact k1
                  clear g3 k1
                  go_wp2
                  go_ret
                  exact ⟨by rw [E.out]; rfl, B.out⟩
                · have r2 : decide (y1 < 0) = false := by rw [decide_eq_false_iff_not]; omega
                  rcases Int.lt_or_le y1 n with k2 | k2
                  · have k3 : y1 = (v : Int) := by omega
                    have r3 : decide ((n : Int) ≤ y1) = false := by rw [decide_eq_false_iff_not]; omega
                    have r4 : (y1 == (v : Int)) = true := by rw [beq_iff_eq]; exact k3
                    clear g3 k1 k2 k3
                    go_wp2
                    go_ret
                    exact ⟨by rw [E.out]; rfl, B.out⟩
                  · have r3 : decide ((n : Int) ≤ y1) = true := by rw [decide_eq_true_eq]; exact k2
                    clear g3 k1 k2
                    go_wp2
                    go_ret
                    exact ⟨by rw [E.out]; rfl, B.out⟩
              · obtain ⟨x, hx⟩ : ∃ x : Nat, nxG L v d = (x : Int) := ⟨(nxG L v d).toNat, by omega⟩
                have hxn : x < n := by omega
                have hxv : x ≠ v := by omega
                have CF := chk_far hx hxn hxv
                rw [hx] at f1 r1
                have r2 : decide ((x : Int) < 0) = false := by rw [decide_eq_false_iff_not]; omega
                have r3 : decide ((n : Int) ≤ (x : Int)) = false := by rw [decide_eq_false_iff_not]; omega
                have r3' : decide (n ≤ x) = false := by rw [decide_eq_false_iff_not]; omega
                have r4 : ((x : Int) == (v : Int)) = false := by rw [beq_eq_false_iff_ne]; omega
                have f3 : wr.cell? ⟨b, o9 + x * 8 + opp d, none⟩ = some (.int .i64 (nxG L x (opp d))) := (B.out.cell (p := ⟨b, o9 + x * 8 + opp d, none⟩) hb).trans (hxx x hxn (opp d) (opp_lt d))
                have f4 : wr.cell? ⟨b, o9 + x * 8 + 4 + opp d, none⟩ = some (.int .i64 (owG L x (opp d))) := (B.out.cell (p := ⟨b, o9 + x * 8 + 4 + opp d, none⟩) hb).trans (hxy x hxn (opp d) (opp_lt d))
                have hm : ((d : Int) + 2) % 4 = ((opp d : Nat) : Int) := by unfold opp; omega
                have hm4 := opp_lt d
                clear g1 g3 hx hxv
                generalize opp d = d2 at *
                have NF : Hid (nxG L x d2 = v → owG L x d2 = owG L v d → -2 ≤ owG L v d → ∀ j, j < 4 * v + (d + 1) → chkP L n j = 0) := Lib.hid (fun a1 a2 a3 => chk_more hd4 G.out (by rw [CF, if_neg (by omega)]))
                have EF : Hid (nxG L x d2 ≠ v ∨ owG L x d2 ≠ owG L v d ∨ owG L v d < -2 → chkG L n = 9) := Lib.hid (fun a => by
                  rw [if_pos a] at CF
                  rw [chk_first hsm hlt hd4 G.out (by rw [CF]; decide), CF])
                clear CF hxx hxy
                generalize owG L v d = y2 at *
                generalize nxG L x d2 = y3 at *
                generalize owG L x d2 = y4 at *
                by_cases t1 : y3 = v
                · have s1 : (y3 == (v : Int)) = true := by rw [beq_iff_eq]; exact t1
                  have s1' : (y3 != (v : Int)) = false := by rw [bne, s1]; rfl
                  by_cases t2 : y4 = y2
                  · have s2 : (y4 == y2) = true := by rw [beq_iff_eq]; exact t2
                    have s2' : (y4 != y2) = false := by rw [bne, s2]; rfl
                    by_cases t3 : -2 ≤ y2
                    · have s3 : decide (y2 < -2) = false := by rw [decide_eq_false_iff_not]; omega
                      have GN := Lib.hid (NF.out t1 t2 t3)
                      clear t1 t2 t3 NF EF
                      go_wp2
                      go_roundw
                      case rel => exact ⟨d + 1, by go_num, by omega, GN.out, B.out⟩
                      case measure => (simp [intOf] <;> omega)
                    · have s3 : decide (y2 < -2) = true := by rw [decide_eq_true_eq]; omega
                      have E := Lib.hid (EF.out (by omega))
                      clear t1 t2 t3 NF EF
                      go_wp2
                      go_ret
                      exact ⟨by rw [E.out]; rfl, B.out⟩
                  · have s2 : (y4 == y2) = false := by rw [beq_eq_false_iff_ne]; exact t2
                    have s2' : (y4 != y2) = true := by rw [bne, s2]; rfl
                    have E := Lib.hid (EF.out (by omega))
                    clear t1 t2 NF EF
                    go_wp2
                    go_ret
                    exact ⟨by rw [E.out]; rfl, B.out⟩
                · have s1 : (y3 == (v : Int)) = false := by rw [beq_eq_false_iff_ne]; exact t1
                  have s1' : (y3 != (v : Int)) = true := by rw [bne, s1]; rfl
                  have E := Lib.hid (EF.out (by omega))
                  clear t1 NF EF
                  go_wp2
                  go_ret
                  exact ⟨by rw [E.out]; rfl, B.out⟩
          · have hd5 : d = 4 := by omega
            subst hd5
            go_wp2
            go_roundw
            case rel => exact ⟨v + 1, by go_num, by omega, fun j hj => G.out j (by omega), B.out⟩
            case measure => (simp [intOf] <;> omega)
      · have hvn : v = n := by omega
        subst hvn
        have E : Hid (chkG L v = 0) := Lib.hid (chk_all hsm G.out)
        go_wp2
        go_ret
        exact ⟨by rw [E.out]; rfl, B.out⟩
end Go.Proofs.YtkakeakdgidigaaDoor

namespace Go.Proofs.YtkakeakdgidigaaDoor
open Go.RowKit Go.Proofs.YtkakeakdgidigaaDoor.GrM

/-- Points, to be read. -/
def PtsAt (w : World) (v : Value) (P : List (Int × Int)) : Prop :=
  ∃ A cap, v = .slice A P.length cap ∧ P.length ≤ cap ∧ (0 < P.length → ∃ b o, A = some ⟨b, o, none⟩ ∧ b < w.heap.size ∧ ∀ k, k < P.length → w.cell? ⟨b, o + k * 2, none⟩ = some (.int .i64 (P.getD k (0, 0)).1) ∧ w.cell? ⟨b, o + k * 2 + 1, none⟩ = some (.int .i64 (P.getD k (0, 0)).2))
theorem PtsAt.below {C : Nat} {w w' : World} {v : Value} {P : List (Int × Int)} (h : PtsAt w v P) (hb : Below C w w') (hC : w.heap.size ≤ C) : PtsAt w' v P := by
  obtain ⟨A, cap, rfl, hc, hA⟩ := h
  refine ⟨A, cap, rfl, hc, fun h0 => ?_⟩
  obtain ⟨b, o, e, hlt, h⟩ := hA h0
  refine ⟨b, o, e, Nat.lt_of_lt_of_le hlt hb.size, fun k hk => ?_⟩
  rw [hb.cell (p := ⟨b, o + k * 2, none⟩) (Nat.lt_of_lt_of_le hlt hC), hb.cell (p := ⟨b, o + k * 2 + 1, none⟩) (Nat.lt_of_lt_of_le hlt hC)]
  exact h k hk
theorem drewN_below {B : Nat} {a w : World} (h : Below B a w) (n : Nat) : Below B a (w.drewN n) := h.trans ⟨rfl, rfl, rfl, Nat.le_refl _, fun _ _ => rfl⟩
theorem near_keep {P : List (Int × Int)} {i d m : Nat} {q : Int} (hq : nearK P i d m = q) (h : ¬ (ahP P i d m = true ∧ (q < 0 ∨ alP P d m < alP P d q.toNat))) : nearK P i d (m + 1) = q := by
  rw [nearK, hq, if_neg h]
theorem near_take {P : List (Int × Int)} {i d m : Nat} {q : Int} (hq : nearK P i d m = q) (h : ahP P i d m = true ∧ (q < 0 ∨ alP P d m < alP P d q.toNat)) : nearK P i d (m + 1) = m := by
  rw [nearK, hq, if_pos h]
def RnkRel (P : List (Int × Int)) (i d : Nat) (w wr : World) (bv kv : Value) : Prop := ∃ k : Nat, kv = .int .i64 k ∧ k ≤ P.length ∧ bv = .int .i64 (nearK P i d k) ∧ Below w.heap.size w wr

set_option maxHeartbeats 16000000 in
set_option maxRecDepth 100000 in
theorem refNearest0 (pv : Value) (P : List (Int × Int)) (i : Nat) (w : World) (hP : PtsAt w pv P) (hi : i < P.length) (hn : P.length ≤ 100000) :
    Calls Tryd.prog 12 #[pv, .int .i64 i, .int .i64 0] w fun r w' => r = .returned (.int .i64 (nearP P i 0)) ∧ Below w.heap.size w w' := by
  obtain ⟨A0, c0, e, hcap, hA⟩ := hP
  subst e
  obtain ⟨b, o9, e, hb, hA2⟩ := hA (by omega)
  clear hA
  subst e
  have hA := hA2
  clear hA2
  have HA := Lib.hid hA
  have NP : Hid (nearP P i 0 = nearK P i 0 P.length) := Lib.hid rfl
  obtain ⟨hxi, hyi⟩ := hA i hi
  obtain ⟨n, hnn⟩ : ∃ n, P.length = n := ⟨_, rfl⟩
  have HN := Lib.hid hnn
  rw [hnn] at hi hn hcap ⊢
  clear hA hnn
  go_enter Tryd.func12, Tryd.ntmps12
  go_wp2
  go_loopw [7, 8] (fun bv kv wr => RnkRel P i 0 w wr bv kv) (fun _ kv _ => n - (intOf kv).toNat)
  case atStart => exact ⟨0, rfl, Nat.zero_le _, rfl, Below.refl _ _⟩
  case round =>
    obtain ⟨k, rfl, hk, rfl, hB⟩ := hrel
    rw [HN.out] at hk
    have B := Lib.hid hB
    clear hB
    by_cases hlt : k < n
    · obtain ⟨hxk, hyk⟩ := HA.out k (by rw [HN.out]; exact hlt)
      have fxk := (B.out.cell (p := ⟨b, o9 + k * 2, none⟩) hb).trans hxk
      have fyk := (B.out.cell (p := ⟨b, o9 + k * 2 + 1, none⟩) hb).trans hyk
      have fxi := (B.out.cell (p := ⟨b, o9 + i * 2, none⟩) hb).trans hxi
      have fyi := (B.out.cell (p := ⟨b, o9 + i * 2 + 1, none⟩) hb).trans hyi
      have z1 := Nat.lt_of_lt_of_le hb B.out.size
      have hAH : ahP P i 0 k = true ↔ acP P 0 k = acP P 0 i ∧ alP P 0 i < alP P 0 k := ahP_iff
      have cx : acP P 0 k = (P.getD k (0, 0)).2 ∧ acP P 0 i = (P.getD i (0, 0)).2 ∧ alP P 0 i = (P.getD i (0, 0)).1 ∧ alP P 0 k = (P.getD k (0, 0)).1 := ⟨rfl, rfl, rfl, rfl⟩
      rw [cx.1, cx.2.1, cx.2.2.1, cx.2.2.2] at hAH
      obtain ⟨q, hq⟩ : ∃ q, nearK P i 0 k = q := ⟨_, rfl⟩
      have KP : Hid (¬ (ahP P i 0 k = true ∧ (q < 0 ∨ (P.getD k (0, 0)).1 < alP P 0 q.toNat)) → nearK P i 0 (k + 1) = q) := Lib.hid (near_keep hq)
      have TK : Hid ((ahP P i 0 k = true ∧ (q < 0 ∨ (P.getD k (0, 0)).1 < alP P 0 q.toNat)) → nearK P i 0 (k + 1) = k) := Lib.hid (near_take hq)
      have RG : q = -1 ∨ ∃ j : Nat, q = j ∧ j < n := by
        rcases near_is P i 0 k with ⟨h, _⟩ | ⟨j, hj, h, _⟩
        · left; rw [← hq, h]
        · right; exact ⟨j, by rw [← hq, h], by omega⟩
      rw [hq]
      clear hq cx hxk hyk
      clear hxi hyi
      generalize (P.getD k (0, 0)).1 = xk at *
      generalize (P.getD k (0, 0)).2 = yk at *
      generalize (P.getD i (0, 0)).1 = xi at *
      generalize (P.getD i (0, 0)).2 = yi at *
      by_cases g1 : yk = yi
      · have p1 : (yk == yi) = true := by rw [beq_iff_eq]; exact g1
        by_cases g2 : xi < xk
        · have p2 : decide (xi < xk) = true := by rw [decide_eq_true_eq]; exact g2
          have ah := hAH.2 ⟨g1, g2⟩
          rcases RG with rfl | ⟨j, rfl, hj⟩
          · have NX := Lib.hid (TK.out ⟨ah, Or.inl (by decide)⟩)
            clear KP TK hAH ah g1 g2
            go_wp2
            go_quiet (fail)
            go_wp2
            go_quiet (fail)
            go_wp2
            go_roundw
            case rel => exact ⟨k + 1, by go_num, by rw [HN.out]; omega, by rw [NX.out], (by first | exact drewN_below B.out _ | exact drewN_below (drewN_below B.out _) _ | exact B.out)⟩
            case measure => (simp [intOf] <;> omega)
          · have hj0 : ¬ ((j : Int) < 0) := by omega
            have p3 : decide ((j : Int) < 0) = false := by rw [decide_eq_false_iff_not]; exact hj0
            obtain ⟨hxj, hyj⟩ := HA.out j (by rw [HN.out]; exact hj)
            have fxj := (B.out.cell (p := ⟨b, o9 + j * 2, none⟩) hb).trans hxj
            have fyj := (B.out.cell (p := ⟨b, o9 + j * 2 + 1, none⟩) hb).trans hyj
            rw [Int.toNat_natCast] at KP TK
            rw [show alP P 0 j = (P.getD j (0, 0)).1 from rfl] at KP TK
            clear hxj hyj
            generalize (P.getD j (0, 0)).1 = xj at *
            generalize (P.getD j (0, 0)).2 = yj at *
            by_cases g4 : xk < xj
            · have p4 : decide (xk < xj) = true := by rw [decide_eq_true_eq]; exact g4
              have NX := Lib.hid (TK.out ⟨ah, Or.inr g4⟩)
              clear KP TK hAH ah g1 g2 g4 hj0
              go_wp2
              go_quiet (fail)
              go_wp2
              go_quiet (fail)
              go_wp2
              go_roundw
              case rel => exact ⟨k + 1, by go_num, by rw [HN.out]; omega, by rw [NX.out], (by first | exact drewN_below B.out _ | exact drewN_below (drewN_below B.out _) _ | exact B.out)⟩
              case measure => (simp [intOf] <;> omega)
            · have p4 : decide (xk < xj) = false := by rw [decide_eq_false_iff_not]; exact g4
              have NX := Lib.hid (KP.out (fun a => a.2.elim hj0 g4))
              clear KP TK hAH ah g1 g2 g4 hj0
              go_wp2
              go_quiet (fail)
              go_wp2
              go_quiet (fail)
              go_wp2
              go_roundw
              case rel => exact ⟨k + 1, by go_num, by rw [HN.out]; omega, by rw [NX.out], (by first | exact drewN_below B.out _ | exact drewN_below (drewN_below B.out _) _ | exact B.out)⟩
              case measure => (simp [intOf] <;> omega)
        · have p2 : decide (xi < xk) = false := by rw [decide_eq_false_iff_not]; exact g2
          have NX := Lib.hid (KP.out (fun a => g2 (hAH.1 a.1).2))
          clear KP TK hAH g1 g2 RG
          go_wp2
          go_quiet (fail)
          go_wp2
          go_quiet (fail)
          go_wp2
          go_roundw
          case rel => exact ⟨k + 1, by go_num, by rw [HN.out]; omega, by rw [NX.out], (by first | exact drewN_below B.out _ | exact drewN_below (drewN_below B.out _) _ | exact B.out)⟩
          case measure => (simp [intOf] <;> omega)
      · have p1 : (yk == yi) = false := by rw [beq_eq_false_iff_ne]; exact g1
        have NX := Lib.hid (KP.out (fun a => g1 (hAH.1 a.1).1))
        clear KP TK hAH g1 RG
        go_wp2
        go_quiet (fail)
        go_wp2
        go_quiet (fail)
        go_wp2
        go_roundw
        case rel => exact ⟨k + 1, by go_num, by rw [HN.out]; omega, by rw [NX.out], (by first | exact drewN_below B.out _ | exact drewN_below (drewN_below B.out _) _ | exact B.out)⟩
        case measure => (simp [intOf] <;> omega)
    · have hkn : k = n := by omega
      have NE : Hid (nearP P i 0 = nearK P i 0 k) := Lib.hid (by rw [NP.out, HN.out, hkn])
      go_wp2
      go_ret
      exact ⟨by rw [NE.out]; rfl, B.out⟩

set_option maxHeartbeats 16000000 in
set_option maxRecDepth 100000 in
theorem refNearest1 (pv : Value) (P : List (Int × Int)) (i : Nat) (w : World) (hP : PtsAt w pv P) (hi : i < P.length) (hn : P.length ≤ 100000) :
    Calls Tryd.prog 12 #[pv, .int .i64 i, .int .i64 1] w fun r w' => r = .returned (.int .i64 (nearP P i 1)) ∧ Below w.heap.size w w' := by
  obtain ⟨A0, c0, e, hcap, hA⟩ := hP
  subst e
  obtain ⟨b, o9, e, hb, hA2⟩ := hA (by omega)
  clear hA
  subst e
  have hA := hA2
  clear hA2
  have HA := Lib.hid hA
  have NP : Hid (nearP P i 1 = nearK P i 1 P.length) := Lib.hid rfl
  obtain ⟨hxi, hyi⟩ := hA i hi
  obtain ⟨n, hnn⟩ : ∃ n, P.length = n := ⟨_, rfl⟩
  have HN := Lib.hid hnn
  rw [hnn] at hi hn hcap ⊢
  clear hA hnn
  go_enter Tryd.func12, Tryd.ntmps12
  go_wp2
  go_loopw [7, 8] (fun bv kv wr => RnkRel P i 1 w wr bv kv) (fun _ kv _ => n - (intOf kv).toNat)
  case atStart => exact ⟨0, rfl, Nat.zero_le _, rfl, Below.refl _ _⟩
  case round =>
    obtain ⟨k, rfl, hk, rfl, hB⟩ := hrel
    rw [HN.out] at hk
    have B := Lib.hid hB
    clear hB
    by_cases hlt : k < n
    · obtain ⟨hxk, hyk⟩ := HA.out k (by rw [HN.out]; exact hlt)
      have fxk := (B.out.cell (p := ⟨b, o9 + k * 2, none⟩) hb).trans hxk
      have fyk := (B.out.cell (p := ⟨b, o9 + k * 2 + 1, none⟩) hb).trans hyk
      have fxi := (B.out.cell (p := ⟨b, o9 + i * 2, none⟩) hb).trans hxi
      have fyi := (B.out.cell (p := ⟨b, o9 + i * 2 + 1, none⟩) hb).trans hyi
      have z1 := Nat.lt_of_lt_of_le hb B.out.size
      have hAH : ahP P i 1 k = true ↔ acP P 1 k = acP P 1 i ∧ alP P 1 i < alP P 1 k := ahP_iff
      have cx : acP P 1 k = (P.getD k (0, 0)).1 ∧ acP P 1 i = (P.getD i (0, 0)).1 ∧ alP P 1 i = (P.getD i (0, 0)).2 ∧ alP P 1 k = (P.getD k (0, 0)).2 := ⟨rfl, rfl, rfl, rfl⟩
      rw [cx.1, cx.2.1, cx.2.2.1, cx.2.2.2] at hAH
      obtain ⟨q, hq⟩ : ∃ q, nearK P i 1 k = q := ⟨_, rfl⟩
      have KP : Hid (¬ (ahP P i 1 k = true ∧ (q < 0 ∨ (P.getD k (0, 0)).2 < alP P 1 q.toNat)) → nearK P i 1 (k + 1) = q) := Lib.hid (near_keep hq)
      have TK : Hid ((ahP P i 1 k = true ∧ (q < 0 ∨ (P.getD k (0, 0)).2 < alP P 1 q.toNat)) → nearK P i 1 (k + 1) = k) := Lib.hid (near_take hq)
      have RG : q = -1 ∨ ∃ j : Nat, q = j ∧ j < n := by
        rcases near_is P i 1 k with ⟨h, _⟩ | ⟨j, hj, h, _⟩
        · left; rw [← hq, h]
        · right; exact ⟨j, by rw [← hq, h], by omega⟩
      rw [hq]
      clear hq cx hxk hyk
      clear hxi hyi
      generalize (P.getD k (0, 0)).1 = xk at *
      generalize (P.getD k (0, 0)).2 = yk at *
      generalize (P.getD i (0, 0)).1 = xi at *
      generalize (P.getD i (0, 0)).2 = yi at *
      by_cases g1 : xk = xi
      · have p1 : (xk == xi) = true := by rw [beq_iff_eq]; exact g1
        by_cases g2 : yi < yk
        · have p2 : decide (yi < yk) = true := by rw [decide_eq_true_eq]; exact g2
          have ah := hAH.2 ⟨g1, g2⟩
          rcases RG with rfl | ⟨j, rfl, hj⟩
          · have NX := Lib.hid (TK.out ⟨ah, Or.inl (by decide)⟩)
            clear KP TK hAH ah g1 g2
            go_wp2
            go_quiet (fail)
            go_wp2
            go_quiet (fail)
            go_wp2
            go_roundw
            case rel => exact ⟨k + 1, by go_num, by rw [HN.out]; omega, by rw [NX.out], (by first | exact drewN_below B.out _ | exact drewN_below (drewN_below B.out _) _ | exact B.out)⟩
            case measure => (simp [intOf] <;> omega)
          · have hj0 : ¬ ((j : Int) < 0) := by omega
            have p3 : decide ((j : Int) < 0) = false := by rw [decide_eq_false_iff_not]; exact hj0
            obtain ⟨hxj, hyj⟩ := HA.out j (by rw [HN.out]; exact hj)
            have fxj := (B.out.cell (p := ⟨b, o9 + j * 2, none⟩) hb).trans hxj
            have fyj := (B.out.cell (p := ⟨b, o9 + j * 2 + 1, none⟩) hb).trans hyj
            rw [Int.toNat_natCast] at KP TK
            rw [show alP P 1 j = (P.getD j (0, 0)).2 from rfl] at KP TK
            clear hxj hyj
            generalize (P.getD j (0, 0)).1 = xj at *
            generalize (P.getD j (0, 0)).2 = yj at *
            by_cases g4 : yk < yj
            · have p4 : decide (yk < yj) = true := by rw [decide_eq_true_eq]; exact g4
              have NX := Lib.hid (TK.out ⟨ah, Or.inr g4⟩)
              clear KP TK hAH ah g1 g2 g4 hj0
              go_wp2
              go_quiet (fail)
              go_wp2
              go_quiet (fail)
              go_wp2
              go_roundw
              case rel => exact ⟨k + 1, by go_num, by rw [HN.out]; omega, by rw [NX.out], (by first | exact drewN_below B.out _ | exact drewN_below (drewN_below B.out _) _ | exact B.out)⟩
              case measure => (simp [intOf] <;> omega)
            · have p4 : decide (yk < yj) = false := by rw [decide_eq_false_iff_not]; exact g4
              have NX := Lib.hid (KP.out (fun a => a.2.elim hj0 g4))
              clear KP TK hAH ah g1 g2 g4 hj0
              go_wp2
              go_quiet (fail)
              go_wp2
              go_quiet (fail)
              go_wp2
              go_roundw
              case rel => exact ⟨k + 1, by go_num, by rw [HN.out]; omega, by rw [NX.out], (by first | exact drewN_below B.out _ | exact drewN_below (drewN_below B.out _) _ | exact B.out)⟩
              case measure => (simp [intOf] <;> omega)
        · have p2 : decide (yi < yk) = false := by rw [decide_eq_false_iff_not]; exact g2
          have NX := Lib.hid (KP.out (fun a => g2 (hAH.1 a.1).2))
          clear KP TK hAH g1 g2 RG
          go_wp2
          go_quiet (fail)
          go_wp2
          go_quiet (fail)
          go_wp2
          go_roundw
          case rel => exact ⟨k + 1, by go_num, by rw [HN.out]; omega, by rw [NX.out], (by first | exact drewN_below B.out _ | exact drewN_below (drewN_below B.out _) _ | exact B.out)⟩
          case measure => (simp [intOf] <;> omega)
      · have p1 : (xk == xi) = false := by rw [beq_eq_false_iff_ne]; exact g1
        have NX := Lib.hid (KP.out (fun a => g1 (hAH.1 a.1).1))
        clear KP TK hAH g1 RG
        go_wp2
        go_quiet (fail)
        go_wp2
        go_quiet (fail)
        go_wp2
        go_roundw
        case rel => exact ⟨k + 1, by go_num, by rw [HN.out]; omega, by rw [NX.out], (by first | exact drewN_below B.out _ | exact drewN_below (drewN_below B.out _) _ | exact B.out)⟩
        case measure => (simp [intOf] <;> omega)
    · have hkn : k = n := by omega
      have NE : Hid (nearP P i 1 = nearK P i 1 k) := Lib.hid (by rw [NP.out, HN.out, hkn])
      go_wp2
      go_ret
      exact ⟨by rw [NE.out]; rfl, B.out⟩
end Go.Proofs.YtkakeakdgidigaaDoor
