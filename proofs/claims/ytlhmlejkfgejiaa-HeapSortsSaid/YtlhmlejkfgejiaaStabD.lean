/-
  The library's stable sort over a row of pairs: the merge of two halves. Conditions: both halves are in order.
-/
import Derived.Test.YtlhmlejkfgejiaaStabC
namespace Go.Proofs.Ytlhmlejkfgejiaa.Stab
open Go.RowKit Go.Proofs.Ytlhmlejkfgejiaa Go.Proofs.Ytlhmlejkfgejiaa.HeapM Go.Proofs.Ytlhmlejkfgejiaa.StabM
open Go.Sort (grow)

theorem SS.self {w0 w : World} {B gg n cap a b a' b' : Nat} {L0 L : List Pr} (h : SS w0 w B gg n cap a b L0 L) : SS w w B gg n cap a' b' L L := ⟨h.row, Mv.refl _ _ _, h.c, h.bd, Out.refl _ _⟩
theorem SS.chain {w0 w w' : World} {B gg n cap a b a' b' : Nat} {L0 L L' : List Pr} (h : SS w0 w B gg n cap a b L0 L) (k : SS w w' B gg n cap a' b' L L') (ha : a ≤ a') (hb : b' ≤ b) : SS w0 w' B gg n cap a b L0 L' :=
  ⟨k.row, h.mv.trans (k.mv.wide ha hb), k.c, k.bd, h.out.trans k.out (fun _ _ e => e)⟩
theorem rot_id {s m t : Nat} (L : List Pr) (h : s = m ∨ t = m) : Rot s m t L L := by
  refine ⟨List.Perm.refl _, fun k => ?_⟩
  rcases h with h | h
  · subst h
    by_cases h1 : k < s
    · rw [if_pos h1]
    · rw [if_neg h1]
      by_cases h2 : k < s + (t - s)
      · rw [if_pos h2]; congr 1; omega
      · rw [if_neg h2, if_neg (by omega)]
  · subst h
    by_cases h1 : k < s
    · rw [if_pos h1]
    · rw [if_neg h1, if_neg (by omega)]
      by_cases h2 : k < t
      · rw [if_pos h2]; congr 1; omega
      · rw [if_neg h2]
def Turned (B gg n cap s m t : Nat) (L : List Pr) (w : World) (e : Ending) (w' : World) : Prop :=
  e = .returned (.tuple #[]) ∧ ∃ L1, Rot s m t L L1 ∧ RowL w' B gg n cap L1 ∧ Out (fun k => k = gg) w w'
theorem rotateI {B gg n cap : Nat} {L : List Pr} {w : World} (h : RowL w B gg n cap L) (hs : n ≤ 1000000) (s m t : Nat) (f : Value) (h1 : s < m) (h2 : m < t) (h3 : t ≤ n) :
    Calls Try.prog 69 #[.slice (some ⟨gg, 0, none⟩) n cap, .int .i64 s, .int .i64 m, .int .i64 t, f] w (Turned B gg n cap s m t L w) := by
  have hl := h.len
  have e : L = L.take s ++ (L.drop s).take (m - s) ++ (L.drop m).take (t - m) ++ L.drop t := by
    have e1 : (L.drop s).take (m - s) ++ L.drop m = L.drop s := by
      have := List.take_append_drop (m - s) (L.drop s)
      rw [List.drop_drop] at this
      rw [show s + (m - s) = m by omega] at this
      exact this
    have e2 : (L.drop m).take (t - m) ++ L.drop t = L.drop m := by
      have := List.take_append_drop (t - m) (L.drop m)
      rw [List.drop_drop] at this
      rw [show m + (t - m) = t by omega] at this
      exact this
    rw [List.append_assoc, List.append_assoc, e2, e1, List.take_append_drop]
  have l1 : (L.take s).length = s := by simp; omega
  have l2 : ((L.drop s).take (m - s)).length = m - s := by simp; omega
  have l3 : ((L.drop m).take (t - m)).length = t - m := by simp; omega
  have hr := rot_of (L.take s) ((L.drop s).take (m - s)) ((L.drop m).take (t - m)) (L.drop t)
  rw [← e, l1, l2, l3, show s + (m - s) = m by omega, show m + (t - m) = t by omega] at hr
  exact (rotate B gg n cap _ _ _ _ f w (e ▸ h) hs s m t l1.symm (by omega) (by omega) (by omega) (by omega)).mono fun e' w' ⟨x, y, z⟩ => ⟨x, _, hr, y, z⟩

theorem cut_of {L : List Pr} {a m b mid p s0 r0 s t : Nat} (h0 : a < m ∧ m < b) (hmid : mid = (a + b) / 2) (hp : p + 1 = mid + m) (hc : (mid < m ∧ s0 + b = mid + m ∧ r0 = mid) ∨ (m ≤ mid ∧ s0 = a ∧ r0 = m)) (h1 : s0 ≤ s) (h2 : s ≤ r0) (h3 : r0 ≤ mid) (ht : t = mid + m - s)
    (hlo : s = s0 ∨ (g L (s - 1)).1 ≤ (g L (p - (s - 1))).1) (hhi : s = r0 ∨ (g L (p - s)).1 < (g L s).1) : Cut L a m b s t := by
  refine ⟨by omega, by omega, by omega, by omega, fun x1 x2 => ?_, fun x1 x2 => ?_⟩
  · rcases hhi with h | h
    · exfalso; omega
    · have e : t - 1 = p - s := by omega
      rw [e]; exact h
  · rcases hlo with h | h
    · exfalso; omega
    · have e : t = p - (s - 1) := by omega
      rw [e]; exact h
/-- The middle, by its own name. -/
theorem cut_of_rot {L' : List Pr} {a m b s t mid : Nat} (hts : t + s = mid + m) (h : Seg L' a s ∧ Seg L' s (s + (t - m)) ∧ Seg L' (s + (t - m)) t ∧ Seg L' t b ∧ ∀ p q, a ≤ p → p < s + (t - m) → s + (t - m) ≤ q → q < b → (g L' p).1 ≤ (g L' q).1) (hm : m ≤ t := by omega) :
    Seg L' a s ∧ Seg L' s mid ∧ Seg L' mid t ∧ Seg L' t b ∧ ∀ p q, a ≤ p → p < mid → mid ≤ q → q < b → (g L' p).1 ≤ (g L' q).1 := by
  have e : s + (t - m) = mid := by omega
  rw [e] at h
  exact h
def MidRel (B gg n cap a b p s0 r0 : Nat) (L : List Pr) (w wr : World) (sv rv : Value) : Prop :=
  ∃ s r : Nat, sv = .int .i64 s ∧ rv = .int .i64 r ∧ s0 ≤ s ∧ s ≤ r ∧ r ≤ r0 ∧ SS w wr B gg n cap a b L L ∧ (s = s0 ∨ (g L (s - 1)).1 ≤ (g L (p - (s - 1))).1) ∧ (r = r0 ∨ (g L (p - r)).1 < (g L r).1)
def SymAt (fn B gg n cap N : Nat) : Prop := ∀ (a m b : Nat) (L : List Pr) (w : World), b - a ≤ N → SS w w B gg n cap a b L L → a < m → m < b → b ≤ n → Seg L a m → Seg L m b →
    Calls Try.prog 50 #[.slice (some ⟨gg, 0, none⟩) n cap, .int .i64 a, .int .i64 m, .int .i64 b, .func (.func fn) #[] #[]] w (Sorted' B gg n cap a b L w)

theorem symCall {fn B gg n cap N : Nat} (h : SymAt fn B gg n cap N) (a m b : Nat) (L : List Pr) (w : World) (h1 : b - a ≤ N) (h2 : SS w w B gg n cap a b L L) (h3 : a < m) (h4 : m < b) (h5 : b ≤ n) (h6 : Seg L a m) (h7 : Seg L m b) :
    Calls Try.prog 50 #[.slice (some ⟨gg, 0, none⟩) n cap, .int .i64 a, .int .i64 m, .int .i64 b, .func (.func fn) #[] #[]] w (Sorted' B gg n cap a b L w) := h a m b L w h1 h2 h3 h4 h5 h6 h7

set_option maxHeartbeats 4000000 in
set_option maxRecDepth 100000 in
theorem sym3a {fn : Nat} (hC : CmpAt fn) (B gg n cap N a m b mid p s0 : Nat) (hIH : SymAt fn B gg n cap N) (L : List Pr) (w : World) (hN : b - a ≤ N + 1) (h : SS w w B gg n cap a b L L) (hs : n ≤ 1000000) (ham : a + 1 < m) (hmb : m + 1 < b) (hb : b ≤ n) (h1 : Seg L a m) (h2 : Seg L m b)
    (hmid : ((a : Int) + (b : Int)) / 2 = (mid : Int)) (hp : (mid : Int) + (m : Int) - 1 = (p : Int)) (hc1 : mid < m) (hc2 : (mid : Int) + (m : Int) - (b : Int) = (s0 : Int)) :
    Calls Try.prog 50 #[.slice (some ⟨gg, 0, none⟩) n cap, .int .i64 a, .int .i64 m, .int .i64 b, .func (.func fn) #[] #[]] w (Sorted' B gg n cap a b L w) := by
  have HC := Lib.hid hC.calls
  have eg := hC.eg
  have IH := Lib.hid hIH
  have H := Lib.hid h
  have HLN := Lib.hid h.row.len
  have HS1 := Lib.hid h1
  have HS2 := Lib.hid h2
  have hne1 : ((m : Int) - (a : Int) == 1) = false := by rw [beq_eq_false_iff_ne]; omega
  have hne2 : ((b : Int) - (m : Int) == 1) = false := by rw [beq_eq_false_iff_ne]; omega
  have HS0 := Lib.hid hc2
  have hgt : decide (mid < m) = true := by simp; omega
  have hm1 : a < mid := by omega
  have hm2 : mid < b := by omega
  have hsr : s0 ≤ mid := by omega
  have hpm : p + 1 = mid + m := by omega
  clear hC h h1 h2 hIH
  go_enter Try.func50, Try.ntmps50
  go_wp2
  all_goals
    go_loopw [20, 21] (fun sv rv wr => MidRel B gg n cap a b p s0 mid L w wr sv rv) (fun sv rv _ => (intOf rv).toNat - (intOf sv).toNat)
    case atStart => exact ⟨s0, mid, by rw [← HS0.out], rfl, Nat.le_refl _, hsr, Nat.le_refl _, H.out, Or.inl rfl, Or.inl rfl⟩
    case round =>
      obtain ⟨s, r, rfl, rfl, hs1, hs2, hs3, hS, hlo, hhi⟩ := hrel
      have S := Lib.hid hS
      have LO := Lib.hid hlo
      have HI := Lib.hid hhi
      clear hS hlo hhi
      by_cases hlt : s < r
      · obtain ⟨c, hh, hh2⟩ := half_nat s r
        have hb1 : s ≤ c := by omega
        have hb2 : c < r := by omega
        clear hh2
        have hp1 : c ≤ p := by omega
        have hp2 : p - c < n := by omega
        have hcn : c < n := by omega
        have hz1 : (0 : Int) ≤ (p : Int) - (c : Int) := by omega
        have hz2 : (p : Int) - (c : Int) < (n : Int) := by omega
        have a0 := S.out.row.c0 (p - c) (by omega)
        have a1 := S.out.row.c1 (p - c) (by omega)
        have b0 := S.out.row.c0 (c) (by omega)
        have b1 := S.out.row.c1 (c) (by omega)
        have bx := Lib.hid (S.out.bd.at_ (p - c))
        have bz := Lib.hid (S.out.bd.at_ (c))
        generalize hx : g L (p - c) = x at a0 a1 bx
        generalize hy : g L (c) = y at b0 b1 bz
        have HX := Lib.hid hx
        have HY := Lib.hid hy
        clear hx hy
        have ca0 := fun d os => cell_regrown a0 d os
        have ca1 := fun d os => cell_regrown a1 d os
        have cb0 := fun d os => cell_regrown b0 d os
        have cb1 := fun d os => cell_regrown b1 d os
        have cQ := fun d os => Calls.regrown_of (HC.out (grow (redrawn wr d) os) x y bx.out bz.out)
        by_cases hxy : x.1 < y.1
        · have hdl : x.1 - y.1 < 0 := by omega
          have hdb : decide (x.1 - y.1 < 0) = true := by simpa using hdl
          go_wp2
          refine wp_region_quiet_below (by kernel_rfl) (by kernel_rfl) ?_
          repeat (first | go_big_quiet_step (exact cQ _ _) | quiet_step (exact cQ _ _))
          refine wpQuiet_nil ?_
          intro _ hw'
          obtain ⟨pp, hw''⟩ := hw'
          subst hw''
          clear cQ ca0 ca1 cb0 cb1
          have B1 := below_regrown wr pp.d pp.os
          generalize grow (redrawn wr pp.d) pp.os = w1 at B1 ⊢
          have S1 := Lib.hid (S.out.below B1)
          clear B1 a0 a1 b0 b1
          go_wp2
          go_roundw
          case rel => exact ⟨s, c, rfl, by go_num, hs1, by omega, by omega, S1.out, LO.out, Or.inr (by rw [HX.out, HY.out]; exact hxy)⟩
          case measure => simp [intOf]; omega
        · have hdl : 0 ≤ x.1 - y.1 := by omega
          have hdb : decide (x.1 - y.1 < 0) = false := by simpa using hdl
          go_wp2
          refine wp_region_quiet_below (by kernel_rfl) (by kernel_rfl) ?_
          repeat (first | go_big_quiet_step (exact cQ _ _) | quiet_step (exact cQ _ _))
          refine wpQuiet_nil ?_
          intro _ hw'
          obtain ⟨pp, hw''⟩ := hw'
          subst hw''
          clear cQ ca0 ca1 cb0 cb1
          have B1 := below_regrown wr pp.d pp.os
          generalize grow (redrawn wr pp.d) pp.os = w1 at B1 ⊢
          have S1 := Lib.hid (S.out.below B1)
          clear B1 a0 a1 b0 b1
          go_wp2
          go_roundw
          case rel => exact ⟨c + 1, r, by go_num, rfl, by omega, by omega, hs3, S1.out, Or.inr (by rw [show c + 1 - 1 = c from rfl, HX.out, HY.out]; omega), HI.out⟩
          case measure => simp [intOf]; omega
      · obtain rfl : s = r := by omega
        obtain ⟨t, ht⟩ : ∃ t : Nat, (mid : Int) + (m : Int) - (s : Int) = (t : Int) := ⟨mid + m - s, by omega⟩
        have ht2 : t = mid + m - s := by omega
        have CUT := Lib.hid (cut_of (L := L) (a := a) (m := m) (b := b) (mid := mid) (p := p) (s0 := s0) (r0 := mid) (s := s) (t := t) (by omega) (by omega) (by omega) (Or.inl ⟨by omega, by omega, by omega⟩) hs1 hs3 (by omega) ht2 LO.out HI.out)
        have c1 := CUT.out.as_
        have c2 := CUT.out.sm
        have c3 := CUT.out.mt
        have c4 := CUT.out.tb
        have hts : t + s = mid + m := by omega
        clear ht2
        clear LO HI
        by_cases hr1 : s < m
        · by_cases hr2 : m < t
          · have hsm : s < mid := by omega
            have hmt : mid < t := by omega
            by_cases ha : a < s
            · by_cases hb' : t < b
              · go_wp2_with (first
                  | (go_at_call 69; refine (rotateI S.out.row hs s m t _ hr1 hr2 (by omega)).mono ?_; rintro e w2 ⟨rfl, L1, hrot, hrow, hout⟩; have I1 := Lib.hid (S.out.step hrow hout ((hrot.mv (by omega) (by omega)).wide (by omega) (by omega)) (hrot.c (by omega) (by omega) (by have := HLN.out; omega) S.out.c (CUT.out.less HS1.out HS2.out))); have CR := Lib.hid (cut_of_rot hts (cut_rot CUT.out HS1.out HS2.out hrot)); clear hrot hrow hout)
                  | (go_at_call 50; (with_reducible refine (symCall IH.out a s mid L1 _ (by omega) I1.out.self (by omega) (by omega) (by omega) CR.out.1 CR.out.2.1).mono ?_); rintro e w3 ⟨rfl, L2, hI, hG⟩; have I2 := Lib.hid (I1.out.chain hI (by omega) (by omega)); have M2 := Lib.hid hI.mv; have G2 := Lib.hid hG; clear hI hG)
                  | (go_at_call 50; (with_reducible refine (symCall IH.out mid t b L2 _ (by omega) I2.out.self (by omega) (by omega) (by omega) (CR.out.2.2.1.out M2.out (Or.inr (by omega))) (CR.out.2.2.2.1.out M2.out (Or.inr (by omega)))).mono ?_); rintro e w4 ⟨rfl, L3, hI, hG⟩; have I3 := Lib.hid (I2.out.chain hI (by omega) (by omega)); have JOIN := Lib.hid (seg_join CR.out.2.2.2.2 M2.out hI.mv G2.out hG); clear hI hG))
                go_end0
                exact ⟨rfl, L3, I3.out, JOIN.out⟩
              · obtain rfl : t = b := by omega
                go_wp2_with (first
                  | (go_at_call 69; refine (rotateI S.out.row hs s m t _ hr1 hr2 (by omega)).mono ?_; rintro e w2 ⟨rfl, L1, hrot, hrow, hout⟩; have I1 := Lib.hid (S.out.step hrow hout ((hrot.mv (by omega) (by omega)).wide (by omega) (by omega)) (hrot.c (by omega) (by omega) (by have := HLN.out; omega) S.out.c (CUT.out.less HS1.out HS2.out))); have CR := Lib.hid (cut_of_rot hts (cut_rot CUT.out HS1.out HS2.out hrot)); clear hrot hrow hout)
                  | (go_at_call 50; (with_reducible refine (symCall IH.out a s mid L1 _ (by omega) I1.out.self (by omega) (by omega) (by omega) CR.out.1 CR.out.2.1).mono ?_); rintro e w3 ⟨rfl, L2, hI, hG⟩; have I2 := Lib.hid (I1.out.chain hI (by omega) (by omega)); have M2 := Lib.hid hI.mv; have G2 := Lib.hid hG; clear hI hG))
                go_end0
                exact ⟨rfl, L2, I2.out, seg_join CR.out.2.2.2.2 M2.out (Mv.refl _ _ _) G2.out (CR.out.2.2.1.out M2.out (Or.inr (by omega)))⟩
            · obtain rfl : s = a := by omega
              by_cases hb' : t < b
              · go_wp2_with (first
                  | (go_at_call 69; refine (rotateI S.out.row hs s m t _ hr1 hr2 (by omega)).mono ?_; rintro e w2 ⟨rfl, L1, hrot, hrow, hout⟩; have I1 := Lib.hid (S.out.step hrow hout ((hrot.mv (by omega) (by omega)).wide (by omega) (by omega)) (hrot.c (by omega) (by omega) (by have := HLN.out; omega) S.out.c (CUT.out.less HS1.out HS2.out))); have CR := Lib.hid (cut_of_rot hts (cut_rot CUT.out HS1.out HS2.out hrot)); clear hrot hrow hout)
                  | (go_at_call 50; (with_reducible refine (symCall IH.out mid t b L1 _ (by omega) I1.out.self (by omega) (by omega) (by omega) CR.out.2.2.1 CR.out.2.2.2.1).mono ?_); rintro e w4 ⟨rfl, L3, hI, hG⟩; have I3 := Lib.hid (I1.out.chain hI (by omega) (by omega)); have JOIN := Lib.hid (seg_join CR.out.2.2.2.2 (Mv.refl _ _ _) hI.mv CR.out.2.1 hG); clear hI hG))
                go_end0
                exact ⟨rfl, L3, I3.out, JOIN.out⟩
              · obtain rfl : t = b := by omega
                go_wp2_with (go_at_call 69; refine (rotateI S.out.row hs s m t _ hr1 hr2 (by omega)).mono ?_; rintro e w2 ⟨rfl, L1, hrot, hrow, hout⟩; have I1 := Lib.hid (S.out.step hrow hout ((hrot.mv (by omega) (by omega)).wide (by omega) (by omega)) (hrot.c (by omega) (by omega) (by have := HLN.out; omega) S.out.c (CUT.out.less HS1.out HS2.out))); have CR := Lib.hid (cut_of_rot hts (cut_rot CUT.out HS1.out HS2.out hrot)); clear hrot hrow hout)
                go_end0
                exact ⟨rfl, L1, I1.out, seg_join CR.out.2.2.2.2 (Mv.refl _ _ _) (Mv.refl _ _ _) CR.out.2.1 CR.out.2.2.1⟩
          · -- nothing to rotate: s = mid, t = m
            obtain rfl : t = m := by omega
            obtain rfl : mid = s := by omega
            have hmt : mid < t := by omega
            have hst : ¬ mid < mid := by omega
            have CR := Lib.hid (cut_of_rot hts (cut_rot CUT.out HS1.out HS2.out (rot_id _ (Or.inr rfl))))
            have I1 : Hid (SS w wr B gg n cap a b L L) := S
            have M2 : Hid (Mv a mid L L) := Mv.refl _ _ _
            have G2 : Hid (Seg L a mid) := HS1.out.cut (Nat.le_refl _) (by omega)
            have ha : a < mid := by omega
            go_wp2_with (first
              | (go_at_call 50; go_loud (with_reducible refine (symCall IH.out mid t b L _ (by omega) I1.out.self (by omega) (by omega) (by omega) CR.out.2.2.1 CR.out.2.2.2.1).mono ?_); rintro e w4 ⟨rfl, L3, hI, hG⟩; have I3 := Lib.hid (I1.out.chain hI (by omega) (by omega)); have JOIN := Lib.hid (seg_join CR.out.2.2.2.2 M2.out hI.mv G2.out hG); clear hI hG))
            go_end0
            exact ⟨rfl, L3, I3.out, JOIN.out⟩
        · exfalso; omega

set_option maxHeartbeats 4000000 in
set_option maxRecDepth 100000 in
theorem sym3b {fn : Nat} (hC : CmpAt fn) (B gg n cap N a m b mid p : Nat) (hIH : SymAt fn B gg n cap N) (L : List Pr) (w : World) (hN : b - a ≤ N + 1) (h : SS w w B gg n cap a b L L) (hs : n ≤ 1000000) (ham : a + 1 < m) (hmb : m + 1 < b) (hb : b ≤ n) (h1 : Seg L a m) (h2 : Seg L m b)
    (hmid : ((a : Int) + (b : Int)) / 2 = (mid : Int)) (hp : (mid : Int) + (m : Int) - 1 = (p : Int)) (hc1 : m ≤ mid) :
    Calls Try.prog 50 #[.slice (some ⟨gg, 0, none⟩) n cap, .int .i64 a, .int .i64 m, .int .i64 b, .func (.func fn) #[] #[]] w (Sorted' B gg n cap a b L w) := by
  have HC := Lib.hid hC.calls
  have eg := hC.eg
  have IH := Lib.hid hIH
  have H := Lib.hid h
  have HLN := Lib.hid h.row.len
  have HS1 := Lib.hid h1
  have HS2 := Lib.hid h2
  have hne1 : ((m : Int) - (a : Int) == 1) = false := by rw [beq_eq_false_iff_ne]; omega
  have hne2 : ((b : Int) - (m : Int) == 1) = false := by rw [beq_eq_false_iff_ne]; omega

  have hgt : decide (mid < m) = false := by simp; omega
  have hm1 : a < mid := by omega
  have hm2 : mid < b := by omega
  have hsr : a ≤ m := by omega
  have hpm : p + 1 = mid + m := by omega
  clear hC h h1 h2 hIH
  go_enter Try.func50, Try.ntmps50
  go_wp2
  all_goals
    go_loopw [20, 21] (fun sv rv wr => MidRel B gg n cap a b p a m L w wr sv rv) (fun sv rv _ => (intOf rv).toNat - (intOf sv).toNat)
    case atStart => exact ⟨a, m, rfl, rfl, Nat.le_refl _, hsr, Nat.le_refl _, H.out, Or.inl rfl, Or.inl rfl⟩
    case round =>
      obtain ⟨s, r, rfl, rfl, hs1, hs2, hs3, hS, hlo, hhi⟩ := hrel
      have S := Lib.hid hS
      have LO := Lib.hid hlo
      have HI := Lib.hid hhi
      clear hS hlo hhi
      by_cases hlt : s < r
      · obtain ⟨c, hh, hh2⟩ := half_nat s r
        have hb1 : s ≤ c := by omega
        have hb2 : c < r := by omega
        clear hh2
        have hp1 : c ≤ p := by omega
        have hp2 : p - c < n := by omega
        have hcn : c < n := by omega
        have hz1 : (0 : Int) ≤ (p : Int) - (c : Int) := by omega
        have hz2 : (p : Int) - (c : Int) < (n : Int) := by omega
        have a0 := S.out.row.c0 (p - c) (by omega)
        have a1 := S.out.row.c1 (p - c) (by omega)
        have b0 := S.out.row.c0 (c) (by omega)
        have b1 := S.out.row.c1 (c) (by omega)
        have bx := Lib.hid (S.out.bd.at_ (p - c))
        have bz := Lib.hid (S.out.bd.at_ (c))
        generalize hx : g L (p - c) = x at a0 a1 bx
        generalize hy : g L (c) = y at b0 b1 bz
        have HX := Lib.hid hx
        have HY := Lib.hid hy
        clear hx hy
        have ca0 := fun d os => cell_regrown a0 d os
        have ca1 := fun d os => cell_regrown a1 d os
        have cb0 := fun d os => cell_regrown b0 d os
        have cb1 := fun d os => cell_regrown b1 d os
        have cQ := fun d os => Calls.regrown_of (HC.out (grow (redrawn wr d) os) x y bx.out bz.out)
        by_cases hxy : x.1 < y.1
        · have hdl : x.1 - y.1 < 0 := by omega
          have hdb : decide (x.1 - y.1 < 0) = true := by simpa using hdl
          go_wp2
          refine wp_region_quiet_below (by kernel_rfl) (by kernel_rfl) ?_
          repeat (first | go_big_quiet_step (exact cQ _ _) | quiet_step (exact cQ _ _))
          refine wpQuiet_nil ?_
          intro _ hw'
          obtain ⟨pp, hw''⟩ := hw'
          subst hw''
          clear cQ ca0 ca1 cb0 cb1
          have B1 := below_regrown wr pp.d pp.os
          generalize grow (redrawn wr pp.d) pp.os = w1 at B1 ⊢
          have S1 := Lib.hid (S.out.below B1)
          clear B1 a0 a1 b0 b1
          go_wp2
          go_roundw
          case rel => exact ⟨s, c, rfl, by go_num, hs1, by omega, by omega, S1.out, LO.out, Or.inr (by rw [HX.out, HY.out]; exact hxy)⟩
          case measure => simp [intOf]; omega
        · have hdl : 0 ≤ x.1 - y.1 := by omega
          have hdb : decide (x.1 - y.1 < 0) = false := by simpa using hdl
          go_wp2
          refine wp_region_quiet_below (by kernel_rfl) (by kernel_rfl) ?_
          repeat (first | go_big_quiet_step (exact cQ _ _) | quiet_step (exact cQ _ _))
          refine wpQuiet_nil ?_
          intro _ hw'
          obtain ⟨pp, hw''⟩ := hw'
          subst hw''
          clear cQ ca0 ca1 cb0 cb1
          have B1 := below_regrown wr pp.d pp.os
          generalize grow (redrawn wr pp.d) pp.os = w1 at B1 ⊢
          have S1 := Lib.hid (S.out.below B1)
          clear B1 a0 a1 b0 b1
          go_wp2
          go_roundw
          case rel => exact ⟨c + 1, r, by go_num, rfl, by omega, by omega, hs3, S1.out, Or.inr (by rw [show c + 1 - 1 = c from rfl, HX.out, HY.out]; omega), HI.out⟩
          case measure => simp [intOf]; omega
      · obtain rfl : s = r := by omega
        obtain ⟨t, ht⟩ : ∃ t : Nat, (mid : Int) + (m : Int) - (s : Int) = (t : Int) := ⟨mid + m - s, by omega⟩
        have ht2 : t = mid + m - s := by omega
        have CUT := Lib.hid (cut_of (L := L) (a := a) (m := m) (b := b) (mid := mid) (p := p) (s0 := a) (r0 := m) (s := s) (t := t) (by omega) (by omega) (by omega) (Or.inr ⟨by omega, by omega, by omega⟩) hs1 hs3 (by omega) ht2 LO.out HI.out)
        have c1 := CUT.out.as_
        have c2 := CUT.out.sm
        have c3 := CUT.out.mt
        have c4 := CUT.out.tb
        have hts : t + s = mid + m := by omega
        clear ht2
        clear LO HI
        by_cases hr1 : s < m
        · by_cases hr2 : m < t
          · have hsm : s < mid := by omega
            have hmt : mid < t := by omega
            by_cases ha : a < s
            · by_cases hb' : t < b
              · go_wp2_with (first
                  | (go_at_call 69; refine (rotateI S.out.row hs s m t _ hr1 hr2 (by omega)).mono ?_; rintro e w2 ⟨rfl, L1, hrot, hrow, hout⟩; have I1 := Lib.hid (S.out.step hrow hout ((hrot.mv (by omega) (by omega)).wide (by omega) (by omega)) (hrot.c (by omega) (by omega) (by have := HLN.out; omega) S.out.c (CUT.out.less HS1.out HS2.out))); have CR := Lib.hid (cut_of_rot hts (cut_rot CUT.out HS1.out HS2.out hrot)); clear hrot hrow hout)
                  | (go_at_call 50; (with_reducible refine (symCall IH.out a s mid L1 _ (by omega) I1.out.self (by omega) (by omega) (by omega) CR.out.1 CR.out.2.1).mono ?_); rintro e w3 ⟨rfl, L2, hI, hG⟩; have I2 := Lib.hid (I1.out.chain hI (by omega) (by omega)); have M2 := Lib.hid hI.mv; have G2 := Lib.hid hG; clear hI hG)
                  | (go_at_call 50; (with_reducible refine (symCall IH.out mid t b L2 _ (by omega) I2.out.self (by omega) (by omega) (by omega) (CR.out.2.2.1.out M2.out (Or.inr (by omega))) (CR.out.2.2.2.1.out M2.out (Or.inr (by omega)))).mono ?_); rintro e w4 ⟨rfl, L3, hI, hG⟩; have I3 := Lib.hid (I2.out.chain hI (by omega) (by omega)); have JOIN := Lib.hid (seg_join CR.out.2.2.2.2 M2.out hI.mv G2.out hG); clear hI hG))
                go_end0
                exact ⟨rfl, L3, I3.out, JOIN.out⟩
              · obtain rfl : t = b := by omega
                go_wp2_with (first
                  | (go_at_call 69; refine (rotateI S.out.row hs s m t _ hr1 hr2 (by omega)).mono ?_; rintro e w2 ⟨rfl, L1, hrot, hrow, hout⟩; have I1 := Lib.hid (S.out.step hrow hout ((hrot.mv (by omega) (by omega)).wide (by omega) (by omega)) (hrot.c (by omega) (by omega) (by have := HLN.out; omega) S.out.c (CUT.out.less HS1.out HS2.out))); have CR := Lib.hid (cut_of_rot hts (cut_rot CUT.out HS1.out HS2.out hrot)); clear hrot hrow hout)
                  | (go_at_call 50; (with_reducible refine (symCall IH.out a s mid L1 _ (by omega) I1.out.self (by omega) (by omega) (by omega) CR.out.1 CR.out.2.1).mono ?_); rintro e w3 ⟨rfl, L2, hI, hG⟩; have I2 := Lib.hid (I1.out.chain hI (by omega) (by omega)); have M2 := Lib.hid hI.mv; have G2 := Lib.hid hG; clear hI hG))
                go_end0
                exact ⟨rfl, L2, I2.out, seg_join CR.out.2.2.2.2 M2.out (Mv.refl _ _ _) G2.out (CR.out.2.2.1.out M2.out (Or.inr (by omega)))⟩
            · obtain rfl : s = a := by omega
              by_cases hb' : t < b
              · go_wp2_with (first
                  | (go_at_call 69; refine (rotateI S.out.row hs s m t _ hr1 hr2 (by omega)).mono ?_; rintro e w2 ⟨rfl, L1, hrot, hrow, hout⟩; have I1 := Lib.hid (S.out.step hrow hout ((hrot.mv (by omega) (by omega)).wide (by omega) (by omega)) (hrot.c (by omega) (by omega) (by have := HLN.out; omega) S.out.c (CUT.out.less HS1.out HS2.out))); have CR := Lib.hid (cut_of_rot hts (cut_rot CUT.out HS1.out HS2.out hrot)); clear hrot hrow hout)
                  | (go_at_call 50; (with_reducible refine (symCall IH.out mid t b L1 _ (by omega) I1.out.self (by omega) (by omega) (by omega) CR.out.2.2.1 CR.out.2.2.2.1).mono ?_); rintro e w4 ⟨rfl, L3, hI, hG⟩; have I3 := Lib.hid (I1.out.chain hI (by omega) (by omega)); have JOIN := Lib.hid (seg_join CR.out.2.2.2.2 (Mv.refl _ _ _) hI.mv CR.out.2.1 hG); clear hI hG))
                go_end0
                exact ⟨rfl, L3, I3.out, JOIN.out⟩
              · obtain rfl : t = b := by omega
                go_wp2_with (go_at_call 69; refine (rotateI S.out.row hs s m t _ hr1 hr2 (by omega)).mono ?_; rintro e w2 ⟨rfl, L1, hrot, hrow, hout⟩; have I1 := Lib.hid (S.out.step hrow hout ((hrot.mv (by omega) (by omega)).wide (by omega) (by omega)) (hrot.c (by omega) (by omega) (by have := HLN.out; omega) S.out.c (CUT.out.less HS1.out HS2.out))); have CR := Lib.hid (cut_of_rot hts (cut_rot CUT.out HS1.out HS2.out hrot)); clear hrot hrow hout)
                go_end0
                exact ⟨rfl, L1, I1.out, seg_join CR.out.2.2.2.2 (Mv.refl _ _ _) (Mv.refl _ _ _) CR.out.2.1 CR.out.2.2.1⟩
          · exfalso; omega
        · -- nothing to rotate: s = m, t = mid
          obtain rfl : s = m := by omega
          have hmt : t = mid := by omega
          have hmt2 : ¬ mid < t := by omega
          have ha : a < s := by omega
          have CR := Lib.hid (cut_of_rot hts (cut_rot CUT.out HS1.out HS2.out (rot_id _ (Or.inl rfl))))
          have I1 : Hid (SS w wr B gg n cap a b L L) := S
          by_cases hsm : s < mid
          · go_wp2_with (first
              | (go_at_call 50; go_loud (with_reducible refine (symCall IH.out a s mid L _ (by omega) I1.out.self (by omega) (by omega) (by omega) CR.out.1 CR.out.2.1).mono ?_); rintro e w3 ⟨rfl, L2, hI, hG⟩; have I2 := Lib.hid (I1.out.chain hI (by omega) (by omega)); have M2 := Lib.hid hI.mv; have G2 := Lib.hid hG; clear hI hG))
            go_end0
            exact ⟨rfl, L2, I2.out, seg_join CR.out.2.2.2.2 M2.out (Mv.refl _ _ _) G2.out ((HS2.out.cut (by omega) (Nat.le_refl _)).out M2.out (Or.inr (by omega)))⟩
          · go_wp2
            go_end0
            exact ⟨rfl, L, I1.out, seg_join CR.out.2.2.2.2 (Mv.refl _ _ _) (Mv.refl _ _ _) (HS1.out.cut (Nat.le_refl _) (by omega)) (HS2.out.cut (by omega) (Nat.le_refl _))⟩
end Go.Proofs.Ytlhmlejkfgejiaa.Stab
