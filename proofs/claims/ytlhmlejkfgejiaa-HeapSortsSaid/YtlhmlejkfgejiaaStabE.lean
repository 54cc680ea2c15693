/-
  The library's stable sort over a row of pairs: whole. Conditions: keys from -1000 to 1000; equal keys stand in the order of what comes beside them; the row lies in one block of the call's own.
-/
import Derived.Test.YtlhmlejkfgejiaaStabD
import Derived.LoopN
namespace Go.Proofs.Ytlhmlejkfgejiaa.Stab
open Go.RowKit Go.Proofs.Ytlhmlejkfgejiaa Go.Proofs.Ytlhmlejkfgejiaa.HeapM Go.Proofs.Ytlhmlejkfgejiaa.StabM

theorem symAll {fn : Nat} (hC : CmpAt fn) (B gg n cap : Nat) (hs : n ≤ 1000000) (N : Nat) : SymAt fn B gg n cap N := by
  induction N with
  | zero => intro a m b L w h1 _ h3 h4; omega
  | succ N ih =>
    intro a m b L w h1 h2 h3 h4 h5 h6 h7
    by_cases e1 : m = a + 1
    · exact sym1 hC B gg n cap a m b L w h2 hs e1 h4 h5 h7
    · by_cases e2 : b = m + 1
      · exact sym2 hC B gg n cap a m b L w h2 hs (by omega) e2 h5 h6
      · obtain ⟨mid, hm1, hm2⟩ := half_nat a b
        obtain ⟨p, hp⟩ : ∃ p : Nat, (mid : Int) + (m : Int) - 1 = (p : Int) := ⟨mid + m - 1, by omega⟩
        by_cases hc : mid < m
        · obtain ⟨s0, hs0⟩ : ∃ s0 : Nat, (mid : Int) + (m : Int) - (b : Int) = (s0 : Int) := ⟨mid + m - b, by omega⟩
          exact sym3a hC B gg n cap N a m b mid p s0 ih L w h1 h2 hs (by omega) (by omega) h5 h6 h7 hm1 hp hc hs0
        · exact sym3b hC B gg n cap N a m b mid p ih L w h1 h2 hs (by omega) (by omega) h5 h6 h7 hm1 hp (by omega)
theorem symZ {fn : Nat} (hC : CmpAt fn) {B gg n cap a0 b0 : Nat} {w0 w : World} {L0 L : List Pr} (h : SS w0 w B gg n cap a0 b0 L0 L) (hs : n ≤ 1000000) (a m b : Int) (a' m' b' : Nat) (ea : a = a') (em : m = m') (eb : b = b') (h3 : a' < m') (h4 : m' < b') (h5 : b' ≤ n) (h6 : Seg L a' m') (h7 : Seg L m' b') :
    Calls Try.prog 50 #[.slice (some ⟨gg, 0, none⟩) n cap, .int .i64 a, .int .i64 m, .int .i64 b, .func (.func fn) #[] #[]] w (Sorted' B gg n cap a' b' L w) := by
  subst ea em eb
  exact symAll hC B gg n cap hs (b' - a') a' m' b' L w (Nat.le_refl _) h.self h3 h4 h5 h6 h7
theorem insZ {fn : Nat} (hC : CmpAt fn) {B gg n cap a0 b0 : Nat} {w0 w : World} {L0 L : List Pr} (h : SS w0 w B gg n cap a0 b0 L0 L) (hs : n ≤ 1000000) (a b : Int) (a' b' : Nat) (ea : a = a') (eb : b = b') (hab : a' ≤ b') (hb : b' ≤ n) :
    Calls Try.prog 49 #[.slice (some ⟨gg, 0, none⟩) n cap, .int .i64 a, .int .i64 b, .func (.func fn) #[] #[]] w (Sorted' B gg n cap a' b' L w) := by
  subst ea eb
  exact insertion hC B gg n cap a' b' L w h.self hs hab hb

def St1 (B gg n cap : Nat) (L : List Pr) (w wr : World) (av bv : Value) : Prop :=
  ∃ (a : Nat) (L' : List Pr), av = .int .i64 a ∧ bv = .int .i64 (a + 20 : Nat) ∧ a ≤ n ∧ SS w wr B gg n cap 0 n L L' ∧ Pre L' 20 a
def St2 (B gg n cap : Nat) (L : List Pr) (w wr : World) (zv : Value) : Prop :=
  ∃ (z : Nat) (L' : List Pr), zv = .int .i64 z ∧ 20 ≤ z ∧ z ≤ 2 * n + 20 ∧ SS w wr B gg n cap 0 n L L' ∧ Bf L' z 0
def St3 (B gg n cap z : Nat) (L : List Pr) (w wr : World) (av bv : Value) : Prop :=
  ∃ (a : Nat) (L' : List Pr), av = .int .i64 a ∧ bv = .int .i64 (a + 2 * z : Nat) ∧ a ≤ n ∧ SS w wr B gg n cap 0 n L L' ∧ Pre L' (2 * z) a ∧ Bf L' z a

theorem bf_last {L : List Pr} {z a n : Nat} (hn : n = L.length) (h : Seg L a n) (hz : n ≤ a + z) : Bf L z a := .step (by rw [Nat.min_eq_right (by omega), ← hn]; exact h) (.done (by omega))

set_option maxHeartbeats 4000000 in
set_option maxRecDepth 100000 in
theorem stable {fn : Nat} (hC : CmpAt fn) (B gg n cap : Nat) (L : List Pr) (w : World) (h : SS w w B gg n cap 0 n L L) (hs : n ≤ 500000) :
    Calls Try.prog 39 #[.slice (some ⟨gg, 0, none⟩) n cap, .int .i64 n, .func (.func fn) #[] #[]] w (Sorted' B gg n cap 0 n L w) := by
  have HC := Lib.hid hC
  have H := Lib.hid h
  clear hC h
  go_enter Try.func39, Try.ntmps39
  go_wp2
  go_loopw [7, 8] (fun av bv wr => St1 B gg n cap L w wr av bv) (fun av _ _ => n - (intOf av).toNat)
  case atStart => exact ⟨0, L, rfl, rfl, by omega, H.out, .zero⟩
  case round =>
    obtain ⟨a, L1, rfl, rfl, ha, hS, hP⟩ := hrel
    have S := Lib.hid hS
    have P := Lib.hid hP
    clear hS hP
    by_cases hlt : a + 20 ≤ n
    · go_wp2_with (go_at_call 49; refine (insZ HC.out S.out (by omega) _ _ a (a + 20) rfl (by go_num) (by omega) hlt).mono ?_; rintro e w1 ⟨rfl, L2, hI, hG⟩; have I2 := Lib.hid (S.out.chain hI (by omega) hlt); have M2 := Lib.hid hI.mv; have G2 := Lib.hid hG; clear hI hG)
      go_roundw
      case rel => exact ⟨a + 20, L2, by go_num, by go_num, hlt, I2.out, .step (P.out.mv M2.out (Nat.le_refl _)) G2.out (by rw [← I2.out.row.len]; exact hlt)⟩
      case measure => simp [intOf]; omega
    · obtain ⟨wo, hwo⟩ : ∃ wo : World, wo = wr := ⟨_, rfl⟩
      subst hwo
      go_wp2_with (go_at_call 49; refine (insZ HC.out S.out (by omega) _ _ a n rfl rfl ha (Nat.le_refl _)).mono ?_; rintro e w1 ⟨rfl, L2, hI, hG⟩; have I2 := Lib.hid (S.out.chain hI (by omega) (Nat.le_refl _)); have M2 := Lib.hid hI.mv; have G2 := Lib.hid hG; clear hI hG)
      go_loopw [6] (fun zv wr => St2 B gg n cap L w wr zv) (fun zv _ => 2 * n + 20 - (intOf zv).toNat)
      case atStart => exact ⟨20, L2, rfl, Nat.le_refl _, by omega, I2.out, (P.out.mv M2.out (Nat.le_refl _)).join (bf_last I2.out.row.len G2.out (by omega))⟩
      case round =>
        clear S P I2 M2 G2
        obtain ⟨z, L3, rfl, hz1, hz2, hS, hB⟩ := hrel
        rename_i wr
        have S := Lib.hid hS
        have F := Lib.hid hB
        clear hS hB
        by_cases hzn : z < n
        · obtain ⟨wp, hwp⟩ : ∃ wp : World, wp = wr := ⟨_, rfl⟩
          subst hwp
          go_wp2
          go_loopw [7, 8] (fun av bv wr => St3 B gg n cap z L w wr av bv) (fun av _ _ => n - (intOf av).toNat)
          case atStart => exact ⟨0, L3, rfl, by go_num, by omega, S.out, .zero, F.out⟩
          case round =>
            clear S F
            obtain ⟨a, L4, rfl, rfl, ha, hS, hP, hB⟩ := hrel
            rename_i wr
            have S := Lib.hid hS
            have P := Lib.hid hP
            have F := Lib.hid hB
            have LN := Lib.hid hS.row.len
            clear hS hP hB
            by_cases hlt : a + 2 * z ≤ n
            · have s1 : Hid (Seg L4 a (a + z)) := by have h := F.out.head; rw [Nat.min_eq_left (by have := LN.out; omega)] at h; exact h
              have s2 : Hid (Seg L4 (a + z) (a + 2 * z)) := by have h := F.out.tail.head; rw [Nat.min_eq_left (by have := LN.out; omega)] at h; exact h.cut (Nat.le_refl _) (by omega)
              go_wp2_with (go_at_call 50; refine (symZ HC.out S.out (by omega) _ _ _ a (a + z) (a + 2 * z) rfl (by go_num) (by go_num) (by omega) (by omega) hlt s1.out s2.out).mono ?_; rintro e w1 ⟨rfl, L5, hI, hG⟩; have I2 := Lib.hid (S.out.chain hI (by omega) hlt); have M2 := Lib.hid hI.mv; have G2 := Lib.hid hG; clear hI hG)
              go_roundw
              case rel => exact ⟨a + 2 * z, L5, by go_num, by go_num, hlt, I2.out, .step (P.out.mv M2.out (Nat.le_refl _)) G2.out (by rw [← I2.out.row.len]; exact hlt), by
                have h := F.out.tail.tail
                rw [show a + z + z = a + 2 * z by omega] at h
                exact h.mv M2.out (Nat.le_refl _)⟩
              case measure => simp [intOf]; omega
            · by_cases hm : a + z < n
              · have s1 : Hid (Seg L4 a (a + z)) := by have h := F.out.head; rw [Nat.min_eq_left (by have := LN.out; omega)] at h; exact h
                have s2 : Hid (Seg L4 (a + z) n) := by have h := F.out.tail.head; rw [Nat.min_eq_right (by have := LN.out; omega), ← LN.out] at h; exact h
                go_wp2_with (go_at_call 50; refine (symZ HC.out S.out (by omega) _ _ _ a (a + z) n rfl (by go_num) rfl (by omega) (by omega) (Nat.le_refl _) s1.out s2.out).mono ?_; rintro e w1 ⟨rfl, L5, hI, hG⟩; have I2 := Lib.hid (S.out.chain hI (by omega) (Nat.le_refl _)); have M2 := Lib.hid hI.mv; have G2 := Lib.hid hG; clear hI hG)
                go_roundw
                case rel => exact ⟨z * 2, L5, by go_num, by omega, by omega, I2.out, by
                  have h := (P.out.mv M2.out (Nat.le_refl _)).join (bf_last I2.out.row.len G2.out (by omega))
                  rw [show 2 * z = z * 2 by omega] at h
                  exact h⟩
                case measure => simp [intOf]; omega
              · have s1 : Hid (Seg L4 a n) := by have h := F.out.head; rw [Nat.min_eq_right (by have := LN.out; omega), ← LN.out] at h; exact h
                go_wp2
                go_roundw
                case rel => exact ⟨z * 2, L4, by go_num, by omega, by omega, S.out, by
                  have h := P.out.join (bf_last LN.out s1.out (by omega))
                  rw [show 2 * z = z * 2 by omega] at h
                  exact h⟩
                case measure => simp [intOf]; omega
        · go_wp2
          go_end0
          exact ⟨rfl, L3, S.out, by
            have h := F.out.head
            rw [Nat.min_eq_right (by rw [← S.out.row.len]; omega), ← S.out.row.len] at h
            exact h⟩

set_option maxHeartbeats 1000000 in
theorem sort {fn : Nat} (hC : CmpAt fn) (B gg n cap : Nat) (L : List Pr) (w : World) (h : SS w w B gg n cap 0 n L L) (hs : n ≤ 500000) :
    Calls Try.prog 16 #[.slice (some ⟨gg, 0, none⟩) n cap, .func (.func fn) #[] #[]] w (Sorted' B gg n cap 0 n L w) := by
  have HC := Lib.hid hC
  have H := Lib.hid h
  clear hC h
  go_enter Try.func16, Try.ntmps16
  go_wp2_with (go_at_call 39; refine (stable HC.out B gg n cap L _ H.out hs).mono ?_; rintro e w1 ⟨rfl, L2, hI, hG⟩)
  go_end0
  exact ⟨rfl, L2, hI, hG⟩

set_option maxHeartbeats 1000000 in
theorem ins_zero (ao : Option Addr) (cap : Nat) (f : Value) (w : World) :
    Calls Try.prog 49 #[.slice ao 0 cap, .int .i64 0, .int .i64 0, f] w fun e w' => e = .returned (.tuple #[]) ∧ w = w' := by
  go_enter Try.func49, Try.ntmps49
  go_wp2
  refine wp_loop_rounds 1 ?_
  rw [rounds_succ]
  go_wp2
  go_end0
  exact ⟨rfl, rfl⟩
set_option maxHeartbeats 1000000 in
theorem stable_zero (ao : Option Addr) (cap : Nat) (f : Value) (w : World) :
    Calls Try.prog 39 #[.slice ao 0 cap, .int .i64 0, f] w fun e w' => e = .returned (.tuple #[]) ∧ w = w' := by
  go_enter Try.func39, Try.ntmps39
  go_wp2
  refine wp_loop_rounds 1 ?_
  rw [rounds_succ]
  go_wp2_with (go_at_call 49; refine (ins_zero ao cap f _).mono ?_; rintro e w' ⟨rfl, rfl⟩)
  refine wp_loop_rounds 1 ?_
  rw [rounds_succ]
  go_wp2
  go_end0
  exact ⟨rfl, rfl⟩
set_option maxHeartbeats 1000000 in
theorem sort_zero (ao : Option Addr) (cap : Nat) (f : Value) (w : World) :
    Calls Try.prog 16 #[.slice ao 0 cap, f] w fun e w' => e = .returned (.tuple #[]) ∧ w = w' := by
  go_enter Try.func16, Try.ntmps16
  go_wp2_with (go_at_call 39; refine (stable_zero ao cap f _).mono ?_; rintro e w' ⟨rfl, rfl⟩)
  go_end0
  exact ⟨rfl, rfl⟩
end Go.Proofs.Ytlhmlejkfgejiaa.Stab
