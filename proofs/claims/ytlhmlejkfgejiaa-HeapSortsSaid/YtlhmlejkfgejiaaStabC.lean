/-
  The library's stable sort over a row of pairs: the merges of one with the rest. Conditions: both halves are in order.
-/
import Derived.Test.YtlhmlejkfgejiaaStabB
namespace Go.Proofs.Ytlhmlejkfgejiaa.Stab
open Go.RowKit Go.Proofs.Ytlhmlejkfgejiaa Go.Proofs.Ytlhmlejkfgejiaa.HeapM Go.Proofs.Ytlhmlejkfgejiaa.StabM
open Go.Sort (grow)

theorem seg_le {L : List Pr} {a b p q : Nat} (h : Seg L a b) (h1 : a ≤ p) (h2 : p ≤ q) (h3 : q < b) : (g L p).1 ≤ (g L q).1 := by
  by_cases e : p = q
  · subst e; exact Int.le_refl _
  · exact h p q h1 (by omega) h3
theorem half_nat (i j : Nat) : ∃ h : Nat, ((i : Int) + (j : Int)) / 2 = (h : Int) ∧ h = (i + j) / 2 := ⟨(i + j) / 2, by omega, rfl⟩

def Find1 (B gg n cap a m b : Nat) (L : List Pr) (w wr : World) (iv jv : Value) : Prop :=
  ∃ i j : Nat, iv = .int .i64 i ∧ jv = .int .i64 j ∧ m ≤ i ∧ i ≤ j ∧ j ≤ b ∧ SS w wr B gg n cap a b L L ∧ (∀ q, m ≤ q → q < i → (g L q).1 < (g L a).1) ∧ (∀ q, j ≤ q → q < b → (g L a).1 ≤ (g L q).1)
def UpRel (B gg n cap a i b : Nat) (L : List Pr) (w wr : World) (kv : Value) : Prop :=
  ∃ (k : Nat) (L' : List Pr), kv = .int .i64 k ∧ a ≤ k ∧ k + 1 ≤ i ∧ SS w wr B gg n cap a b L L' ∧ Up L' a i b k
def Find2 (B gg n cap a m b : Nat) (L : List Pr) (w wr : World) (iv jv : Value) : Prop :=
  ∃ i j : Nat, iv = .int .i64 i ∧ jv = .int .i64 j ∧ a ≤ i ∧ i ≤ j ∧ j ≤ m ∧ SS w wr B gg n cap a b L L ∧ (∀ q, a ≤ q → q < i → (g L q).1 ≤ (g L m).1) ∧ (∀ q, j ≤ q → q < m → (g L m).1 < (g L q).1)
def DnRel (B gg n cap a i m b : Nat) (L : List Pr) (w wr : World) (kv : Value) : Prop :=
  ∃ (k : Nat) (L' : List Pr), kv = .int .i64 k ∧ i ≤ k ∧ k ≤ m ∧ SS w wr B gg n cap a b L L' ∧ Dn L' a i b k

set_option maxHeartbeats 4000000 in
set_option maxRecDepth 100000 in
theorem sym1 {fn : Nat} (hC : CmpAt fn) (B gg n cap a m b : Nat) (L : List Pr) (w : World) (h : SS w w B gg n cap a b L L) (hs : n ≤ 1000000) (ham : m = a + 1) (hmb : m < b) (hb : b ≤ n) (h2 : Seg L m b) :
    Calls Try.prog 50 #[.slice (some ⟨gg, 0, none⟩) n cap, .int .i64 a, .int .i64 m, .int .i64 b, .func (.func fn) #[] #[]] w (Sorted' B gg n cap a b L w) := by
  have HC := Lib.hid hC.calls
  have eg := hC.eg
  have H := Lib.hid h
  have HS2 := Lib.hid h2
  clear hC h h2
  have h11 : ((m : Int) - (a : Int) == 1) = true := by rw [beq_iff_eq]; omega
  have hm1 : m ≤ a + 1 := by omega
  have hm2 : a + 1 ≤ m := by omega
  clear ham
  go_enter Try.func50, Try.ntmps50
  go_wp2
  go_loopw [10, 11] (fun iv jv wr => Find1 B gg n cap a m b L w wr iv jv) (fun iv jv _ => (intOf jv).toNat - (intOf iv).toNat)
  case atStart => exact ⟨m, b, rfl, rfl, Nat.le_refl _, by omega, Nat.le_refl _, H.out, fun q h1 h2 => by omega, fun q h1 h2 => by omega⟩
  case round =>
    obtain ⟨i, j, rfl, rfl, hi, hij, hj, hS, hlo, hhi⟩ := hrel
    have S := Lib.hid hS
    have LO := Lib.hid hlo
    have HI := Lib.hid hhi
    clear hS hlo hhi
    by_cases hlt : i < j
    · obtain ⟨h, hh, hh2⟩ := half_nat i j
      have hb1 : i ≤ h := by omega
      have hb2 : h < j := by omega
      clear hh2
      have a0 := S.out.row.c0 (h) (by omega)
      have a1 := S.out.row.c1 (h) (by omega)
      have b0 := S.out.row.c0 (a) (by omega)
      have b1 := S.out.row.c1 (a) (by omega)
      have bx := Lib.hid (S.out.bd.at_ (h))
      have bz := Lib.hid (S.out.bd.at_ (a))
      generalize hx : g L (h) = x at a0 a1 bx
      generalize hy : g L (a) = y at b0 b1 bz
      have HX := Lib.hid hx
      have HY := Lib.hid hy
      clear hx hy
      have ca0 := fun d os => cell_regrown a0 d os
      have ca1 := fun d os => cell_regrown a1 d os
      have cb0 := fun d os => cell_regrown b0 d os
      have cb1 := fun d os => cell_regrown b1 d os
      have cQ := fun d os => Calls.regrown_of (HC.out (grow (redrawn wr d) os) x y bx.out bz.out)
      by_cases hxy : x.1 < y.1
      · have hdl : x.1 - y.1 < 0 := by omega
        have hdb : decide (x.1 - y.1 < 0) = true := by simpa using hdl
        go_wp2
        refine wp_region_quiet_below (by kernel_rfl) (by kernel_rfl) ?_
        repeat (first | go_big_quiet_step (exact cQ _ _) | quiet_step (exact cQ _ _))
        refine wpQuiet_nil ?_
        intro _ hw'
        obtain ⟨pp, hw''⟩ := hw'
        subst hw''
        clear cQ ca0 ca1 cb0 cb1
        have B1 := below_regrown wr pp.d pp.os
        generalize grow (redrawn wr pp.d) pp.os = w1 at B1 ⊢
        have S1 := Lib.hid (S.out.below B1)
        clear B1 a0 a1 b0 b1
        go_wp2
        go_roundw
        case rel => exact ⟨h + 1, j, by go_num, rfl, by omega, by omega, hj, S1.out, fun q h1 h2 => by
          by_cases e : q < i
          · exact LO.out q h1 e
          · have := seg_le HS2.out h1 (show q ≤ h by omega) (by omega)
            rw [HX.out] at this
            rw [HY.out]
            omega, HI.out⟩
        case measure => simp [intOf]; omega
      · have hdl : 0 ≤ x.1 - y.1 := by omega
        have hdb : decide (x.1 - y.1 < 0) = false := by simpa using hdl
        go_wp2
        refine wp_region_quiet_below (by kernel_rfl) (by kernel_rfl) ?_
        repeat (first | go_big_quiet_step (exact cQ _ _) | quiet_step (exact cQ _ _))
        refine wpQuiet_nil ?_
        intro _ hw'
        obtain ⟨pp, hw''⟩ := hw'
        subst hw''
        clear cQ ca0 ca1 cb0 cb1
        have B1 := below_regrown wr pp.d pp.os
        generalize grow (redrawn wr pp.d) pp.os = w1 at B1 ⊢
        have S1 := Lib.hid (S.out.below B1)
        clear B1 a0 a1 b0 b1
        go_wp2
        go_roundw
        case rel => exact ⟨i, h, rfl, by go_num, hi, by omega, by omega, S1.out, LO.out, fun q h1 h2 => by
          have := seg_le HS2.out (show m ≤ h by omega) h1 h2
          rw [HX.out] at this
          rw [HY.out]
          omega⟩
        case measure => simp [intOf]; omega
    · obtain rfl : i = j := by omega
      obtain ⟨i', rfl⟩ : ∃ i', i = i' + 1 := ⟨i - 1, by omega⟩
      obtain ⟨wo, hwo⟩ : ∃ wo : World, wo = wr := ⟨_, rfl⟩
      subst hwo
      go_wp2
      go_loopw [13] (fun kv wr => UpRel B gg n cap a (i' + 1) b L w wr kv) (fun kv _ => i' - (intOf kv).toNat)
      case atStart => exact ⟨a, L, rfl, Nat.le_refl _, by omega, S.out, ⟨fun p q h1 h2 h3 h4 h5 => HS2.out p q (by omega) h2 h3, fun p h1 h2 => by omega, fun q h1 h2 => LO.out q (by omega) h2, fun q h1 h2 h3 => HI.out q h2 h3⟩⟩
      case round =>
        clear S LO HI
        obtain ⟨k, L2, rfl, hk1, hk2, hS, hU⟩ := hrel
        rename_i wr
        have S := Lib.hid hS
        have U := Lib.hid hU
        clear hS hU
        by_cases hlt2 : k < i'
        · have hxy : (g L2 (k + 1)).1 < (g L2 k).1 := U.out.mid (k + 1) (by omega) (by omega)
          have hlen := Lib.hid S.out.row.len
          have HXY := Lib.hid hxy
          clear hxy
          have a0 := S.out.row.c0 (k) (by omega)
          have a1 := S.out.row.c1 (k) (by omega)
          have b0 := S.out.row.c0 (k + 1) (by omega)
          have b1 := S.out.row.c1 (k + 1) (by omega)
          have SW := Lib.hid (S.out.row.swap (k) (k + 1) (by omega) (by omega))
          have f0 := S.out.row.fr ((k) * 2)
          have f1 := S.out.row.fr ((k) * 2 + 1)
          have f2 := S.out.row.fr ((k + 1) * 2)
          have f3 := S.out.row.fr ((k + 1) * 2 + 1)
          generalize hx : g L2 (k) = x at a0 a1 SW
          generalize hy : g L2 (k + 1) = y at b0 b1 SW
          have HX := Lib.hid hx
          have HY := Lib.hid hy
          clear hx hy
          go_wp2
          go_region
          all_goals
            go_wp2
            go_roundw
            case rel => exact ⟨k + 1, sw L2 k (k + 1), by go_num, by omega, by omega, S.out.step SW.out.1 SW.out.2 ((adj_up L2 k (by have := hlen.out; omega)).mv hk1 (by omega)) ((adj_up L2 k (by have := hlen.out; omega)).c S.out.c (by have := hlen.out; omega) HXY.out), up_step U.out hk1 (by omega) (by omega) (adj_up L2 k (by have := hlen.out; omega))⟩
            case measure => simp [intOf]; omega
        · go_wp2
          go_end0
          exact ⟨rfl, L2, S.out, up_done U.out (by omega)⟩

set_option maxHeartbeats 4000000 in
set_option maxRecDepth 100000 in
theorem sym2 {fn : Nat} (hC : CmpAt fn) (B gg n cap a m b : Nat) (L : List Pr) (w : World) (h : SS w w B gg n cap a b L L) (hs : n ≤ 1000000) (ham : a + 1 < m) (hmb : b = m + 1) (hb : b ≤ n) (h1 : Seg L a m) :
    Calls Try.prog 50 #[.slice (some ⟨gg, 0, none⟩) n cap, .int .i64 a, .int .i64 m, .int .i64 b, .func (.func fn) #[] #[]] w (Sorted' B gg n cap a b L w) := by
  have HC := Lib.hid hC.calls
  have eg := hC.eg
  have H := Lib.hid h
  have HS1 := Lib.hid h1
  have hne : ((m : Int) - (a : Int) == 1) = false := by rw [beq_eq_false_iff_ne]; omega
  clear hC h h1
  have h11 : ((b : Int) - (m : Int) == 1) = true := by rw [beq_iff_eq]; omega
  have hm1 : b ≤ m + 1 := by omega
  have hm2 : m + 1 ≤ b := by omega
  clear hmb
  go_enter Try.func50, Try.ntmps50
  go_wp2
  go_loopw [14, 15] (fun iv jv wr => Find2 B gg n cap a m b L w wr iv jv) (fun iv jv _ => (intOf jv).toNat - (intOf iv).toNat)
  case atStart => exact ⟨a, m, rfl, rfl, Nat.le_refl _, by omega, Nat.le_refl _, H.out, fun q h1 h2 => by omega, fun q h1 h2 => by omega⟩
  case round =>
    obtain ⟨i, j, rfl, rfl, hi, hij, hj, hS, hlo, hhi⟩ := hrel
    have S := Lib.hid hS
    have LO := Lib.hid hlo
    have HI := Lib.hid hhi
    clear hS hlo hhi
    by_cases hlt : i < j
    · obtain ⟨h, hh, hh2⟩ := half_nat i j
      have hb1 : i ≤ h := by omega
      have hb2 : h < j := by omega
      clear hh2
      have a0 := S.out.row.c0 (m) (by omega)
      have a1 := S.out.row.c1 (m) (by omega)
      have b0 := S.out.row.c0 (h) (by omega)
      have b1 := S.out.row.c1 (h) (by omega)
      have bx := Lib.hid (S.out.bd.at_ (m))
      have bz := Lib.hid (S.out.bd.at_ (h))
      generalize hx : g L (m) = x at a0 a1 bx
      generalize hy : g L (h) = y at b0 b1 bz
      have HX := Lib.hid hx
      have HY := Lib.hid hy
      clear hx hy
      have ca0 := fun d os => cell_regrown a0 d os
      have ca1 := fun d os => cell_regrown a1 d os
      have cb0 := fun d os => cell_regrown b0 d os
      have cb1 := fun d os => cell_regrown b1 d os
      have cQ := fun d os => Calls.regrown_of (HC.out (grow (redrawn wr d) os) x y bx.out bz.out)
      by_cases hxy : x.1 < y.1
      · have hdl : x.1 - y.1 < 0 := by omega
        have hdb : decide (x.1 - y.1 < 0) = true := by simpa using hdl
        go_wp2
        refine wp_region_quiet_below (by kernel_rfl) (by kernel_rfl) ?_
        repeat (first | go_big_quiet_step (exact cQ _ _) | quiet_step (exact cQ _ _))
        refine wpQuiet_nil ?_
        intro _ hw'
        obtain ⟨pp, hw''⟩ := hw'
        subst hw''
        clear cQ ca0 ca1 cb0 cb1
        have B1 := below_regrown wr pp.d pp.os
        generalize grow (redrawn wr pp.d) pp.os = w1 at B1 ⊢
        have S1 := Lib.hid (S.out.below B1)
        clear B1 a0 a1 b0 b1
        go_wp2
        go_roundw
        case rel => exact ⟨i, h, rfl, by go_num, hi, by omega, by omega, S1.out, LO.out, fun q h1 h2 => by
          have := seg_le HS1.out (show a ≤ h by omega) h1 h2
          rw [HY.out] at this
          rw [HX.out]
          omega⟩
        case measure => simp [intOf]; omega
      · have hdl : 0 ≤ x.1 - y.1 := by omega
        have hdb : decide (x.1 - y.1 < 0) = false := by simpa using hdl
        go_wp2
        refine wp_region_quiet_below (by kernel_rfl) (by kernel_rfl) ?_
        repeat (first | go_big_quiet_step (exact cQ _ _) | quiet_step (exact cQ _ _))
        refine wpQuiet_nil ?_
        intro _ hw'
        obtain ⟨pp, hw''⟩ := hw'
        subst hw''
        clear cQ ca0 ca1 cb0 cb1
        have B1 := below_regrown wr pp.d pp.os
        generalize grow (redrawn wr pp.d) pp.os = w1 at B1 ⊢
        have S1 := Lib.hid (S.out.below B1)
        clear B1 a0 a1 b0 b1
        go_wp2
        go_roundw
        case rel => exact ⟨h + 1, j, by go_num, rfl, by omega, by omega, hj, S1.out, fun q h1 h2 => by
          by_cases e : q < i
          · exact LO.out q h1 e
          · have := seg_le HS1.out h1 (show q ≤ h by omega) (by omega)
            rw [HY.out] at this
            rw [HX.out]
            omega, HI.out⟩
        case measure => simp [intOf]; omega
    · obtain rfl : i = j := by omega
      obtain ⟨wo, hwo⟩ : ∃ wo : World, wo = wr := ⟨_, rfl⟩
      subst hwo
      go_wp2
      go_loopw [17] (fun kv wr => DnRel B gg n cap a i m b L w wr kv) (fun kv _ => (intOf kv).toNat)
      case atStart => exact ⟨m, L, rfl, by omega, Nat.le_refl _, S.out, ⟨fun p q h1 h2 h3 h4 h5 => HS1.out p q h1 h2 (by omega), fun q h1 h2 => by omega, fun p h1 h2 => HI.out p h1 h2, fun p h0 h1 h2 => LO.out p h0 h1⟩⟩
      case round =>
        clear S LO HI
        obtain ⟨k, L2, rfl, hk1, hk2, hS, hD⟩ := hrel
        rename_i wr
        have S := Lib.hid hS
        have U := Lib.hid hD
        clear hS hD
        by_cases hlt2 : i < k
        · obtain ⟨k', rfl⟩ : ∃ k', k = k' + 1 := ⟨k - 1, by omega⟩
          have hxy : (g L2 (k' + 1)).1 < (g L2 k').1 := U.out.mid k' (by omega) (by omega)
          have hlen := Lib.hid S.out.row.len
          have HXY := Lib.hid hxy
          clear hxy
          have a0 := S.out.row.c0 (k' + 1) (by omega)
          have a1 := S.out.row.c1 (k' + 1) (by omega)
          have b0 := S.out.row.c0 (k') (by omega)
          have b1 := S.out.row.c1 (k') (by omega)
          have SW := Lib.hid (S.out.row.swap (k' + 1) (k') (by omega) (by omega))
          have f0 := S.out.row.fr ((k' + 1) * 2)
          have f1 := S.out.row.fr ((k' + 1) * 2 + 1)
          have f2 := S.out.row.fr ((k') * 2)
          have f3 := S.out.row.fr ((k') * 2 + 1)
          generalize hx : g L2 (k' + 1) = x at a0 a1 SW
          generalize hy : g L2 (k') = y at b0 b1 SW
          have HX := Lib.hid hx
          have HY := Lib.hid hy
          clear hx hy
          go_wp2
          go_region
          all_goals
            go_wp2
            go_roundw
            case rel => exact ⟨k', sw L2 (k' + 1) k', by go_num, by omega, by omega, S.out.step SW.out.1 SW.out.2 ((adj_down L2 k' (by have := hlen.out; omega)).mv (by omega) (by omega)) ((adj_down L2 k' (by have := hlen.out; omega)).c S.out.c (by have := hlen.out; omega) HXY.out), dn_step U.out hi (by omega) (by omega) (adj_down L2 k' (by have := hlen.out; omega))⟩
            case measure => simp [intOf]
        · go_wp2
          go_end0
          exact ⟨rfl, L2, S.out, dn_done U.out (by omega)⟩
end Go.Proofs.Ytlhmlejkfgejiaa.Stab
