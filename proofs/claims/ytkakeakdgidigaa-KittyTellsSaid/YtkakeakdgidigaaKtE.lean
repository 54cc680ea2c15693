/-
  kitty's Corners and sums: all corners in their order, what is turned ahead of each. Conditions: at most a hundred thousand turns.
-/
import Derived.Test.YtkakeakdgidigaaKtC
namespace Go.Proofs.Ytkakeakdgidigaa
open Go.RowKit Go.Proofs.Ytkakeakdgidigaa.KtM

theorem infoK15 : (Try.prog.info? 24).map (fun i => (i.zero, i.size, i.bytes)) = some (some (.agg #[.int .i64 0, .int .i64 0]), 2, 16) := by kernel_rfl
theorem prt_le (t : Int) : prtN t ≤ 2 := by unfold prtN; split; omega; split <;> omega
/-- The first so many turns' corners, and so many of the next one's. -/
def crnJ (T : List Int) (k p : Nat) : List (Nat × Nat) := crnK T k ++ (List.range p).map fun j => (k, j)
theorem crnJ_zero (T : List Int) (k : Nat) : crnJ T k 0 = crnK T k := by simp [crnJ]
theorem crnJ_more (T : List Int) (k p : Nat) : crnJ T k (p + 1) = crnJ T k p ++ [(k, p)] := by unfold crnJ; rw [List.range_succ, List.map_append, ← List.append_assoc]; rfl
theorem crnJ_all (T : List Int) (k : Nat) : crnJ T k (prtN (T.getD k 0)) = crnK T (k + 1) := by rw [crnK, crn1_prt]; rfl
theorem crnJ_len (T : List Int) (k p : Nat) : (crnJ T k p).length = (crnK T k).length + p := by simp [crnJ]
def CoO (T : List Int) (m : Nat) (w0 wr : World) (lv iv : Value) : Prop := ∃ k n : Nat, iv = .int .i64 k ∧ k ≤ m ∧ n ≤ 2 * k ∧ OwnC 24 wr w0.heap.size lv (crnK T k) n ∧ Below w0.heap.size w0 wr
def CoI (T : List Int) (k r : Nat) (w0 wr : World) (lv iv : Value) : Prop := ∃ p n : Nat, iv = .int .i64 p ∧ p ≤ r ∧ n ≤ 2 * k + p ∧ OwnC 24 wr w0.heap.size lv (crnJ T k p) n ∧ Below w0.heap.size w0 wr
set_option maxHeartbeats 4000000 in
theorem corners15 (v : Value) (T : List Int) (m : Nat) (w : World) (hZ : ZiAt w v T m) (hm : m ≤ 100000) :
    Calls Try.prog 7 #[v] w fun e w' => ∃ n lv, e = .returned lv ∧ n ≤ 2 * m ∧ OwnC 24 w' w.heap.size lv (crns T) n ∧ Below w.heap.size w w' := by
  obtain ⟨i0, hi, hz0, hz1, hz2⟩ := info_parts infoK15
  have HL := Lib.hid hZ.1
  obtain ⟨A, c, e⟩ := hZ.form
  subst e
  have HR := Lib.hid hZ.rows
  have PA := Lib.hid parts15
  clear hZ
  go_enter Try.func7, Try.ntmps7
  go_wp2_with fail
  go_loopw [3, 9] (fun lv iv wr => CoO T m w wr lv iv) (fun _ iv _ => m - (intOf iv).toNat)
  case atStart => exact ⟨0, 0, rfl, Nat.zero_le _, Nat.zero_le _, OwnC.nil _ _ _, Below.refl _ _⟩
  case round =>
    obtain ⟨k, n, rfl, hk, hn, hO, hB⟩ := hrel
    obtain ⟨wo, hwo⟩ : ∃ W, W = wr := ⟨_, rfl⟩
    subst hwo
    obtain ⟨ao, co, e, -⟩ := hO.form
    subst e
    have O := Lib.hid hO
    have B := Lib.hid hB
    by_cases hlt : k < m
    · have q0 : decide (k < m) = true := decide_eq_true hlt
      rcases HR.out with h | ⟨b, o, rfl, hx⟩
      · exact absurd hlt (by omega)
      · obtain ⟨hb, hx⟩ := hx wo hB
        have f0 := hx k hlt
        have AL := Lib.hid (crnJ_all T k)
        obtain ⟨t, ht⟩ : ∃ t, T.getD k 0 = t := ⟨_, rfl⟩
        rw [ht] at f0 AL
        obtain ⟨r, hr⟩ : ∃ r, prtN t = r := ⟨_, rfl⟩
        have hr2 := prt_le t
        have PT : Hid (∀ w, Calls Try.prog 16 #[.int .i64 t] w fun e w' => e = .returned (.int .i64 (r : Int)) ∧ w = w') := Lib.hid (fun w => by rw [← hr]; exact parts15 t w)
        rw [hr] at AL hr2
        clear hx ht hr hO hB
        go_upto_region 6 with (go_at_call 16; refine (PT.out _).mono ?_; rintro e w1 ⟨rfl, rfl⟩)
        go_loopw [3, 16] (fun lv iv wr => CoI T k r w wr lv iv) (fun _ iv _ => r - (intOf iv).toNat)
        case atStart => exact ⟨0, n, rfl, Nat.zero_le _, by omega, by rw [crnJ_zero]; exact O.out, B.out⟩
        case round =>
          clear O B
          obtain ⟨p, n1, rfl, hp, hn1, hO, hB⟩ := hrel
          obtain ⟨a1, c1, e, -⟩ := hO.form
          subst e
          have O := Lib.hid hO
          have B := Lib.hid hB
          have hws := hB.size
          have OR : Hid (∀ o, (wr.alloc o).ownsRow w.heap.size 24 2 (.slice a1 n1 c1) n1 ((crnJ T k p).flatMap enc15)) := Lib.hid (fun o => row_below15 hO.2 (below_alloc15 wr o) (Nat.le_refl _))
          clear hO hB
          by_cases hpl : p < r
          · have q1 : decide (p < r) = true := decide_eq_true hpl
            go_wp2_with (at_builtin; refine wpList_append_fresh rfl (.tmp 19) (.tmp 23) 28 rfl w.heap.size 24 i0 (.agg #[.int .i64 0, .int .i64 0]) 2 16 Try.underlying28 hi hz0 hz1 hz2 rfl (by decide) (.slice a1 n1 c1) n1 ((crnJ T k p).flatMap enc15) rfl (OR.out _) ⟨wr.heap.size, 0, none⟩ 1 1 [.int .i64 (k : Int), .int .i64 (p : Int)] rfl rfl (pair_news15 _ _ _ _ 24 (heap_alloc_new wr _)) (pair_one15 _ _) (by unfold maxLen; omega) (by omega) (by simp; omega) ?_; intro v5 w5 hown hgrow hfr; have O5 : Hid (OwnC 24 w5 w.heap.size v5 (crnJ T k (p + 1)) (n1 + 1)) := Lib.hid (by rw [crnJ_more]; exact OwnC.more O.out.1 hown); have B5 : Hid (Below w.heap.size w w5) := Lib.hid ((B.out.trans ((below_alloc15 _ _).mono hws)).grown hgrow (by simp; omega) (fun q hq => (World.ownsRow.lt O.out.2 q hq).1)); clear hown hgrow hfr)
            go_roundw
            case rel => exact ⟨p + 1, n1 + 1, by go_num, by omega, by omega, O5.out, B5.out⟩
            case measure => (simp [intOf] <;> omega)
          · have q1 : decide (p < r) = false := decide_eq_false hpl
            obtain rfl : p = r := by omega
            go_wp2_with fail
            go_roundw
            case rel => exact ⟨k + 1, n1, by go_num, by omega, by omega, by rw [← AL.out]; exact O.out, B.out⟩
            case measure => (simp [intOf] <;> omega)
    · have q0 : decide (k < m) = false := decide_eq_false hlt
      obtain rfl : k = m := by omega
      clear hO hB
      go_wp2_with fail
      go_ret
      exact ⟨n, _, rfl, hn, by have := O.out; unfold crns; rw [HL.out]; exact this, B.out⟩
/-! What is turned ahead of each. -/
def smsJ (T : List Int) (k p : Nat) : List Int := (crnJ T k p).map (ahdC T)
theorem smsJ_more (T : List Int) (k p : Nat) : smsJ T k (p + 1) = smsJ T k p ++ [sumI (T.take k) - p] := by unfold smsJ; rw [crnJ_more, List.map_append]; rfl
theorem mkZero15 (N : Nat) (hN : N ≤ 1000000) (w : World) : (Instr.makeSlice 25 (.int .i64 0) (.int .i64 (N : Int))).run Try.prog w = .ok (.slice (some ⟨w.heap.size, 0, none⟩) 0 N) (w.alloc (.cells (madeCells #[.int .i64 0] N) 3)) := by
  obtain ⟨i, hi, hz, hs, hb⟩ := info_parts infoI15
  have h := run_make (P := Try.prog) w 25 3 i (.int .i64 0) Try.underlying25 hi hz .i64 .i64 0 (N : Int) (by omega) (by omega) (by rw [hb]; omega) (by omega)
  rw [hs, Nat.mul_one] at h
  simp only [Int.toNat_natCast] at h
  exact h
def SuO (T : List Int) (m : Nat) (w0 wr : World) (lv sv iv : Value) : Prop := ∃ k n : Nat, iv = .int .i64 k ∧ k ≤ m ∧ n ≤ 2 * k ∧ sv = .int .i64 (sumI (T.take k)) ∧ OwnJ wr w0.heap.size lv (smsJ T k 0) n ∧ Below w0.heap.size w0 wr
def SuI (T : List Int) (k r : Nat) (w0 wr : World) (lv iv : Value) : Prop := ∃ p n : Nat, iv = .int .i64 p ∧ p ≤ r ∧ n ≤ 2 * k + p ∧ OwnJ wr w0.heap.size lv (smsJ T k p) n ∧ Below w0.heap.size w0 wr
set_option maxHeartbeats 4000000 in
theorem sums15 (v : Value) (T : List Int) (m N : Nat) (w : World) (hZ : ZiAt w v T m) (hm : m ≤ 100000) (hg : GoodT T) (hN : N ≤ 1000000) :
    Calls Try.prog 23 #[v, .int .i64 (N : Int)] w fun e w' => ∃ n lv, e = .returned lv ∧ n ≤ 2 * m ∧ OwnJ w' w.heap.size lv (ahdL T) n ∧ Below w.heap.size w w' := by
  obtain ⟨i0, hi, hz0, hz1, hz2⟩ := info_parts infoI15
  have HL := Lib.hid hZ.1
  obtain ⟨A, c, e⟩ := hZ.form
  subst e
  have HR := Lib.hid hZ.rows
  have HG := Lib.hid hg
  have hmk := mkZero15 N hN w
  have O0 : Hid (OwnJ (w.alloc (.cells (madeCells #[.int .i64 0] N) 3)) w.heap.size (.slice (some ⟨w.heap.size, 0, none⟩) 0 N) [] 0) := Lib.hid (World.ownsRow_made w _ N (Nat.le_refl _) (by unfold maxLen; omega) (by simp [size_madeCells]))
  clear hZ hg
  go_enter Try.func23, Try.ntmps23
  go_wp2_with fail
  clear hmk
  go_loopw [5, 6, 14] (fun lv sv iv wr => SuO T m w wr lv sv iv) (fun _ _ iv _ => m - (intOf iv).toNat)
  case atStart => exact ⟨0, 0, rfl, Nat.zero_le _, Nat.zero_le _, rfl, O0.out, below_alloc15 _ _⟩
  case round =>
    clear O0
    obtain ⟨k, n, rfl, hk, hn, rfl, hO, hB⟩ := hrel
    obtain ⟨wo, hwo⟩ : ∃ W, W = wr := ⟨_, rfl⟩
    subst hwo
    obtain ⟨ao, co, e, -⟩ := row_form15 hO
    subst e
    have O := Lib.hid hO
    have B := Lib.hid hB
    have hsr := sum_take_range HG.out k (by rw [HL.out]; exact hk)
    by_cases hlt : k < m
    · have q0 : decide (k < m) = true := decide_eq_true hlt
      rcases HR.out with h | ⟨b, o, rfl, hx⟩
      · exact absurd hlt (by omega)
      · obtain ⟨hb, hx⟩ := hx wo hB
        have f0 := hx k hlt
        have AL := Lib.hid (crnJ_all T k)
        have MO := Lib.hid (smsJ_more T k)
        have SE := Lib.hid (sum_take15 (T := T) (k := k) (by rw [HL.out]; exact hlt))
        have tg := good_at15 HG.out (k := k) (by rw [HL.out]; exact hlt)
        obtain ⟨t, ht⟩ : ∃ t, T.getD k 0 = t := ⟨_, rfl⟩
        obtain ⟨s, hs⟩ : ∃ s, sumI (T.take k) = s := ⟨_, rfl⟩
        rw [ht] at f0 AL SE tg
        rw [hs] at MO SE hsr
        rw [hs]
        obtain ⟨r, hr⟩ : ∃ r, prtN t = r := ⟨_, rfl⟩
        have hr2 := prt_le t
        have PT : Hid (∀ w, Calls Try.prog 16 #[.int .i64 t] w fun e w' => e = .returned (.int .i64 (r : Int)) ∧ w = w') := Lib.hid (fun w => by rw [← hr]; exact parts15 t w)
        rw [hr] at AL hr2
        clear hx ht hs hr hO hB
        go_upto_region 7 with (go_at_call 16; refine (PT.out _).mono ?_; rintro e w1 ⟨rfl, rfl⟩)
        go_loopw [5, 20] (fun lv iv wr => SuI T k r w wr lv iv) (fun _ iv _ => r - (intOf iv).toNat)
        case atStart => exact ⟨0, n, rfl, Nat.zero_le _, by omega, O.out, B.out⟩
        case round =>
          clear O B
          obtain ⟨p, n1, rfl, hp, hn1, hO, hB⟩ := hrel
          obtain ⟨a1, c1, e, -⟩ := row_form15 hO
          subst e
          have O := Lib.hid hO
          have B := Lib.hid hB
          have hws := hB.size
          have OR : Hid (∀ o, (wr.alloc o).ownsRow w.heap.size 3 1 (.slice a1 n1 c1) n1 ((smsJ T k p).map (Value.int .i64))) := Lib.hid (fun o => row_below15 hO (below_alloc15 wr o) (Nat.le_refl _))
          clear hO hB
          by_cases hpl : p < r
          · have q1 : decide (p < r) = true := decide_eq_true hpl
            have q2 : (p : Int) * -1 = -(p : Int) := by omega
            have q3 : IntKind.i64.wrap (-(p : Int)) = -(p : Int) := IntWalk.i64_in _ (by omega)
            have ES : Hid (s - (p : Int) = s + -(p : Int)) := Lib.hid (by omega)
            obtain ⟨s2, hs2⟩ : ∃ s2, s + -(p : Int) = s2 := ⟨_, rfl⟩
            have q4 : IntKind.i64.wrap s2 = s2 := IntWalk.i64_in _ (by omega)
            rw [hs2] at ES
            go_wp2_with (at_builtin; refine wpList_append_fresh rfl (.tmp 23) (.tmp 28) 25 rfl w.heap.size 3 i0 (.int .i64 0) 1 8 Try.underlying25 hi hz0 hz1 hz2 rfl (by decide) (.slice a1 n1 c1) n1 ((smsJ T k p).map (Value.int .i64)) rfl (OR.out _) ⟨wr.heap.size, 0, none⟩ 1 1 [.int .i64 s2] rfl rfl (int_news15 _ _ _ 3 (heap_alloc_new wr _)) (int_one15 _) (by unfold maxLen; omega) (by omega) (by simp; omega) ?_; intro v5 w5 hown hgrow hfr; have O5 : Hid (OwnJ w5 w.heap.size v5 (smsJ T k (p + 1)) (n1 + 1)) := Lib.hid (by rw [MO.out, ES.out]; exact OwnJ.more hown); have B5 : Hid (Below w.heap.size w w5) := Lib.hid ((B.out.trans ((below_alloc15 _ _).mono hws)).grown hgrow (by simp; omega) (fun q hq => (World.ownsRow.lt O.out q hq).1)); clear hown hgrow hfr)
            go_roundw
            case rel => exact ⟨p + 1, n1 + 1, by go_num, by omega, by omega, O5.out, B5.out⟩
            case measure => (simp [intOf] <;> omega)
          · have q1 : decide (p < r) = false := decide_eq_false hpl
            obtain rfl : p = r := by omega
            go_wp2_with fail
            go_roundw
            case rel => exact ⟨k + 1, n1, by go_num, by omega, by omega, by rw [SE.out], by unfold smsJ; rw [crnJ_zero, ← AL.out]; exact O.out, B.out⟩
            case measure => (simp [intOf] <;> omega)
    · have q0 : decide (k < m) = false := decide_eq_false hlt
      obtain rfl : k = m := by omega
      clear hO hB hsr
      go_wp2_with fail
      go_ret
      exact ⟨n, _, rfl, hn, by have := O.out; unfold smsJ at this; rw [crnJ_zero] at this; unfold ahdL crns; rw [HL.out]; exact this, B.out⟩
end Go.Proofs.Ytkakeakdgidigaa
