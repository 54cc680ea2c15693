/-
  The document's corners, whether turns may be, the rotation (reference), of any turns. Conditions: at most a thousand turns, each small.
-/
import Derived.Test.YtkakeakdgidigaaKtC
namespace Go.Proofs.Ytkakeakdgidigaa
open Go.RowKit Go.Proofs.Ytkakeakdgidigaa.KtM

theorem infoC15 : (Try.prog.info? 33).map (fun i => (i.zero, i.size, i.bytes)) = some (some (.agg #[.int .i64 0, .int .i64 0]), 2, 16) := by kernel_rfl
theorem crnK_none {T : List Int} {k : Nat} {t : Int} (ht : T.getD k 0 = t) (h1 : t ≠ -1) (h2 : t ≠ -2) : crnK T (k + 1) = crnK T k := by
  rw [crnK, ht]; unfold crn1; rw [if_neg h1, if_neg h2, List.append_nil]
theorem crnK_one {T : List Int} {k : Nat} (ht : T.getD k 0 = -1) : crnK T (k + 1) = crnK T k ++ [(k, 0)] := by rw [crnK, ht]; rfl
theorem crnK_two {T : List Int} {k : Nat} (ht : T.getD k 0 = -2) : crnK T (k + 1) = crnK T k ++ [(k, 0)] ++ [(k, 1)] := by rw [crnK, ht, List.append_assoc]; rfl
def RcO (T : List Int) (m : Nat) (w0 wr : World) (lv iv : Value) : Prop := ∃ k n : Nat, iv = .int .i64 k ∧ k ≤ m ∧ n ≤ 2 * k ∧ OwnC 33 wr w0.heap.size lv (crnK T k) n ∧ Below w0.heap.size w0 wr
set_option maxHeartbeats 4000000 in
theorem refCorners15 (v : Value) (T : List Int) (m : Nat) (w : World) (hZ : ZiAt w v T m) (hm : m ≤ 100000) :
    Calls Try.prog 8 #[v] w fun e w' => ∃ n lv, e = .returned lv ∧ n ≤ 2 * m ∧ OwnC 33 w' w.heap.size lv (crns T) n ∧ Below w.heap.size w w' := by
  obtain ⟨i0, hi, hz0, hz1, hz2⟩ := info_parts infoC15
  have HL := Lib.hid hZ.1
  obtain ⟨A, c, e⟩ := hZ.form
  subst e
  have HR := Lib.hid hZ.rows
  clear hZ
  go_enter Try.func8, Try.ntmps8
  go_wp2_with fail
  go_loopw [3, 4] (fun lv iv wr => RcO T m w wr lv iv) (fun _ iv _ => m - (intOf iv).toNat)
  case atStart => exact ⟨0, 0, rfl, Nat.zero_le _, Nat.zero_le _, OwnC.nil _ _ _, Below.refl _ _⟩
  case round =>
    obtain ⟨k, n, rfl, hk, hn, hO, hB⟩ := hrel
    obtain ⟨ao, co, e, -⟩ := hO.form
    subst e
    have O := Lib.hid hO
    have B := Lib.hid hB
    by_cases hlt : k < m
    · have q0 : decide (k < m) = true := decide_eq_true hlt
      rcases HR.out with h | ⟨b, o, rfl, hx⟩
      · exact absurd hlt (by omega)
      · obtain ⟨t, ht⟩ : ∃ t, T.getD k 0 = t := ⟨_, rfl⟩
        have HX : Hid (∀ w', Below w.heap.size w w' → b < w'.heap.size ∧ w'.cell? ⟨b, o + k, none⟩ = some (.int .i64 t)) := Lib.hid (fun w' q => ⟨(hx w' q).1, by rw [← ht]; exact (hx w' q).2 k hlt⟩)
        obtain ⟨hb, f0⟩ := HX.out wr hB
        have hwr := hB.size
        have OR : Hid (∀ o, (wr.alloc o).ownsRow w.heap.size 33 2 (.slice ao n co) n ((crnK T k).flatMap enc15)) := Lib.hid (fun o => row_below15 hO.2 (below_alloc15 wr o) (Nat.le_refl _))
        clear hx hO hB
        by_cases h1 : t = -1
        · subst h1
          have K1 := Lib.hid (crnK_one ht)
          clear ht
          go_wp2_with (at_builtin; refine wpList_append_fresh rfl (.tmp 23) (.tmp 26) 30 rfl w.heap.size 33 i0 (.agg #[.int .i64 0, .int .i64 0]) 2 16 Try.underlying30 hi hz0 hz1 hz2 rfl (by decide) (.slice ao n co) n ((crnK T k).flatMap enc15) rfl (OR.out _) ⟨wr.heap.size, 0, none⟩ 1 1 [.int .i64 (k : Int), .int .i64 ((0 : Nat) : Int)] rfl rfl (pair_news15 _ _ _ _ 33 (heap_alloc_new wr _)) (pair_one15 _ _) (by unfold maxLen; omega) (by omega) (by simp; omega) ?_; intro v5 w5 hown hgrow hfr; have O5 : Hid (OwnC 33 w5 w.heap.size v5 (crnK T (k + 1)) (n + 1)) := Lib.hid (by rw [K1.out]; exact OwnC.more O.out.1 hown); have B5 : Hid (Below w.heap.size w w5) := Lib.hid ((B.out.trans ((below_alloc15 _ _).mono hwr)).grown hgrow (by simp; omega) (fun q hq => (World.ownsRow.lt O.out.2 q hq).1)); obtain ⟨hb5, f5⟩ := HX.out w5 B5.out; clear hown hgrow hfr)
          go_roundw
          case rel => exact ⟨k + 1, n + 1, by go_num, by omega, by omega, O5.out, B5.out⟩
          case measure => (simp [intOf] <;> omega)
        · by_cases h2 : t = -2
          · subst h2
            have K2 := Lib.hid (crnK_two ht)
            clear ht
            go_wp2_with (first
              | (at_builtin; have _z := OR5; refine wpList_append_fresh rfl (.tmp 33) (.tmp 36) 30 rfl w.heap.size 33 i0 (.agg #[.int .i64 0, .int .i64 0]) 2 16 Try.underlying30 hi hz0 hz1 hz2 rfl (by decide) (.slice a5 (n + 1) c5) (n + 1) ((crnK T k ++ [(k, 0)]).flatMap enc15) rfl (OR5.out _) ⟨w5.heap.size, 0, none⟩ 1 1 [.int .i64 (k : Int), .int .i64 ((1 : Nat) : Int)] rfl rfl (pair_news15 _ _ _ _ 33 (heap_alloc_new w5 _)) (pair_one15 _ _) (by unfold maxLen; omega) (by omega) (by simp; omega) ?_; intro v6 w6 hown hgrow hfr; have O6 : Hid (OwnC 33 w6 w.heap.size v6 (crnK T (k + 1)) (n + 1 + 1)) := Lib.hid (by rw [K2.out]; exact OwnC.more O5.out.1 hown); have B6 : Hid (Below w.heap.size w w6) := Lib.hid ((B5.out.trans ((below_alloc15 _ _).mono hw5)).grown hgrow (by simp; omega) (fun q hq => (World.ownsRow.lt O5.out.2 q hq).1)); clear hown hgrow hfr)
              | (at_builtin; refine wpList_append_fresh rfl (.tmp 23) (.tmp 26) 30 rfl w.heap.size 33 i0 (.agg #[.int .i64 0, .int .i64 0]) 2 16 Try.underlying30 hi hz0 hz1 hz2 rfl (by decide) (.slice ao n co) n ((crnK T k).flatMap enc15) rfl (OR.out _) ⟨wr.heap.size, 0, none⟩ 1 1 [.int .i64 (k : Int), .int .i64 ((0 : Nat) : Int)] rfl rfl (pair_news15 _ _ _ _ 33 (heap_alloc_new wr _)) (pair_one15 _ _) (by unfold maxLen; omega) (by omega) (by simp; omega) ?_; intro v5 w5 hown hgrow hfr; have o5 := OwnC.more O.out.1 hown; have B5 : Hid (Below w.heap.size w w5) := Lib.hid ((B.out.trans ((below_alloc15 _ _).mono hwr)).grown hgrow (by simp; omega) (fun q hq => (World.ownsRow.lt O.out.2 q hq).1)); obtain ⟨hb5, f5⟩ := HX.out w5 B5.out; obtain ⟨a5, c5, e5, -⟩ := o5.form; subst e5; have O5 := Lib.hid o5; have hw5 := B5.out.size; have OR5 : Hid (∀ o, (w5.alloc o).ownsRow w.heap.size 33 2 (.slice a5 (n + 1) c5) (n + 1) ((crnK T k ++ [(k, 0)]).flatMap enc15)) := Lib.hid (fun o => row_below15 O5.out.2 (below_alloc15 w5 o) (Nat.le_refl _)); clear hown hgrow hfr o5 f0 hb))
            go_roundw
            case rel => exact ⟨k + 1, n + 1 + 1, by go_num, by omega, by omega, O6.out, B6.out⟩
            case measure => (simp [intOf] <;> omega)
          · have q1 : (t == -1) = false := by rw [beq_eq_false_iff_ne]; exact h1
            have q2 : (t == -2) = false := by rw [beq_eq_false_iff_ne]; exact h2
            have K0 := Lib.hid (crnK_none ht h1 h2)
            clear ht h1 h2
            go_wp2_with fail
            go_roundw
            case rel => exact ⟨k + 1, n, by go_num, by omega, by omega, by rw [K0.out]; exact O.out, B.out⟩
            case measure => (simp [intOf] <;> omega)
    · have q0 : decide (k < m) = false := decide_eq_false hlt
      obtain rfl : k = m := by omega
      clear hO hB
      go_wp2_with fail
      go_ret
      exact ⟨n, _, rfl, hn, by have := O.out; unfold crns; rw [HL.out]; exact this, B.out⟩
/-! Whether turns may be. -/
def GdR (T : List Int) (m : Nat) (iv : Value) : Prop := ∃ k : Nat, iv = .int .i64 k ∧ k ≤ m ∧ (T.take k).any badT = false
set_option maxHeartbeats 4000000 in
theorem refGood15 (v : Value) (T : List Int) (m : Nat) (w : World) (hZ : ZiAt w v T m) (hm : m ≤ 100000) :
    Calls Try.prog 9 #[v] w fun e w' => e = .returned (.bool (goodY T)) ∧ w = w' := by
  have HL := Lib.hid hZ.1
  have HZ := Lib.hid hZ
  obtain ⟨A, c, e⟩ := hZ.form
  subst e
  clear hZ
  go_enter Try.func9, Try.ntmps9
  go_wp2_with fail
  go_loop [3] (fun iv => GdR T m iv) (fun iv => m - (intOf iv).toNat)
  case atStart => exact ⟨0, rfl, Nat.zero_le _, rfl⟩
  case round =>
    obtain ⟨k, rfl, hk, hN⟩ := hrel
    have NO := Lib.hid hN
    clear hN
    by_cases hlt : k < m
    · have q0 : decide (k < m) = true := decide_eq_true hlt
      obtain ⟨b, o, c', e, hb, f0⟩ := HZ.out.nth hlt
      simp only [Value.slice.injEq, true_and] at e
      obtain ⟨rfl, rfl⟩ := e
      have ht := Lib.hid (any_take15 badT T k (by rw [HL.out]; exact hlt))
      have hf := Lib.hid (any_found15 badT T k (by rw [HL.out]; exact hlt))
      obtain ⟨t, htt⟩ : ∃ t, T.getD k 0 = t := ⟨_, rfl⟩
      rw [htt] at f0 ht hf
      clear htt
      by_cases h1 : t < -2
      · have q1 : decide (t < -2) = true := decide_eq_true h1
        have RE : Hid (goodY T = false) := Lib.hid (by unfold goodY; rw [hf.out (by unfold badT; rw [q1]; rfl)]; rfl)
        clear ht hf h1
        go_wp2_with fail
        go_ret
        exact ⟨by rw [RE.out]; rfl, rfl⟩
      · have q1 : decide (t < -2) = false := decide_eq_false h1
        by_cases h2 : 1 < t
        · have q2 : decide (1 < t) = true := decide_eq_true h2
          have RE : Hid (goodY T = false) := Lib.hid (by unfold goodY; rw [hf.out (by unfold badT; rw [q1, q2]; rfl)]; rfl)
          clear ht hf h1 h2
          go_wp2_with fail
          go_ret
          exact ⟨by rw [RE.out]; rfl, rfl⟩
        · have q2 : decide (1 < t) = false := decide_eq_false h2
          have NN : Hid ((T.take (k + 1)).any badT = false) := Lib.hid (by rw [ht.out, NO.out]; unfold badT; rw [q1, q2]; rfl)
          clear ht hf h1 h2
          go_wp2_with fail
          go_round
          case rel => exact ⟨k + 1, by go_num, by omega, NN.out⟩
          case measure => (simp [intOf] <;> omega)
    · have q0 : decide (k < m) = false := decide_eq_false hlt
      obtain rfl : k = m := by omega
      have RE : Hid (goodY T = true) := Lib.hid (by unfold goodY; have := NO.out; rw [← HL.out, List.take_length] at this; rw [this]; rfl)
      go_wp2_with fail
      go_ret
      exact ⟨by rw [RE.out]; rfl, rfl⟩
end Go.Proofs.Ytkakeakdgidigaa
