/-
  kitty's small functions: how many corners a turn has, whether turns may be, what is turned in all, ahead of a corner. Conditions: at most a million turns.
-/
import Derived.Test.YtkakeakdgidigaaKtB
import Derived.Shelf.Abstract
import Derived.Deep.RegionWith
import Derived.Laws.EntriesVeiled
import Derived.BigQuiet
import Derived.BigRegion
import Derived.Deep.CutRange
import Derived.Deep.CutBlock
import Derived.Deep.RegionHeld3
import Derived.Deep.QuietTactic
namespace Go.Proofs.Ytkakeakdgidigaa
open Go.RowKit Go.Proofs.Ytkakeakdgidigaa.KtM

/-! How many corners a turn has. -/
theorem parts15 (t : Int) (w : World) : Calls Try.prog 16 #[.int .i64 t] w fun e w' => e = .returned (.int .i64 (prtN t : Int)) ∧ w = w' := by
  by_cases h1 : t < -2
  · have q1 : decide (t < -2) = true := decide_eq_true h1
    have E : Hid (prtN t = 0) := Lib.hid (by unfold prtN; rw [if_neg (by omega), if_neg (by omega)])
    go_enter Try.func16, Try.ntmps16
    go_wp2_with fail
    go_ret
    exact ⟨by rw [E.out]; rfl, rfl⟩
  · have q1 : decide (t < -2) = false := decide_eq_false h1
    by_cases h2 : -1 < t
    · have q2 : decide (-1 < t) = true := decide_eq_true h2
      have E : Hid (prtN t = 0) := Lib.hid (by unfold prtN; rw [if_neg (by omega), if_neg (by omega)])
      go_enter Try.func16, Try.ntmps16
      go_wp2_with fail
      go_ret
      exact ⟨by rw [E.out]; rfl, rfl⟩
    · clear q1
      have h3 : t = -1 ∨ t = -2 := by omega
      clear h1 h2
      rcases h3 with rfl | rfl
      · go_enter Try.func16, Try.ntmps16
        go_wp2_with fail
        go_ret
        exact ⟨rfl, rfl⟩
      · go_enter Try.func16, Try.ntmps16
        go_wp2_with fail
        go_ret
        exact ⟨rfl, rfl⟩

/-! Whether turns may be. -/
def badT (t : Int) : Bool := decide (t < -2) || decide (1 < t)
def goodY (T : List Int) : Bool := !(T.any badT)
theorem good_iff {T : List Int} : goodY T = true ↔ GoodT T := by
  unfold goodY GoodT
  rw [Bool.not_eq_true', List.any_eq_false]
  constructor
  · intro h t ht
    have := h t ht
    simp only [badT, Bool.or_eq_true, decide_eq_true_eq, not_or] at this
    omega
  · intro h t ht
    have := h t ht
    simp only [badT, Bool.or_eq_true, decide_eq_true_eq, not_or]
    omega
def Idx15 (b : Bool) (w : World) (e : Ending) (w' : World) : Prop := ∃ i : Int, e = .returned (.int .i64 i) ∧ decide (0 ≤ i) = b ∧ Below w.heap.size w w'
def IdxAt15 (len : Nat) (b : Nat → Bool) (w wr : World) (iv : Value) : Prop := ∃ k : Nat, iv = .int .i64 k ∧ k ≤ len ∧ Below w.heap.size w wr ∧ b k = false
theorem any_take15 (p : Int → Bool) (L : List Int) (k : Nat) (h : k < L.length) : (L.take (k + 1)).any p = ((L.take k).any p || p (L.getD k 0)) := by
  rw [List.take_succ_eq_append_getElem h, List.any_append, List.getD_eq_getElem?_getD, List.getElem?_eq_getElem h]
  simp
theorem any_found15 (p : Int → Bool) (L : List Int) (k : Nat) (h : k < L.length) (hp : p (L.getD k 0) = true) : L.any p = true := by
  rw [List.getD_eq_getElem?_getD, List.getElem?_eq_getElem h] at hp
  exact List.any_eq_true.2 ⟨L[k], List.getElem_mem h, hp⟩
theorem bad15 (t : Int) (w : World) : Calls Try.prog 25 #[.int .i64 t] w fun e w' => e = .returned (.bool (badT t)) ∧ w = w' := by
  go_enter Try.func25, Try.ntmps25
  go_wp2
  all_goals
    go_ret
    refine ⟨ret_bool ?_, rfl⟩
    rw [Bool.eq_iff_iff]
    simp [badT]
    try omega
structure PredAt15 (fn : Nat) (p : Int → Bool) : Prop where
  eg : ∀ args w, (callFunc fn args).run Try.prog w = .ok (.enter fn args) w
  calls : ∀ (W : World) (x : Int), Calls Try.prog fn #[.int .i64 x] W fun e W' => e = .returned (.bool (p x)) ∧ W = W'
theorem badAt15 : PredAt15 25 badT := ⟨enters_of Try.func25 (by kernel_rfl) rfl, fun W x => bad15 x W⟩
set_option maxHeartbeats 2000000 in
theorem indexFunc15 {fn : Nat} {p : Int → Bool} (hP : PredAt15 fn p) (v : Value) (T : List Int) (m : Nat) (w : World) (hZ : ZiAt w v T m) (hm : m ≤ 1000000) :
    Calls Try.prog 28 #[v, .func (.func fn) #[] #[]] w (Idx15 (T.any p) w) := by
  have eg := hP.eg
  have HP := Lib.hid hP.calls
  clear hP
  have HZ := Lib.hid hZ
  obtain ⟨A, cap, rfl⟩ := hZ.form
  have LN := Lib.hid hZ.1
  clear hZ
  go_enter Try.func28, Try.ntmps28
  go_wp2
  go_loopw [8] (fun iv wr => IdxAt15 m (fun k => (T.take k).any p) w wr iv) (fun iv _ => m - (intOf iv).toNat)
  case atStart => exact ⟨0, rfl, by omega, Below.refl _ _, rfl⟩
  case round =>
    obtain ⟨k, rfl, hk, hB, hN⟩ := hrel
    have B := Lib.hid hB
    have N := Lib.hid hN
    clear hN
    by_cases hlt : k < m
    · obtain ⟨b, o, c', e, hb, d0⟩ := (HZ.out.below hB (Nat.le_refl _)).nth hlt
      simp only [Value.slice.injEq, true_and] at e
      obtain ⟨rfl, rfl⟩ := e
      have ht := Lib.hid (any_take15 p T k (by rw [LN.out]; exact hlt))
      have hf := Lib.hid (any_found15 p T k (by rw [LN.out]; exact hlt))
      clear hB
      obtain ⟨a, ha⟩ : ∃ a, T.getD k 0 = a := ⟨_, rfl⟩
      rw [ha] at d0 ht hf
      clear ha
      cases hbad : p a with
      | true =>
        have hb2 := Lib.hid hbad
        clear hbad
        go_wp2_with (go_at_fn fn; refine (HP.out _ a).mono ?_; rintro e w1 ⟨rfl, rfl⟩; rw [hb2.out])
        go_ret
        exact ⟨k, rfl, by rw [hf.out hb2.out]; simp, B.out⟩
      | false =>
        have hb2 := Lib.hid hbad
        clear hbad
        go_wp2_with (go_at_fn fn; refine (HP.out _ a).mono ?_; rintro e w1 ⟨rfl, rfl⟩; rw [hb2.out])
        go_roundw
        case rel => exact ⟨k + 1, by go_num, by omega, B.out, by simp only []; rw [ht.out, N.out, hb2.out]; rfl⟩
        case measure => simp [intOf]; omega
    · obtain rfl : m = k := by omega
      clear hB
      go_wp2
      go_ret
      have h := N.out
      have hl := LN.out
      rw [← hl, List.take_length] at h
      exact ⟨-1, rfl, by rw [h]; rfl, B.out⟩
set_option maxHeartbeats 1000000 in
theorem mayBe15 (v : Value) (T : List Int) (m : Nat) (w : World) (hZ : ZiAt w v T m) (hm : m ≤ 1000000) :
    Calls Try.prog 17 #[v] w fun e w' => e = .returned (.bool (goodY T)) ∧ Below w.heap.size w w' := by
  have I := Lib.hid (indexFunc15 badAt15 v T m w hZ hm)
  have CF : Hid (Calls Try.prog 24 #[v, .func (.func 25) #[] #[]] w fun e w' => e = .returned (.bool (T.any badT)) ∧ Below w.heap.size w w') := Lib.hid (by
    clear hZ
    go_enter Try.func24, Try.ntmps24
    go_wp2_with (go_at_call 28; refine I.out.mono ?_; rintro e w1 ⟨i, rfl, hi, b1⟩; have HI := Lib.hid hi; have B1 := Lib.hid b1; clear hi b1)
    go_ret
    exact ⟨ret_bool HI.out, B1.out⟩)
  have E : Hid (goodY T = !(T.any badT)) := Lib.hid rfl
  obtain ⟨q, hq⟩ : ∃ q, T.any badT = q := ⟨_, rfl⟩
  rw [hq] at CF E
  clear hZ hq I
  go_enter Try.func17, Try.ntmps17
  go_wp2_with (go_at_call 24; refine CF.out.mono ?_; rintro e w1 ⟨rfl, b1⟩; have B1 := Lib.hid b1; clear b1)
  go_ret
  exact ⟨by rw [E.out]; rfl, B1.out⟩
/-! What is turned in all. -/
theorem sum_take15 {T : List Int} {k : Nat} (hk : k < T.length) : sumI (T.take (k + 1)) = sumI (T.take k) + T.getD k 0 := by
  rw [take_one hk, sum_app]
  simp [sumI]
theorem sum_range {T : List Int} (h : GoodT T) : -(2 * (T.length : Int)) ≤ sumI T ∧ sumI T ≤ T.length := by
  induction T with
  | nil => simp [sumI]
  | cons t T ih =>
    have h1 := h t (by simp)
    have h2 := ih (fun s hs => h s (List.mem_cons_of_mem _ hs))
    simp only [sumI, List.length_cons]
    omega
theorem good_take15 {T : List Int} (h : GoodT T) (k : Nat) : GoodT (T.take k) := fun t ht => h t (List.mem_of_mem_take ht)
theorem good_at15 {T : List Int} (h : GoodT T) {k : Nat} (hk : k < T.length) : -2 ≤ T.getD k 0 ∧ T.getD k 0 ≤ 1 := by
  rw [List.getD_eq_getElem?_getD, List.getElem?_eq_getElem hk]
  exact h _ (List.getElem_mem hk)
theorem sum_take_range {T : List Int} (h : GoodT T) (k : Nat) (hk : k ≤ T.length) : -(2 * (k : Int)) ≤ sumI (T.take k) ∧ sumI (T.take k) ≤ k := by
  have := sum_range (good_take15 h k)
  rw [List.length_take, Nat.min_eq_left hk] at this
  exact this
def RoRel15 (T : List Int) (m : Nat) (sv iv : Value) : Prop := ∃ k : Nat, iv = .int .i64 k ∧ k ≤ m ∧ sv = .int .i64 (sumI (T.take k))
set_option maxHeartbeats 4000000 in
theorem rotation15 (zv : Value) (T : List Int) (m : Nat) (w : World) (hZ : ZiAt w zv T m) (hm : m ≤ 1000000) (hg : GoodT T) : Calls Try.prog 21 #[zv] w fun e w' => e = .returned (.int .i64 (sumI T)) ∧ w = w' := by
  have HZ := Lib.hid hZ
  obtain ⟨A, c, e⟩ := hZ.form
  subst e
  have hl := hZ.1
  have HLn := Lib.hid hl
  have HG := Lib.hid hg
  clear hZ hl hg
  go_enter Try.func21, Try.ntmps21
  go_wp2_with fail
  go_loop [3, 8] (fun sv iv => RoRel15 T m sv iv) (fun _ iv => m - (intOf iv).toNat)
  case atStart => exact ⟨0, rfl, Nat.zero_le _, rfl⟩
  case round =>
    obtain ⟨k, rfl, hk, rfl⟩ := hrel
    have hr := sum_take_range HG.out k (by rw [HLn.out]; exact hk)
    by_cases hlt : k < m
    · have q0 : decide (k < m) = true := decide_eq_true hlt
      obtain ⟨b, o, c', e, hb, f0⟩ := HZ.out.nth hlt
      simp only [Value.slice.injEq, true_and] at e
      obtain ⟨rfl, rfl⟩ := e
      have RE := Lib.hid (sum_take15 (T := T) (k := k) (by rw [HLn.out]; exact hlt))
      have ht2 := good_at15 HG.out (k := k) (by rw [HLn.out]; exact hlt)
      obtain ⟨t, ht⟩ : ∃ t, T.getD k 0 = t := ⟨_, rfl⟩
      obtain ⟨s, hs⟩ : ∃ s, sumI (T.take k) = s := ⟨_, rfl⟩
      rw [ht] at f0 RE ht2
      rw [hs] at RE hr
      rw [hs]
      clear ht hs
      have q1 : decide (-2 ≤ t) = true := decide_eq_true ht2.1
      have q2 : decide (t ≤ 1) = true := decide_eq_true ht2.2
      obtain ⟨t1, t2⟩ := ht2
      go_wp2_with fail
      go_round
      case rel => exact ⟨k + 1, by go_num, by omega, by rw [RE.out]⟩
      case measure => (simp [intOf] <;> omega)
    · have hkm : k = m := by omega
      subst hkm
      have E : Hid (sumI (T.take k) = sumI T) := Lib.hid (by rw [List.take_of_length_le (by rw [HLn.out]; omega)])
      clear hr
      go_wp2_with fail
      go_ret
      exact ⟨by rw [E.out]; rfl, rfl⟩
end Go.Proofs.Ytkakeakdgidigaa
