/-
  What the program's Check tells of coordinates and a flow, and the reference's. Conditions: at most 900 arcs.
-/
import Derived.Test.YtappfojjjegnpaaGreatDoorCtR
import Derived.Test.YtappfojjjegnpaaGreatDoorCrLb
import Derived.Test.YtappfojjjegnpaaGreatDoorCrLc
namespace Go.Proofs.YtappfojjjegnpaaGreatDoor
open Go.RowKit Go.Proofs.YtappfojjjegnpaaGreatDoor.DagM

theorem sum_le_mul (b : Int) : ∀ f : List Int, (∀ c ∈ f, c ≤ b) → f.sum ≤ b * f.length
  | [], _ => by simp
  | a :: f, h => by
    have ih := sum_le_mul b f (fun c hc => h c (by simp [hc]))
    have ha := h a (by simp)
    rw [List.sum_cons, List.length_cons]
    have : b * ((f.length + 1 : Nat) : Int) = b * f.length + b := by rw [Int.natCast_add, Int.mul_add]; simp
    omega
theorem flow_sum {L : List Arc} {f : List Int} (h : flowB L f = true) (hl : L.length ≤ 900) : f.length = L.length ∧ (∀ c ∈ f, 0 ≤ c) ∧ f.sum ≤ 1000000000000000 := by
  have hf := (flowB_iff L f).1 h
  have h1 := sum_le_mul 1099511627776 f (fun c hc => (hf.2 c hc).2)
  have h2 : (1099511627776 : Int) * f.length ≤ 1099511627776 * 900 := Int.mul_le_mul_of_nonneg_left (by omega) (by decide)
  exact ⟨hf.1, fun c hc => (hf.2 c hc).1, by omega⟩

theorem flowNoAt : PredAt 41 flowNo := by
  refine ⟨enters_of Tryz.func41 (by kernel_rfl) rfl, fun W x => ?_⟩
  go_enter Tryz.func41, Tryz.ntmps41
  go_wp2
  all_goals
    go_ret
    refine ⟨ret_bool ?_, rfl⟩
    rw [Bool.eq_iff_iff]
    simp [flowNo]
    try omega
set_option maxHeartbeats 1000000 in
theorem isFlow (v fv : Value) (L : List Arc) (f : List Int) (w : World) (hA : ArcsAt w v L) (hF : IntsAt w fv f) (hl : L.length ≤ 900) :
    Calls Tryz.prog 27 #[v, fv] w fun e w' => e = .returned (.bool (flowB L f)) ∧ Below w.heap.size w w' := by
  by_cases h : f.length = L.length
  · have I := containsInt flowNoAt fv f w hF (by omega)
    have e : flowB L f = !f.any flowNo := by unfold flowB; simp [h]
    have E := Lib.hid e
    have hb : ((f.length : Int) == L.length) = true := by rw [beq_iff_eq]; omega
    obtain ⟨A, cap, rfl, hcap, -⟩ := hA
    obtain ⟨af, cf, rfl⟩ := hF.form
    clear e h hF
    go_enter Tryz.func27, Tryz.ntmps27
    go_wp2_with (go_at_call 40; refine I.mono ?_; rintro e w1 ⟨rfl, b1⟩; have B1 := Lib.hid b1; clear b1)
    go_ret
    exact ⟨ret_bool E.out.symm, B1.out⟩
  · have e : flowB L f = false := by unfold flowB; simp [h]
    rw [e]
    have hb : ((f.length : Int) == L.length) = false := by rw [beq_eq_false_iff_ne]; omega
    obtain ⟨A, cap, rfl, hcap, -⟩ := hA
    obtain ⟨af, cf, rfl⟩ := hF.form
    clear e h hF
    go_enter Tryz.func27, Tryz.ntmps27
    go_wp2
    go_ret
    exact ⟨rfl, Below.refl _ _⟩
set_option maxHeartbeats 1000000 in
theorem sumC (v : Value) (f : List Int) (w : World) (hF : IntsAt w v f) (hn : ∀ c ∈ f, 0 ≤ c) (hs : f.sum ≤ 1000000000000000) (hl : f.length ≤ 1000000) :
    Calls Tryz.prog 29 #[v] w fun e w' => e = .returned (.int .i64 f.sum) ∧ w = w' := by
  have HF := Lib.hid hF
  have HN := Lib.hid hn
  obtain ⟨af, cf, rfl⟩ := hF.form
  clear hF hn
  go_enter Tryz.func29, Tryz.ntmps29
  go_wp2
  go_loop [3, 8] (fun sv iv => SmRel f sv iv) (fun _ iv => f.length - (intOf iv).toNat)
  case atStart => exact ⟨0, rfl, by omega, by simp⟩
  case round =>
    obtain ⟨k, rfl, hk, rfl⟩ := hrel
    by_cases hlt : k < f.length
    · obtain ⟨bf, of_, cf', e, hbf, c3⟩ := HF.out.nth hlt
      simp only [Value.slice.injEq, true_and] at e
      obtain ⟨rfl, rfl⟩ := e
      have h1 := sum_take_le f HN.out k
      have h2 := sum_take_le f HN.out (k + 1)
      have e2 : (f.take (k + 1)).sum = (f.take k).sum + f[k] := by rw [List.take_succ_eq_append_getElem hlt, List.sum_append]; simp
      have SE := Lib.hid e2
      have hc := HN.out f[k] (List.getElem_mem hlt)
      have hc2 : f[k] ≤ 1000000000000000 := by omega
      clear e2 h2
      obtain ⟨h1a, h1b⟩ := h1
      generalize f[k] = c at *
      generalize (f.take k).sum = s at *
      go_wp2
      go_round
      case rel => exact ⟨k + 1, by go_num, by omega, by rw [SE.out]⟩
      case measure => simp [intOf]; omega
    · obtain hkl : f.length = k := by omega
      subst hkl
      go_wp2
      go_ret
      exact ⟨rfl, rfl⟩

theorem cert_no {n : Nat} {L : List Arc} {x f : List Int} (h : costErr n L x ≠ 0) : certErr n L x f = costErr n L x := by unfold certErr; rw [if_neg h]
theorem cert_flow {n : Nat} {L : List Arc} {x f : List Int} (h : costErr n L x = 0) (h2 : flowB L f = false) : certErr n L x f = 2 := by unfold certErr; rw [if_pos h, h2]; rfl
theorem cert_right {n : Nat} {L : List Arc} {x f : List Int} (h : costErr n L x = 0) (h2 : flowB L f = true) (h3 : rightB n L f = false) : certErr n L x f = 12 := by unfold certErr; rw [if_pos h, if_pos h2, h3]; rfl
theorem cert_sum {n : Nat} {L : List Arc} {x f : List Int} (h : costErr n L x = 0) (h2 : flowB L f = true) (h3 : rightB n L f = true) : certErr n L x f = if f.sum = costSum x L then 0 else 15 := by unfold certErr; rw [if_pos h, if_pos h2, if_pos h3]

set_option maxHeartbeats 4000000 in
theorem checkC (n : Nat) (v xv fv : Value) (L : List Arc) (x f : List Int) (w : World) (hA : ArcsAt w v L) (hX : IntsAt w xv x) (hF : IntsAt w fv f) (hl : L.length ≤ 900) :
    Calls Tryz.prog 17 #[.int .i64 n, v, xv, fv] w fun e w' => e = .returned (.int .i64 (certErr n L x f)) ∧ Below w.heap.size w w' := by
  have HA := Lib.hid hA
  have HX := Lib.hid hX
  have HF := Lib.hid hF
  have C := Lib.hid (cost n v xv L x w hA hX)
  clear hA hX hF
  by_cases h0 : costErr n L x = 0
  · have K : costVal n L x = costSum x L := by unfold costVal; rw [if_pos h0]
    have C2 : Hid (Calls Tryz.prog 26 #[.int .i64 n, v, xv] w fun e w' => e = .returned (.tuple #[.int .i64 (costSum x L), .int .i64 0]) ∧ Below w.heap.size w w') := Lib.hid (by
      refine C.out.mono ?_
      rintro e w' ⟨rfl, hb⟩
      rw [K, h0]
      exact ⟨rfl, hb⟩)
    have hM : May n L := by
      refine ordErr_may ?_
      unfold costErr at h0
      by_cases h1 : ordErr n L = 0
      · exact h1
      · rw [if_neg h1] at h0; exact h0
    have M := Lib.hid hM
    clear C K hM
    cases hf : flowB L f with
    | false =>
      have E := Lib.hid (cert_flow h0 hf)
      have FB := Lib.hid hf
      clear hf h0
      go_enter Tryz.func17, Tryz.ntmps17
      go_wp2_with (first
        | (go_at_call 27; refine (isFlow v fv L f _ (HA.out.below B1.out) (HF.out.below B1.out) hl).mono ?_; rintro e w2 ⟨rfl, b2⟩; rw [FB.out]; have B2 := Lib.hid (B1.out.trans (b2.mono B1.out.size)); clear b2)
        | (go_at_call 26; refine C2.out.mono ?_; rintro e w1 ⟨rfl, b1⟩; have B1 := Lib.hid b1; clear b1))
      go_ret
      exact ⟨ret_int E.out.symm, B2.out⟩
    | true =>
      obtain ⟨fl, fn, fs⟩ := flow_sum hf hl
      have FB := Lib.hid hf
      have FN := Lib.hid fn
      clear fn
      cases hr : rightB n L f with
      | false =>
        have E := Lib.hid (cert_right h0 hf hr)
        have RB := Lib.hid hr
        clear hf h0 hr
        go_enter Tryz.func17, Tryz.ntmps17
        go_wp2_with (first
          | (go_at_call 28; refine (isRight n v fv L f _ (HA.out.below B2.out) M.out (HF.out.below B2.out) fl FN.out fs).mono ?_; rintro e w3 ⟨rfl, b3⟩; rw [RB.out]; have B3 := Lib.hid (B2.out.trans (b3.mono B2.out.size)); clear b3)
          | (go_at_call 27; refine (isFlow v fv L f _ (HA.out.below B1.out) (HF.out.below B1.out) hl).mono ?_; rintro e w2 ⟨rfl, b2⟩; rw [FB.out]; have B2 := Lib.hid (B1.out.trans (b2.mono B1.out.size)); clear b2)
          | (go_at_call 26; refine C2.out.mono ?_; rintro e w1 ⟨rfl, b1⟩; have B1 := Lib.hid b1; clear b1))
        go_ret
        exact ⟨ret_int E.out.symm, B3.out⟩
      | true =>
        have E := Lib.hid (cert_sum h0 hf hr)
        have RB := Lib.hid hr
        clear hf h0 hr
        by_cases hs : f.sum = costSum x L
        all_goals
          have S := Lib.hid hs
          have hs2 := hs
          generalize costSum x L = y at *
          obtain ⟨s, hss⟩ : ∃ s, f.sum = s := ⟨_, rfl⟩
          have SS := Lib.hid hss
          rw [hss] at hs2
          clear hs hss
          go_enter Tryz.func17, Tryz.ntmps17
          go_wp2_with (first
            | (go_at_call 29; refine (sumC fv f _ (HF.out.below B3.out) FN.out fs (by omega)).mono ?_; rintro e w4 ⟨rfl, rfl⟩; rw [SS.out])
            | (go_at_call 28; refine (isRight n v fv L f _ (HA.out.below B2.out) M.out (HF.out.below B2.out) fl FN.out fs).mono ?_; rintro e w3 ⟨rfl, b3⟩; rw [RB.out]; have B3 := Lib.hid (B2.out.trans (b3.mono B2.out.size)); clear b3)
            | (go_at_call 27; refine (isFlow v fv L f _ (HA.out.below B1.out) (HF.out.below B1.out) hl).mono ?_; rintro e w2 ⟨rfl, b2⟩; rw [FB.out]; have B2 := Lib.hid (B1.out.trans (b2.mono B1.out.size)); clear b2)
            | (go_at_call 26; refine C2.out.mono ?_; rintro e w1 ⟨rfl, b1⟩; have B1 := Lib.hid b1; clear b1))
          go_ret
          exact ⟨ret_int (by rw [E.out]; simp [S.out]), B3.out⟩
  · have E := Lib.hid (cert_no (f := f) h0)
    have hne : (costErr n L x == 0) = false := by simpa using h0
    clear h0
    obtain ⟨z, hz⟩ : ∃ z, costErr n L x = z := ⟨_, rfl⟩
    rw [hz] at hne
    have EZ := E.out
    rw [hz] at EZ
    have E := Lib.hid EZ
    clear EZ
    have C2 : Hid (Calls Tryz.prog 26 #[.int .i64 n, v, xv] w fun e w' => (∃ y, e = .returned (.tuple #[.int .i64 y, .int .i64 z])) ∧ Below w.heap.size w w') := Lib.hid (by
      refine C.out.mono ?_
      rintro e w' ⟨rfl, hb⟩
      rw [hz]
      exact ⟨⟨_, rfl⟩, hb⟩)
    clear C hz
    go_enter Tryz.func17, Tryz.ntmps17
    go_wp2_with (go_at_call 26; refine C2.out.mono ?_; rintro e w1 ⟨⟨y, rfl⟩, b1⟩; have B1 := Lib.hid b1; clear b1)
    go_ret
    exact ⟨ret_int E.out.symm, B1.out⟩
end Go.Proofs.YtappfojjjegnpaaGreatDoor
