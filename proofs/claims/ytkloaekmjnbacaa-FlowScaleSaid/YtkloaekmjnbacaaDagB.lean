/-
  Whether a graph may be; whether numbers are coordinates. Conditions: none (rows of at most a million elements).
-/
import Derived.Test.YtkloaekmjnbacaaDagA
import Derived.Test.YtkloaekmjnbacaaDagN
import Derived.Deep.RegionWith
import Derived.Laws.EntriesVeiled
namespace Go.Proofs.Ytkloaekmjnbacaa
open Go.RowKit Go.Proofs.Ytkloaekmjnbacaa.DagM

/-- What a search answers: an index from 0 on, just if there is one. -/
def Idx (b : Bool) (w : World) (e : Ending) (w' : World) : Prop := ∃ i : Int, e = .returned (.int .i64 i) ∧ decide (0 ≤ i) = b ∧ Below w.heap.size w w'
/-- Where a search stands. -/
def IdxAt (len : Nat) (b : Nat → Bool) (w wr : World) (iv : Value) : Prop := ∃ k : Nat, iv = .int .i64 k ∧ k ≤ len ∧ Below w.heap.size w wr ∧ b k = false

theorem any_take {α : Type} (p : α → Bool) (L : List α) (k : Nat) (h : k < L.length) : (L.take (k + 1)).any p = ((L.take k).any p || p L[k]) := by
  rw [List.take_succ_eq_append_getElem h, List.any_append]
  simp
theorem any_found {α : Type} (p : α → Bool) (L : List α) (k : Nat) (h : k < L.length) (hp : p L[k] = true) : L.any p = true :=
  List.any_eq_true.2 ⟨L[k], List.getElem_mem h, hp⟩

set_option maxHeartbeats 2000000 in
theorem indexBad (n : Int) (c d : Nat) (v : Value) (L : List Arc) (w : World) (hA : ArcsAt w v L) (hl : L.length ≤ 1000000) (hC : ClosAt n w c d) :
    Calls Try.prog 71 #[v, .func (.func 57) #[] #[.pointer (some ⟨c, 0, none⟩)]] w (Idx (L.any (badA n)) w) := by
  have eg := enters_of Try.func57 (by kernel_rfl) rfl
  have HC := Lib.hid hC
  have HA := Lib.hid hA
  obtain ⟨A, cap, rfl, hcap, -⟩ := hA
  clear hC
  go_enter Try.func71, Try.ntmps71
  go_wp2
  go_loopw [8] (fun iv wr => IdxAt L.length (fun k => (L.take k).any (badA n)) w wr iv) (fun iv _ => L.length - (intOf iv).toNat)
  case atStart => exact ⟨0, rfl, by omega, Below.refl _ _, rfl⟩
  case round =>
    obtain ⟨k, rfl, hk, hB, hN⟩ := hrel
    have B := Lib.hid hB
    have N := Lib.hid hN
    clear hB hN
    by_cases hlt : k < L.length
    · obtain ⟨A', cap', e, _, hA⟩ := HA.out
      simp only [Value.slice.injEq, true_and] at e
      obtain ⟨rfl, rfl⟩ := e
      obtain ⟨b, o, rfl, hb, hcell⟩ := hA (by omega)
      obtain ⟨c0, c1, c2⟩ := hcell k hlt
      have d0 := (B.out.cell (p := ⟨b, o + k * 3, none⟩) hb).trans c0
      have d1 := (B.out.cell (p := ⟨b, o + k * 3 + 1, none⟩) hb).trans c1
      have d2 := (B.out.cell (p := ⟨b, o + k * 3 + 2, none⟩) hb).trans c2
      have ht := Lib.hid (any_take (badA n) L k hlt)
      have hf := Lib.hid (any_found (badA n) L k hlt)
      clear hA hcell c0 c1 c2
      have HCw := Lib.hid (HC.out.below B.out)
      generalize L[k] = a at *
      have hz := B.out.size
      cases hbad : badA n a with
      | true =>
        have hb2 := Lib.hid hbad
        clear hbad
        go_wp2_with (go_at_call 57; refine (bad n a c d _ HCw.out).mono ?_; rintro e w1 ⟨rfl, b1⟩; rw [hb2.out]; have B1 := Lib.hid b1; clear b1)
        go_ret
        exact ⟨k, rfl, by rw [hf.out hb2.out]; simp, B.out.trans (B1.out.mono hz)⟩
      | false =>
        have hb2 := Lib.hid hbad
        clear hbad
        go_wp2_with (go_at_call 57; refine (bad n a c d _ HCw.out).mono ?_; rintro e w1 ⟨rfl, b1⟩; rw [hb2.out]; have B1 := Lib.hid b1; clear b1)
        go_roundw
        case rel => exact ⟨k + 1, by go_num, by omega, B.out.trans (B1.out.mono hz), by simp only []; rw [ht.out, N.out, hb2.out]; rfl⟩
        case measure => simp [intOf]; omega
    · obtain rfl : L.length = k := by omega
      go_wp2
      go_ret
      have h := N.out
      rw [List.take_length] at h
      exact ⟨-1, rfl, by rw [h]; rfl, B.out⟩

set_option maxHeartbeats 1000000 in
theorem containsBad (n : Int) (c d : Nat) (v : Value) (L : List Arc) (w : World) (hA : ArcsAt w v L) (hl : L.length ≤ 1000000) (hC : ClosAt n w c d) :
    Calls Try.prog 56 #[v, .func (.func 57) #[] #[.pointer (some ⟨c, 0, none⟩)]] w fun e w' => e = .returned (.bool (L.any (badA n))) ∧ Below w.heap.size w w' := by
  have I := indexBad n c d v L w hA hl hC
  clear hA hl hC
  go_enter Try.func56, Try.ntmps56
  go_wp2_with (go_at_call 71; refine I.mono ?_; rintro e w1 ⟨i, rfl, hi, b1⟩; have HI := Lib.hid hi; have B1 := Lib.hid b1; clear hi b1)
  go_ret
  exact ⟨ret_bool HI.out, B1.out⟩

set_option maxHeartbeats 1000000 in
theorem mayBe (n : Int) (v : Value) (L : List Arc) (w : World) (hA : ArcsAt w v L) :
    Calls Try.prog 39 #[.int .i64 n, v] w fun e w' => e = .returned (.bool (mayB n L)) ∧ Below w.heap.size w w' := by
  have HA := Lib.hid hA
  obtain ⟨A, cap, rfl, hcap, -⟩ := hA
  by_cases h : 0 ≤ n ∧ n ≤ 4096 ∧ L.length ≤ 16384
  · obtain ⟨h1, h2, h3⟩ := h
    have e : mayB n L = !L.any (badA n) := by
      unfold mayB
      have a1 : decide (n < 0) = false := by simpa using h1
      have a2 : decide (4096 < n) = false := by simpa using h2
      have a3 : decide (16384 < L.length) = false := by simpa using h3
      rw [a1, a2, a3]
      rfl
    have E := Lib.hid e
    clear e
    go_enter Try.func39, Try.ntmps39
    go_wp2_with (go_at_call 56; refine (containsBad n (w.heap.size + 1) w.heap.size _ L _ (HA.out.below (((Below.refl _ _).alloc (Nat.le_refl _) _).alloc (by simp) _)) (by omega) ⟨by go_simp, by go_simp, by (simp <;> omega), by (simp <;> omega)⟩).mono ?_; rintro e w1 ⟨rfl, b1⟩; have B1 := Lib.hid b1; clear b1)
    go_ret
    exact ⟨ret_bool E.out.symm, (((Below.refl _ _).alloc (Nat.le_refl _) _).alloc (by simp) _).trans (B1.out.mono (by simp; omega))⟩
  · have e : mayB n L = false := by
      cases e : mayB n L
      · rfl
      · have := (mayB_iff n L).1 e
        exact absurd ⟨this.n0, this.n1, this.len⟩ h
    rw [e]
    clear e
    by_cases h1 : n < 0
    · clear h
      go_enter Try.func39, Try.ntmps39
      go_wp2
      go_ret
      exact ⟨rfl, (Below.refl _ _).alloc (Nat.le_refl _) _⟩
    · by_cases h2 : 4096 < n
      · clear h
        go_enter Try.func39, Try.ntmps39
        go_wp2
        go_ret
        exact ⟨rfl, (Below.refl _ _).alloc (Nat.le_refl _) _⟩
      · have h3 : 16384 < L.length := by omega
        clear h
        go_enter Try.func39, Try.ntmps39
        go_wp2
        go_ret
        exact ⟨rfl, (Below.refl _ _).alloc (Nat.le_refl _) _⟩

/-- What a function of one int tells. -/
structure PredAt (fn : Nat) (p : Int → Bool) : Prop where
  eg : ∀ args w, (callFunc fn args).run Try.prog w = .ok (.enter fn args) w
  calls : ∀ (W : World) (x : Int), Calls Try.prog fn #[.int .i64 x] W fun e W' => e = .returned (.bool (p x)) ∧ W = W'

set_option maxHeartbeats 2000000 in
theorem indexInt {fn : Nat} {p : Int → Bool} (hP : PredAt fn p) (v : Value) (L : List Int) (w : World) (hA : IntsAt w v L) (hl : L.length ≤ 1000000) :
    Calls Try.prog 41 #[v, .func (.func fn) #[] #[]] w (Idx (L.any p) w) := by
  have eg := hP.eg
  have HP := Lib.hid hP.calls
  have HA := Lib.hid hA
  obtain ⟨A, cap, rfl, hcap, -⟩ := hA
  clear hP
  go_enter Try.func41, Try.ntmps41
  go_wp2
  go_loopw [8] (fun iv wr => IdxAt L.length (fun k => (L.take k).any p) w wr iv) (fun iv _ => L.length - (intOf iv).toNat)
  case atStart => exact ⟨0, rfl, by omega, Below.refl _ _, rfl⟩
  case round =>
    obtain ⟨k, rfl, hk, hB, hN⟩ := hrel
    have B := Lib.hid hB
    have N := Lib.hid hN
    clear hB hN
    by_cases hlt : k < L.length
    · obtain ⟨A', cap', e, _, hA⟩ := HA.out
      simp only [Value.slice.injEq, true_and] at e
      obtain ⟨rfl, rfl⟩ := e
      obtain ⟨b, o, rfl, hb, hcell⟩ := hA (by omega)
      have d0 := (B.out.cell (p := ⟨b, o + k, none⟩) hb).trans (hcell k hlt)
      have ht := Lib.hid (any_take p L k hlt)
      have hf := Lib.hid (any_found p L k hlt)
      clear hA hcell
      generalize L[k] = a at *
      cases hbad : p a with
      | true =>
        have hb2 := Lib.hid hbad
        clear hbad
        go_wp2_with (go_at_fn fn; refine (HP.out _ a).mono ?_; rintro e w1 ⟨rfl, rfl⟩; rw [hb2.out])
        go_ret
        exact ⟨k, rfl, by rw [hf.out hb2.out]; simp, B.out⟩
      | false =>
        have hb2 := Lib.hid hbad
        clear hbad
        go_wp2_with (go_at_fn fn; refine (HP.out _ a).mono ?_; rintro e w1 ⟨rfl, rfl⟩; rw [hb2.out])
        go_roundw
        case rel => exact ⟨k + 1, by go_num, by omega, B.out, by simp only []; rw [ht.out, N.out, hb2.out]; rfl⟩
        case measure => simp [intOf]; omega
    · obtain rfl : L.length = k := by omega
      go_wp2
      go_ret
      have h := N.out
      rw [List.take_length] at h
      exact ⟨-1, rfl, by rw [h]; rfl, B.out⟩

set_option maxHeartbeats 1000000 in
theorem containsInt {fn : Nat} {p : Int → Bool} (hP : PredAt fn p) (v : Value) (L : List Int) (w : World) (hA : IntsAt w v L) (hl : L.length ≤ 1000000) :
    Calls Try.prog 33 #[v, .func (.func fn) #[] #[]] w fun e w' => e = .returned (.bool (L.any p)) ∧ Below w.heap.size w w' := by
  have I := indexInt hP v L w hA hl
  clear hA hl hP
  go_enter Try.func33, Try.ntmps33
  go_wp2_with (go_at_call 41; refine I.mono ?_; rintro e w1 ⟨i, rfl, hi, b1⟩; have HI := Lib.hid hi; have B1 := Lib.hid b1; clear hi b1)
  go_ret
  exact ⟨ret_bool HI.out, B1.out⟩



end Go.Proofs.Ytkloaekmjnbacaa
