/-
  The law's turns: of at most thirty small numbers, as they are or made small. An argument of small numbers. Conditions: none.
-/
import Derived.Test.YtkakeakdgidigaaKtC
import Derived.Test.YtkakeakdgidigaaArgs
namespace Go.Proofs.Ytkakeakdgidigaa
open Go.RowKit Go.ChangeShapes Go.WideShapes Go.Deep Go.Proofs.Ytkakeakdgidigaa.KtM

/-- Small numbers in memory. -/
def S8At (w : World) (A : Option Addr) (n : Nat) (D : Nat → Int) : Prop := (0 < n → ∃ b o, A = some ⟨b, o, none⟩ ∧ b < w.heap.size ∧ ∀ k, k < n → w.cell? ⟨b, o + k, none⟩ = some (.int .i8 (D k))) ∧ ∀ k, k < n → -128 ≤ D k ∧ D k ≤ 127
theorem S8At.below {w w' : World} {A : Option Addr} {n : Nat} {D : Nat → Int} (h : S8At w A n D) (o : Below w.heap.size w w') : S8At w' A n D := by
  refine ⟨fun h0 => ?_, h.2⟩
  obtain ⟨b, q, e, hb, hx⟩ := h.1 h0
  exact ⟨b, q, e, Nat.lt_of_lt_of_le hb o.size, fun k hk => (o.cell (p := ⟨b, q + k, none⟩) hb).trans (hx k hk)⟩
theorem wf_i8 {n : Int} (h : (Lit.int .i8 n).wf = true) : -128 ≤ n ∧ n ≤ 127 := by
  have h' : IntKind.i8.min ≤ n ∧ n ≤ IntKind.i8.max := by simpa [Lit.wf] using h
  exact h'
set_option maxRecDepth 100000 in
theorem s8_open {H : Type} {enc : TypeId × Value → H} {w : World} {v : Value} {d : DataW H} {p : List MemPlace} {spare : Nat → Bool} {held : Bool} {b0 : Nat}
    (hv : Value.okWide Try.prog w .any b0 22 v) (h : DataW.Trod enc Try.prog w 0 spare held 22 v d p) :
    ∃ A n cap D, v = .slice A n cap ∧ n ≤ cap ∧ S8At w A n D := by
  rcases open_rows Try.underlying22 (K := 1) (by kernel_rfl) (by decide) hv h with ⟨A, cap, rfl⟩ | ⟨b, o, n, cap, rfl, R⟩
  · exact ⟨A, 0, cap, fun _ => 0, rfl, Nat.zero_le _, fun h => absurd h (by omega), fun k hk => absurd hk (by omega)⟩
  · have each : ∀ i, i < n → ∃ q : Int, w.cell? ⟨b, o + i, none⟩ = some (.int .i8 q) ∧ -128 ≤ q ∧ q ≤ 127 := by
      intro i hi
      obtain ⟨cs, hlen, hat, fuel, x, hx⟩ := R.at_ i hi
      match cs, hlen with
      | [c0], _ =>
        obtain ⟨n0, e0, f0⟩ := elem_int Try.underlying47 hx
        simp only [List.cons.injEq, and_true] at e0
        subst e0
        have h0 := hat 0 (by omega)
        rw [Nat.mul_one, Nat.add_zero] at h0
        exact ⟨n0, h0, wf_i8 f0⟩
    obtain ⟨D, hD⟩ := choose_lt each
    exact ⟨_, n, cap, D, rfl, R.le, fun _ => ⟨b, o, rfl, R.lt, fun k hk => (hD k hk).1⟩, fun k hk => (hD k hk).2⟩
/-- One of the law's turns; the first so many. -/
def trn1 (odd : Bool) (x : Int) : Int := if odd then x else max (-2) (min 1 (x.tmod 3))
def trnT (odd : Bool) (D : Nat → Int) (k : Nat) : List Int := (List.range k).map fun i => trn1 odd (D i)
theorem trnT_len (odd : Bool) (D : Nat → Int) (k : Nat) : (trnT odd D k).length = k := by simp [trnT]
theorem trnT_more (odd : Bool) (D : Nat → Int) (k : Nat) : trnT odd D (k + 1) = trnT odd D k ++ [trn1 odd (D k)] := by unfold trnT; rw [List.range_succ, List.map_append]; rfl
theorem trn_good (D : Nat → Int) (k : Nat) : GoodT (trnT false D k) := by
  intro t ht
  unfold trnT at ht
  obtain ⟨i, _, rfl⟩ := List.mem_map.1 ht
  unfold trn1
  simp only [Bool.false_eq_true, if_false]
  omega
def TuR (odd : Bool) (D : Nat → Int) (K : Nat) (w0 wr : World) (lv iv : Value) : Prop := ∃ k : Nat, iv = .int .i64 k ∧ k ≤ K ∧ OwnJ wr w0.heap.size lv (trnT odd D k) k ∧ Below w0.heap.size w0 wr
set_option maxHeartbeats 4000000 in
theorem turns15 (odd : Bool) (A : Option Addr) (n c K : Nat) (D : Nat → Int) (w : World) (h : S8At w A n D) (hc : n ≤ c) (hK : K = min n 30) :
    Calls Try.prog 6 #[.slice A n c, .bool odd] w fun e w' => ∃ lv, e = .returned lv ∧ OwnJ w' w.heap.size lv (trnT odd D K) K ∧ Below w.heap.size w w' := by
  obtain ⟨i0, hi, hz0, hz1, hz2⟩ := info_parts infoI15
  have H := Lib.hid h
  have hKn : K ≤ n := by omega
  have hK30 : K ≤ 30 := by omega
  have hmin : (if (30 : Int) < (n : Int) then (30 : Int) else (n : Int)) = (K : Int) := by split <;> omega
  have hKc : K ≤ c := by omega
  clear h hK
  go_enter Try.func6, Try.ntmps6
  go_wp2_with fail
  clear hmin
  go_loopw [5, 15] (fun lv iv wr => TuR odd D K w wr lv iv) (fun _ iv _ => K - (intOf iv).toNat)
  case atStart => exact ⟨0, rfl, Nat.zero_le _, OwnJ.nil _ _, Below.refl _ _⟩
  case round =>
    obtain ⟨k, rfl, hk, hO, hB⟩ := hrel
    obtain ⟨ao, co, e, -⟩ := row_form15 hO
    subst e
    have O := Lib.hid hO
    have B := Lib.hid hB
    by_cases hlt : k < K
    · have q0 : decide (k < K) = true := decide_eq_true hlt
      obtain ⟨b, o, rfl, hb, hx⟩ := (H.out.below hB).1 (by omega)
      have f0 := hx k (by omega)
      have hd := H.out.2 k (by omega)
      have MO := Lib.hid (trnT_more odd D k)
      obtain ⟨t, ht⟩ : ∃ t, D k = t := ⟨_, rfl⟩
      rw [ht] at f0 hd MO
      have hwr := hB.size
      have OR : Hid (∀ o, (wr.alloc o).ownsRow w.heap.size 3 1 (.slice ao k co) k ((trnT odd D k).map (Value.int .i64))) := Lib.hid (fun o => row_below15 hO (below_alloc15 wr o) (Nat.le_refl _))
      obtain ⟨d1, d2⟩ := hd
      have cx0 : IntKind.i64.wrap t = t := IntWalk.i64_in _ (by omega)
      clear hx ht hO hB
      cases odd
      · obtain ⟨x, hx⟩ : ∃ x, t.tmod 3 = x := ⟨_, rfl⟩
        have hxb : -3 ≤ x ∧ x ≤ 3 := by
          have h1 := Int.natAbs_tmod t 3
          rw [hx] at h1
          have h3 : Int.natAbs 3 = 3 := rfl
          rw [h3] at h1
          omega
        obtain ⟨y, hy⟩ : ∃ y : Int, (if x < 1 then x else 1) = y := ⟨_, rfl⟩
        obtain ⟨z, hz⟩ : ∃ z : Int, (if -2 < y then y else -2) = z := ⟨_, rfl⟩
        have TE : Hid (trn1 false t = z) := Lib.hid (by
          unfold trn1
          simp only [Bool.false_eq_true, if_false]
          rw [hx, ← hz, ← hy]
          split <;> split <;> omega)
        obtain ⟨xl, xu⟩ := hxb
        have cx1 : IntKind.i64.wrap x = x := IntWalk.i64_in _ (by omega)
        go_wp2_with (at_builtin; refine wpList_append_fresh rfl (.tmp 27) (.tmp 29) 25 rfl w.heap.size 3 i0 (.int .i64 0) 1 8 Try.underlying25 hi hz0 hz1 hz2 rfl (by decide) (.slice ao k co) k ((trnT false D k).map (Value.int .i64)) rfl (OR.out _) ⟨wr.heap.size, 0, none⟩ 1 1 [.int .i64 z] rfl rfl (int_news15 _ _ _ 3 (heap_alloc_new wr _)) (int_one15 _) (by unfold maxLen; omega) (by omega) (by simp; omega) ?_; intro v5 w5 hown hgrow hfr; have O5 : Hid (OwnJ w5 w.heap.size v5 (trnT false D (k + 1)) (k + 1)) := Lib.hid (by rw [MO.out, TE.out]; exact OwnJ.more hown); have B5 : Hid (Below w.heap.size w w5) := Lib.hid ((B.out.trans ((below_alloc15 _ _).mono hwr)).grown hgrow (by simp; omega) (fun q hq => (World.ownsRow.lt O.out q hq).1)); clear hown hgrow hfr)
        go_roundw
        case rel => exact ⟨k + 1, by go_num, by omega, O5.out, B5.out⟩
        case measure => (simp [intOf] <;> omega)
      · have TE : Hid (trn1 true t = t) := Lib.hid rfl
        go_wp2_with (at_builtin; refine wpList_append_fresh rfl (.tmp 27) (.tmp 29) 25 rfl w.heap.size 3 i0 (.int .i64 0) 1 8 Try.underlying25 hi hz0 hz1 hz2 rfl (by decide) (.slice ao k co) k ((trnT true D k).map (Value.int .i64)) rfl (OR.out _) ⟨wr.heap.size, 0, none⟩ 1 1 [.int .i64 t] rfl rfl (int_news15 _ _ _ 3 (heap_alloc_new wr _)) (int_one15 _) (by unfold maxLen; omega) (by omega) (by simp; omega) ?_; intro v5 w5 hown hgrow hfr; have O5 : Hid (OwnJ w5 w.heap.size v5 (trnT true D (k + 1)) (k + 1)) := Lib.hid (by rw [MO.out, TE.out]; exact OwnJ.more hown); have B5 : Hid (Below w.heap.size w w5) := Lib.hid ((B.out.trans ((below_alloc15 _ _).mono hwr)).grown hgrow (by simp; omega) (fun q hq => (World.ownsRow.lt O.out q hq).1)); clear hown hgrow hfr)
        go_roundw
        case rel => exact ⟨k + 1, by go_num, by omega, O5.out, B5.out⟩
        case measure => (simp [intOf] <;> omega)
    · have q0 : decide (k < K) = false := decide_eq_false hlt
      obtain rfl : k = K := by omega
      clear hO hB
      go_wp2_with fail
      go_ret
      exact ⟨_, rfl, O.out, B.out⟩
end Go.Proofs.Ytkakeakdgidigaa
