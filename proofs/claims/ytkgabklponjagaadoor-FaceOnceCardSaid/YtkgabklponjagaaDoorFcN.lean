/-
  The code's faces and the document's compared: that they are the same is told. Conditions: both hold the same darts.
-/
import Derived.Test.YtkgabklponjagaaDoorFcG
import Derived.BigQuiet
namespace Go.Proofs.YtkgabklponjagaaDoor
open Go.RowKit Go.Proofs.YtkgabklponjagaaDoor.GrM Go.Proofs.YtkgabklponjagaaDoor.FcM

def SmR (w0 wr : World) (m : Nat) (iv : Value) : Prop := ∃ i : Nat, iv = .int .i64 i ∧ i ≤ m ∧ Below w0.heap.size w0 wr
set_option maxHeartbeats 16000000 in
set_option maxRecDepth 100000 in
theorem sameT (fv rv : Value) (F : List (List (Int × Int))) (m : Nat) (w : World) (hf : FcsAt w fv F m) (hr : FcsAt w rv F m) (hm : m ≤ 1000000) (hk : ∀ i, (F.getD i []).length ≤ 1000000) : Calls Tryd.prog 12 #[fv, rv] w fun e w' => e = .returned (.bool true) ∧ Below w.heap.size w w' := by
  have HF := Lib.hid hf
  have HR := Lib.hid hr
  have HLn := Lib.hid hk
  obtain ⟨A, c, e⟩ := hf.form
  subst e
  obtain ⟨A', c', e⟩ := hr.form
  subst e
  clear hf hr hk
  go_enter Tryd.func12, Tryd.ntmps12
  go_wp2_with fail
  go_loopw [14] (fun iv wr => SmR w wr m iv) (fun iv _ => m - (intOf iv).toNat)
  case atStart => exact ⟨0, rfl, Nat.zero_le _, Below.refl _ _⟩
  case round =>
    obtain ⟨i, rfl, hi, hB⟩ := hrel
    have B := Lib.hid hB
    by_cases hlt : i < m
    · have q0 : decide (i < m) = true := decide_eq_true hlt
      obtain ⟨b, o, c2, s, e, hb, hs, hp⟩ := (HF.out.below hB (Nat.le_refl _)).nth hlt
      simp only [Value.slice.injEq, true_and] at e
      obtain ⟨rfl, rfl⟩ := e
      obtain ⟨b', o', c2', s', e, hb', hs', hp'⟩ := (HR.out.below hB (Nat.le_refl _)).nth hlt
      simp only [Value.slice.injEq, true_and] at e
      obtain ⟨rfl, rfl⟩ := e
      have hkl := HLn.out i
      obtain ⟨G, hG⟩ : ∃ G, F.getD i [] = G := ⟨_, rfl⟩
      rw [hG] at hp hp' hkl
      have P := Lib.hid hp
      have P' := Lib.hid hp'
      obtain ⟨AG, cg, e, -, -⟩ := hp
      subst e
      obtain ⟨AG', cg', e, -, -⟩ := hp'
      subst e
      obtain ⟨k, hk⟩ : ∃ k, G.length = k := ⟨_, rfl⟩
      have HK := Lib.hid hk
      rw [hk] at hs hs' P P' hkl
      have hiI : (i : Int) < (m : Int) := by omega
      have q3 : ((k : Int) == (k : Int)) = true := by simp
      have CC : Hid (∀ wq, Below wr.heap.size wr wq → wq.cell? ⟨b, o + i, none⟩ = some (.slice AG k cg) ∧ wq.cell? ⟨b', o' + i, none⟩ = some (.slice AG' k cg') ∧ b < wq.heap.size ∧ b' < wq.heap.size) := Lib.hid (fun wq h =>
        ⟨(h.cell (p := ⟨_, _, none⟩) hb).trans hs, (h.cell (p := ⟨_, _, none⟩) hb').trans hs', Nat.lt_of_lt_of_le hb h.size, Nat.lt_of_lt_of_le hb' h.size⟩)
      clear hG hk hB
      go_upto_region 6 with fail
      go_quiet (fail)
      obtain ⟨wq, hwq⟩ : ∃ X, X = wr.drewN nq := ⟨_, rfl⟩
      have bq : Below wr.heap.size wr wq := by rw [hwq]; exact drewN_below (Below.refl _ _) _
      rw [← hwq]
      have BQ := Lib.hid bq
      obtain ⟨r1, r2, z1, z2⟩ := CC.out wq bq
      clear hwq bq hs hs' hb hb'
      go_wp2_with fail
      clear r1 r2 z1 z2
      obtain ⟨wo, hwo⟩ : ∃ W, W = wr := ⟨_, rfl⟩
      subst hwo
      go_loopw [33] (fun kv wr => SmR wq wr k kv) (fun kv _ => k - (intOf kv).toNat)
      case atStart => exact ⟨0, rfl, Nat.zero_le _, Below.refl _ _⟩
      case round =>
        obtain ⟨j, rfl, hj, hC⟩ := hrel
        have C := Lib.hid hC
        have BC := Lib.hid (BQ.out.trans (hC.mono BQ.out.size))
        by_cases hjt : j < k
        · have q4 : decide (j < k) = true := decide_eq_true hjt
          obtain ⟨r1, r2, z1, z2⟩ := CC.out wr BC.out
          obtain ⟨A1, k1, e, -, hA⟩ := P.out.below BC.out (Nat.le_refl _)
          rw [HK.out] at e
          simp only [Value.slice.injEq, true_and] at e
          obtain ⟨rfl, rfl⟩ := e
          obtain ⟨p, u, rfl, hp, hx⟩ := hA (by rw [HK.out]; omega)
          obtain ⟨x0, x1⟩ := hx j (by rw [HK.out]; exact hjt)
          obtain ⟨A1', k1', e, -, hA'⟩ := P'.out.below BC.out (Nat.le_refl _)
          rw [HK.out] at e
          simp only [Value.slice.injEq, true_and] at e
          obtain ⟨rfl, rfl⟩ := e
          obtain ⟨p', u', rfl, hp', hx'⟩ := hA' (by rw [HK.out]; omega)
          obtain ⟨x0', x1'⟩ := hx' j (by rw [HK.out]; exact hjt)
          generalize (G.getD j (0, 0)).1 = y0 at *
          generalize (G.getD j (0, 0)).2 = y1 at *
          have q5 : (y0 == y0) = true := by simp
          have q6 : (y1 == y1) = true := by simp
          have hjI : (j : Int) < (k : Int) := by omega
          clear hC hA hA' hx hx'
          go_upto_region 11 with fail
          go_quiet (fail)
          go_wp2_with fail
          go_roundw
          case rel => exact ⟨j + 1, by go_num, by omega, drewN_below C.out _⟩
          case measure => (simp [intOf] <;> omega)
        · have hjk : j = k := by omega
          subst hjk
          have q4 : decide (j < j) = false := decide_eq_false hjt
          clear hC
          go_wp2_with fail
          go_roundw
          case rel => exact ⟨i + 1, by go_num, by omega, B.out.trans (BC.out.mono B.out.size)⟩
          case measure => (simp [intOf] <;> omega)
    · have him : i = m := by omega
      subst him
      have q0 : decide (i < i) = false := decide_eq_false hlt
      clear hB
      go_wp2_with fail
      go_ret
      exact ⟨rfl, B.out⟩
theorem heldD2 : Tryd.prog.stoodInHeld 28 = false := by kernel_rfl
theorem neqD (w : World) (a0 a1 b0 b1 : Int) : (binOp .neq 28 (.agg #[.int .i64 a0, .int .i64 a1]) (.agg #[.int .i64 b0, .int .i64 b1])).run Tryd.prog w = .ok (.bool (!(a0 == b0 && a1 == b1))) w := by
  have hu := Tryd.underlying28
  have hi := Tryd.underlying3
  rw [run_neq_struct]
  have h := run_equalIn_agg (P := Tryd.prog) w 9999 28 #[.int .i64 a0, .int .i64 a1] #[.int .i64 b0, .int .i64 b1] (by kernel_rfl) heldD2
  rw [h]
  unfold Program.fieldsOf
  rw [hu]
  simp [Op.eqFields, go_sem]
  by_cases h0 : a0 = b0
  · by_cases h1 : a1 = b1
    · simp [h0, h1]
    · simp [h0, h1]
  · simp [h0]
end Go.Proofs.YtkgabklponjagaaDoor
