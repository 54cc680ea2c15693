/-
  Whether something is a corner, the first pair that look at one another (reference). Conditions: at most a thousand turns, each small.
-/
import Derived.Test.YtkakeakdgidigaaKtS
import Derived.Test.YtkakeakdgidigaaKtH
import Derived.Laws.StructEq
namespace Go.Proofs.Ytkakeakdgidigaa
open Go.RowKit Go.Proofs.Ytkakeakdgidigaa.KtM

theorem heldC15 : Try.prog.stoodInHeld 33 = false := by kernel_rfl
theorem eqC15 (w : World) (a0 a1 b0 b1 : Int) : (binOp .eql 33 (.agg #[.int .i64 a0, .int .i64 a1]) (.agg #[.int .i64 b0, .int .i64 b1])).run Try.prog w = .ok (.bool (a0 == b0 && a1 == b1)) w := by
  have hu := Try.underlying33
  have hi := Try.underlying3
  rw [run_eql_struct]
  have h := run_equalIn_agg (P := Try.prog) w 9999 33 #[.int .i64 a0, .int .i64 a1] #[.int .i64 b0, .int .i64 b1] (by kernel_rfl) heldC15
  rw [h]
  unfold Program.fieldsOf
  rw [hu]
  simp [Op.eqFields, go_sem]
  by_cases h0 : a0 = b0
  · by_cases h1 : a1 = b1
    · simp [h0, h1]
    · simp [h0, h1]
  · simp [h0]
theorem in_take {T : List Int} {x y : Int} : inC T x y = true ↔ ∃ k, k < (crns T).length ∧ (((crns T).getD k (0, 0)).1 : Int) = x ∧ (((crns T).getD k (0, 0)).2 : Int) = y := by
  rw [inC_iff]
  constructor
  · rintro ⟨c, hc, h1, h2⟩
    obtain ⟨k, hk, e⟩ := List.mem_iff_getElem.1 hc
    refine ⟨k, hk, ?_⟩
    rw [List.getD_eq_getElem?_getD, List.getElem?_eq_getElem hk, e]
    exact ⟨h1, h2⟩
  · rintro ⟨k, hk, h1, h2⟩
    refine ⟨(crns T).getD k (0, 0), ?_, h1, h2⟩
    rw [List.getD_eq_getElem?_getD, List.getElem?_eq_getElem hk]
    exact List.getElem_mem hk
def InR (C : List (Nat × Nat)) (x y : Int) (n : Nat) (w0 wr : World) (iv : Value) : Prop := ∃ k : Nat, iv = .int .i64 k ∧ k ≤ n ∧ (∀ j, j < k → ¬ (((C.getD j (0, 0)).1 : Int) = x ∧ ((C.getD j (0, 0)).2 : Int) = y)) ∧ Below w0.heap.size w0 wr
set_option maxHeartbeats 4000000 in
theorem refIn15 (v : Value) (T : List Int) (m : Nat) (x y : Int) (w : World) (hZ : ZiAt w v T m) (hm : m ≤ 100000) :
    Calls Try.prog 14 #[v, .agg #[.int .i64 x, .int .i64 y]] w fun e w' => e = .returned (.bool (inC T x y)) ∧ Below w.heap.size w w' := by
  obtain ⟨wb, hwb⟩ : ∃ W, W = w.alloc (.cells #[.int .i64 x, .int .i64 y] 33) := ⟨_, rfl⟩
  have bb : Below w.heap.size w wb := by rw [hwb]; exact below_alloc15 _ _
  have BB := Lib.hid bb
  have CO := Lib.hid (refCorners15 v T m wb (hZ.below bb (Nat.le_refl _)) hm)
  have x0 : wb.cell? ⟨w.heap.size, 0, none⟩ = some (.int .i64 x) := by rw [hwb]; go_simp
  have x1 : wb.cell? ⟨w.heap.size, 1, none⟩ = some (.int .i64 y) := by rw [hwb]; go_simp
  have hgb : w.heap.size < wb.heap.size := by rw [hwb]; simp
  obtain ⟨g, hgg⟩ : ∃ g, w.heap.size = g := ⟨_, rfl⟩
  have HGG := Lib.hid hgg
  rw [hgg] at x0 x1 hgb
  have XC : Hid (∀ wq, Below wb.heap.size wb wq → (wq.cell? ⟨g, 0, none⟩ = some (.int .i64 x) ∧ wq.cell? ⟨g, 1, none⟩ = some (.int .i64 y)) ∧ g < wq.heap.size) := Lib.hid (fun wq o => ⟨⟨(o.cell (p := ⟨g, 0, none⟩) hgb).trans x0, (o.cell (p := ⟨g, 1, none⟩) hgb).trans x1⟩, Nat.lt_of_lt_of_le hgb o.size⟩)
  have IN := Lib.hid (in_take (T := T) (x := x) (y := y))
  clear hZ bb hgg x0 x1 hgb
  go_enter Try.func14, Try.ntmps14
  go_upto_region 1 with (fail)
  rw [← hwb]
  clear hwb
  rw [HGG.out]
  go_wp2_with (go_at_call 8; refine CO.out.mono ?_; rintro e w1 ⟨n, lv, rfl, hn, oc, b1⟩; obtain ⟨ao, co, e, hcap⟩ := oc.form; subst e; have HR := Lib.hid oc.cs.rows; have HN := Lib.hid oc.1; have B1 := Lib.hid b1; clear b1 oc)
  clear CO
  go_loopw [6] (fun iv wr => InR (crns T) x y n w1 wr iv) (fun iv _ => n - (intOf iv).toNat)
  case atStart => exact ⟨0, rfl, Nat.zero_le _, fun j hj => absurd hj (by omega), Below.refl _ _⟩
  case round =>
    obtain ⟨k, rfl, hk, hN, hB⟩ := hrel
    have NO := Lib.hid hN
    have B := Lib.hid hB
    clear hN
    by_cases hlt : k < n
    · have q0 : decide (k < n) = true := decide_eq_true hlt
      rcases HR.out with h | ⟨b, o, rfl, hx⟩
      · exact absurd hlt (by omega)
      · obtain ⟨hb, hx⟩ := hx wr hB
        obtain ⟨f0, f1⟩ := hx k hlt
        obtain ⟨⟨c0, c1⟩, hc⟩ : ∃ c, (crns T).getD k (0, 0) = c := ⟨_, rfl⟩
        rw [hc] at f0 f1
        simp only at f0 f1
        obtain ⟨⟨x0, x1⟩, hg⟩ := XC.out wr (B1.out.trans (hB.mono B1.out.size))
        have eq := fun w => eqC15 w (c0 : Int) (c1 : Int) x y
        obtain ⟨z, hz⟩ : ∃ z, ((c0 : Int) == x && (c1 : Int) == y) = z := ⟨_, rfl⟩
        rw [hz] at eq
        have HC := Lib.hid hc
        clear hx hc hB
        cases z
        · have NN : Hid (∀ j, j < k + 1 → ¬ ((((crns T).getD j (0, 0)).1 : Int) = x ∧ (((crns T).getD j (0, 0)).2 : Int) = y)) := Lib.hid (fun j hj => by
            by_cases c : j < k
            · exact NO.out j c
            · obtain rfl : j = k := by omega
              rw [HC.out]
              simp only
              rintro ⟨rfl, rfl⟩
              simp at hz)
          clear hz
          go_upto_region 5 with (fail)
          go_region_held3 (fun w' => w'.cell? ⟨b, o + k * 2, none⟩ = some (.int .i64 (c0 : Int)) ∧ w'.cell? ⟨b, o + k * 2 + 1, none⟩ = some (.int .i64 (c1 : Int)) ∧ w'.cell? ⟨g, 0, none⟩ = some (.int .i64 x) ∧ w'.cell? ⟨g, 1, none⟩ = some (.int .i64 y)) (go_keep) (fail)
          go_wp2_with fail
          go_roundw
          case rel => exact ⟨k + 1, by go_num, by omega, NN.out, B.out.drew⟩
          case measure => (simp [intOf] <;> omega)
        · have RE : Hid (inC T x y = true) := Lib.hid (IN.out.2 ⟨k, by rw [HN.out]; exact hlt, by
            rw [HC.out]
            simp only [Bool.and_eq_true, beq_iff_eq] at hz
            exact hz⟩)
          clear hz
          go_upto_region 5 with (fail)
          go_region_held3 (fun w' => w'.cell? ⟨b, o + k * 2, none⟩ = some (.int .i64 (c0 : Int)) ∧ w'.cell? ⟨b, o + k * 2 + 1, none⟩ = some (.int .i64 (c1 : Int)) ∧ w'.cell? ⟨g, 0, none⟩ = some (.int .i64 x) ∧ w'.cell? ⟨g, 1, none⟩ = some (.int .i64 y)) (go_keep) (fail)
          go_wp2_with fail
          go_ret
          exact ⟨by rw [RE.out]; rfl, BB.out.trans ((B1.out.trans (B.out.drew.mono B1.out.size)).mono BB.out.size)⟩
    · have q0 : decide (k < n) = false := decide_eq_false hlt
      obtain rfl : k = n := by omega
      have RE : Hid (inC T x y = false) := Lib.hid (by
        cases e : inC T x y with
        | false => rfl
        | true =>
          obtain ⟨j, hj, h1, h2⟩ := IN.out.1 e
          exact absurd ⟨h1, h2⟩ (NO.out j (by rw [← HN.out]; exact hj)))
      clear hB
      go_wp2_with fail
      go_ret
      exact ⟨by rw [RE.out]; rfl, BB.out.trans ((B1.out.trans (B.out.mono B1.out.size)).mono BB.out.size)⟩
end Go.Proofs.Ytkakeakdgidigaa
