/-
  The rotation between corners told by their places among all corners: what a law asks of it. Conditions: at most thirty turns.
-/
import Derived.Test.YtkakeakdgidigaaKtW
import Derived.Test.YtkakeakdgidigaaKtX
import Derived.Test.YtkakeakdgidigaaKtV
import Derived.Test.YtkakeakdgidigaaKtU
namespace Go.Proofs.Ytkakeakdgidigaa
open Go.RowKit Go.Proofs.Ytkakeakdgidigaa.KtM

/-- Rot asked of the i-th and the k-th corner: their cells named. -/
structure AskR (T : List Int) (tv : Value) (w2 : World) (b n : Nat) : Prop where
  len : (crns T).length = n
  rows : ∀ w', Below w2.heap.size w2 w' → b < w'.heap.size ∧ ∀ k, k < n → w'.cell? ⟨b, k * 2, none⟩ = some (.int .i64 (((crns T).getD k (0, 0)).1 : Int)) ∧ w'.cell? ⟨b, k * 2 + 1, none⟩ = some (.int .i64 (((crns T).getD k (0, 0)).2 : Int))
  call : ∀ wq, Below w2.heap.size w2 wq → ∀ a p c q, (a, p) ∈ crns T → (c, q) ∈ crns T → Calls Try.prog 10 #[tv, .agg #[.int .i64 (a : Int), .int .i64 (p : Int)], .agg #[.int .i64 (c : Int), .int .i64 (q : Int)]] wq fun e w' => e = .returned (.tuple #[.int .i64 (rotC T (a, p) (c, q)), .int .i64 0]) ∧ Below wq.heap.size wq w'
theorem AskR.two {T : List Int} {tv : Value} {w2 : World} {b n : Nat} (h : AskR T tv w2 b n) {i k : Nat} (hi : i < n) (hk : k < n) : ∃ a0 a1 b0 b1 : Nat,
    (∀ w', Below w2.heap.size w2 w' → (w'.cell? ⟨b, i * 2, none⟩ = some (.int .i64 (a0 : Int)) ∧ w'.cell? ⟨b, i * 2 + 1, none⟩ = some (.int .i64 (a1 : Int)) ∧ w'.cell? ⟨b, k * 2, none⟩ = some (.int .i64 (b0 : Int)) ∧ w'.cell? ⟨b, k * 2 + 1, none⟩ = some (.int .i64 (b1 : Int))) ∧ b < w'.heap.size) ∧
    (∀ wq, Below w2.heap.size w2 wq → Calls Try.prog 10 #[tv, .agg #[.int .i64 (a0 : Int), .int .i64 (a1 : Int)], .agg #[.int .i64 (b0 : Int), .int .i64 (b1 : Int)]] wq fun e w' => e = .returned (.tuple #[.int .i64 (rotA T i k), .int .i64 0]) ∧ Below wq.heap.size wq w') ∧
    (∀ wq, Below w2.heap.size w2 wq → Calls Try.prog 10 #[tv, .agg #[.int .i64 (b0 : Int), .int .i64 (b1 : Int)], .agg #[.int .i64 (a0 : Int), .int .i64 (a1 : Int)]] wq fun e w' => e = .returned (.tuple #[.int .i64 (rotA T k i), .int .i64 0]) ∧ Below wq.heap.size wq w') := by
  have ma := crnA_mem (T := T) (i := i) (by rw [h.len]; exact hi)
  have mb := crnA_mem (T := T) (i := k) (by rw [h.len]; exact hk)
  have e1 : rotA T i k = rotC T (crnA T i) (crnA T k) := rfl
  have e2 : rotA T k i = rotC T (crnA T k) (crnA T i) := rfl
  have ca : crnA T i = (crns T).getD i (0, 0) := rfl
  have cb : crnA T k = (crns T).getD k (0, 0) := rfl
  obtain ⟨⟨a0, a1⟩, ha⟩ : ∃ p, (crns T).getD i (0, 0) = p := ⟨_, rfl⟩
  obtain ⟨⟨b0, b1⟩, hb⟩ : ∃ p, (crns T).getD k (0, 0) = p := ⟨_, rfl⟩
  rw [ha] at ca
  rw [hb] at cb
  rw [ca] at ma e1 e2
  rw [cb] at mb e1 e2
  rw [e1, e2]
  refine ⟨a0, a1, b0, b1, fun w' o => ⟨cells_two ca cb (h.rows w' o).2 hi hk, (h.rows w' o).1⟩, fun wq o => h.call wq o _ _ _ _ ma mb, fun wq o => h.call wq o _ _ _ _ mb ma⟩
theorem AskR.three {T : List Int} {tv : Value} {w2 : World} {b n : Nat} (h : AskR T tv w2 b n) {i j k : Nat} (hi : i < n) (hj : j < n) (hk : k < n) : ∃ a0 a1 c0 c1 b0 b1 : Nat,
    (∀ w', Below w2.heap.size w2 w' → (w'.cell? ⟨b, i * 2, none⟩ = some (.int .i64 (a0 : Int)) ∧ w'.cell? ⟨b, i * 2 + 1, none⟩ = some (.int .i64 (a1 : Int)) ∧ w'.cell? ⟨b, j * 2, none⟩ = some (.int .i64 (c0 : Int)) ∧ w'.cell? ⟨b, j * 2 + 1, none⟩ = some (.int .i64 (c1 : Int))) ∧
      (w'.cell? ⟨b, j * 2, none⟩ = some (.int .i64 (c0 : Int)) ∧ w'.cell? ⟨b, j * 2 + 1, none⟩ = some (.int .i64 (c1 : Int)) ∧ w'.cell? ⟨b, k * 2, none⟩ = some (.int .i64 (b0 : Int)) ∧ w'.cell? ⟨b, k * 2 + 1, none⟩ = some (.int .i64 (b1 : Int))) ∧ b < w'.heap.size) ∧
    (∀ wq, Below w2.heap.size w2 wq → Calls Try.prog 10 #[tv, .agg #[.int .i64 (a0 : Int), .int .i64 (a1 : Int)], .agg #[.int .i64 (c0 : Int), .int .i64 (c1 : Int)]] wq fun e w' => e = .returned (.tuple #[.int .i64 (rotA T i j), .int .i64 0]) ∧ Below wq.heap.size wq w') ∧
    (∀ wq, Below w2.heap.size w2 wq → Calls Try.prog 10 #[tv, .agg #[.int .i64 (c0 : Int), .int .i64 (c1 : Int)], .agg #[.int .i64 (b0 : Int), .int .i64 (b1 : Int)]] wq fun e w' => e = .returned (.tuple #[.int .i64 (rotA T j k), .int .i64 0]) ∧ Below wq.heap.size wq w') := by
  have ma := crnA_mem (T := T) (i := i) (by rw [h.len]; exact hi)
  have mc := crnA_mem (T := T) (i := j) (by rw [h.len]; exact hj)
  have mb := crnA_mem (T := T) (i := k) (by rw [h.len]; exact hk)
  have e1 : rotA T i j = rotC T (crnA T i) (crnA T j) := rfl
  have e2 : rotA T j k = rotC T (crnA T j) (crnA T k) := rfl
  obtain ⟨⟨a0, a1⟩, ca⟩ : ∃ p, crnA T i = p := ⟨_, rfl⟩
  obtain ⟨⟨c0, c1⟩, cc⟩ : ∃ p, crnA T j = p := ⟨_, rfl⟩
  obtain ⟨⟨b0, b1⟩, cb⟩ : ∃ p, crnA T k = p := ⟨_, rfl⟩
  rw [ca] at ma e1
  rw [cc] at mc e1 e2
  rw [cb] at mb e2
  rw [e1, e2]
  exact ⟨a0, a1, c0, c1, b0, b1, fun w' o => ⟨cells_two ca cc (h.rows w' o).2 hi hj, cells_two cc cb (h.rows w' o).2 hj hk, (h.rows w' o).1⟩, fun wq o => h.call wq o _ _ _ _ ma mc, fun wq o => h.call wq o _ _ _ _ mc mb⟩
theorem rotA_small {T : List Int} (h : GoodT T) (hl : T.length ≤ 30) {i k : Nat} (hi : i < (crns T).length) (hk : k < (crns T).length) : -60 ≤ rotA T i k ∧ rotA T i k ≤ 60 := by
  have h1 := rot_small (sgs_small h) (corner_at (crnA_mem hi)).1 (corner_at (crnA_mem hk)).1
  have h2 := sgs_len T
  unfold rotA cpos
  omega
end Go.Proofs.Ytkakeakdgidigaa
