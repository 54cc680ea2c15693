/-
  kitty's ends and pair: tables of first and last places, the first pair found by them. Conditions: at most two hundred thousand numbers, each small.
-/
import Derived.Test.YtkakeakdgidigaaKtA
import Derived.Test.YtkakeakdgidigaaKtQ
import Derived.Test.YtkakeakdgidigaaShelf
namespace Go.Proofs.Ytkakeakdgidigaa
open Go.RowKit Go.Maps Go.Proofs.Ytkakeakdgidigaa.KtM

def SmallZ (L : List Int) : Prop := ∀ k, -1000000 ≤ L.getD k 0 ∧ L.getD k 0 ≤ 1000000
/-! Tables of first and last places. -/
def EnP (L : List Int) (w : World) (w' : World) : Prop := ∃ n f g, MpAt w' w.heap.size n f ∧ MpAt w' (w.heap.size + 1) n g ∧ FirM L f L.length ∧ LasM L g L.length
def EnS (L : List Int) (w0 wr : World) (k : Nat) : Prop := ∃ n f g, n ≤ k ∧ MpAt wr w0.heap.size n f ∧ MpAt wr (w0.heap.size + 1) n g ∧ FirM L f k ∧ LasM L g k ∧ Below w0.heap.size w0 wr
def EnR (L : List Int) (m : Nat) (w0 wr : World) (iv : Value) : Prop := ∃ k : Nat, iv = .int .i64 k ∧ k ≤ m ∧ EnS L w0 wr k
theorem MpAt.mono {w : World} {b n n' : Nat} {f : Int → Option Nat} (h : MpAt w b n f) (hn : n ≤ n') : MpAt w b n' f := by
  obtain ⟨D, h, r⟩ := h
  exact ⟨D, h.mono hn, r⟩
theorem EnS.start (L : List Int) (w : World) : EnS L w ((w.alloc (.map #[] 0)).alloc (.map #[] 0)) 0 :=
  ⟨0, _, _, Nat.le_refl _, (MpAt.made w).blk (Below.heap_alloc _ _ _ (by simp)), by have := MpAt.made (w.alloc (.map #[] 0)); simpa using this, FirM.zero L, LasM.zero L,
    ((Below.refl _ _).alloc (Nat.le_refl _) _).alloc (by simp) _⟩
theorem EnS.look {L : List Int} {w0 wr : World} {k : Nat} (h : EnS L w0 wr k) (hf : Fit64 (L.getD k 0)) (hk : k ≤ 500000) : ∃ o : Option Nat,
    (Instr.lookup 58 (.map (some w0.heap.size)) (.int .i64 (L.getD k 0)) true).run Try.prog wr = .ok (optV o) wr ∧
    (o.isSome = true → ∃ w2, (Instr.mapUpdate 58 (.map (some (w0.heap.size + 1))) (.int .i64 (L.getD k 0)) (.int .i64 (k : Int))).run Try.prog wr = .ok () w2 ∧ EnS L w0 w2 (k + 1)) ∧
    (o.isSome = false → ∃ w1 w2, (Instr.mapUpdate 58 (.map (some w0.heap.size)) (.int .i64 (L.getD k 0)) (.int .i64 (k : Int))).run Try.prog wr = .ok () w1 ∧
      (Instr.mapUpdate 58 (.map (some (w0.heap.size + 1))) (.int .i64 (L.getD k 0)) (.int .i64 (k : Int))).run Try.prog w1 = .ok () w2 ∧ EnS L w0 w2 (k + 1)) := by
  obtain ⟨n, f, g, hn, h1, h2, F, G, B⟩ := h
  have l1 := h1.lt
  have l2 := h2.lt
  refine ⟨f (L.getD k 0), h1.look hf, fun ho => ?_, fun ho => ?_⟩
  · obtain ⟨i, hi⟩ := Option.isSome_iff_exists.1 ho
    obtain ⟨w2, r2, p2, g2⟩ := h2.put hf (i := k) (by omega) (by omega)
    refine ⟨w2, r2, n + 1, f, _, by omega, (h1.blk (g2.block _ l1 (by simp))).mono (by omega), p2, F.old hi, G.step, B.grown g2 B.size (fun q hq => by cases hq; omega)⟩
  · have hi : f (L.getD k 0) = none := by
      cases e : f (L.getD k 0) with
      | none => rfl
      | some i => rw [e] at ho; cases ho
    obtain ⟨w1, r1, p1, g1⟩ := h1.put hf (i := k) (by omega) (by omega)
    have h2' := h2.blk (g1.block _ l2 (by simp))
    obtain ⟨w2, r2, p2, g2⟩ := h2'.put hf (i := k) (by omega) (by omega)
    have B1 := B.grown g1 B.size (fun q hq => by cases hq; omega)
    refine ⟨w1, w2, r1, r2, n + 1, _, _, by omega, p1.blk (g2.block _ p1.lt (by simp)), p2, F.new hi, G.step, B1.grown g2 B1.size (fun q hq => by cases hq; omega)⟩
set_option maxHeartbeats 4000000 in
theorem ends15 (v : Value) (L : List Int) (m : Nat) (w : World) (hZ : ZiAt w v L m) (hm : m ≤ 400000) (hs : SmallZ L) :
    Calls Try.prog 26 #[v] w fun e w' => e = .returned (.tuple #[.map (some w.heap.size), .map (some (w.heap.size + 1))]) ∧ EnP L w w' ∧ Below w.heap.size w w' := by
  have HL := Lib.hid hZ.1
  obtain ⟨A, c, e⟩ := hZ.form
  subst e
  have HR := Lib.hid hZ.rows
  have HS := Lib.hid hs
  have hmm := @run_makeMap Try.prog
  have S0 := Lib.hid (EnS.start L w)
  clear hZ hs
  go_enter Try.func26, Try.ntmps26
  go_wp2_with fail
  clear hmm
  go_loopw [14] (fun iv wr => EnR L m w wr iv) (fun iv _ => m - (intOf iv).toNat)
  case atStart => exact ⟨0, rfl, Nat.zero_le _, S0.out⟩
  case round =>
    clear S0
    obtain ⟨k, rfl, hk, hE⟩ := hrel
    by_cases hlt : k < m
    · have q0 : decide (k < m) = true := decide_eq_true hlt
      have hB : Below w.heap.size w wr := by obtain ⟨_, _, _, _, _, _, _, _, B⟩ := hE; exact B
      rcases HR.out with h | ⟨b, o, rfl, hx⟩
      · exact absurd hlt (by omega)
      · obtain ⟨hb, hx⟩ := hx wr hB
        have f0 := hx k hlt
        have hsm := HS.out k
        obtain ⟨op, lk, u1, u2⟩ := hE.look (by unfold Fit64; omega) (by omega)
        obtain ⟨x, hx2⟩ : ∃ x, L.getD k 0 = x := ⟨_, rfl⟩
        rw [hx2] at f0 lk u1 u2 hsm
        unfold optV at lk
        clear hx hE hB hx2
        obtain ⟨y, hy⟩ : ∃ y : Int, ((op.getD 0 : Nat) : Int) = y := ⟨_, rfl⟩
        rw [hy] at lk
        cases ho : op.isSome with
        | true =>
          obtain ⟨w2, r2, E2⟩ := u1 ho
          rw [ho] at lk
          have HE := Lib.hid E2
          clear u1 u2 ho hy E2
          go_wp2_with fail
          go_roundw
          case rel => exact ⟨k + 1, by go_num, by omega, HE.out⟩
          case measure => (simp [intOf] <;> omega)
        | false =>
          obtain ⟨w1, w2, r1, r2, E2⟩ := u2 ho
          rw [ho] at lk
          have HE := Lib.hid E2
          clear u1 u2 ho hy E2
          go_wp2_with fail
          go_roundw
          case rel => exact ⟨k + 1, by go_num, by omega, HE.out⟩
          case measure => (simp [intOf] <;> omega)
    · have q0 : decide (k < m) = false := decide_eq_false hlt
      obtain rfl : k = m := by omega
      have HE := Lib.hid hE
      clear hE
      go_wp2_with fail
      go_ret2
      obtain ⟨n, f, g, hn, h1, h2, F, G, B⟩ := HE.out
      exact ⟨rfl, ⟨n, f, g, h1, h2, by rw [HL.out]; exact F, by rw [HL.out]; exact G⟩, B⟩
/-! Where a number first stands. -/
theorem least15 {p : Nat → Prop} : ∀ {n : Nat}, (∃ j, j < n ∧ p j) → ∃ j, j < n ∧ p j ∧ ∀ r, r < j → ¬ p r
  | 0, h => by obtain ⟨j, h, _⟩ := h; omega
  | n + 1, h => by
    by_cases c : ∃ j, j < n ∧ p j
    · obtain ⟨j, h1, h2, h3⟩ := least15 c
      exact ⟨j, by omega, h2, h3⟩
    · obtain ⟨j, h1, h2⟩ := h
      have : j = n := by
        by_cases e : j < n
        · exact absurd ⟨j, e, h2⟩ c
        · omega
      subst this
      exact ⟨j, h1, h2, fun r hr e => c ⟨r, hr, e⟩⟩
theorem index15 (b o n c : Nat) (x : List Int) (v : Int) (j : Nat) (w : World) (hZ : ZiAt w (.slice (some ⟨b, o, none⟩) n c) x n) (hn : n ≤ 400000) (hj : j < n) (hv : x.getD j 0 = v) (hne : ∀ r, r < j → x.getD r 0 ≠ v) :
    Calls Try.prog 27 #[.slice (some ⟨b, o, none⟩) n c, .int .i64 v] w fun e w' => e = .returned (.int .i64 (j : Int)) ∧ w' = w := by
  obtain ⟨hl, A, c', e, hA⟩ := hZ
  simp only [Value.slice.injEq, true_and] at e
  obtain ⟨rfl, rfl⟩ := e
  obtain ⟨b', o', e, _, hx⟩ := hA (by omega)
  simp only [Option.some.injEq, Addr.mk.injEq, and_true] at e
  obtain ⟨rfl, rfl⟩ := e
  have h := Go.Proofs.Try.slices_Index_int b o n c x v w (by omega) (by omega) (fun k hk => hx k (by omega))
  rw [Lib.idxOf_hit x n j v hj (by omega) hv hne] at h
  exact h
end Go.Proofs.Ytkakeakdgidigaa
