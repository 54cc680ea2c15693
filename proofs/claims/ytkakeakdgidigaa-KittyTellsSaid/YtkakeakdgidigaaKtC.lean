/-
  kitty's corners told: what is turned ahead of one, which is ahead, whether it is one; the rotation. Conditions: at most a million turns.
-/
import Derived.Test.YtkakeakdgidigaaKtA
namespace Go.Proofs.Ytkakeakdgidigaa
open Go.RowKit Go.Proofs.Ytkakeakdgidigaa.KtM

theorem below_alloc15 (w : World) (o : Obj) : Below w.heap.size w (w.alloc o) := (Below.refl _ _).alloc (Nat.le_refl _) o
theorem below_drewN15 {B : Nat} {a w : World} (h : Below B a w) (n : Nat) : Below B a (w.drewN n) := h.trans ⟨rfl, rfl, rfl, Nat.le_refl _, fun _ _ => rfl⟩
/-! Which is ahead. -/
theorem isAhead15 (a b c d : Nat) (w : World) : Calls Try.prog 20 #[.agg #[.int .i64 (a : Int), .int .i64 (b : Int)], .agg #[.int .i64 (c : Int), .int .i64 (d : Int)]] w fun e w' =>
    e = .returned (.bool (decide (a < c ∨ a = c ∧ b < d))) ∧ Below w.heap.size w w' := by
  by_cases h1 : a < c
  · have q1 : decide (a < c) = true := decide_eq_true h1
    have E : Hid (decide (a < c ∨ a = c ∧ b < d) = true) := Lib.hid (decide_eq_true (Or.inl h1))
    clear h1
    go_enter Try.func20, Try.ntmps20
    go_wp2_with fail
    go_ret
    exact ⟨by rw [E.out]; rfl, (below_alloc15 _ _).trans ((below_alloc15 _ _).mono (by simp))⟩
  · have q1 : decide (a < c) = false := decide_eq_false h1
    by_cases h2 : a = c
    · have q2 : ((a : Int) == (c : Int)) = true := by rw [beq_iff_eq]; omega
      by_cases h3 : b < d
      · have q3 : decide (b < d) = true := decide_eq_true h3
        have E : Hid (decide (a < c ∨ a = c ∧ b < d) = true) := Lib.hid (decide_eq_true (Or.inr ⟨h2, h3⟩))
        clear h1 h2 h3
        go_enter Try.func20, Try.ntmps20
        go_wp2_with fail
        go_ret
        exact ⟨by rw [E.out]; rfl, (below_alloc15 _ _).trans ((below_alloc15 _ _).mono (by simp))⟩
      · have q3 : decide (b < d) = false := decide_eq_false h3
        have E : Hid (decide (a < c ∨ a = c ∧ b < d) = false) := Lib.hid (decide_eq_false (by omega))
        clear h1 h2 h3
        go_enter Try.func20, Try.ntmps20
        go_wp2_with fail
        go_ret
        exact ⟨by rw [E.out]; rfl, (below_alloc15 _ _).trans ((below_alloc15 _ _).mono (by simp))⟩
    · have q2 : ((a : Int) == (c : Int)) = false := by rw [beq_eq_false_iff_ne]; omega
      have E : Hid (decide (a < c ∨ a = c ∧ b < d) = false) := Lib.hid (decide_eq_false (by omega))
      clear h1 h2
      go_enter Try.func20, Try.ntmps20
      go_wp2_with fail
      go_ret
      exact ⟨by rw [E.out]; rfl, (below_alloc15 _ _).trans ((below_alloc15 _ _).mono (by simp))⟩
/-! What is turned ahead of one. -/
set_option maxHeartbeats 4000000 in
theorem ahead15 (v : Value) (T : List Int) (m a p : Nat) (w : World) (hZ : ZcAt w v T m) (hm : m ≤ 1000000) (hg : GoodT T) (ha : a ≤ m) (hp : p ≤ 1) :
    Calls Try.prog 19 #[v, .agg #[.int .i64 (a : Int), .int .i64 (p : Int)]] w fun e w' => e = .returned (.int .i64 (ahdC T (a, p))) ∧ Below w.heap.size w w' := by
  obtain ⟨A, c, e, hc⟩ := hZ.2
  subst e
  obtain ⟨wb, hwb⟩ : ∃ W, W = w.alloc (.cells #[.int .i64 (a : Int), .int .i64 (p : Int)] 24) := ⟨_, rfl⟩
  have bb : Below w.heap.size w wb := by rw [hwb]; exact below_alloc15 _ _
  have BB := Lib.hid bb
  have RO : Hid (∀ wq, Below wb.heap.size wb wq → Calls Try.prog 21 #[.slice A a c] wq fun e w' => e = .returned (.int .i64 (sumI (T.take a))) ∧ wq = w') := Lib.hid (fun wq o =>
    rotation15 _ _ a _ ((((hZ.take ha).1).below bb (Nat.le_refl _)).below o (by have := bb.size; omega)) (by omega) (good_take15 hg a))
  have hs := sum_take_range hg a (by rw [hZ.1.1]; exact ha)
  have EA : Hid (ahdC T (a, p) = sumI (T.take a) - p) := Lib.hid rfl
  obtain ⟨s, hs2⟩ : ∃ s, sumI (T.take a) = s := ⟨_, rfl⟩
  rw [hs2] at RO hs EA
  have x0 : wb.cell? ⟨w.heap.size, 0, none⟩ = some (.int .i64 (a : Int)) := by rw [hwb]; go_simp
  have x1 : wb.cell? ⟨w.heap.size, 1, none⟩ = some (.int .i64 (p : Int)) := by rw [hwb]; go_simp
  have hgb : w.heap.size < wb.heap.size := by rw [hwb]; simp
  clear hZ hs2 hg bb
  go_enter Try.func19, Try.ntmps19
  go_upto_region 1 with (fail)
  rw [← hwb]
  clear hwb
  have hac : a ≤ c := by omega
  have q1 : (p : Int) * -1 = -(p : Int) := by omega
  have q2 : IntKind.i64.wrap (-(p : Int)) = -(p : Int) := IntWalk.i64_in _ (by omega)
  obtain ⟨s2, hs2⟩ : ∃ s2, s + -(p : Int) = s2 := ⟨_, rfl⟩
  have q3 : IntKind.i64.wrap s2 = s2 := IntWalk.i64_in _ (by omega)
  have E2 : Hid (s - (p : Int) = s2) := Lib.hid (by omega)
  go_region_held3 (fun w' => w'.cell? ⟨w.heap.size, 0, none⟩ = some (.int .i64 (a : Int)) ∧ w'.cell? ⟨w.heap.size, 1, none⟩ = some (.int .i64 (p : Int))) (go_keep) (first | (go_at_call 21; refine (RO.out _ (by first | exact (Below.refl _ _).drew | exact Below.refl _ _)).mono ?_; rintro e w' ⟨rfl, rfl⟩))
  go_wp2
  go_ret
  exact ⟨by rw [EA.out, E2.out]; rfl, BB.out.drew⟩
/-! Whether it is one. -/
def inC (T : List Int) (x y : Int) : Bool := decide (0 ≤ x ∧ x < T.length ∧ 0 ≤ y ∧ y < prtN (T.getD x.toNat 0))
theorem inC_iff {T : List Int} {x y : Int} : inC T x y = true ↔ ∃ c ∈ crns T, (c.1 : Int) = x ∧ (c.2 : Int) = y := by
  unfold inC
  rw [decide_eq_true_eq]
  constructor
  · rintro ⟨h1, h2, h3, h4⟩
    exact ⟨(x.toNat, y.toNat), mem_prt.2 ⟨by simp only; omega, by simp only; omega⟩, by simp only; omega, by simp only; omega⟩
  · rintro ⟨c, hc, rfl, rfl⟩
    obtain ⟨h1, h2⟩ := mem_prt.1 hc
    rw [Int.toNat_natCast]
    omega
set_option maxHeartbeats 4000000 in
theorem isCorner15 (v : Value) (T : List Int) (m : Nat) (x y : Int) (w : World) (hZ : ZiAt w v T m) :
    Calls Try.prog 18 #[v, .agg #[.int .i64 x, .int .i64 y]] w fun e w' => e = .returned (.bool (inC T x y)) ∧ Below w.heap.size w w' := by
  obtain ⟨A, c, e⟩ := hZ.form
  subst e
  have HR := Lib.hid hZ.rows
  have HL := Lib.hid hZ.1
  have PA := Lib.hid parts15
  clear hZ
  obtain ⟨wb, hwb⟩ : ∃ W, W = w.alloc (.cells #[.int .i64 x, .int .i64 y] 24) := ⟨_, rfl⟩
  have bb : Below w.heap.size w wb := by rw [hwb]; exact below_alloc15 _ _
  have BB := Lib.hid bb
  have x0 : wb.cell? ⟨w.heap.size, 0, none⟩ = some (.int .i64 x) := by rw [hwb]; go_simp
  have x1 : wb.cell? ⟨w.heap.size, 1, none⟩ = some (.int .i64 y) := by rw [hwb]; go_simp
  have hgb : w.heap.size < wb.heap.size := by rw [hwb]; simp
  clear bb
  by_cases h1 : 0 ≤ x
  · have q1 : decide (0 ≤ x) = true := decide_eq_true h1
    obtain ⟨k, rfl⟩ : ∃ k : Nat, x = k := ⟨x.toNat, by omega⟩
    by_cases h2 : k < m
    · have q2 : decide (k < m) = true := decide_eq_true h2
      by_cases h3 : 0 ≤ y
      · have q3 : decide (0 ≤ y) = true := decide_eq_true h3
        obtain ⟨p, rfl⟩ : ∃ p : Nat, y = p := ⟨y.toNat, by omega⟩
        rcases HR.out with h | ⟨b, o, rfl, hx⟩
        · exact absurd h2 (by omega)
        · obtain ⟨hb, hx⟩ := hx wb BB.out
          have f0 := hx k h2
          obtain ⟨t, ht⟩ : ∃ t, T.getD k 0 = t := ⟨_, rfl⟩
          rw [ht] at f0
          obtain ⟨r, hr⟩ : ∃ r, prtN t = r := ⟨_, rfl⟩
          have PT : Hid (∀ w, Calls Try.prog 16 #[.int .i64 t] w fun e w' => e = .returned (.int .i64 (r : Int)) ∧ w' = w) := Lib.hid (fun w => by rw [← hr]; exact (parts15 t w).mono fun _ _ ⟨a, b⟩ => ⟨a, b.symm⟩)
          have E : Hid (inC T (k : Int) (p : Int) = decide (p < r)) := Lib.hid (by
            unfold inC
            rw [Int.toNat_natCast, ht, hr, Bool.eq_iff_iff, decide_eq_true_eq, decide_eq_true_eq, HL.out]
            omega)
          obtain ⟨z, hz⟩ : ∃ z, decide (p < r) = z := ⟨_, rfl⟩
          rw [hz] at E
          clear hx ht hr HR PA HL h1 q1 h3 q3
          go_enter Try.func18, Try.ntmps18
          go_upto_region 1 with (fail)
          rw [← hwb]
          clear hwb
          go_quiet ((go_at_call 16; exact Calls.quiet_of_same (PT.out _)))
          go_wp2
          go_ret
          exact ⟨by rw [E.out]; rfl, below_drewN15 BB.out _⟩
      · have q3 : decide (0 ≤ y) = false := decide_eq_false h3
        have E : Hid (inC T (k : Int) y = false) := Lib.hid (decide_eq_false (by omega))
        clear HR PA HL h1 q1 h3
        go_enter Try.func18, Try.ntmps18
        go_upto_region 1 with (fail)
        rw [← hwb]
        clear hwb
        go_quiet (fail)
        go_wp2
        go_ret
        exact ⟨by rw [E.out]; rfl, below_drewN15 BB.out _⟩
    · have q2 : decide (k < m) = false := decide_eq_false h2
      have E : Hid (inC T (k : Int) y = false) := Lib.hid (decide_eq_false (by rw [HL.out]; omega))
      clear HR PA HL h1 q1 h2
      go_enter Try.func18, Try.ntmps18
      go_upto_region 1 with (fail)
      rw [← hwb]
      clear hwb
      go_quiet (fail)
      go_wp2
      go_ret
      exact ⟨by rw [E.out]; rfl, below_drewN15 BB.out _⟩
  · have q1 : decide (0 ≤ x) = false := decide_eq_false h1
    have E : Hid (inC T x y = false) := Lib.hid (decide_eq_false (by omega))
    clear HR PA HL h1
    go_enter Try.func18, Try.ntmps18
    go_upto_region 1 with (fail)
    rw [← hwb]
    clear hwb
    go_quiet (fail)
    go_wp2
    go_ret
    exact ⟨by rw [E.out]; rfl, below_drewN15 BB.out _⟩
end Go.Proofs.Ytkakeakdgidigaa
