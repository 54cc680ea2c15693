/-
  Sums over a dag's nodes and arcs; that what is left has a way; coordinates that are lowered; what is left when nothing is left. Conditions: none.
-/
import Derived.Test.YtkloaekmjnbacaaNetM
namespace Go.Proofs.Ytkloaekmjnbacaa.DagM

def sumK (g : Nat → Int) : Nat → Int
  | 0 => 0
  | m + 1 => sumK g m + g m
theorem sumK_congr {g h : Nat → Int} : ∀ n, (∀ v, v < n → g v = h v) → sumK g n = sumK h n
  | 0, _ => rfl
  | n + 1, e => by simp only [sumK]; rw [sumK_congr n (fun v hv => e v (by omega)), e n (by omega)]
theorem sumK_add (g h : Nat → Int) : ∀ n, sumK (fun v => g v + h v) n = sumK g n + sumK h n
  | 0 => rfl
  | n + 1 => by simp only [sumK]; rw [sumK_add g h n]; omega
theorem sumK_sub (g h : Nat → Int) : ∀ n, sumK (fun v => g v - h v) n = sumK g n - sumK h n
  | 0 => rfl
  | n + 1 => by simp only [sumK]; rw [sumK_sub g h n]; omega
theorem sumK_le {g h : Nat → Int} : ∀ n, (∀ v, v < n → g v ≤ h v) → sumK g n ≤ sumK h n
  | 0, _ => Int.le_refl _
  | n + 1, e => by simp only [sumK]; have := sumK_le n (fun v hv => e v (by omega)); have := e n (by omega); omega
theorem sumK_zero : ∀ n, sumK (fun _ => 0) n = 0
  | 0 => rfl
  | n + 1 => by simp only [sumK]; rw [sumK_zero n]; rfl
theorem sumK_ge {g : Nat → Int} : ∀ n, (∀ v, v < n → 0 ≤ g v) → ∀ v, v < n → g v ≤ sumK g n
  | 0, _, v, hv => by omega
  | n + 1, e, v, hv => by
    simp only [sumK]
    have h0 : 0 ≤ sumK g n := by have := sumK_le (g := fun _ => 0) (h := g) n (fun v hv => e v (by omega)); rw [sumK_zero] at this; exact this
    by_cases h : v = n
    · subst h; omega
    · have := sumK_ge n (fun v hv => e v (by omega)) v (by omega); have := e n (by omega); omega
theorem sumK_upd (g : Nat → Int) (i : Nat) (c : Int) : ∀ n, sumK (fun v => if v = i then c else g v) n = if i < n then sumK g n - g i + c else sumK g n
  | 0 => by simp [sumK]
  | n + 1 => by
    simp only [sumK]
    rw [sumK_upd g i c n]
    by_cases h : n = i
    · subst h; simp
    · by_cases k : i < n
      · have : i < n + 1 := by omega
        simp [h, k, this]; omega
      · have : ¬ i < n + 1 := by omega
        simp [h, k, this]
theorem sumK_ind (y : Nat → Int) (i : Nat) (c : Int) (n : Nat) (h : i < n) : sumK (fun v => y v * (if i = v then c else 0)) n = y i * c := by
  have e : sumK (fun v => y v * (if i = v then c else 0)) n = sumK (fun v => if v = i then y i * c else (fun _ => (0 : Int)) v) n := by
    refine sumK_congr n fun v _ => ?_
    by_cases k : v = i
    · subst k; simp
    · have q : ¬ i = v := fun q => k q.symm
      simp [k, q]
  rw [e, sumK_upd, if_pos h, sumK_zero]
  omega

/-- What flows from a node, less what flows to it, along the first m arcs. -/
def netK (E : EndL) (f : Nat → Int) : Nat → Nat → Int
  | 0, _ => 0
  | m + 1, v => netK E f m v + ((if (E.getD m (0, 0)).1 = v then f m else 0) - (if (E.getD m (0, 0)).2 = v then f m else 0))
def netE (E : EndL) (f : Nat → Int) (v : Nat) : Int := netK E f E.length v
theorem netK_upd (E : EndL) (f : Nat → Int) (i : Nat) (c : Int) (v : Nat) : ∀ m, netK E (fun j => if j = i then c else f j) m v = if i < m then netK E f m v + ((if (E.getD i (0, 0)).1 = v then c - f i else 0) - (if (E.getD i (0, 0)).2 = v then c - f i else 0)) else netK E f m v
  | 0 => by simp [netK]
  | m + 1 => by
    simp only [netK]
    rw [netK_upd E f i c v m]
    by_cases h : m = i
    · subst h
      simp only [Nat.lt_irrefl, if_false, if_true, Nat.lt_succ_self]
      split <;> split <;> omega
    · by_cases k : i < m
      · have : i < m + 1 := by omega
        simp only [h, k, this, if_true, if_false]
        omega
      · have : ¬ i < m + 1 := by omega
        simp only [h, k, this, if_false]
theorem dotK (E : EndL) (n : Nat) (y f : Nat → Int) : ∀ m, (∀ i, i < m → (E.getD i (0, 0)).1 < n ∧ (E.getD i (0, 0)).2 < n) → sumK (fun v => y v * netK E f m v) n = sumK (fun i => f i * (y (E.getD i (0, 0)).1 - y (E.getD i (0, 0)).2)) m
  | 0, _ => by simp only [netK, Int.mul_zero]; rw [sumK_zero]; rfl
  | m + 1, h => by
    have hm := h m (by omega)
    simp only [netK, sumK]
    rw [← dotK E n y f m (fun i hi => h i (by omega))]
    have e : sumK (fun v => y v * (netK E f m v + ((if (E.getD m (0, 0)).1 = v then f m else 0) - (if (E.getD m (0, 0)).2 = v then f m else 0)))) n = sumK (fun v => y v * netK E f m v + (y v * (if (E.getD m (0, 0)).1 = v then f m else 0) - y v * (if (E.getD m (0, 0)).2 = v then f m else 0))) n :=
      sumK_congr n (fun v _ => by (try simp only); rw [Int.mul_add, Int.mul_sub])
    rw [e, sumK_add, sumK_sub, sumK_ind y _ _ n hm.1, sumK_ind y _ _ n hm.2, Int.mul_sub, Int.mul_comm (f m), Int.mul_comm (f m)]

/-- What is left of each node is what should flow from it, less what does. -/
def Bal (E : EndL) (n : Nat) (wt f lf : Nat → Int) : Prop := ∀ v, v < n → lf v = netE E wt v - netE E f v
theorem bal_dot {E : EndL} {n : Nat} {wt f lf : Nat → Int} (hE : ∀ i, i < E.length → (E.getD i (0, 0)).1 < n ∧ (E.getD i (0, 0)).2 < n) (h : Bal E n wt f lf) (y : Nat → Int) :
    sumK (fun v => y v * lf v) n = sumK (fun i => (wt i - f i) * (y (E.getD i (0, 0)).1 - y (E.getD i (0, 0)).2)) E.length := by
  have e : sumK (fun v => y v * lf v) n = sumK (fun v => y v * netK E wt E.length v - y v * netK E f E.length v) n := sumK_congr n (fun v hv => by (try simp only); rw [h v hv, Int.mul_sub]; rfl)
  rw [e, sumK_sub, dotK E n y wt _ hE, dotK E n y f _ hE, ← sumK_sub]
  exact sumK_congr _ (fun i _ => by (try simp only); rw [Int.sub_mul])
/-- When nothing is left to flow from any node, nothing is left at all. -/
theorem bal_done {E : EndL} {n : Nat} {wt f lf : Nat → Int} (hE : ∀ i, i < E.length → (E.getD i (0, 0)).1 < n ∧ (E.getD i (0, 0)).2 < n) (h : Bal E n wt f lf) (h0 : ∀ v, v < n → ¬ 0 < lf v) : ∀ v, v < n → lf v = 0 := by
  have e := bal_dot hE h (fun _ => 1)
  have z : sumK (fun i => (wt i - f i) * ((fun _ => (1 : Int)) (E.getD i (0, 0)).1 - (fun _ => (1 : Int)) (E.getD i (0, 0)).2)) E.length = 0 := by
    refine (sumK_congr _ (fun i _ => ?_)).trans (sumK_zero E.length)
    simp
  rw [z] at e
  intro v hv
  have h1 := sumK_ge (g := fun v => 0 - lf v) n (fun v hv => by have := h0 v hv; (try simp only); omega) v hv
  rw [sumK_sub, sumK_zero] at h1
  have h2 : sumK (fun v => (fun _ => (1 : Int)) v * lf v) n = sumK (fun v => lf v) n := sumK_congr n (fun v _ => by simp)
  rw [h2] at e
  have h3 : sumK (fun v => lf v) n = sumK lf n := rfl
  have := h0 v hv
  (try simp only at h1)
  omega
/-- From what has something left a way leads to where something is missing. -/
theorem Found.reach {E : EndL} {n : Nat} {x f lf wt : Nat → Int} {far : Nat → Dst} {near : Int} (hF : Fits E n x f) (hB : Bal E n wt f lf) (hw : ∀ i, i < E.length → 0 ≤ wt i) (hn : n ≤ 4096) (hx : ∀ v, v < n → x v ≤ 4096)
    (h : Found E n x f lf far near) {s : Nat} (hs : s < n) (hls : 0 < lf s) : near ≠ 9223372036854775807 := by
  intro e
  have small : ∀ v, v < n → far v ≠ infD → (far v).1 ≤ 8192 ∧ (far v).2 ≤ 4096 := fun v hv hf => by
    have h1 := h.fin v hv hf
    have h2 := hx v hv
    omega
  have hd := bal_dot hF.ends hB (fun v => if far v = infD then 0 else 1)
  have hR : sumK (fun i => (wt i - f i) * ((fun v => if far v = infD then (0 : Int) else 1) (E.getD i (0, 0)).1 - (fun v => if far v = infD then (0 : Int) else 1) (E.getD i (0, 0)).2)) E.length ≤ 0 := by
    refine Int.le_trans (sumK_le (h := fun _ => 0) E.length fun i hi => ?_) (by rw [sumK_zero]; exact Int.le_refl _)
    (try simp only)
    have he := hF.ends i hi
    have hw := hw i hi
    have fwd : far (E.getD i (0, 0)).1 ≠ infD → far (E.getD i (0, 0)).2 ≠ infD := fun k => by
      have h1 := h.rlx _ he.1 (by rw [e]; have := small _ he.1 k; omega) k _ (stps_fwd hi) (by simp [opn])
      intro k2
      simp only at h1
      rw [k2] at h1
      have h2 := small _ he.1 k
      have h3 : lenS x (far (E.getD i (0, 0)).1) (i, (E.getD i (0, 0)).1, (E.getD i (0, 0)).2, 0) = ((far (E.getD i (0, 0)).1).1 + (x (E.getD i (0, 0)).2 - x (E.getD i (0, 0)).1 - 1), (far (E.getD i (0, 0)).1).2 + 0) := rfl
      rw [h3] at h1
      have h4 := h.fin _ he.1 k
      have h5 := hx _ he.2
      unfold leD infD at h1
      simp only at h1
      omega
    have bck : 0 < f i → far (E.getD i (0, 0)).2 ≠ infD → far (E.getD i (0, 0)).1 ≠ infD := fun hf k => by
      have h1 := h.rlx _ he.2 (by rw [e]; have := small _ he.2 k; omega) k _ (stps_bck hi) (by simp [opn, hf])
      intro k2
      simp only at h1
      rw [k2] at h1
      have h2 := small _ he.2 k
      have h3 : lenS x (far (E.getD i (0, 0)).2) (i, (E.getD i (0, 0)).2, (E.getD i (0, 0)).1, 1) = ((far (E.getD i (0, 0)).2).1 + 0, (far (E.getD i (0, 0)).2).2 + 1) := rfl
      rw [h3] at h1
      unfold leD infD at h1
      simp only at h1
      omega
    have hf := hF.nn i hi
    by_cases k1 : far (E.getD i (0, 0)).1 = infD
    · by_cases k2 : far (E.getD i (0, 0)).2 = infD
      · rw [if_pos k1, if_pos k2]; simp
      · have : f i = 0 := by
          rcases Int.lt_or_le 0 (f i) with q | q
          · exact absurd k1 (bck q k2)
          · omega
        rw [if_pos k1, if_neg k2, this]
        omega
    · have k2 := fwd k1
      rw [if_neg k1, if_neg k2]; simp
  have hL : lf s ≤ sumK (fun v => (fun v => if far v = infD then (0 : Int) else 1) v * lf v) n := by
    have h1 := sumK_ge (g := fun v => (fun v => if far v = infD then (0 : Int) else 1) v * lf v) n (fun v hv => by
      simp only
      by_cases k : far v = infD
      · simp [k]
      · rw [if_neg k]
        rcases Int.lt_or_le (lf v) 0 with q | q
        · have := h.dfc v hv q
          have := small v hv k
          omega
        · omega) s hs
    have h2 : far s ≠ infD := by rw [h.src s hs hls]; simp [infD]
    (try simp only at h1)
    rw [if_neg h2, Int.one_mul] at h1
    exact h1
  rw [hd] at hL
  exact absurd (Int.lt_of_lt_of_le hls (Int.le_trans hL hR)) (Int.lt_irrefl _)

/-- Where letFlow stands. -/
structure Net (E : EndL) (n : Nat) (wt x0 : Nat → Int) (tot : Int) (x f lf : Nat → Int) (D tk : Int) : Prop where
  fits : Fits E n x f
  bal : Bal E n wt f lf
  d0 : 0 ≤ D
  d1 : D ≤ 2 * (n : Int)
  hi : ∀ v, v < n → x v ≤ x0 v
  lo : ∀ v, v < n → x0 v - D ≤ x v
  src : ∀ v, v < n → 0 < lf v → x v = x0 v
  dst : ∀ v, v < n → lf v < 0 → x v = x0 v - D
  tk0 : 0 ≤ tk
  tk1 : tk + sumK (fun v => max 0 (lf v)) n ≤ tot
  fb : ∀ i, i < E.length → f i + sumK (fun v => max 0 (lf v)) n ≤ tot
/-- What the dag brings along. -/
structure Dag (E : EndL) (n : Nat) (wt x0 : Nat → Int) (tot : Int) : Prop where
  n1 : n ≤ 4096
  m1 : E.length ≤ 16384
  w0 : ∀ i, i < E.length → 0 ≤ wt i
  x0 : ∀ v, v < n → 0 ≤ x0 v ∧ x0 v ≤ n
  tot : 0 ≤ tot ∧ tot ≤ 100000000000000
section
variable {E : EndL} {n : Nat} {wt x0 x f lf : Nat → Int} {tot D tk near : Int} {far : Nat → Dst}
theorem Net.xb (h : Net E n wt x0 tot x f lf D tk) (g : Dag E n wt x0 tot) {v : Nat} (hv : v < n) : -8192 ≤ x v ∧ x v ≤ 4096 := by
  have h1 := h.hi v hv
  have h2 := h.lo v hv
  have h3 := g.x0 v hv
  have h4 := h.d1
  have h5 := g.n1
  omega
theorem Net.x2n (h : Net E n wt x0 tot x f lf D tk) (g : Dag E n wt x0 tot) {v : Nat} (hv : v < n) : -(2 * (n : Int)) ≤ x v ∧ x v ≤ n := by
  have h1 := h.hi v hv
  have h2 := h.lo v hv
  have h3 := g.x0 v hv
  have h4 := h.d1
  omega
theorem Net.pos0 (_h : Net E n wt x0 tot x f lf D tk) : 0 ≤ sumK (fun v => max 0 (lf v)) n := by
  have := sumK_le (g := fun _ => 0) (h := fun v => max 0 (lf v)) n (fun v _ => by (try simp only); omega)
  rw [sumK_zero] at this
  exact this
theorem Net.fb2 (h : Net E n wt x0 tot x f lf D tk) (g : Dag E n wt x0 tot) {i : Nat} (hi : i < E.length) : 0 ≤ f i ∧ f i ≤ 100000000000000 := by
  have h1 := h.fits.nn i hi
  have h2 := h.fb i hi
  have h3 := h.pos0
  have h4 := g.tot
  omega
/-- The coordinates are lowered. -/
theorem Net.lower (h : Net E n wt x0 tot x f lf D tk) (g : Dag E n wt x0 tot) (k : Found E n x f lf far near) (hne : near ≠ 9223372036854775807) :
    near ≤ 12288 ∧ Net E n wt x0 tot (fun v => x v - min (far v).1 near) f lf (D + near) tk := by
  have hn0 := k.n0
  have f0 : ∀ v, v < n → 0 ≤ (far v).1 := fun v hv => by
    by_cases e : far v = infD
    · rw [e]; simp [infD]
    · exact (k.fin v hv e).1
  have nin : ∀ v, (far v).1 ≤ near → far v ≠ infD := fun v hv e => by rw [e] at hv; simp only [infD] at hv; omega
  obtain ⟨t, ht, hlt, htn, htf⟩ : ∃ t, t < n ∧ lf t < 0 ∧ (far t).1 = near ∧ far t ≠ infD := by
    rcases k.nr with e | e
    · exact absurd e hne
    · exact e
  have ht1 := k.fin t ht htf
  have ht2 := h.dst t ht hlt
  have ht3 := g.x0 t ht
  have hd0 := h.d0
  have hgn := g.n1
  have st : ∀ i, i < E.length → min (far (E.getD i (0, 0)).2).1 near ≤ min (far (E.getD i (0, 0)).1).1 near + (x (E.getD i (0, 0)).2 - x (E.getD i (0, 0)).1 - 1) := fun i hi => by
    have he := h.fits.ends i hi
    have hf := h.fits.fit i hi
    have h0 := f0 _ he.1
    by_cases q : (far (E.getD i (0, 0)).1).1 ≤ near
    · have h1 := k.rlx _ he.1 q (nin _ q) _ (stps_fwd hi) (by simp [opn])
      have h3 : lenS x (far (E.getD i (0, 0)).1) (i, (E.getD i (0, 0)).1, (E.getD i (0, 0)).2, 0) = ((far (E.getD i (0, 0)).1).1 + (x (E.getD i (0, 0)).2 - x (E.getD i (0, 0)).1 - 1), (far (E.getD i (0, 0)).1).2 + 0) := rfl
      rw [h3] at h1
      unfold leD at h1
      simp only at h1
      omega
    · omega
  have sb : ∀ i, i < E.length → 0 < f i → min (far (E.getD i (0, 0)).1).1 near ≤ min (far (E.getD i (0, 0)).2).1 near := fun i hi hfi => by
    have he := h.fits.ends i hi
    by_cases q : (far (E.getD i (0, 0)).2).1 ≤ near
    · have h1 := k.rlx _ he.2 q (nin _ q) _ (stps_bck hi) (by simp [opn, hfi])
      have h3 : lenS x (far (E.getD i (0, 0)).2) (i, (E.getD i (0, 0)).2, (E.getD i (0, 0)).1, 1) = ((far (E.getD i (0, 0)).2).1 + 0, (far (E.getD i (0, 0)).2).2 + 1) := rfl
      rw [h3] at h1
      unfold leD at h1
      simp only at h1
      omega
    · omega
  refine ⟨by omega, ⟨⟨h.fits.ends, fun i hi => ?_, h.fits.nn, fun i hi hfi => ?_⟩, h.bal, by omega, by omega, fun v hv => ?_, fun v hv => ?_, fun v hv hl => ?_, fun v hv hl => ?_, h.tk0, h.tk1, h.fb⟩⟩
  · have := st i hi; (try simp only); omega
  · have := st i hi; have := sb i hi hfi; have := h.fits.ti i hi hfi; (try simp only); omega
  · have := h.hi v hv; have := f0 v hv; (try simp only); omega
  · have := h.lo v hv; (try simp only); omega
  · have := h.src v hv hl; have h2 := k.src v hv hl; (try simp only); rw [h2]; (try simp only); omega
  · have := h.dst v hv hl; have := k.dfc v hv hl; (try simp only); omega
end
end Go.Proofs.Ytkloaekmjnbacaa.DagM
