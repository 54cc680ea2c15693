/-
  DagMoved: the walk. Conditions: none (numbers within their types).
-/
import Derived.Test.YtnofkddcnjdjnaaDagMk
import Derived.IntWalk
namespace Go.Proofs.Ytnofkddcnjdjnaa
open Go.RowKit Go.Proofs.Ytnofkddcnjdjnaa.DagM

section
variable {K : List Arc} {n : Nat} {X : List Int}
theorem val_map (f : Int → Int) {i : Int} (h : i.toNat < X.length) : val (X.map f) i = f (val X i) := by
  unfold val
  simp [List.getD_eq_getElem?_getD, h]
theorem coord_of {l : List Int} (hl : l.length = n) (hb : ∀ v ∈ l, -1000000 ≤ v ∧ v ≤ 1000000) : coordB n l = true := by
  unfold coordB
  simp only [Bool.and_eq_true, decide_eq_true_eq, Bool.not_eq_true', List.any_eq_false]
  refine ⟨by omega, fun v hv => ?_⟩
  have := hb v hv
  simp [far]
  omega
theorem fit_map (f : Int → Int) (hf : ∀ a b, f a < f b ↔ a < b) (hR : ∀ a ∈ K, a.1.toNat < X.length ∧ a.2.1.toNat < X.length) : fitB (X.map f) K = fitB X K := by
  unfold fitB
  rw [Bool.eq_iff_iff, List.all_eq_true, List.all_eq_true]
  have e : ∀ a ∈ K, fitA (X.map f) a = fitA X a := fun a ha => by
    unfold fitA
    rw [val_map f (hR a ha).1, val_map f (hR a ha).2]
    simp [hf]
  exact ⟨fun h a ha => (e a ha) ▸ h a ha, fun h a ha => (e a ha).symm ▸ h a ha⟩
theorem sum_map (f : Int → Int) (c : Int) (hf : ∀ a b, f b - f a = c * (b - a)) (hR : ∀ a ∈ K, a.1.toNat < X.length ∧ a.2.1.toNat < X.length) : costSum (X.map f) K = c * costSum X K := by
  induction K with
  | nil => simp [costSum]
  | cons a K ih =>
    have ih' := ih (fun b hb => hR b (by simp [hb]))
    have h := hR a (by simp)
    simp only [costSum, List.map_cons, List.sum_cons] at ih' ⊢
    rw [ih']
    unfold costA
    rw [val_map f h.1, val_map f h.2, hf, Int.mul_add, Int.mul_left_comm]
def rev (K : List Arc) : List Arc := K.map fun a => (a.2.1, a.1, a.2.2)
theorem rev_fit (hR : ∀ a ∈ K, a.1.toNat < X.length ∧ a.2.1.toNat < X.length) : fitB (X.map fun v => -v) (rev K) = fitB X K := by
  unfold fitB rev
  rw [List.all_map, Bool.eq_iff_iff, List.all_eq_true, List.all_eq_true]
  have e : ∀ a ∈ K, (fitA (X.map fun v => -v) ∘ fun a => ((a.2.1, a.1, a.2.2) : Arc)) a = fitA X a := fun a ha => by
    simp only [Function.comp, fitA]
    rw [val_map _ (hR a ha).1, val_map _ (hR a ha).2]
    simp
  exact ⟨fun h a ha => (e a ha) ▸ h a ha, fun h a ha => (e a ha).symm ▸ h a ha⟩
theorem rev_sum (hR : ∀ a ∈ K, a.1.toNat < X.length ∧ a.2.1.toNat < X.length) : costSum (X.map fun v => -v) (rev K) = costSum X K := by
  induction K with
  | nil => rfl
  | cons a K ih =>
    have ih' := ih (fun b hb => hR b (by simp [hb]))
    have h := hR a (by simp)
    simp only [costSum, rev, List.map_cons, List.sum_cons] at ih' ⊢
    rw [ih']
    unfold costA
    rw [val_map _ h.1, val_map _ h.2]
    congr 2
    omega
theorem rev_may (h : Rise n K) (hn : n ≤ 4096) : May n (rev K) := ⟨by omega, by omega, by have := h.len; simp [rev]; omega, fun a ha => by
  obtain ⟨b, hb, rfl⟩ := List.mem_map.1 ha
  have := h.ok b hb
  simp only
  omega⟩
theorem rev_ord (h : Rise n K) (hn : n ≤ 4096) : ordErr n (rev K) = 0 := ord_rises (rev_may h hn) (fun i => -(i : Int)) (fun a ha => by
  obtain ⟨b, hb, rfl⟩ := List.mem_map.1 ha
  have := h.ok b hb
  simp only
  omega)
theorem sum_near (h : Rise n K) (hb : ∀ v ∈ X, -1000 ≤ v ∧ v ≤ 1000) (hl : X.length = n) (hf : fitB X K = true) : 0 ≤ costSum X K ∧ costSum X K ≤ 14000 * (K.length : Int) := by
  have hok := h.ok
  clear h
  induction K with
  | nil => exact ⟨Int.le_refl _, by simp [costSum]⟩
  | cons a K ih =>
    simp only [fitB, List.all_cons, Bool.and_eq_true] at hf
    obtain ⟨h1, h2⟩ := ih (by unfold fitB; exact hf.2) (fun b hb => hok b (by simp [hb]))
    have ha := hok a (by simp)
    have near : ∀ i : Int, 0 ≤ i → i < n → -1000 ≤ val X i ∧ val X i ≤ 1000 := fun i h0 h1 => by
      have hi : i.toNat < X.length := by omega
      have e : val X i = X[i.toNat] := by simp [val, List.getD_eq_getElem?_getD, hi]
      rw [e]
      exact hb _ (List.getElem_mem hi)
    have n1 := near a.1 (by omega) (by omega)
    have n2 := near a.2.1 (by omega) (by omega)
    have hlt : val X a.1 < val X a.2.1 := by simpa [fitA] using hf.1
    have c0 : 0 ≤ costA X a := by unfold costA; exact Int.mul_nonneg (by omega) (by omega)
    have c1 : costA X a ≤ 7 * 2000 := by unfold costA; exact Int.mul_le_mul (by omega) (by omega) (by omega) (by omega)
    simp only [costSum, List.map_cons, List.sum_cons, List.length_cons] at h1 h2 ⊢
    push_cast
    omega
theorem err_of {L : List Arc} {l : List Int} (ho : ordErr n L = 0) (hc : coordB n l = true) : costErr n L l = if fitB l L then 0 else 15 := by
  unfold costErr
  rw [if_pos ho, hc]
  rfl
end

/-- Four rows of ints of the call's own, from B on, that lie apart. -/
structure Four (w0 w : World) (a b c d : Value) (la lb lc ld : List Int) : Prop where
  below : Below w0.heap.size w0 w
  ra : OwnI w w0.heap.size a la
  rb : OwnI w w0.heap.size b lb
  rc : OwnI w w0.heap.size c lc
  rd : OwnI w w0.heap.size d ld
  ab : ∀ i, a.ownBlock = some i → b.ownBlock ≠ some i
  ac : ∀ i, a.ownBlock = some i → c.ownBlock ≠ some i
  ad : ∀ i, a.ownBlock = some i → d.ownBlock ≠ some i
  bc : ∀ i, b.ownBlock = some i → c.ownBlock ≠ some i
  bd : ∀ i, b.ownBlock = some i → d.ownBlock ≠ some i
  cd : ∀ i, c.ownBlock = some i → d.ownBlock ≠ some i
section
variable {w0 w w' : World} {a b c d : Value} {la lb lc ld : List Int}
theorem Four.turn (h : Four w0 w a b c d la lb lc ld) : Four w0 w b c d a lb lc ld la :=
  ⟨h.below, h.rb, h.rc, h.rd, h.ra, h.bc, h.bd, fun i e k => h.ab i k e, h.cd, fun i e k => h.ac i k e, fun i e k => h.ad i k e⟩
theorem Four.quiet (h : Four w0 w a b c d la lb lc ld) (o : Below w.heap.size w w') : Four w0 w' a b c d la lb lc ld :=
  ⟨h.below.trans (o.mono h.below.size), h.ra.below o, h.rb.below o, h.rc.below o, h.rd.below o, h.ab, h.ac, h.ad, h.bc, h.bd, h.cd⟩
theorem Four.app (h : Four w0 w a b c d la lb lc ld) {a' : Value} {x : Int} (hown : w'.ownsRow w0.heap.size 3 1 a' (la.length + 1) (la.map (Value.int .i64) ++ [.int .i64 x])) (hgrow : w.grownBy w' a.ownBlock) (hfr : ∀ i, a'.ownBlock = some i → a.ownBlock = some i ∨ w.heap.size ≤ i) :
    Four w0 w' a' b c d (la ++ [x]) lb lc ld := by
  have o : Out (fun i => a.ownBlock = some i) w w' := (Out.refl _ w).grown hgrow (fun _ _ e => e)
  have far : ∀ {u : Value} {l : List Int}, OwnI w w0.heap.size u l → (∀ i, a.ownBlock = some i → u.ownBlock ≠ some i) → ∀ i, a'.ownBlock = some i → u.ownBlock ≠ some i := by
    intro u l hu hn i e k
    rcases hfr i e with h1 | h1
    · exact hn i h1 k
    · have := (hu.lt i k).2
      omega
  refine ⟨h.below.trans (o.below h.below.size (fun i _ e => (h.ra.lt i e).1)), ?_, ownsRow_out h.rb o (fun i hb e => h.ab i e hb), ownsRow_out h.rc o (fun i hb e => h.ac i e hb), ownsRow_out h.rd o (fun i hb e => h.ad i e hb), far h.rb h.ab, far h.rc h.ac, far h.rd h.ad, h.bc, h.bd, h.cd⟩
  unfold OwnI
  rw [List.length_append, List.map_append]
  exact hown
end
theorem newsI (w : World) (t : TypeId) (x : Int) (b : Nat) (hb : w.heap.size = b) : ∀ j z, [Value.int .i64 x][j]? = some z → (w.alloc (.cells #[.int .i64 x] t)).cell? ((⟨b, 0, none⟩ : Addr).add j) = some z := by
  intro j z hz
  have hj : j = 0 := by have := List.getElem?_eq_some_iff.1 hz; simp at this; omega
  subst hj hb
  simp at hz
  subst hz
  go_simp
theorem oneI (x : Int) : ∀ z ∈ [Value.int .i64 x], z.oneCell' = true := by
  intro z hz
  simp at hz
  subst hz
  rfl
def MvRel (n : Nat) (by_ : Int) (w0 wr : World) (a b c d iv : Value) : Prop :=
  ∃ (k : Nat) (X : List Int), iv = .int .i64 k ∧ k ≤ n ∧ X.length = k ∧ (∀ v ∈ X, -1000 ≤ v ∧ v ≤ 1000) ∧ Four w0 wr a b c d X (X.map fun v => v + by_) (X.map fun v => -v) (X.map fun v => 3 * v)
def BkRel (K : List Arc) (w0 wr : World) (lv iv : Value) : Prop := ∃ k : Nat, iv = .int .i64 k ∧ k ≤ K.length ∧ Below w0.heap.size w0 wr ∧ OwnA wr w0.heap.size lv (rev (K.take k))
theorem rev_snoc (K : List Arc) (k : Nat) (h : k < K.length) : rev (K.take (k + 1)) = rev (K.take k) ++ [(K[k].2.1, K[k].1, K[k].2.2)] := by
  unfold rev
  rw [List.take_succ_eq_append_getElem h, List.map_append]
  rfl
end Go.Proofs.Ytnofkddcnjdjnaa
