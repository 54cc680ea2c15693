/-
  Cells on a plane: the nearest one to the right or above; edges laid to the nearest ones make cells that may be: mathematics. Conditions: none.
-/
import Derived.Test.YtkgknbjcllcndaaGrT
namespace Go.Proofs.Ytkgknbjcllcndaa.GrM

/-- Along a direction (0: to the right, 1: above), and across it. -/
def alP (P : List (Int × Int)) (d k : Nat) : Int := if d = 0 then (P.getD k (0, 0)).1 else (P.getD k (0, 0)).2
def acP (P : List (Int × Int)) (d k : Nat) : Int := if d = 0 then (P.getD k (0, 0)).2 else (P.getD k (0, 0)).1
/-- Does k lie ahead of i? -/
def ahP (P : List (Int × Int)) (i d k : Nat) : Bool := decide (acP P d k = acP P d i) && decide (alP P d i < alP P d k)
/-- The nearest one of the first so many; -1: there is none. -/
def nearK (P : List (Int × Int)) (i d : Nat) : Nat → Int
  | 0 => -1
  | m + 1 => if ahP P i d m = true ∧ (nearK P i d m < 0 ∨ alP P d m < alP P d (nearK P i d m).toNat) then m else nearK P i d m
def nearP (P : List (Int × Int)) (i d : Nat) : Int := nearK P i d P.length
theorem ahP_iff {P : List (Int × Int)} {i d k : Nat} : ahP P i d k = true ↔ acP P d k = acP P d i ∧ alP P d i < alP P d k := by simp [ahP]
theorem near_is (P : List (Int × Int)) (i d : Nat) : ∀ m, (nearK P i d m = -1 ∧ ∀ k, k < m → ¬ ahP P i d k = true) ∨
    (∃ j : Nat, j < m ∧ nearK P i d m = j ∧ ahP P i d j = true ∧ ∀ k, k < m → ahP P i d k = true → alP P d j ≤ alP P d k)
  | 0 => Or.inl ⟨rfl, fun k hk => absurd hk (by omega)⟩
  | m + 1 => by
    rw [nearK]
    rcases near_is P i d m with ⟨h1, h2⟩ | ⟨j, hj, h1, h2, h3⟩
    · rw [h1]
      by_cases ha : ahP P i d m = true
      · rw [if_pos ⟨ha, Or.inl (by omega)⟩]
        refine Or.inr ⟨m, by omega, rfl, ha, fun k hk hk2 => ?_⟩
        by_cases e : k = m
        · subst e; exact Int.le_refl _
        · exact absurd hk2 (h2 k (by omega))
      · rw [if_neg (fun h => ha h.1)]
        refine Or.inl ⟨rfl, fun k hk => ?_⟩
        by_cases e : k = m
        · subst e; exact ha
        · exact h2 k (by omega)
    · rw [h1, Int.toNat_natCast]
      by_cases ha : ahP P i d m = true ∧ ((j : Int) < 0 ∨ alP P d m < alP P d j)
      · rw [if_pos ha]
        refine Or.inr ⟨m, by omega, rfl, ha.1, fun k hk hk2 => ?_⟩
        by_cases e : k = m
        · subst e; exact Int.le_refl _
        · have := h3 k (by omega) hk2
          rcases ha.2 with h | h
          · omega
          · omega
      · rw [if_neg ha]
        refine Or.inr ⟨j, by omega, rfl, h2, fun k hk hk2 => ?_⟩
        by_cases e : k = m
        · subst e
          have : ¬ alP P d k < alP P d j := fun h => ha ⟨hk2, Or.inr h⟩
          omega
        · exact h3 k (by omega) hk2
theorem near_range (P : List (Int × Int)) (i d : Nat) : nearP P i d = -1 ∨ ∃ j : Nat, j < P.length ∧ nearP P i d = j ∧ ahP P i d j = true ∧ ∀ k, k < P.length → ahP P i d k = true → alP P d j ≤ alP P d k := by
  rcases near_is P i d P.length with h | h
  · exact Or.inl h.1
  · exact Or.inr h
/-- No two on one place. -/
def Apart (P : List (Int × Int)) : Prop := ∀ i j, i < P.length → j < P.length → P.getD i (0, 0) = P.getD j (0, 0) → i = j
theorem pair_eq {P : List (Int × Int)} {d i j : Nat} (h1 : alP P d i = alP P d j) (h2 : acP P d i = acP P d j) : P.getD i (0, 0) = P.getD j (0, 0) := by
  unfold alP at h1
  unfold acP at h2
  by_cases h : d = 0
  · rw [if_pos h, if_pos h] at h1 h2; exact Prod.ext h1 h2
  · rw [if_neg h, if_neg h] at h1 h2; exact Prod.ext h2 h1
/-- Two that have one nearest are one. -/
theorem near_one {P : List (Int × Int)} {i j d w : Nat} (hP : Apart P) (hi : i < P.length) (hj : j < P.length) (h1 : nearP P i d = w) (h2 : nearP P j d = w) : i = j := by
  rcases near_range P i d with h | ⟨x, hx, e1, a1, m1⟩
  · omega
  · rcases near_range P j d with h | ⟨y, hy, e2, a2, m2⟩
    · omega
    · obtain rfl : x = w := by omega
      obtain rfl : y = x := by omega
      rw [ahP_iff] at a1 a2
      have hc : acP P d i = acP P d j := by rw [← a1.1, a2.1]
      by_cases lt1 : alP P d i < alP P d j
      · have := m1 j hj (ahP_iff.2 ⟨hc.symm, lt1⟩)
        omega
      · by_cases lt2 : alP P d j < alP P d i
        · have := m2 i hi (ahP_iff.2 ⟨hc, lt2⟩)
          omega
        · exact hP i j hi hj (pair_eq (by omega) hc)
theorem near_ne {P : List (Int × Int)} {i d w : Nat} (h : nearP P i d = w) : w < P.length ∧ i ≠ w := by
  rcases near_range P i d with e | ⟨x, hx, e1, a1, _⟩
  · omega
  · obtain rfl : x = w := by omega
    refine ⟨hx, ?_⟩
    rintro rfl
    rw [ahP_iff] at a1
    omega

/-- The cells made so far: of the sides to the right and above the first so many were asked for. -/
structure MkG (P : List (Int × Int)) (L : List Int) (t : Nat) : Prop where
  len : L.length = P.length * 8
  good : GoodG L P.length
  near : ∀ v d, v < P.length → d < 2 → nxG L v d ≠ -1 → nxG L v d = nearP P v d ∧ 2 * v + d < t
theorem MkG.start (P : List (Int × Int)) : MkG P (newG P.length) 0 :=
  ⟨new_len _, new_good _, fun v d hv hd h => absurd (nx_new hv (by omega)) h⟩
theorem MkG.mono {P : List (Int × Int)} {L : List Int} {t u : Nat} (h : MkG P L t) (hu : t ≤ u) : MkG P L u :=
  ⟨h.len, h.good, fun v d hv hd hn => ⟨(h.near v d hv hd hn).1, Nat.lt_of_lt_of_le (h.near v d hv hd hn).2 hu⟩⟩
/-- One edge more. -/
theorem MkG.step {P : List (Int × Int)} {L : List Int} {i d w : Nat} {o : Int} (hP : Apart P) (h : MkG P L (2 * i + d)) (hi : i < P.length) (hd : d < 2) (hw : nearP P i d = w) (ho : -2 ≤ o) : MkG P (joinG L i d w o) (2 * i + d + 1) := by
  obtain ⟨hwn, hne⟩ := near_ne hw
  have h1 : nxG L i d = -1 := by
    refine Decidable.byContradiction fun hc => ?_
    have := (h.near i d hi hd hc).2
    omega
  have h2 : nxG L w (opp d) = -1 := by
    rcases h.good.side hwn (opp_lt d) with e | ⟨g1, g2, g3, g4, _, _⟩
    · exact e.1
    · exfalso
      obtain ⟨x, hx, hxn⟩ : ∃ x : Nat, nxG L w (opp d) = (x : Int) ∧ x < P.length := ⟨(nxG L w (opp d)).toNat, by omega, by omega⟩
      rw [hx, Int.toNat_natCast, opp_opp (by omega)] at g4
      have hn := h.near x d hxn hd (by rw [g4]; omega)
      rw [g4] at hn
      have := near_one hP hxn hi hn.1.symm hw
      subst this
      rw [h1] at g4
      omega
  refine ⟨by rw [join_len]; exact h.len, join_good h.len h.good hi hwn hne (by omega) ho h1 h2, fun v e hv he hn => ?_⟩
  rw [nx_join o h.len hi hwn (by omega) (by omega)] at hn ⊢
  have c1 : ¬ (v = w ∧ e = opp d) := by
    rintro ⟨_, rfl⟩
    unfold opp at he
    omega
  rw [if_neg c1] at hn ⊢
  by_cases c2 : v = i ∧ e = d
  · obtain ⟨rfl, rfl⟩ := c2
    rw [if_pos ⟨rfl, rfl⟩]
    exact ⟨hw.symm, by omega⟩
  · rw [if_neg c2] at hn ⊢
    have := h.near v e hv he hn
    exact ⟨this.1, by omega⟩
end Go.Proofs.Ytkgknbjcllcndaa.GrM
