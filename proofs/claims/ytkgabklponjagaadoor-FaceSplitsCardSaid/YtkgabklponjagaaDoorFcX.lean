/-
  The faces of cells that were split, and of those turned, are told as before: mathematics; no program stands here. Conditions: cells that may be.
-/
import Derived.Test.YtkgabklponjagaaDoorFcW
namespace Go.Proofs.YtkgabklponjagaaDoor.FcM
open Go.Proofs.YtkgabklponjagaaDoor.GrM

theorem way_congr {L M : List Int} {v w d e : Nat} (h : ∀ j, (nxG L v ((d + j) % 4) = -1 ↔ nxG M w ((e + j) % 4) = -1)) : wayI L v d = wayI M w e := by
  unfold wayI
  have h0 := h 0; have h1 := h 1; have h3 := h 3
  rw [Nat.add_zero, Nat.add_zero] at h0
  simp only [ne_eq, h0, h1, h3]
theorem isK.cell {L : List Int} {n k : Nat} (h : isK L n k) : k / 4 < n := by have := h.1; omega
/-! Split. -/
/-- What a dart becomes. -/
def splS (n v d w : Nat) (k : Nat) : List Nat := if k = 4 * v + d then [k, 4 * n + d] else if k = 4 * w + opp d then [k, 4 * n + opp d] else [k]
section
variable {L : List Int} {n v d w : Nat} {o : Int}
theorem split_told (hl : L.length = n * 8) (hg : GoodG L n) (hv : v < n) (hd : d < 4) (h1 : nxG L v d = w) (ho : owG L v d = o) :
    ((facesK L n).map (wordK L)).Perm ((facesK (splitG L n v d w o) (n + 1)).map (wordK (splitG L n v d w o))) := by
  have hs := hg.side hv hd
  rw [h1] at hs
  have hw : w < n ∧ (w : Int) ≠ v ∧ nxG L w (opp d) = v := by
    rcases hs with h | ⟨_, a, b, c, _⟩
    · omega
    · rw [Int.toNat_natCast] at c; exact ⟨by omega, b, c⟩
  obtain ⟨hw, hwv, hb⟩ := hw
  have hM : GoodG (splitG L n v d w o) (n + 1) := split_good hl hg hv hw hd h1 ho
  have ol := opp_lt d
  have on := opp_ne d
  have oo := opp_opp hd
  have nx : ∀ a e, a < n → e < 4 → nxG (splitG L n v d w o) a e = if a = w ∧ e = opp d then (n : Int) else if a = v ∧ e = d then (n : Int) else nxG L a e := fun a e ha he => nx_split hl hv hw hd ha he
  have nn : ∀ e, e < 4 → nxG (splitG L n v d w o) n e = if e = d then (w : Int) else if e = opp d then (v : Int) else -1 := fun e he => nx_split_new hl hv hw hd he
  generalize splitG L n v d w o = M at hM nx nn ⊢
  have F1 : ∀ a e, a < n → e < 4 → (nxG M a e = -1 ↔ nxG L a e = -1) := fun a e ha he => by
    rw [nx a e ha he]
    by_cases c1 : a = w ∧ e = opp d
    · obtain ⟨rfl, rfl⟩ := c1
      rw [if_pos ⟨rfl, rfl⟩, hb]; omega
    · rw [if_neg c1]
      by_cases c2 : a = v ∧ e = d
      · obtain ⟨rfl, rfl⟩ := c2
        rw [if_pos ⟨rfl, rfl⟩, h1]; omega
      · rw [if_neg c2]
  have W1 : ∀ a e, a < n → wayI M a e = wayI L a e := fun a e ha => way_congr fun j => F1 a _ ha (Nat.mod_lt _ (by decide))
  have Wn : ∀ e, e < 4 → (e = d ∨ e = opp d) → wayI M n e = 1 := fun e he hde => by
    unfold wayI
    rw [nn _ (Nat.mod_lt _ (by decide)), nn _ (Nat.mod_lt _ (by decide)), Nat.mod_eq_of_lt he]
    rw [if_neg (c := (e + 1) % 4 = d) (by unfold opp at hde; omega), if_neg (c := (e + 1) % 4 = opp d) (by unfold opp at hde ⊢; omega), if_neg (by simp)]
    rw [if_pos]
    rcases hde with rfl | rfl
    · rw [if_pos rfl]; omega
    · rw [if_neg on, if_pos rfl]; omega
  -- where each leads
  have lead : ∀ (K : List Int) (k a e q : Nat), e < 4 → k = 4 * a + e → nxG K a e = (q : Int) → headK K k = q ∧ behK K k = 4 * q + (e + ordI (wayI K q e)) % 4 ∧ trnK K k = 1 - (wayI K q e : Int) := by
    intro K k a e q he hk hq
    subst hk
    have e1 : (4 * a + e) / 4 = a := by omega
    have e2 : (4 * a + e) % 4 = e := by omega
    have hh : headK K (4 * a + e) = q := by unfold headK nxK; rw [e1, e2, hq]; rfl
    refine ⟨hh, ?_, ?_⟩
    · unfold behK dirK wayK; rw [hh, e2]
    · unfold trnK wayK; rw [hh, e2]
  have ord1 : ordI 1 = 0 := rfl
  have hv0 := lead L (4 * v + d) v d w hd rfl h1
  have hw0 := lead L (4 * w + opp d) w (opp d) v ol rfl hb
  have hv1 := lead M (4 * v + d) v d n hd rfl (by rw [nx v d hv hd, if_neg (by rintro ⟨h, _⟩; omega), if_pos ⟨rfl, rfl⟩])
  have hw1 := lead M (4 * w + opp d) w (opp d) n ol rfl (by rw [nx w _ hw ol, if_pos ⟨rfl, rfl⟩])
  have hv2 := lead M (4 * n + d) n d w hd rfl (by rw [nn d hd, if_pos rfl])
  have hw2 := lead M (4 * n + opp d) n (opp d) v ol rfl (by rw [nn _ ol, if_neg on, if_pos rfl])
  rw [Wn d hd (Or.inl rfl), ord1] at hv1
  rw [Wn _ ol (Or.inr rfl), ord1] at hw1
  rw [W1 w d hw] at hv2
  rw [W1 v _ hv] at hw2
  have oth : ∀ k, isK L n k → k ≠ 4 * v + d → k ≠ 4 * w + opp d → behK M k = behK L k ∧ trnK M k = trnK L k := by
    intro k hk c0 c1
    obtain ⟨g1, g2, _⟩ := hk.good hg
    have hk4 := hk.cell
    have e0 : k = 4 * (k / 4) + k % 4 := by omega
    have A := lead L k (k / 4) (k % 4) (headK L k) (by omega) e0 g1
    have B := lead M k (k / 4) (k % 4) (headK L k) (by omega) e0 (by
      rw [nx _ _ hk4 (by omega), if_neg (by rintro ⟨h, h'⟩; omega), if_neg (by rintro ⟨h, h'⟩; omega)]; exact g1)
    rw [W1 _ _ g2] at B
    exact ⟨by rw [A.2.1, B.2.1], by rw [A.2.2, B.2.2]⟩
  have ne01 : 4 * w + opp d ≠ 4 * v + d := by omega
  refine told_same hg hM (h := id) (s := splS n v d w) ?_ ?_ ?_ ?_ ?_
  · intro a ha
    unfold splS
    by_cases c0 : a = 4 * v + d
    · subst c0
      rw [if_pos rfl]
      refine ⟨rfl, by simp, ?_, ?_, trivial⟩
      · rw [hv1.2.1]; show 4 * n + (d + 0) % 4 = 4 * n + d; rw [Nat.add_zero, Nat.mod_eq_of_lt hd]
      · rw [hv2.2.1]; show _ = behK L _; rw [hv0.2.1]
    · rw [if_neg c0]
      by_cases c1 : a = 4 * w + opp d
      · subst c1
        rw [if_pos rfl]
        refine ⟨rfl, by simp, ?_, ?_, trivial⟩
        · rw [hw1.2.1]; show 4 * n + (opp d + 0) % 4 = 4 * n + opp d; rw [Nat.add_zero, Nat.mod_eq_of_lt ol]
        · rw [hw2.2.1]; show _ = behK L _; rw [hw0.2.1]
      · rw [if_neg c1]
        exact ⟨rfl, by simp, (oth a ha c0 c1).1, trivial⟩
  · intro a ha
    have := ha.1
    unfold splS
    split
    · simp; omega
    · split
      · simp; omega
      · simp
  · intro a c ha hc hne x hx y hy
    have := ha.1
    have := hc.1
    unfold splS at hx hy
    split at hx <;> split at hy <;> (try split at hx) <;> (try split at hy) <;> simp at hx hy <;> omega
  · intro k
    have dv : isK L n (4 * v + d) := ⟨by omega, by unfold nxK; rw [show (4 * v + d) / 4 = v by omega, show (4 * v + d) % 4 = d by omega, h1]; omega⟩
    have dw : isK L n (4 * w + opp d) := ⟨by omega, by unfold nxK; rw [show (4 * w + opp d) / 4 = w by omega, show (4 * w + opp d) % 4 = opp d by omega, hb]; omega⟩
    constructor
    · rintro ⟨g1, g2⟩
      by_cases hk : k / 4 < n
      · refine ⟨k, ⟨by omega, fun h => g2 ((F1 _ _ hk (by omega)).2 h)⟩, ?_⟩
        unfold splS; split
        · simp
        · split <;> simp
      · have e : k / 4 = n := by omega
        unfold nxK at g2
        rw [e, nn _ (by omega)] at g2
        by_cases c0 : k % 4 = d
        · refine ⟨_, dv, ?_⟩
          unfold splS; rw [if_pos rfl]; simp; right; omega
        · rw [if_neg c0] at g2
          by_cases c1 : k % 4 = opp d
          · refine ⟨_, dw, ?_⟩
            unfold splS; rw [if_neg ne01, if_pos rfl]; simp; right; omega
          · rw [if_neg c1] at g2; exact absurd rfl g2
    · rintro ⟨a, ha, hk⟩
      have old : k = a → isK M (n + 1) k := fun e => by
        subst e
        have := ha.1
        exact ⟨by omega, fun h => ha.2 ((F1 _ _ ha.cell (by omega)).1 h)⟩
      unfold splS at hk
      split at hk
      · simp at hk
        rcases hk with hk | hk
        · exact old hk
        · refine ⟨by omega, ?_⟩
          unfold nxK; rw [hk, show (4 * n + d) / 4 = n by omega, show (4 * n + d) % 4 = d by omega, nn d hd, if_pos rfl]; omega
      · split at hk
        · simp at hk
          rcases hk with hk | hk
          · exact old hk
          · refine ⟨by omega, ?_⟩
            unfold nxK; rw [hk, show (4 * n + opp d) / 4 = n by omega, show (4 * n + opp d) % 4 = opp d by omega, nn _ ol, if_neg on, if_pos rfl]; omega
        · simp at hk; exact old hk
  · intro a ha
    unfold splS
    by_cases c0 : a = 4 * v + d
    · subst c0
      rw [if_pos rfl]
      unfold wrdT
      simp only [List.map_cons, List.map_nil, hv1.2.2, hv2.2.2, hv0.2.2]
      rfl
    · rw [if_neg c0]
      by_cases c1 : a = 4 * w + opp d
      · subst c1
        rw [if_pos rfl]
        unfold wrdT
        simp only [List.map_cons, List.map_nil, hw1.2.2, hw2.2.2, hw0.2.2]
        rfl
      · rw [if_neg c1]
        unfold wrdT
        simp only [List.map_cons, List.map_nil, (oth a ha c0 c1).2]
end
/-! Turned. -/
def lftK (k : Nat) : Nat := 4 * (k / 4) + lft (k % 4)
theorem lft_add (d j : Nat) : (lft d + j) % 4 = lft ((d + j) % 4) := by unfold lft; omega
theorem turn_told {L : List Int} {n : Nat} (hg : GoodG L n) : ((facesK L n).map (wordK L)).Perm ((facesK (turnG L n) n).map (wordK (turnG L n))) := by
  have hM : GoodG (turnG L n) n := turn_good.2 hg
  have nx : ∀ a e, a < n → e < 4 → nxG (turnG L n) a (lft e) = nxG L a e := fun a e ha he => nx_turn L ha he
  generalize turnG L n = M at hM nx ⊢
  have c4 : ∀ k, lftK k / 4 = k / 4 := fun k => by have := lft_lt (k % 4); unfold lftK; omega
  have m4 : ∀ k, lftK k % 4 = lft (k % 4) := fun k => by have := lft_lt (k % 4); unfold lftK; omega
  have W : ∀ a e, a < n → wayI M a (lft e) = wayI L a e := fun a e ha => way_congr fun j => by rw [lft_add, nx a _ ha (Nat.mod_lt _ (by decide))]
  have inj : ∀ a c, lftK a = lftK c → a = c := fun a c h => by
    have h1 := c4 a; have h2 := c4 c; have h3 := m4 a; have h4 := m4 c
    rw [h] at h1 h3
    have := lft_inj (d := a % 4) (e := c % 4) (by omega) (by omega) (by rw [← h3, h4])
    omega
  have hx : ∀ a, a / 4 < n → nxK M (lftK a) = nxK L a := fun a ha => by unfold nxK; rw [c4, m4, nx _ _ ha (by omega)]
  have key : ∀ a, isK L n a → behK M (lftK a) = lftK (behK L a) ∧ trnK M (lftK a) = trnK L a := fun a ha => by
    have hh : headK M (lftK a) = headK L a := by unfold headK; rw [hx a ha.cell]
    have hn := (ha.good hg).2.1
    have hw : wayK M (lftK a) = wayK L a := by unfold wayK; rw [hh, m4, W _ _ hn]
    refine ⟨?_, by unfold trnK; rw [hw]⟩
    have e1 := beh_cell L a
    have e2 := beh_dir L a
    unfold lftK
    rw [e1, e2]
    show 4 * headK M (lftK a) + dirK M (lftK a) = _
    rw [hh]
    unfold dirK
    rw [hw, m4, lft_add]
  refine told_same hg hM (h := lftK) (s := fun a => [lftK a]) ?_ ?_ ?_ ?_ ?_
  · intro a ha
    exact ⟨rfl, by simp, (key a ha).1, trivial⟩
  · intro a _; simp
  · intro a c _ _ hne x hx y hy
    simp at hx hy
    subst hx hy
    exact fun h => hne (inj a c h)
  · intro k
    constructor
    · rintro ⟨g1, g2⟩
      obtain ⟨e, he, hk⟩ := lft_all (e := k % 4) (by omega)
      have hq : k = lftK (4 * (k / 4) + e) := by
        unfold lftK
        rw [show (4 * (k / 4) + e) / 4 = k / 4 by omega, show (4 * (k / 4) + e) % 4 = e by omega, ← hk]; omega
      refine ⟨4 * (k / 4) + e, ⟨by omega, ?_⟩, by simpa using hq⟩
      rw [← hx _ (by omega), ← hq]; exact g2
    · rintro ⟨a, ha, hk⟩
      simp at hk
      subst hk
      have := lft_lt (a % 4)
      have := ha.cell
      exact ⟨by unfold lftK; omega, by rw [hx a ha.cell]; exact ha.2⟩
  · intro a ha
    unfold wrdT
    simp only [List.map_cons, List.map_nil, (key a ha).2]
/-- In order they are told the same. -/
theorem sort_perm {A B : List (List UInt8)} (h : A.Perm B) : A.mergeSort (fun a b => decide (a ≤ b)) = B.mergeSort (fun a b => decide (a ≤ b)) := by
  refine List.Perm.eq_of_pairwise (le := fun a b => a ≤ b) (fun a b _ _ => List.le_antisymm) ?_ ?_ ((List.mergeSort_perm A _).trans (h.trans (List.mergeSort_perm B _).symm))
  · refine (List.pairwise_mergeSort ?_ ?_ A).imp (by intro a b h; simpa using h)
    · intro a b c h1 h2; simp at h1 h2 ⊢; exact List.le_trans h1 h2
    · intro a b; simp; exact List.le_total a b
  · refine (List.pairwise_mergeSort ?_ ?_ B).imp (by intro a b h; simpa using h)
    · intro a b c h1 h2; simp at h1 h2 ⊢; exact List.le_trans h1 h2
    · intro a b; simp; exact List.le_total a b
end Go.Proofs.YtkgabklponjagaaDoor.FcM
