/-
  All darts of cells, and the sum of their turns: mathematics; no program stands here. Conditions: cells that may be.
-/
import Derived.Test.YtkgabklponjagaaDoorFcM
namespace Go.Proofs.YtkgabklponjagaaDoor.FcM
open Go.Proofs.YtkgabklponjagaaDoor.GrM

def isB (L : List Int) (k : Nat) : Bool := decide (nxK L k ≠ -1)
/-- All darts among the first j numbers. -/
def dartsT (L : List Int) (j : Nat) : List Nat := (List.range j).filter (isB L)
theorem mem_darts {L : List Int} {n k : Nat} : k ∈ dartsT L (4 * n) ↔ isK L n k := by
  unfold dartsT isB isK
  rw [List.mem_filter, List.mem_range, decide_eq_true_eq]
theorem darts_nodup (L : List Int) (j : Nat) : (dartsT L j).Nodup := List.nodup_range.filter _
theorem darts_more (L : List Int) (j : Nat) : dartsT L (j + 1) = if isB L j = true then dartsT L j ++ [j] else dartsT L j := by
  unfold dartsT
  rw [List.range_succ, List.filter_append]
  by_cases h : isB L j = true
  · rw [if_pos h, List.filter_cons_of_pos h]; rfl
  · rw [if_neg h, List.filter_cons_of_neg h, List.filter_nil, List.append_nil]
/-- Each dart is in just one face, once. -/
theorem faces_perm {L : List Int} {n : Nat} (hg : GoodG L n) : (facesK L n).flatten.Perm (dartsT L (4 * n)) := by
  have h := faces_is hg
  refine (List.perm_ext_iff_of_nodup h.met.1 (darts_nodup _ _)).2 fun k => ?_
  rw [mem_darts]
  exact ⟨fun hk => h.met.2 k hk, fun hk => h.all k hk.1 hk.2⟩

/-! Sums. -/
def smF (f : Nat → Int) : List Nat → Int
  | [] => 0
  | a :: l => f a + smF f l
theorem sm_append (f : Nat → Int) : ∀ l m, smF f (l ++ m) = smF f l + smF f m
  | [], m => by simp [smF]
  | a :: l, m => by simp only [List.cons_append, smF, sm_append f l m]; omega
theorem sm_perm (f : Nat → Int) {l m : List Nat} (h : l.Perm m) : smF f l = smF f m := by
  induction h with
  | nil => rfl
  | cons a _ ih => simp only [smF, ih]
  | swap a b l => simp only [smF]; omega
  | trans _ _ h1 h2 => exact h1.trans h2
theorem sm_map (f : Nat → Int) (g : Nat → Nat) : ∀ l, smF f (l.map g) = smF (fun k => f (g k)) l
  | [] => rfl
  | a :: l => by simp only [List.map_cons, smF, sm_map f g l]
theorem sm_congr {f g : Nat → Int} : ∀ {l : List Nat}, (∀ k ∈ l, f k = g k) → smF f l = smF g l
  | [], _ => rfl
  | a :: l, h => by simp only [smF, h a (by simp), sm_congr (l := l) (fun k hk => h k (by simp [hk]))]
theorem sm_flat (f : Nat → Int) : ∀ F : List (List Nat), smF f F.flatten = (F.map (smF f)).foldr (· + ·) 0
  | [] => rfl
  | a :: F => by simp only [List.flatten_cons, sm_append, List.map_cons, List.foldr_cons, sm_flat f F]
/-- The edges from their other ends are the same darts. -/
theorem rev_perm {L : List Int} {n : Nat} (hg : GoodG L n) : ((dartsT L (4 * n)).map (revK L)).Perm (dartsT L (4 * n)) := by
  have hinj : ((dartsT L (4 * n)).map (revK L)).Nodup := by
    rw [List.nodup_iff_pairwise_ne, List.pairwise_map]
    refine (darts_nodup L (4 * n)).imp_of_mem fun {a b} ha hb hne e => hne ?_
    rw [← rev_rev (mem_darts.1 ha) hg, ← rev_rev (mem_darts.1 hb) hg, e]
  refine (List.perm_ext_iff_of_nodup hinj (darts_nodup _ _)).2 fun k => ?_
  constructor
  · intro h
    obtain ⟨j, hj, rfl⟩ := List.mem_map.1 h
    exact mem_darts.2 (rev_dart (mem_darts.1 hj) hg)
  · intro h
    exact List.mem_map.2 ⟨revK L k, mem_darts.2 (rev_dart (mem_darts.1 h) hg), rev_rev (mem_darts.1 h) hg⟩
/-- How one turns that comes by a side. -/
def turnS (L : List Int) (j : Nat) : Int := 1 - (wayI L (j / 4) (opp (j % 4)) : Int)
theorem trn_rev {L : List Int} (k : Nat) : trnK L k = turnS L (revK L k) := by
  unfold trnK turnS wayK
  have := opp_lt (k % 4)
  rw [show revK L k / 4 = headK L k by unfold revK; omega, show revK L k % 4 = opp (k % 4) by unfold revK; omega, opp_opp (by omega)]
/-- How many sides of a cell lead on; whether any does. -/
def degK (L : List Int) (v : Nat) : Int := (if isB L (4 * v) = true then 1 else 0) + (if isB L (4 * v + 1) = true then 1 else 0) + (if isB L (4 * v + 2) = true then 1 else 0) + (if isB L (4 * v + 3) = true then 1 else 0)
def anyB (L : List Int) (v : Nat) : Bool := isB L (4 * v) || isB L (4 * v + 1) || isB L (4 * v + 2) || isB L (4 * v + 3)
def anyN (L : List Int) : Nat → Int
  | 0 => 0
  | v + 1 => anyN L v + if anyB L v = true then 1 else 0
theorem side_sum (L : List Int) (v : Nat) :
    (if isB L (4 * v) = true then turnS L (4 * v) else 0) + (if isB L (4 * v + 1) = true then turnS L (4 * v + 1) else 0) + (if isB L (4 * v + 2) = true then turnS L (4 * v + 2) else 0) + (if isB L (4 * v + 3) = true then turnS L (4 * v + 3) else 0) =
      2 * degK L v - 4 * (if anyB L v = true then 1 else 0) := by
  have b0 : isB L (4 * v) = decide (nxG L v 0 ≠ -1) := by unfold isB nxK; rw [show 4 * v / 4 = v by omega, show 4 * v % 4 = 0 by omega]
  have b1 : isB L (4 * v + 1) = decide (nxG L v 1 ≠ -1) := by unfold isB nxK; rw [show (4 * v + 1) / 4 = v by omega, show (4 * v + 1) % 4 = 1 by omega]
  have b2 : isB L (4 * v + 2) = decide (nxG L v 2 ≠ -1) := by unfold isB nxK; rw [show (4 * v + 2) / 4 = v by omega, show (4 * v + 2) % 4 = 2 by omega]
  have b3 : isB L (4 * v + 3) = decide (nxG L v 3 ≠ -1) := by unfold isB nxK; rw [show (4 * v + 3) / 4 = v by omega, show (4 * v + 3) % 4 = 3 by omega]
  unfold degK anyB turnS wayI opp
  rw [show 4 * v / 4 = v by omega, show (4 * v + 1) / 4 = v by omega, show (4 * v + 2) / 4 = v by omega, show (4 * v + 3) / 4 = v by omega,
    show 4 * v % 4 = 0 by omega, show (4 * v + 1) % 4 = 1 by omega, show (4 * v + 2) % 4 = 2 by omega, show (4 * v + 3) % 4 = 3 by omega, b0, b1, b2, b3]
  simp only [Nat.reduceAdd, Nat.reduceMod]
  by_cases h0 : nxG L v 0 = -1 <;> by_cases h1 : nxG L v 1 = -1 <;> by_cases h2 : nxG L v 2 = -1 <;> by_cases h3 : nxG L v 3 = -1 <;> simp [h0, h1, h2, h3]
theorem one_more (f : Nat → Int) (L : List Int) (j : Nat) : smF f (dartsT L (j + 1)) = smF f (dartsT L j) + if isB L j = true then f j else 0 := by
  rw [darts_more]
  by_cases h : isB L j = true
  · rw [if_pos h, if_pos h, sm_append]; simp only [smF]; omega
  · rw [if_neg h, if_neg h]; omega
theorem sum_sides (L : List Int) : ∀ n, smF (turnS L) (dartsT L (4 * n)) = 2 * smF (fun _ => 1) (dartsT L (4 * n)) - 4 * anyN L n
  | 0 => rfl
  | n + 1 => by
    have ih := sum_sides L n
    have hs := side_sum L n
    unfold degK at hs
    rw [show 4 * (n + 1) = 4 * n + 1 + 1 + 1 + 1 by omega, one_more, one_more, one_more, one_more, one_more (fun _ => 1), one_more (fun _ => 1), one_more (fun _ => 1), one_more (fun _ => 1), ih]
    simp only [anyN]
    omega
theorem sm_one (l : List Nat) : smF (fun _ => 1) l = l.length := by
  induction l with
  | nil => rfl
  | cons a l ih => simp only [smF, ih, List.length_cons]; omega
/-- As many darts lead East or North as West or South. -/
theorem darts_even {L : List Int} {n : Nat} (hg : GoodG L n) : ∃ h, (dartsT L (4 * n)).length = 2 * h := by
  have hp : ∀ k ∈ dartsT L (4 * n), (decide (revK L k % 4 < 2)) = !(decide (k % 4 < 2)) := by
    intro k _
    have : revK L k % 4 = opp (k % 4) := by have := opp_lt (k % 4); unfold revK; omega
    rw [this]
    by_cases h : k % 4 < 2
    · rw [decide_eq_true h, decide_eq_false (by unfold opp; omega)]; rfl
    · rw [decide_eq_false h, decide_eq_true (by unfold opp; omega)]; rfl
  have e1 : (dartsT L (4 * n)).countP (fun k => decide (k % 4 < 2)) = (dartsT L (4 * n)).countP (fun k => !decide (k % 4 < 2)) := by
    rw [← (rev_perm hg).countP_eq (fun k => decide (k % 4 < 2)), List.countP_map]
    exact List.countP_congr fun k hk => by
      show (decide (revK L k % 4 < 2)) = true ↔ _
      rw [hp k hk]
  have e2 := List.length_eq_countP_add_countP (fun k => decide (k % 4 < 2)) (l := dartsT L (4 * n))
  refine ⟨(dartsT L (4 * n)).countP (fun k => decide (k % 4 < 2)), ?_⟩
  have e3 : (dartsT L (4 * n)).countP (fun a => decide ¬(decide (a % 4 < 2)) = true) = (dartsT L (4 * n)).countP (fun k => !decide (k % 4 < 2)) := List.countP_congr fun k _ => by simp
  rw [e2, e3, ← e1]
  omega
/-- The turns of all faces are four times what there are more edges than cells that have any. -/
theorem faces_sum {L : List Int} {n : Nat} (hg : GoodG L n) : ∃ h : Nat, (facesK L n).flatten.length = 2 * h ∧ smF (trnK L) (facesK L n).flatten = 4 * ((h : Int) - anyN L n) := by
  obtain ⟨h, hh⟩ := darts_even hg
  have hp := faces_perm hg
  refine ⟨h, by rw [hp.length_eq, hh], ?_⟩
  rw [sm_perm _ hp, sm_congr (g := fun k => turnS L (revK L k)) (fun k _ => trn_rev k), ← sm_map (turnS L) (revK L), sm_perm _ (rev_perm hg), sum_sides, sm_one, hh]
  omega
end Go.Proofs.YtkgabklponjagaaDoor.FcM
