/-
  Cells with all directions turned once to the left; an edge that was split, joined again: mathematics. Conditions: none.
-/
import Derived.Test.YtkgknbjcllcndaaGrM
namespace Go.Proofs.Ytkgknbjcllcndaa.GrM

def turnC (L : List Int) (v : Nat) : List Int := [nxG L v 3, nxG L v 0, nxG L v 1, nxG L v 2, owG L v 3, owG L v 0, owG L v 1, owG L v 2]
def turnG (L : List Int) : Nat → List Int
  | 0 => []
  | n + 1 => turnG L n ++ turnC L n
def lft (d : Nat) : Nat := (d + 1) % 4
theorem lft_lt (d : Nat) : lft d < 4 := Nat.mod_lt _ (by decide)
theorem lft_opp (d : Nat) : lft (opp d) = opp (lft d) := by unfold lft opp; omega
theorem lft_inj {d e : Nat} (hd : d < 4) (he : e < 4) (h : lft d = lft e) : d = e := by unfold lft at h; omega
theorem lft_all {e : Nat} (h : e < 4) : ∃ d, d < 4 ∧ e = lft d := ⟨(e + 3) % 4, by omega, by unfold lft; omega⟩
theorem turn_len (L : List Int) : ∀ n, (turnG L n).length = n * 8
  | 0 => rfl
  | n + 1 => by rw [turnG, List.length_append, turn_len L n]; simp [turnC]; omega
theorem nx_turn (L : List Int) : ∀ {n v d : Nat}, v < n → d < 4 → nxG (turnG L n) v (lft d) = nxG L v d
  | 0, v, d, hv, _ => absurd hv (by omega)
  | n + 1, v, d, hv, hd => by
    rw [turnG]
    by_cases e : v = n
    · subst e
      show (turnG L v ++ turnC L v).getD (v * 8 + lft d) 0 = _
      have hl := turn_len L v
      rw [getD_right (by omega), show v * 8 + lft d - (turnG L v).length = lft d by omega]
      have hc : d = 0 ∨ d = 1 ∨ d = 2 ∨ d = 3 := by omega
      rcases hc with rfl | rfl | rfl | rfl <;> rfl
    · rw [nx_old (turn_len L n) (by omega) (lft_lt d)]; exact nx_turn L (by omega) hd
theorem ow_turn (L : List Int) : ∀ {n v d : Nat}, v < n → d < 4 → owG (turnG L n) v (lft d) = owG L v d
  | 0, v, d, hv, _ => absurd hv (by omega)
  | n + 1, v, d, hv, hd => by
    rw [turnG]
    by_cases e : v = n
    · subst e
      show (turnG L v ++ turnC L v).getD (v * 8 + 4 + lft d) 0 = _
      have hl := turn_len L v
      rw [getD_right (by omega), show v * 8 + 4 + lft d - (turnG L v).length = 4 + lft d by omega]
      have hc : d = 0 ∨ d = 1 ∨ d = 2 ∨ d = 3 := by omega
      rcases hc with rfl | rfl | rfl | rfl <;> rfl
    · rw [ow_old (turn_len L n) (by omega) (lft_lt d)]; exact ow_turn L (by omega) hd
theorem turn_good {L : List Int} {n : Nat} : GoodG (turnG L n) n ↔ GoodG L n := by
  have side : ∀ v d, v < n → d < 4 → (chk1 (turnG L n) n v (lft d) = 0 ↔ chk1 L n v d = 0) := by
    intro v d hv hd
    rw [chk1_zero, chk1_zero, nx_turn L hv hd, ow_turn L hv hd, ← lft_opp d]
    by_cases hx : 0 ≤ nxG L v d ∧ nxG L v d < n
    · have hxn : (nxG L v d).toNat < n := by omega
      rw [nx_turn L hxn (opp_lt d), ow_turn L hxn (opp_lt d)]
    · constructor
      · rintro (h | ⟨a, b, _⟩)
        · exact Or.inl h
        · exact absurd ⟨a, b⟩ hx
      · rintro (h | ⟨a, b, _⟩)
        · exact Or.inl h
        · exact absurd ⟨a, b⟩ hx
  constructor
  · intro h v d hv hd
    exact (side v d hv hd).1 (h v _ hv (lft_lt d))
  · intro h v e hv he
    obtain ⟨d, hd, rfl⟩ := lft_all he
    exact (side v d hv hd).2 (h v d hv hd)
theorem turn_chk {L : List Int} {n : Nat} : chkG (turnG L n) n = 0 ↔ chkG L n = 0 := by rw [chk_good, chk_good, turn_good]
/-- Split and turned, or turned and split. -/
theorem turn_split {L : List Int} {n v d w : Nat} {o : Int} (hl : L.length = n * 8) (hv : v < n) (hw : w < n) (hd : d < 4) : turnG (splitG L n v d w o) (n + 1) = splitG (turnG L n) n v (lft d) w o := by
  refine cells_ext (turn_len _ _) (split_len (turn_len L n) _ _ _ _) (fun a e' ha he' => ?_)
  obtain ⟨e, he, rfl⟩ := lft_all he'
  rw [nx_turn _ ha he, ow_turn _ ha he]
  by_cases en : a = n
  · subst en
    rw [nx_split_new hl hv hw hd he, ow_split_new hl hv hw hd he, nx_split_new (turn_len L a) hv hw (lft_lt d) (lft_lt e), ow_split_new (turn_len L a) hv hw (lft_lt d) (lft_lt e)]
    by_cases c1 : e = d
    · subst c1; simp
    · have c1' : ¬ lft e = lft d := fun h => c1 (lft_inj he hd h)
      rw [if_neg c1, if_neg c1, if_neg c1', if_neg c1']
      by_cases c2 : e = opp d
      · have c2' : lft e = opp (lft d) := by rw [c2, lft_opp d]
        rw [if_pos c2, if_pos c2, if_pos c2', if_pos c2']; exact ⟨rfl, rfl⟩
      · have c2' : ¬ lft e = opp (lft d) := fun h => c2 (lft_inj he (opp_lt d) (by rw [h, lft_opp d]))
        rw [if_neg c2, if_neg c2, if_neg c2', if_neg c2']; exact ⟨rfl, rfl⟩
  · have ha' : a < n := by omega
    rw [nx_split hl hv hw hd ha' he, ow_split hl hv hw hd ha' he, nx_split (turn_len L n) hv hw (lft_lt d) ha' (lft_lt e), ow_split (turn_len L n) hv hw (lft_lt d) ha' (lft_lt e)]
    by_cases c1 : a = w ∧ e = opp d
    · have c1' : a = w ∧ lft e = opp (lft d) := ⟨c1.1, by rw [c1.2, lft_opp d]⟩
      rw [if_pos c1, if_pos c1, if_pos c1', if_pos c1']; exact ⟨rfl, rfl⟩
    · have c1' : ¬ (a = w ∧ lft e = opp (lft d)) := fun h => c1 ⟨h.1, lft_inj he (opp_lt d) (by rw [h.2, lft_opp d])⟩
      rw [if_neg c1, if_neg c1, if_neg c1', if_neg c1']
      by_cases c2 : a = v ∧ e = d
      · have c2' : a = v ∧ lft e = lft d := ⟨c2.1, by rw [c2.2]⟩
        rw [if_pos c2, if_pos c2, if_pos c2', if_pos c2']; exact ⟨rfl, rfl⟩
      · have c2' : ¬ (a = v ∧ lft e = lft d) := fun h => c2 ⟨h.1, lft_inj he hd h.2⟩
        rw [if_neg c2, if_neg c2, if_neg c2', if_neg c2', nx_turn L ha' he, ow_turn L ha' he]; exact ⟨rfl, rfl⟩
/-- The two old ends joined again, the new cell left out: the cells that were. -/
theorem unsplit {L : List Int} {n v d w : Nat} {o : Int} (hl : L.length = n * 8) (hg : GoodG L n) (hv : v < n) (hw : w < n) (hd : d < 4) (h1 : nxG L v d = w) (ho : owG L v d = o) :
    (((splitG L n v d w o).set (v * 8 + d) (w : Int)).set (w * 8 + opp d) (v : Int)).take (n * 8) = L := by
  have hs := hg.side hv hd
  rw [h1, ho] at hs
  have hs' : nxG L w (opp d) = v ∧ owG L w (opp d) = o := by
    rcases hs with h | ⟨_, _, _, b, c, _⟩
    · omega
    · rw [Int.toNat_natCast] at b c; exact ⟨b, c⟩
  have hlen := split_len hl v d w o
  refine cells_ext (by rw [List.length_take, List.length_set, List.length_set, hlen]; omega) hl (fun a e ha he => ?_)
  have ht : ∀ (M : List Int) j, j < n * 8 → (M.take (n * 8)).getD j 0 = M.getD j 0 := fun M j hj => by
    rw [List.getD_eq_getElem?_getD, List.getD_eq_getElem?_getD, List.getElem?_take, if_pos hj]
  have hu := opp_lt d
  constructor
  · unfold nxG
    rw [ht _ _ (by omega), getD_set _ _ _ _ (by rw [List.length_set, hlen]; omega), getD_set _ _ _ _ (by rw [hlen]; omega)]
    have hn := nx_split (o := o) hl hv hw hd ha he
    unfold nxG at hn h1 hs'
    rw [hn]
    by_cases c1 : a = w ∧ e = opp d
    · obtain ⟨rfl, rfl⟩ := c1
      rw [if_pos rfl]; exact hs'.1.symm
    · rw [if_neg (by omega)]
      by_cases c2 : a = v ∧ e = d
      · obtain ⟨rfl, rfl⟩ := c2
        rw [if_pos rfl]; exact h1.symm
      · rw [if_neg (by omega), if_neg c1, if_neg c2]
  · unfold owG
    rw [ht _ _ (by omega), getD_set _ _ _ _ (by rw [List.length_set, hlen]; omega), getD_set _ _ _ _ (by rw [hlen]; omega), if_neg (by omega), if_neg (by omega)]
    have hn := ow_split (o := o) hl hv hw hd ha he
    unfold owG at hn ho hs'
    rw [hn]
    by_cases c1 : a = w ∧ e = opp d
    · obtain ⟨rfl, rfl⟩ := c1
      rw [if_pos ⟨rfl, rfl⟩]; exact hs'.2.symm
    · rw [if_neg c1]
      by_cases c2 : a = v ∧ e = d
      · obtain ⟨rfl, rfl⟩ := c2
        rw [if_pos ⟨rfl, rfl⟩]; exact ho.symm
      · rw [if_neg c2]
end Go.Proofs.Ytkgknbjcllcndaa.GrM
