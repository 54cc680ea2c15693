/-
  Joins that are not refused: what the cells are behind one, behind a cell more; mathematics; no program stands here. Conditions: none.
-/
import Derived.Test.YtecifgaekefkpaaDoorNmS
namespace Go.Proofs.YtecifgaekefkpaaDoor.NmM
open Go.Proofs.YtecifgaekefkpaaDoor.LexM Go.Proofs.YtecifgaekefkpaaDoor.ParM Go.Proofs.YtecifgaekefkpaaDoor.GrM

/-- A join of two cells whose sides are free. -/
theorem joi_free {L : List Int} {n a d b : Nat} {o : Int} (ha : a < n) (hb : b < n) (hne : a ≠ b) (hd : d < 4) (ho : -2 ≤ o) (h1 : nxG L a d = -1) (h2 : nxG L b (opp d) = -1) : joiO L n a d b o = (0, joinG L a d b o) := by
  unfold joiO
  rw [if_neg (by unfold badJ; omega)]
  simp only [Int.toNat_natCast]
  rw [if_neg (by rw [h1, h2]; simp)]
theorem joiN_free {s : NSt} {a d b : Nat} {o : Int} (ha : a < s.n) (hb : b < s.n) (hne : a ≠ b) (hd : d < 4) (ho : -2 ≤ o) (h1 : nxG s.L a d = -1) (h2 : nxG s.L b (opp d) = -1) : joiN s a d b o = { s with L := joinG s.L a d b o } := by
  unfold joiN
  rw [joi_free ha hb hne hd ho h1 h2]
/-- The cells may be, and what is next to what. -/
def FreeAt (s : NSt) (a d : Nat) : Prop := a < s.n ∧ d < 4 ∧ nxG s.L a d = -1
/-- What a join leaves: two sides are taken, all others as they were. -/
theorem joiN_nx {s : NSt} {m a d b : Nat} {o : Int} (hr : RightN s m) (h1 : FreeAt s a d) (h2 : FreeAt s b (opp d)) (hne : a ≠ b) (ho : -2 ≤ o) :
    (GoodG s.L s.n → GoodG (joiN s a d b o).L s.n) ∧ (joiN s a d b o).n = s.n ∧ (joiN s a d b o).en = s.en ∧ RightN (joiN s a d b o) m ∧
    (∀ x e, x < s.n → e < 4 → nxG (joiN s a d b o).L x e = if x = b ∧ e = opp d then (a : Int) else if x = a ∧ e = d then (b : Int) else nxG s.L x e) ∧
    (∀ x e, x < s.n → e < 4 → owG (joiN s a d b o).L x e = if x = b ∧ e = opp d then o else if x = a ∧ e = d then o else owG s.L x e) := by
  obtain ⟨ha, hd, f1⟩ := h1
  obtain ⟨hb, _, f2⟩ := h2
  have e := joiN_free ha hb hne hd ho f1 f2
  refine ⟨fun hg => ?_, rfl, rfl, hr.joi _ _ _ _, fun x q _ hq => ?_, fun x q _ hq => ?_⟩
  · rw [e]; exact join_good hr.1 hg ha hb hne hd ho f1 f2
  · rw [e]; exact nx_join o hr.1 ha hb hd hq
  · rw [e]; exact ow_join o hr.1 ha hb hd hq
/-- A side stays free. -/
theorem FreeAt.past {s : NSt} {m a d b x e : Nat} {o : Int} (h : FreeAt s x e) (hr : RightN s m) (h1 : FreeAt s a d) (h2 : FreeAt s b (opp d)) (hne : a ≠ b) (ho : -2 ≤ o) (n1 : ¬ (x = a ∧ e = d)) (n2 : ¬ (x = b ∧ e = opp d)) : FreeAt (joiN s a d b o) x e := by
  obtain ⟨_, _, _, _, hn, _⟩ := joiN_nx hr h1 h2 hne ho
  refine ⟨h.1, h.2.1, ?_⟩
  rw [hn x e h.1 h.2.1, if_neg n2, if_neg n1]
  exact h.2.2
/-- A cell more: the old ones as they were, its own sides free. -/
theorem moN_nx {s : NSt} {m : Nat} (hr : RightN s m) : (GoodG s.L s.n → GoodG (moN s).L (s.n + 1)) ∧ (∀ q, q < 4 → FreeAt (moN s) s.n q ∧ owG (moN s).L s.n q = 0) ∧
    (∀ x e, x < s.n → e < 4 → nxG (moN s).L x e = nxG s.L x e ∧ owG (moN s).L x e = owG s.L x e) :=
  ⟨fun hg => add_good hr.1 hg, fun _ he => ⟨⟨Nat.lt_succ_self _, he, nx_free hr.1 he⟩, ow_free hr.1 he⟩, fun _ _ hx he => ⟨nx_old hr.1 hx he, ow_old hr.1 hx he⟩⟩
theorem FreeAt.add {s : NSt} {m x e : Nat} (h : FreeAt s x e) (hr : RightN s m) : FreeAt (moN s) x e :=
  ⟨Nat.lt_succ_of_lt h.1, h.2.1, by rw [((moN_nx hr).2.2 x e h.1 h.2.1).1]; exact h.2.2⟩
theorem FreeAt.put {s : NSt} {x e : Nat} (h : FreeAt s x e) (t c : Int) : FreeAt (putE s t c) x e := h
/-- A side's chain of so many cells, laid from a corner on: what is behind it. -/
structure ChS (s : NSt) (way c m i : Nat) (r : NSt × Int) : Prop where
  right : RightN r.1 m
  n : r.1.n = s.n + i
  good : GoodG r.1.L r.1.n
  last : ∃ f : Nat, r.2 = f ∧ FreeAt r.1 f way ∧ (i = 0 → f = c) ∧ (0 < i → f = s.n + i - 1)
  old : ∀ x e, x < s.n → e < 4 → ¬ (x = c ∧ e = way) → nxG r.1.L x e = nxG s.L x e ∧ owG r.1.L x e = owG s.L x e
  free : ∀ j e, j < i → e < 4 → e ≠ way → e ≠ opp way → FreeAt r.1 (s.n + j) e
theorem chain_ch {s : NSt} {way c m : Nat} {l : List Int} (hr : RightN s m) (hg : GoodG s.L s.n) (h1 : FreeAt s c way) : ∀ i, ChS s way c m i (chK way l s c i)
  | 0 => ⟨hr, rfl, hg, ⟨c, rfl, h1, fun _ => rfl, fun h => absurd h (by omega)⟩, fun _ _ _ _ _ => ⟨rfl, rfl⟩, fun _ _ h => absurd h (by omega)⟩
  | i + 1 => by
    have H := chain_ch (l := l) hr hg h1 i
    obtain ⟨f, hf, hff, hf0, hf1⟩ := H.last
    have hw := h1.2.1
    have hn := H.n
    have hc := h1.1
    have hfn := hff.1
    have eq0 : chK way l s c (i + 1) = (joiN (putE (moN (chK way l s c i).1) (l.getD i 0) (chK way l s c i).1.n) (chK way l s c i).2 way (chK way l s c i).1.n (-1), ((chK way l s c i).1.n : Int)) := rfl
    rw [eq0]
    clear eq0
    generalize hz : chK way l s c i = z at *
    clear hz
    obtain ⟨z, zf⟩ := z
    simp only at *
    subst hf
    obtain ⟨ag, af, ao⟩ := moN_nx (s := z) H.right
    have hpr : RightN (putE (moN z) (l.getD i 0) z.n) m := H.right.add.put _ _
    have p1 : FreeAt (putE (moN z) (l.getD i 0) z.n) f way := (hff.add H.right).put _ _
    have p2 : FreeAt (putE (moN z) (l.getD i 0) z.n) z.n (opp way) := (af _ (opp_lt way)).1.put _ _
    have hne : f ≠ z.n := by omega
    obtain ⟨q1, q2, _, q4, q5, q6⟩ := joiN_nx (o := -1) hpr p1 p2 hne (by omega)
    have hpn : (putE (moN z) (l.getD i 0) z.n).n = z.n + 1 := rfl
    refine ⟨q4, by rw [q2, hpn]; omega, ?_, ⟨z.n, rfl, ?_, fun h => absurd h (by omega), fun _ => by show z.n = _; omega⟩, fun x e hx he hne2 => ?_, fun j e hj he e1 e2 => ?_⟩
    · rw [q2]; exact q1 (ag H.good)
    · exact ((af way hw).1.put _ _).past hpr p1 p2 hne (by omega) (by rintro ⟨h, _⟩; omega) (by rintro ⟨_, h⟩; exact opp_ne way h.symm)
    · have hx1 : x < z.n := by omega
      have hxf : ¬ (x = f ∧ e = way) := by
        rintro ⟨rfl, rfl⟩
        by_cases h0 : i = 0
        · exact hne2 ⟨hf0 h0, rfl⟩
        · have := hf1 (by omega); omega
      have hxz : ¬ (x = z.n ∧ e = opp way) := by rintro ⟨h, _⟩; omega
      rw [q5 x e (by rw [hpn]; omega) he, if_neg hxz, if_neg hxf, q6 x e (by rw [hpn]; omega) he, if_neg hxz, if_neg hxf]
      have h3 := ao x e hx1 he
      have h4 := H.old x e hx he hne2
      exact ⟨h3.1.trans h4.1, h3.2.trans h4.2⟩
    · by_cases hji : j = i
      · subst hji
        have : s.n + j = z.n := by omega
        rw [this]
        exact ((af e he).1.put _ _).past hpr p1 p2 hne (by omega) (by rintro ⟨_, h⟩; exact e1 h) (by rintro ⟨_, h⟩; exact e2 h)
      · exact (((H.free j e (by omega) he e1 e2).add H.right).put _ _).past hpr p1 p2 hne (by omega) (by rintro ⟨_, h⟩; exact e1 h) (by rintro ⟨_, h⟩; exact e2 h)
end Go.Proofs.YtecifgaekefkpaaDoor.NmM
