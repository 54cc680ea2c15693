/-
  Grids of cells: mathematics; no program stands here. Eight numbers a cell (four that are next, four owners), cell behind cell. Conditions: none.
  Cells with all directions turned once to the left; an edge that was split, joined again: mathematics. Conditions: none.
  Cells on a plane: the nearest one to the right or above; edges laid to the nearest ones make cells that may be: mathematics. Conditions: none.
  A cell's eight numbers; cells with an edge laid over, cell by cell: mathematics. Conditions: none.
-/
import Derived.Test.YtkakeakdgidigaaDoorBase
namespace Go.Proofs.YtkakeakdgidigaaDoor.GrM

/-- What is next to a cell in a direction; whose that edge is. -/
def nxG (L : List Int) (v d : Nat) : Int := L.getD (v * 8 + d) 0
def owG (L : List Int) (v d : Nat) : Int := L.getD (v * 8 + 4 + d) 0
/-- The contrary direction. -/
def opp (d : Nat) : Nat := (d + 2) % 4
theorem opp_lt (d : Nat) : opp d < 4 := Nat.mod_lt _ (by decide)
theorem opp_opp {d : Nat} (h : d < 4) : opp (opp d) = d := by unfold opp; omega
theorem opp_ne (d : Nat) : opp d ≠ d := by unfold opp; omega
theorem opp_inj {d e : Nat} (hd : d < 4) (he : e < 4) (h : opp d = opp e) : d = e := by unfold opp at h; omega

/-- What Check says of a cell's side. -/
def chk1 (L : List Int) (n v d : Nat) : Int :=
  if nxG L v d = -1 then (if owG L v d = 0 then 0 else 9)
  else if nxG L v d < 0 ∨ (n : Int) ≤ nxG L v d ∨ nxG L v d = v then 3
  else if nxG L (nxG L v d).toNat (opp d) ≠ v ∨ owG L (nxG L v d).toNat (opp d) ≠ owG L v d ∨ owG L v d < -2 then 9 else 0
/-- The first that isn't 0, of so many from k on. -/
def firstBad (f : Nat → Int) : Nat → Nat → Int
  | 0, _ => 0
  | m + 1, k => if f k ≠ 0 then f k else firstBad f m (k + 1)
def chkP (L : List Int) (n k : Nat) : Int := chk1 L n (k / 4) (k % 4)
def chkG (L : List Int) (n : Nat) : Int := if 4096 < n then 6 else firstBad (chkP L n) (4 * n) 0
theorem bad_none {f : Nat → Int} : ∀ {m k : Nat}, firstBad f m k = 0 ↔ ∀ j, k ≤ j → j < k + m → f j = 0
  | 0, k => by simp [firstBad]; intro j h1 h2; omega
  | m + 1, k => by
    rw [firstBad]
    by_cases h : f k = 0
    · rw [if_neg (by simpa using h), bad_none (f := f) (m := m) (k := k + 1)]
      constructor
      · intro g j h1 h2
        by_cases e : j = k
        · subst e; exact h
        · exact g j (by omega) (by omega)
      · intro g j h1 h2; exact g j (by omega) (by omega)
    · rw [if_pos h]
      constructor
      · intro g; exact absurd g h
      · intro g; exact absurd (g k (Nat.le_refl _) (by omega)) h
/-- Cells that may be. -/
def GoodG (L : List Int) (n : Nat) : Prop := ∀ v d, v < n → d < 4 → chk1 L n v d = 0
theorem chk_good {L : List Int} {n : Nat} : chkG L n = 0 ↔ n ≤ 4096 ∧ GoodG L n := by
  unfold chkG
  by_cases h : 4096 < n
  · rw [if_pos h]; constructor
    · intro g; cases g
    · intro g; omega
  · rw [if_neg h, bad_none]
    constructor
    · intro g
      refine ⟨by omega, fun v d hv hd => ?_⟩
      have := g (v * 4 + d) (Nat.zero_le _) (by omega)
      unfold chkP at this
      rw [show (v * 4 + d) / 4 = v by omega, show (v * 4 + d) % 4 = d by omega] at this
      exact this
    · intro g j _ hj
      exact g.2 (j / 4) (j % 4) (by omega) (by omega)
/-- What it is that a side is right. -/
theorem chk1_zero {L : List Int} {n v d : Nat} : chk1 L n v d = 0 ↔ (nxG L v d = -1 ∧ owG L v d = 0) ∨
    (0 ≤ nxG L v d ∧ nxG L v d < n ∧ nxG L v d ≠ v ∧ nxG L (nxG L v d).toNat (opp d) = v ∧ owG L (nxG L v d).toNat (opp d) = owG L v d ∧ -2 ≤ owG L v d) := by
  unfold chk1
  by_cases h1 : nxG L v d = -1
  · rw [if_pos h1]
    by_cases h2 : owG L v d = 0
    · simp [h1, h2]
    · rw [if_neg h2]
      constructor
      · intro h; cases h
      · rintro (h | h)
        · exact absurd h.2 h2
        · omega
  · rw [if_neg h1]
    by_cases h2 : nxG L v d < 0 ∨ (n : Int) ≤ nxG L v d ∨ nxG L v d = v
    · rw [if_pos h2]
      constructor
      · intro h; cases h
      · rintro (h | h)
        · exact absurd h.1 h1
        · omega
    · rw [if_neg h2]
      by_cases h3 : nxG L (nxG L v d).toNat (opp d) ≠ v ∨ owG L (nxG L v d).toNat (opp d) ≠ owG L v d ∨ owG L v d < -2
      · rw [if_pos h3]
        constructor
        · intro h; cases h
        · rintro (h | ⟨_, _, _, a, b, c⟩)
          · exact absurd h.1 h1
          · rcases h3 with h3 | h3 | h3
            · exact absurd a h3
            · exact absurd b h3
            · omega
      · rw [if_neg h3]
        simp only [not_or, ne_eq, Decidable.not_not] at h3
        constructor
        · intro _; exact Or.inr ⟨by omega, by omega, by omega, h3.1, h3.2.1, by omega⟩
        · intro _; rfl
theorem GoodG.side {L : List Int} {n v d : Nat} (h : GoodG L n) (hv : v < n) (hd : d < 4) : (nxG L v d = -1 ∧ owG L v d = 0) ∨
    (0 ≤ nxG L v d ∧ nxG L v d < n ∧ nxG L v d ≠ v ∧ nxG L (nxG L v d).toNat (opp d) = v ∧ owG L (nxG L v d).toNat (opp d) = owG L v d ∧ -2 ≤ owG L v d) := chk1_zero.1 (h v d hv hd)

/-! Numbers set. -/
theorem getD_set (L : List Int) (i j : Nat) (x : Int) (h : i < L.length) : (L.set i x).getD j 0 = if j = i then x else L.getD j 0 := by
  rw [List.getD_eq_getElem?_getD, List.getD_eq_getElem?_getD, List.getElem?_set]
  by_cases e : i = j
  · subst e; simp [h]
  · rw [if_neg e, if_neg (fun e' => e e'.symm)]
/-- An edge laid on one cell's side. -/
def putG (L : List Int) (v d : Nat) (w o : Int) : List Int := (L.set (v * 8 + d) w).set (v * 8 + 4 + d) o
theorem put_len (L : List Int) (v d : Nat) (w o : Int) : (putG L v d w o).length = L.length := by simp [putG]
theorem nx_put {L : List Int} {n v d : Nat} (w o : Int) (hl : L.length = n * 8) (hv : v < n) (hd : d < 4) {a e : Nat} (he : e < 4) : nxG (putG L v d w o) a e = if a = v ∧ e = d then w else nxG L a e := by
  unfold nxG putG
  rw [getD_set _ _ _ _ (by rw [List.length_set]; omega), getD_set _ _ _ _ (by omega), if_neg (by omega)]
  by_cases h : a = v ∧ e = d
  · rw [if_pos h, if_pos (by omega)]
  · rw [if_neg h, if_neg (by omega)]
theorem ow_put {L : List Int} {n v d : Nat} (w o : Int) (hl : L.length = n * 8) (hv : v < n) (hd : d < 4) {a e : Nat} (he : e < 4) : owG (putG L v d w o) a e = if a = v ∧ e = d then o else owG L a e := by
  unfold owG putG
  rw [getD_set _ _ _ _ (by rw [List.length_set]; omega), getD_set _ _ _ _ (by omega)]
  by_cases h : a = v ∧ e = d
  · rw [if_pos h, if_pos (by omega)]
  · rw [if_neg h, if_neg (by omega), if_neg (by omega)]
/-- An edge laid from both ends. -/
def joinG (L : List Int) (v d w : Nat) (o : Int) : List Int := putG (putG L v d w o) w (opp d) v o
theorem join_len (L : List Int) (v d w : Nat) (o : Int) : (joinG L v d w o).length = L.length := by simp [joinG, put_len]
theorem nx_join {L : List Int} {n v d w : Nat} (o : Int) (hl : L.length = n * 8) (hv : v < n) (hw : w < n) (hd : d < 4) {a e : Nat} (he : e < 4) : nxG (joinG L v d w o) a e = if a = w ∧ e = opp d then (v : Int) else if a = v ∧ e = d then (w : Int) else nxG L a e := by
  unfold joinG
  rw [nx_put _ _ (by rw [put_len]; exact hl) hw (opp_lt d) he, nx_put _ _ hl hv hd he]
theorem ow_join {L : List Int} {n v d w : Nat} (o : Int) (hl : L.length = n * 8) (hv : v < n) (hw : w < n) (hd : d < 4) {a e : Nat} (he : e < 4) : owG (joinG L v d w o) a e = if a = w ∧ e = opp d then o else if a = v ∧ e = d then o else owG L a e := by
  unfold joinG
  rw [ow_put _ _ (by rw [put_len]; exact hl) hw (opp_lt d) he, ow_put _ _ hl hv hd he]
/-- Two sides that are free are joined: the cells may be still. -/
theorem join_good {L : List Int} {n v d w : Nat} {o : Int} (hl : L.length = n * 8) (hg : GoodG L n) (hv : v < n) (hw : w < n) (hne : v ≠ w) (hd : d < 4) (ho : -2 ≤ o) (h1 : nxG L v d = -1) (h2 : nxG L w (opp d) = -1) : GoodG (joinG L v d w o) n := by
  intro a e ha he
  rw [chk1_zero, nx_join o hl hv hw hd he, ow_join o hl hv hw hd he]
  by_cases c1 : a = w ∧ e = opp d
  · obtain ⟨rfl, rfl⟩ := c1
    right
    rw [if_pos ⟨rfl, rfl⟩, if_pos ⟨rfl, rfl⟩, Int.toNat_natCast, opp_opp hd, nx_join o hl hv hw hd hd, ow_join o hl hv hw hd hd]
    rw [if_neg (fun h => hne h.1), if_pos ⟨rfl, rfl⟩, if_neg (fun h => hne h.1), if_pos ⟨rfl, rfl⟩]
    exact ⟨by omega, by omega, by omega, rfl, rfl, ho⟩
  · rw [if_neg c1, if_neg c1]
    by_cases c2 : a = v ∧ e = d
    · obtain ⟨rfl, rfl⟩ := c2
      right
      rw [if_pos ⟨rfl, rfl⟩, if_pos ⟨rfl, rfl⟩, Int.toNat_natCast, nx_join o hl hv hw hd (opp_lt e), ow_join o hl hv hw hd (opp_lt e)]
      rw [if_pos ⟨rfl, rfl⟩, if_pos ⟨rfl, rfl⟩]
      exact ⟨by omega, by omega, by omega, rfl, rfl, ho⟩
    · rw [if_neg c2, if_neg c2]
      rcases hg.side ha he with h | ⟨g1, g2, g3, g4, g5, g6⟩
      · exact Or.inl h
      · right
        have hx : ∃ x : Nat, nxG L a e = (x : Int) ∧ x < n := ⟨(nxG L a e).toNat, by omega, by omega⟩
        obtain ⟨x, hx, hxn⟩ := hx
        rw [hx] at g1 g2 g3 g4 g5 ⊢
        rw [Int.toNat_natCast] at g4 g5 ⊢
        rw [nx_join o hl hv hw hd (opp_lt e), ow_join o hl hv hw hd (opp_lt e)]
        have n1 : ¬ (x = w ∧ opp e = opp d) := by
          rintro ⟨rfl, h⟩
          rw [h, h2] at g4
          omega
        have n2 : ¬ (x = v ∧ opp e = d) := by
          rintro ⟨rfl, h⟩
          rw [h, h1] at g4
          omega
        rw [if_neg n1, if_neg n1, if_neg n2, if_neg n2]
        exact ⟨g1, g2, g3, g4, g5, g6⟩

/-! More cells. -/
def freeC : List Int := [-1, -1, -1, -1, 0, 0, 0, 0]
def newG : Nat → List Int
  | 0 => []
  | n + 1 => newG n ++ freeC
theorem new_len : ∀ n, (newG n).length = n * 8
  | 0 => rfl
  | n + 1 => by rw [newG, List.length_append, new_len n]; simp [freeC]; omega
theorem getD_left {L M : List Int} {j : Nat} (h : j < L.length) : (L ++ M).getD j 0 = L.getD j 0 := by
  rw [List.getD_eq_getElem?_getD, List.getD_eq_getElem?_getD, List.getElem?_append_left h]
theorem getD_right {L M : List Int} {j : Nat} (h : L.length ≤ j) : (L ++ M).getD j 0 = M.getD (j - L.length) 0 := by
  rw [List.getD_eq_getElem?_getD, List.getD_eq_getElem?_getD, List.getElem?_append_right h]
theorem nx_old {L M : List Int} {n v d : Nat} (hl : L.length = n * 8) (hv : v < n) (hd : d < 4) : nxG (L ++ M) v d = nxG L v d := getD_left (by omega)
theorem ow_old {L M : List Int} {n v d : Nat} (hl : L.length = n * 8) (hv : v < n) (hd : d < 4) : owG (L ++ M) v d = owG L v d := getD_left (by omega)
theorem nx_free {L : List Int} {n d : Nat} (hl : L.length = n * 8) (hd : d < 4) : nxG (L ++ freeC) n d = -1 := by
  unfold nxG
  rw [getD_right (by omega), show n * 8 + d - L.length = d by omega]
  have hc : d = 0 ∨ d = 1 ∨ d = 2 ∨ d = 3 := by omega
  rcases hc with rfl | rfl | rfl | rfl <;> rfl
theorem ow_free {L : List Int} {n d : Nat} (hl : L.length = n * 8) (hd : d < 4) : owG (L ++ freeC) n d = 0 := by
  unfold owG
  rw [getD_right (by omega), show n * 8 + 4 + d - L.length = 4 + d by omega]
  have hc : d = 0 ∨ d = 1 ∨ d = 2 ∨ d = 3 := by omega
  rcases hc with rfl | rfl | rfl | rfl <;> rfl
/-- A cell more, without edges. -/
theorem add_good {L : List Int} {n : Nat} (hl : L.length = n * 8) (hg : GoodG L n) : GoodG (L ++ freeC) (n + 1) := by
  intro v d hv hd
  rw [chk1_zero]
  by_cases e : v = n
  · subst e
    exact Or.inl ⟨nx_free hl hd, ow_free hl hd⟩
  · have hv' : v < n := by omega
    rw [nx_old hl hv' hd, ow_old hl hv' hd]
    rcases hg.side hv' hd with h | ⟨g1, g2, g3, g4, g5, g6⟩
    · exact Or.inl h
    · refine Or.inr ⟨g1, by omega, g3, ?_, ?_, g6⟩
      · rw [nx_old hl (by omega) (opp_lt d)]; exact g4
      · rw [ow_old hl (by omega) (opp_lt d)]; exact g5
theorem new_good : ∀ n, GoodG (newG n) n
  | 0 => fun v _ hv => absurd hv (by omega)
  | n + 1 => by rw [newG]; exact add_good (new_len n) (new_good n)
theorem nx_new : ∀ {n v d : Nat}, v < n → d < 4 → nxG (newG n) v d = -1
  | 0, v, d, hv, _ => absurd hv (by omega)
  | n + 1, v, d, hv, hd => by
    rw [newG]
    by_cases e : v = n
    · subst e; exact nx_free (new_len v) hd
    · rw [nx_old (new_len n) (by omega) hd]; exact nx_new (by omega) hd
theorem ow_new : ∀ {n v d : Nat}, v < n → d < 4 → owG (newG n) v d = 0
  | 0, v, d, hv, _ => absurd hv (by omega)
  | n + 1, v, d, hv, hd => by
    rw [newG]
    by_cases e : v = n
    · subst e; exact ow_free (new_len v) hd
    · rw [ow_old (new_len n) (by omega) hd]; exact ow_new (by omega) hd

/-! An edge split by a cell. -/
/-- The cells with an edge from v in the direction d to w, o's, split by a cell more. -/
def splitG (L : List Int) (n v d w : Nat) (o : Int) : List Int := joinG (joinG (L ++ freeC) v d n o) n d w o
theorem split_len {L : List Int} {n : Nat} (hl : L.length = n * 8) (v d w : Nat) (o : Int) : (splitG L n v d w o).length = (n + 1) * 8 := by
  unfold splitG
  rw [join_len, join_len, List.length_append, hl]; simp [freeC]; omega
section
variable {L : List Int} {n v d w : Nat} {o : Int}
theorem more_len (hl : L.length = n * 8) : (L ++ freeC).length = (n + 1) * 8 := by rw [List.length_append, hl]; simp [freeC]; omega
theorem nx_split (hl : L.length = n * 8) (hv : v < n) (hw : w < n) (hd : d < 4) {a e : Nat} (ha : a < n) (he : e < 4) :
    nxG (splitG L n v d w o) a e = if a = w ∧ e = opp d then (n : Int) else if a = v ∧ e = d then (n : Int) else nxG L a e := by
  unfold splitG
  rw [nx_join o (by rw [join_len]; exact more_len hl) (by omega) (by omega) hd he, nx_join o (more_len hl) (by omega) (by omega) hd he, nx_old hl ha he]
  rw [if_neg (c := a = n ∧ e = opp d) (by omega), if_neg (c := a = n ∧ e = d) (by omega)]
theorem ow_split (hl : L.length = n * 8) (hv : v < n) (hw : w < n) (hd : d < 4) {a e : Nat} (ha : a < n) (he : e < 4) :
    owG (splitG L n v d w o) a e = if a = w ∧ e = opp d then o else if a = v ∧ e = d then o else owG L a e := by
  unfold splitG
  rw [ow_join o (by rw [join_len]; exact more_len hl) (by omega) (by omega) hd he, ow_join o (more_len hl) (by omega) (by omega) hd he, ow_old hl ha he]
  rw [if_neg (c := a = n ∧ e = opp d) (by omega), if_neg (c := a = n ∧ e = d) (by omega)]
theorem nx_split_new (hl : L.length = n * 8) (hv : v < n) (hw : w < n) (hd : d < 4) {e : Nat} (he : e < 4) :
    nxG (splitG L n v d w o) n e = if e = d then (w : Int) else if e = opp d then (v : Int) else -1 := by
  unfold splitG
  rw [nx_join o (by rw [join_len]; exact more_len hl) (by omega) (by omega) hd he, nx_join o (more_len hl) (by omega) (by omega) hd he, nx_free hl he]
  rw [if_neg (c := n = w ∧ e = opp d) (by omega), if_neg (c := n = v ∧ e = d) (by omega)]
  by_cases h1 : e = d
  · rw [if_pos ⟨rfl, h1⟩, if_pos h1]
  · rw [if_neg (fun h => h1 h.2), if_neg h1]
    by_cases h2 : e = opp d
    · rw [if_pos ⟨rfl, h2⟩, if_pos h2]
    · rw [if_neg (fun h => h2 h.2), if_neg h2]
theorem ow_split_new (hl : L.length = n * 8) (hv : v < n) (hw : w < n) (hd : d < 4) {e : Nat} (he : e < 4) :
    owG (splitG L n v d w o) n e = if e = d then o else if e = opp d then o else 0 := by
  unfold splitG
  rw [ow_join o (by rw [join_len]; exact more_len hl) (by omega) (by omega) hd he, ow_join o (more_len hl) (by omega) (by omega) hd he, ow_free hl he]
  rw [if_neg (c := n = w ∧ e = opp d) (by omega), if_neg (c := n = v ∧ e = d) (by omega)]
  by_cases h1 : e = d
  · rw [if_pos ⟨rfl, h1⟩, if_pos h1]
  · rw [if_neg (fun h => h1 h.2), if_neg h1]
    by_cases h2 : e = opp d
    · rw [if_pos ⟨rfl, h2⟩, if_pos h2]
    · rw [if_neg (fun h => h2 h.2), if_neg h2]
/-- Split, the cells may be still. -/
theorem split_good (hl : L.length = n * 8) (hg : GoodG L n) (hv : v < n) (hw : w < n) (hd : d < 4) (h1 : nxG L v d = w) (ho : owG L v d = o) : GoodG (splitG L n v d w o) (n + 1) := by
  have hs := hg.side hv hd
  rw [h1, ho] at hs
  have hs' : (w : Int) ≠ v ∧ nxG L w (opp d) = v ∧ owG L w (opp d) = o ∧ -2 ≤ o := by
    rcases hs with h | ⟨_, _, a, b, c, e⟩
    · omega
    · rw [Int.toNat_natCast] at b c; exact ⟨a, b, c, e⟩
  obtain ⟨hwv, hb, hc, ho2⟩ := hs'
  intro a e ha he
  rw [chk1_zero]
  by_cases en : a = n
  · subst en
    rw [nx_split_new hl hv hw hd he, ow_split_new hl hv hw hd he]
    by_cases c1 : e = d
    · subst c1
      right
      rw [if_pos rfl, if_pos rfl, Int.toNat_natCast, nx_split hl hv hw hd hw (opp_lt e), ow_split hl hv hw hd hw (opp_lt e), if_pos ⟨rfl, rfl⟩, if_pos ⟨rfl, rfl⟩]
      exact ⟨by omega, by omega, by omega, rfl, rfl, ho2⟩
    · rw [if_neg c1, if_neg c1]
      by_cases c2 : e = opp d
      · subst c2
        right
        rw [if_pos rfl, if_pos rfl, Int.toNat_natCast, opp_opp hd, nx_split hl hv hw hd hv hd, ow_split hl hv hw hd hv hd]
        rw [if_neg (by rintro ⟨h, _⟩; omega), if_pos ⟨rfl, rfl⟩, if_neg (by rintro ⟨h, _⟩; omega), if_pos ⟨rfl, rfl⟩]
        exact ⟨by omega, by omega, by omega, rfl, rfl, ho2⟩
      · rw [if_neg c2, if_neg c2]; exact Or.inl ⟨rfl, rfl⟩
  · have ha' : a < n := by omega
    rw [nx_split hl hv hw hd ha' he, ow_split hl hv hw hd ha' he]
    by_cases c1 : a = w ∧ e = opp d
    · obtain ⟨rfl, rfl⟩ := c1
      right
      rw [if_pos ⟨rfl, rfl⟩, if_pos ⟨rfl, rfl⟩, Int.toNat_natCast, opp_opp hd, nx_split_new hl hv hw hd hd, ow_split_new hl hv hw hd hd, if_pos rfl, if_pos rfl]
      exact ⟨by omega, by omega, by omega, rfl, rfl, ho2⟩
    · rw [if_neg c1, if_neg c1]
      by_cases c2 : a = v ∧ e = d
      · obtain ⟨rfl, rfl⟩ := c2
        right
        rw [if_pos ⟨rfl, rfl⟩, if_pos ⟨rfl, rfl⟩, Int.toNat_natCast, nx_split_new hl hv hw hd (opp_lt e), ow_split_new hl hv hw hd (opp_lt e), if_neg (opp_ne _), if_pos rfl, if_neg (opp_ne _), if_pos rfl]
        exact ⟨by omega, by omega, by omega, rfl, rfl, ho2⟩
      · rw [if_neg c2, if_neg c2]
        rcases hg.side ha' he with h | ⟨g1, g2, g3, g4, g5, g6⟩
        · exact Or.inl h
        · right
          obtain ⟨x, hx, hxn⟩ : ∃ x : Nat, nxG L a e = (x : Int) ∧ x < n := ⟨(nxG L a e).toNat, by omega, by omega⟩
          rw [hx] at g1 g2 g3 g4 g5 ⊢
          rw [Int.toNat_natCast] at g4 g5 ⊢
          rw [nx_split hl hv hw hd hxn (opp_lt e), ow_split hl hv hw hd hxn (opp_lt e)]
          have n1 : ¬ (x = w ∧ opp e = opp d) := by
            rintro ⟨rfl, h⟩
            rw [h, hb] at g4
            exact c2 ⟨by omega, opp_inj he hd h⟩
          have n2 : ¬ (x = v ∧ opp e = d) := by
            rintro ⟨rfl, h⟩
            rw [h, h1] at g4
            exact c1 ⟨by omega, by rw [← h, opp_opp he]⟩
          rw [if_neg n1, if_neg n1, if_neg n2, if_neg n2]
          exact ⟨g1, by omega, g3, g4, g5, g6⟩
end
/-- Lists of cells that have the same sides are the same. -/
theorem cells_ext {L M : List Int} {n : Nat} (hl : L.length = n * 8) (hm : M.length = n * 8) (h : ∀ v d, v < n → d < 4 → nxG L v d = nxG M v d ∧ owG L v d = owG M v d) : L = M := by
  apply List.ext_getElem (by omega)
  intro i h1 h2
  have e : ∀ (K : List Int) (hk : i < K.length), K.getD i 0 = K[i] := fun K hk => by simp [List.getD_eq_getElem?_getD, hk]
  rw [← e L h1, ← e M h2]
  by_cases c : i % 8 < 4
  · have := (h (i / 8) (i % 8) (by omega) c).1
    unfold nxG at this
    rw [show i / 8 * 8 + i % 8 = i by omega] at this
    exact this
  · have := (h (i / 8) (i % 8 - 4) (by omega) (by omega)).2
    unfold owG at this
    rw [show i / 8 * 8 + 4 + (i % 8 - 4) = i by omega] at this
    exact this
end Go.Proofs.YtkakeakdgidigaaDoor.GrM

namespace Go.Proofs.YtkakeakdgidigaaDoor.GrM

def turnC (L : List Int) (v : Nat) : List Int := [nxG L v 3, nxG L v 0, nxG L v 1, nxG L v 2, owG L v 3, owG L v 0, owG L v 1, owG L v 2]
def turnG (L : List Int) : Nat → List Int
  | 0 => []
  | n + 1 => turnG L n ++ turnC L n
def lft (d : Nat) : Nat := (d + 1) % 4
theorem lft_lt (d : Nat) : lft d < 4 := Nat.mod_lt _ (by decide)
theorem lft_opp (d : Nat) : lft (opp d) = opp (lft d) := by unfold lft opp; omega
theorem lft_inj {d e : Nat} (hd : d < 4) (he : e < 4) (h : lft d = lft e) : d = e := by unfold lft at h; omega
theorem lft_all {e : Nat} (h : e < 4) : ∃ d, d < 4 ∧ e = lft d := ⟨(e + 3) % 4, by omega, by unfold lft; omega⟩
theorem turn_len (L : List Int) : ∀ n, (turnG L n).length = n * 8
  | 0 => rfl
  | n + 1 => by rw [turnG, List.length_append, turn_len L n]; simp [turnC]; omega
theorem nx_turn (L : List Int) : ∀ {n v d : Nat}, v < n → d < 4 → nxG (turnG L n) v (lft d) = nxG L v d
  | 0, v, d, hv, _ => absurd hv (by omega)
  | n + 1, v, d, hv, hd => by
    rw [turnG]
    by_cases e : v = n
    · subst e
      show (turnG L v ++ turnC L v).getD (v * 8 + lft d) 0 = _
      have hl := turn_len L v
      rw [getD_right (by omega), show v * 8 + lft d - (turnG L v).length = lft d by omega]
      have hc : d = 0 ∨ d = 1 ∨ d = 2 ∨ d = 3 := by omega
      rcases hc with rfl | rfl | rfl | rfl <;> rfl
    · rw [nx_old (turn_len L n) (by omega) (lft_lt d)]; exact nx_turn L (by omega) hd
theorem ow_turn (L : List Int) : ∀ {n v d : Nat}, v < n → d < 4 → owG (turnG L n) v (lft d) = owG L v d
  | 0, v, d, hv, _ => absurd hv (by omega)
  | n + 1, v, d, hv, hd => by
    rw [turnG]
    by_cases e : v = n
    · subst e
      show (turnG L v ++ turnC L v).getD (v * 8 + 4 + lft d) 0 = _
      have hl := turn_len L v
      rw [getD_right (by omega), show v * 8 + 4 + lft d - (turnG L v).length = 4 + lft d by omega]
      have hc : d = 0 ∨ d = 1 ∨ d = 2 ∨ d = 3 := by omega
      rcases hc with rfl | rfl | rfl | rfl <;> rfl
    · rw [ow_old (turn_len L n) (by omega) (lft_lt d)]; exact ow_turn L (by omega) hd
theorem turn_good {L : List Int} {n : Nat} : GoodG (turnG L n) n ↔ GoodG L n := by
  have side : ∀ v d, v < n → d < 4 → (chk1 (turnG L n) n v (lft d) = 0 ↔ chk1 L n v d = 0) := by
    intro v d hv hd
    rw [chk1_zero, chk1_zero, nx_turn L hv hd, ow_turn L hv hd, ← lft_opp d]
    by_cases hx : 0 ≤ nxG L v d ∧ nxG L v d < n
    · have hxn : (nxG L v d).toNat < n := by omega
      rw [nx_turn L hxn (opp_lt d), ow_turn L hxn (opp_lt d)]
    · constructor
      · rintro (h | ⟨a, b, _⟩)
        · exact Or.inl h
        · exact absurd ⟨a, b⟩ hx
      · rintro (h | ⟨a, b, _⟩)
        · exact Or.inl h
        · exact absurd ⟨a, b⟩ hx
  constructor
  · intro h v d hv hd
    exact (side v d hv hd).1 (h v _ hv (lft_lt d))
  · intro h v e hv he
    obtain ⟨d, hd, rfl⟩ := lft_all he
    exact (side v d hv hd).2 (h v d hv hd)
theorem turn_chk {L : List Int} {n : Nat} : chkG (turnG L n) n = 0 ↔ chkG L n = 0 := by rw [chk_good, chk_good, turn_good]
/-- Split and turned, or turned and split. -/
theorem turn_split {L : List Int} {n v d w : Nat} {o : Int} (hl : L.length = n * 8) (hv : v < n) (hw : w < n) (hd : d < 4) : turnG (splitG L n v d w o) (n + 1) = splitG (turnG L n) n v (lft d) w o := by
  refine cells_ext (turn_len _ _) (split_len (turn_len L n) _ _ _ _) (fun a e' ha he' => ?_)
  obtain ⟨e, he, rfl⟩ := lft_all he'
  rw [nx_turn _ ha he, ow_turn _ ha he]
  by_cases en : a = n
  · subst en
    rw [nx_split_new hl hv hw hd he, ow_split_new hl hv hw hd he, nx_split_new (turn_len L a) hv hw (lft_lt d) (lft_lt e), ow_split_new (turn_len L a) hv hw (lft_lt d) (lft_lt e)]
    by_cases c1 : e = d
    · subst c1; simp
    · have c1' : ¬ lft e = lft d := fun h => c1 (lft_inj he hd h)
      rw [if_neg c1, if_neg c1, if_neg c1', if_neg c1']
      by_cases c2 : e = opp d
      · have c2' : lft e = opp (lft d) := by rw [c2, lft_opp d]
        rw [if_pos c2, if_pos c2, if_pos c2', if_pos c2']; exact ⟨rfl, rfl⟩
      · have c2' : ¬ lft e = opp (lft d) := fun h => c2 (lft_inj he (opp_lt d) (by rw [h, lft_opp d]))
        rw [if_neg c2, if_neg c2, if_neg c2', if_neg c2']; exact ⟨rfl, rfl⟩
  · have ha' : a < n := by omega
    rw [nx_split hl hv hw hd ha' he, ow_split hl hv hw hd ha' he, nx_split (turn_len L n) hv hw (lft_lt d) ha' (lft_lt e), ow_split (turn_len L n) hv hw (lft_lt d) ha' (lft_lt e)]
    by_cases c1 : a = w ∧ e = opp d
    · have c1' : a = w ∧ lft e = opp (lft d) := ⟨c1.1, by rw [c1.2, lft_opp d]⟩
      rw [if_pos c1, if_pos c1, if_pos c1', if_pos c1']; exact ⟨rfl, rfl⟩
    · have c1' : ¬ (a = w ∧ lft e = opp (lft d)) := fun h => c1 ⟨h.1, lft_inj he (opp_lt d) (by rw [h.2, lft_opp d])⟩
      rw [if_neg c1, if_neg c1, if_neg c1', if_neg c1']
      by_cases c2 : a = v ∧ e = d
      · have c2' : a = v ∧ lft e = lft d := ⟨c2.1, by rw [c2.2]⟩
        rw [if_pos c2, if_pos c2, if_pos c2', if_pos c2']; exact ⟨rfl, rfl⟩
      · have c2' : ¬ (a = v ∧ lft e = lft d) := fun h => c2 ⟨h.1, lft_inj he hd h.2⟩
        rw [if_neg c2, if_neg c2, if_neg c2', if_neg c2', nx_turn L ha' he, ow_turn L ha' he]; exact ⟨rfl, rfl⟩
/-- The two old ends joined again, the new cell left out: the cells that were. -/
theorem unsplit {L : List Int} {n v d w : Nat} {o : Int} (hl : L.length = n * 8) (hg : GoodG L n) (hv : v < n) (hw : w < n) (hd : d < 4) (h1 : nxG L v d = w) (ho : owG L v d = o) :
    (((splitG L n v d w o).set (v * 8 + d) (w : Int)).set (w * 8 + opp d) (v : Int)).take (n * 8) = L := by
  have hs := hg.side hv hd
  rw [h1, ho] at hs
  have hs' : nxG L w (opp d) = v ∧ owG L w (opp d) = o := by
    rcases hs with h | ⟨_, _, _, b, c, _⟩
    · omega
    · rw [Int.toNat_natCast] at b c; exact ⟨b, c⟩
  have hlen := split_len hl v d w o
  refine cells_ext (by rw [List.length_take, List.length_set, List.length_set, hlen]; omega) hl (fun a e ha he => ?_)
  have ht : ∀ (M : List Int) j, j < n * 8 → (M.take (n * 8)).getD j 0 = M.getD j 0 := fun M j hj => by
    rw [List.getD_eq_getElem?_getD, List.getD_eq_getElem?_getD, List.getElem?_take, if_pos hj]
  have hu := opp_lt d
  constructor
  · unfold nxG
    rw [ht _ _ (by omega), getD_set _ _ _ _ (by rw [List.length_set, hlen]; omega), getD_set _ _ _ _ (by rw [hlen]; omega)]
    have hn := nx_split (o := o) hl hv hw hd ha he
    unfold nxG at hn h1 hs'
    rw [hn]
    by_cases c1 : a = w ∧ e = opp d
    · obtain ⟨rfl, rfl⟩ := c1
      rw [if_pos rfl]; exact hs'.1.symm
    · rw [if_neg (by omega)]
      by_cases c2 : a = v ∧ e = d
      · obtain ⟨rfl, rfl⟩ := c2
        rw [if_pos rfl]; exact h1.symm
      · rw [if_neg (by omega), if_neg c1, if_neg c2]
  · unfold owG
    rw [ht _ _ (by omega), getD_set _ _ _ _ (by rw [List.length_set, hlen]; omega), getD_set _ _ _ _ (by rw [hlen]; omega), if_neg (by omega), if_neg (by omega)]
    have hn := ow_split (o := o) hl hv hw hd ha he
    unfold owG at hn ho hs'
    rw [hn]
    by_cases c1 : a = w ∧ e = opp d
    · obtain ⟨rfl, rfl⟩ := c1
      rw [if_pos ⟨rfl, rfl⟩]; exact hs'.2.symm
    · rw [if_neg c1]
      by_cases c2 : a = v ∧ e = d
      · obtain ⟨rfl, rfl⟩ := c2
        rw [if_pos ⟨rfl, rfl⟩]; exact ho.symm
      · rw [if_neg c2]
end Go.Proofs.YtkakeakdgidigaaDoor.GrM

namespace Go.Proofs.YtkakeakdgidigaaDoor.GrM

/-- Along a direction (0: to the right, 1: above), and across it. -/
def alP (P : List (Int × Int)) (d k : Nat) : Int := if d = 0 then (P.getD k (0, 0)).1 else (P.getD k (0, 0)).2
def acP (P : List (Int × Int)) (d k : Nat) : Int := if d = 0 then (P.getD k (0, 0)).2 else (P.getD k (0, 0)).1
/-- Does k lie ahead of i? -/
def ahP (P : List (Int × Int)) (i d k : Nat) : Bool := decide (acP P d k = acP P d i) && decide (alP P d i < alP P d k)
/-- The nearest one of the first so many; -1: there is none. -/
def nearK (P : List (Int × Int)) (i d : Nat) : Nat → Int
  | 0 => -1
  | m + 1 => if ahP P i d m = true ∧ (nearK P i d m < 0 ∨ alP P d m < alP P d (nearK P i d m).toNat) then m else nearK P i d m
def nearP (P : List (Int × Int)) (i d : Nat) : Int := nearK P i d P.length
theorem ahP_iff {P : List (Int × Int)} {i d k : Nat} : ahP P i d k = true ↔ acP P d k = acP P d i ∧ alP P d i < alP P d k := by simp [ahP]
theorem near_is (P : List (Int × Int)) (i d : Nat) : ∀ m, (nearK P i d m = -1 ∧ ∀ k, k < m → ¬ ahP P i d k = true) ∨
    (∃ j : Nat, j < m ∧ nearK P i d m = j ∧ ahP P i d j = true ∧ ∀ k, k < m → ahP P i d k = true → alP P d j ≤ alP P d k)
  | 0 => Or.inl ⟨rfl, fun k hk => absurd hk (by omega)⟩
  | m + 1 => by
    rw [nearK]
    rcases near_is P i d m with ⟨h1, h2⟩ | ⟨j, hj, h1, h2, h3⟩
    · rw [h1]
      by_cases ha : ahP P i d m = true
      · rw [if_pos ⟨ha, Or.inl (by omega)⟩]
        refine Or.inr ⟨m, by omega, rfl, ha, fun k hk hk2 => ?_⟩
        by_cases e : k = m
        · subst e; exact Int.le_refl _
        · exact absurd hk2 (h2 k (by omega))
      · rw [if_neg (fun h => ha h.1)]
        refine Or.inl ⟨rfl, fun k hk => ?_⟩
        by_cases e : k = m
        · subst e; exact ha
        · exact h2 k (by omega)
    · rw [h1, Int.toNat_natCast]
      by_cases ha : ahP P i d m = true ∧ ((j : Int) < 0 ∨ alP P d m < alP P d j)
      · rw [if_pos ha]
        refine Or.inr ⟨m, by omega, rfl, ha.1, fun k hk hk2 => ?_⟩
        by_cases e : k = m
        · subst e; exact Int.le_refl _
        · have := h3 k (by omega) hk2
          rcases ha.2 with h | h
          · omega
          · omega
      · rw [if_neg ha]
        refine Or.inr ⟨j, by omega, rfl, h2, fun k hk hk2 => ?_⟩
        by_cases e : k = m
        · subst e
          have : ¬ alP P d k < alP P d j := fun h => ha ⟨hk2, Or.inr h⟩
          omega
        · exact h3 k (by omega) hk2
theorem near_range (P : List (Int × Int)) (i d : Nat) : nearP P i d = -1 ∨ ∃ j : Nat, j < P.length ∧ nearP P i d = j ∧ ahP P i d j = true ∧ ∀ k, k < P.length → ahP P i d k = true → alP P d j ≤ alP P d k := by
  rcases near_is P i d P.length with h | h
  · exact Or.inl h.1
  · exact Or.inr h
/-- No two on one place. -/
def Apart (P : List (Int × Int)) : Prop := ∀ i j, i < P.length → j < P.length → P.getD i (0, 0) = P.getD j (0, 0) → i = j
theorem pair_eq {P : List (Int × Int)} {d i j : Nat} (h1 : alP P d i = alP P d j) (h2 : acP P d i = acP P d j) : P.getD i (0, 0) = P.getD j (0, 0) := by
  unfold alP at h1
  unfold acP at h2
  by_cases h : d = 0
  · rw [if_pos h, if_pos h] at h1 h2; exact Prod.ext h1 h2
  · rw [if_neg h, if_neg h] at h1 h2; exact Prod.ext h2 h1
/-- Two that have one nearest are one. -/
theorem near_one {P : List (Int × Int)} {i j d w : Nat} (hP : Apart P) (hi : i < P.length) (hj : j < P.length) (h1 : nearP P i d = w) (h2 : nearP P j d = w) : i = j := by
  rcases near_range P i d with h | ⟨x, hx, e1, a1, m1⟩
  · omega
  · rcases near_range P j d with h | ⟨y, hy, e2, a2, m2⟩
    · omega
    · obtain rfl : x = w := by omega
      obtain rfl : y = x := by omega
      rw [ahP_iff] at a1 a2
      have hc : acP P d i = acP P d j := by rw [← a1.1, a2.1]
      by_cases lt1 : alP P d i < alP P d j
      · have := m1 j hj (ahP_iff.2 ⟨hc.symm, lt1⟩)
        omega
      · by_cases lt2 : alP P d j < alP P d i
        · have := m2 i hi (ahP_iff.2 ⟨hc, lt2⟩)
          omega
        · exact hP i j hi hj (pair_eq (by omega) hc)
theorem near_ne {P : List (Int × Int)} {i d w : Nat} (h : nearP P i d = w) : w < P.length ∧ i ≠ w := by
  rcases near_range P i d with e | ⟨x, hx, e1, a1, _⟩
  · omega
  · obtain rfl : x = w := by omega
    refine ⟨hx, ?_⟩
    rintro rfl
    rw [ahP_iff] at a1
    omega

/-- The cells made so far: of the sides to the right and above the first so many were asked for. -/
structure MkG (P : List (Int × Int)) (L : List Int) (t : Nat) : Prop where
  len : L.length = P.length * 8
  good : GoodG L P.length
  near : ∀ v d, v < P.length → d < 2 → nxG L v d ≠ -1 → nxG L v d = nearP P v d ∧ 2 * v + d < t
theorem MkG.start (P : List (Int × Int)) : MkG P (newG P.length) 0 :=
  ⟨new_len _, new_good _, fun v d hv hd h => absurd (nx_new hv (by omega)) h⟩
theorem MkG.mono {P : List (Int × Int)} {L : List Int} {t u : Nat} (h : MkG P L t) (hu : t ≤ u) : MkG P L u :=
  ⟨h.len, h.good, fun v d hv hd hn => ⟨(h.near v d hv hd hn).1, Nat.lt_of_lt_of_le (h.near v d hv hd hn).2 hu⟩⟩
/-- One edge more. -/
theorem MkG.step {P : List (Int × Int)} {L : List Int} {i d w : Nat} {o : Int} (hP : Apart P) (h : MkG P L (2 * i + d)) (hi : i < P.length) (hd : d < 2) (hw : nearP P i d = w) (ho : -2 ≤ o) : MkG P (joinG L i d w o) (2 * i + d + 1) := by
  obtain ⟨hwn, hne⟩ := near_ne hw
  have h1 : nxG L i d = -1 := by
    refine Decidable.byContradiction fun hc => ?_
    have := (h.near i d hi hd hc).2
    omega
  have h2 : nxG L w (opp d) = -1 := by
    rcases h.good.side hwn (opp_lt d) with e | ⟨g1, g2, g3, g4, _, _⟩
    · exact e.1
    · exfalso
      obtain ⟨x, hx, hxn⟩ : ∃ x : Nat, nxG L w (opp d) = (x : Int) ∧ x < P.length := ⟨(nxG L w (opp d)).toNat, by omega, by omega⟩
      rw [hx, Int.toNat_natCast, opp_opp (by omega)] at g4
      have hn := h.near x d hxn hd (by rw [g4]; omega)
      rw [g4] at hn
      have := near_one hP hxn hi hn.1.symm hw
      subst this
      rw [h1] at g4
      omega
  refine ⟨by rw [join_len]; exact h.len, join_good h.len h.good hi hwn hne (by omega) ho h1 h2, fun v e hv he hn => ?_⟩
  rw [nx_join o h.len hi hwn (by omega) (by omega)] at hn ⊢
  have c1 : ¬ (v = w ∧ e = opp d) := by
    rintro ⟨_, rfl⟩
    unfold opp at he
    omega
  rw [if_neg c1] at hn ⊢
  by_cases c2 : v = i ∧ e = d
  · obtain ⟨rfl, rfl⟩ := c2
    rw [if_pos ⟨rfl, rfl⟩]
    exact ⟨hw.symm, by omega⟩
  · rw [if_neg c2] at hn ⊢
    have := h.near v e hv he hn
    exact ⟨this.1, by omega⟩
end Go.Proofs.YtkakeakdgidigaaDoor.GrM

namespace Go.Proofs.YtkakeakdgidigaaDoor.GrM

def celL (L : List Int) (i : Nat) : List Int := [nxG L i 0, nxG L i 1, nxG L i 2, nxG L i 3, owG L i 0, owG L i 1, owG L i 2, owG L i 3]
theorem cel_len (L : List Int) (i : Nat) : (celL L i).length = 8 := rfl
theorem cel_get {L : List Int} {i j : Nat} (hj : j < 8) : (celL L i)[j]? = some (L.getD (i * 8 + j) 0) := by
  have hc : j = 0 ∨ j = 1 ∨ j = 2 ∨ j = 3 ∨ j = 4 ∨ j = 5 ∨ j = 6 ∨ j = 7 := by omega
  rcases hc with rfl | rfl | rfl | rfl | rfl | rfl | rfl | rfl <;> rfl
theorem take_cell {L : List Int} {n i : Nat} (hl : L.length = n * 8) (hi : i < n) : L.take ((i + 1) * 8) = L.take (i * 8) ++ celL L i := by
  rw [show (i + 1) * 8 = i * 8 + 8 by omega, List.take_add]
  congr 1
  apply List.ext_getElem?
  intro j
  by_cases hj : j < 8
  · rw [cel_get hj, List.getElem?_take, if_pos hj, List.getElem?_drop, List.getD_eq_getElem?_getD, List.getElem?_eq_getElem (by omega)]; rfl
  · rw [List.getElem?_eq_none (by rw [List.length_take, List.length_drop]; omega), List.getElem?_eq_none (by rw [cel_len]; omega)]
theorem cel_take {L : List Int} {i m : Nat} (hi : i < m) : celL (L.take (m * 8)) i = celL L i := by
  have h : ∀ j, j < 8 → (L.take (m * 8)).getD (i * 8 + j) 0 = L.getD (i * 8 + j) 0 := fun j hj => by
    rw [List.getD_eq_getElem?_getD, List.getD_eq_getElem?_getD, List.getElem?_take, if_pos (by omega)]
  apply List.ext_getElem?
  intro j
  by_cases hj : j < 8
  · rw [cel_get hj, cel_get hj, h j hj]
  · rw [List.getElem?_eq_none (by rw [cel_len]; omega), List.getElem?_eq_none (by rw [cel_len]; omega)]
/-- What the cells with an edge laid over are, side by side. -/
def Laid (L M : List Int) (n : Nat) (v : Int) (d : Nat) (w o : Int) : Prop := M.length = n * 8 ∧ ∀ i e, i < n → e < 4 →
  nxG M i e = (if (i : Int) = w ∧ e = opp d then v else if (i : Int) = v ∧ e = d then w else nxG L i e) ∧
  owG M i e = (if (i : Int) = w ∧ e = opp d then o else if (i : Int) = v ∧ e = d then o else owG L i e)
theorem laid_join {L : List Int} {n v d w : Nat} (o : Int) (hl : L.length = n * 8) (hv : v < n) (hw : w < n) (hd : d < 4) : Laid L (joinG L v d w o) n v d w o := by
  refine ⟨by rw [join_len]; exact hl, fun i e _ he => ?_⟩
  rw [nx_join o hl hv hw hd he, ow_join o hl hv hw hd he]
  simp only [Int.natCast_inj]
  exact ⟨trivial, trivial⟩
theorem laid_copy {L : List Int} {n d : Nat} (o : Int) (hl : L.length = n * 8) : Laid L L n (-1) d (-1) o := by
  refine ⟨hl, fun i e _ _ => ?_⟩
  rw [if_neg (by rintro ⟨h, _⟩; omega), if_neg (by rintro ⟨h, _⟩; omega), if_neg (by rintro ⟨h, _⟩; omega), if_neg (by rintro ⟨h, _⟩; omega)]
  exact ⟨rfl, rfl⟩
/-! Cells without edges, made number by number. -/
def zeroG (n : Nat) : List Int := List.replicate (n * 8) 0
theorem zero_len (n : Nat) : (zeroG n).length = n * 8 := by simp [zeroG]
def partC (d : Nat) : List Int := List.replicate d (-1) ++ List.replicate (8 - d) 0
theorem part_len {d : Nat} (h : d ≤ 4) : (partC d).length = 8 := by simp [partC]; omega
theorem part_four : partC 4 = freeC := rfl
theorem zero_more (n : Nat) : zeroG (n + 1) = partC 0 ++ zeroG n := by
  unfold zeroG partC
  rw [show (n + 1) * 8 = 8 + n * 8 by omega, ← List.replicate_append_replicate]; rfl
theorem part_set {d : Nat} (h : d < 4) (M : List Int) : (partC d ++ M).set d (-1) = partC (d + 1) ++ M := by
  have hc : d = 0 ∨ d = 1 ∨ d = 2 ∨ d = 3 := by omega
  rcases hc with rfl | rfl | rfl | rfl <;> rfl
theorem new_set {v d : Nat} (h : d < 4) (M : List Int) : (newG v ++ (partC d ++ M)).set (v * 8 + d) (-1) = newG v ++ (partC (d + 1) ++ M) := by
  rw [List.set_append_right _ _ (by rw [new_len]; omega), new_len, show v * 8 + d - v * 8 = d by omega, part_set h]
theorem new_next (v : Nat) (M : List Int) : newG v ++ (partC 4 ++ M) = newG (v + 1) ++ M := by
  rw [part_four, newG, List.append_assoc]
/-- Two lists of cells, compared cell by cell. -/
theorem cells_same {L M : List Int} {n : Nat} (hl : L.length = n * 8) (hm : M.length = n * 8) : L = M ↔ ∀ i, i < n → celL L i = celL M i := by
  constructor
  · rintro rfl _ _; rfl
  · intro h
    refine cells_ext hl hm (fun v d hv hd => ?_)
    have hc := h v hv
    simp only [celL, List.cons.injEq, and_true] at hc
    have hx : d = 0 ∨ d = 1 ∨ d = 2 ∨ d = 3 := by omega
    rcases hx with rfl | rfl | rfl | rfl <;> simp [hc]
end Go.Proofs.YtkakeakdgidigaaDoor.GrM
