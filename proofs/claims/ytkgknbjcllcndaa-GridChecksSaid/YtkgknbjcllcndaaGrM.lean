/-
  Grids of cells: mathematics; no program stands here. Eight numbers a cell (four that are next, four owners), cell behind cell. Conditions: none.
-/
import Derived.Test.YtkgknbjcllcndaaBase
namespace Go.Proofs.Ytkgknbjcllcndaa.GrM

/-- What is next to a cell in a direction; whose that edge is. -/
def nxG (L : List Int) (v d : Nat) : Int := L.getD (v * 8 + d) 0
def owG (L : List Int) (v d : Nat) : Int := L.getD (v * 8 + 4 + d) 0
/-- The contrary direction. -/
def opp (d : Nat) : Nat := (d + 2) % 4
theorem opp_lt (d : Nat) : opp d < 4 := Nat.mod_lt _ (by decide)
theorem opp_opp {d : Nat} (h : d < 4) : opp (opp d) = d := by unfold opp; omega
theorem opp_ne (d : Nat) : opp d ≠ d := by unfold opp; omega
theorem opp_inj {d e : Nat} (hd : d < 4) (he : e < 4) (h : opp d = opp e) : d = e := by unfold opp at h; omega

/-- What Check says of a cell's side. -/
def chk1 (L : List Int) (n v d : Nat) : Int :=
  if nxG L v d = -1 then (if owG L v d = 0 then 0 else 9)
  else if nxG L v d < 0 ∨ (n : Int) ≤ nxG L v d ∨ nxG L v d = v then 3
  else if nxG L (nxG L v d).toNat (opp d) ≠ v ∨ owG L (nxG L v d).toNat (opp d) ≠ owG L v d ∨ owG L v d < -2 then 9 else 0
/-- The first that isn't 0, of so many from k on. -/
def firstBad (f : Nat → Int) : Nat → Nat → Int
  | 0, _ => 0
  | m + 1, k => if f k ≠ 0 then f k else firstBad f m (k + 1)
def chkP (L : List Int) (n k : Nat) : Int := chk1 L n (k / 4) (k % 4)
def chkG (L : List Int) (n : Nat) : Int := if 4096 < n then 6 else firstBad (chkP L n) (4 * n) 0
theorem bad_none {f : Nat → Int} : ∀ {m k : Nat}, firstBad f m k = 0 ↔ ∀ j, k ≤ j → j < k + m → f j = 0
  | 0, k => by simp [firstBad]; intro j h1 h2; omega
  | m + 1, k => by
    rw [firstBad]
    by_cases h : f k = 0
    · rw [if_neg (by simpa using h), bad_none (f := f) (m := m) (k := k + 1)]
      constructor
      · intro g j h1 h2
        by_cases e : j = k
        · subst e; exact h
        · exact g j (by omega) (by omega)
      · intro g j h1 h2; exact g j (by omega) (by omega)
    · rw [if_pos h]
      constructor
      · intro g; exact absurd g h
      · intro g; exact absurd (g k (Nat.le_refl _) (by omega)) h
/-- Cells that may be. -/
def GoodG (L : List Int) (n : Nat) : Prop := ∀ v d, v < n → d < 4 → chk1 L n v d = 0
theorem chk_good {L : List Int} {n : Nat} : chkG L n = 0 ↔ n ≤ 4096 ∧ GoodG L n := by
  unfold chkG
  by_cases h : 4096 < n
  · rw [if_pos h]; constructor
    · intro g; cases g
    · intro g; omega
  · rw [if_neg h, bad_none]
    constructor
    · intro g
      refine ⟨by omega, fun v d hv hd => ?_⟩
      have := g (v * 4 + d) (Nat.zero_le _) (by omega)
      unfold chkP at this
      rw [show (v * 4 + d) / 4 = v by omega, show (v * 4 + d) % 4 = d by omega] at this
      exact this
    · intro g j _ hj
      exact g.2 (j / 4) (j % 4) (by omega) (by omega)
/-- What it is that a side is right. -/
theorem chk1_zero {L : List Int} {n v d : Nat} : chk1 L n v d = 0 ↔ (nxG L v d = -1 ∧ owG L v d = 0) ∨
    (0 ≤ nxG L v d ∧ nxG L v d < n ∧ nxG L v d ≠ v ∧ nxG L (nxG L v d).toNat (opp d) = v ∧ owG L (nxG L v d).toNat (opp d) = owG L v d ∧ -2 ≤ owG L v d) := by
  unfold chk1
  by_cases h1 : nxG L v d = -1
  · rw [if_pos h1]
    by_cases h2 : owG L v d = 0
    · simp [h1, h2]
    · rw [if_neg h2]
      constructor
      · intro h; cases h
      · rintro (h | h)
        · exact absurd h.2 h2
        · omega
  · rw [if_neg h1]
    by_cases h2 : nxG L v d < 0 ∨ (n : Int) ≤ nxG L v d ∨ nxG L v d = v
    · rw [if_pos h2]
      constructor
      · intro h; cases h
      · rintro (h | h)
        · exact absurd h.1 h1
        · omega
    · rw [if_neg h2]
      by_cases h3 : nxG L (nxG L v d).toNat (opp d) ≠ v ∨ owG L (nxG L v d).toNat (opp d) ≠ owG L v d ∨ owG L v d < -2
      · rw [if_pos h3]
        constructor
        · intro h; cases h
        · rintro (h | ⟨_, _, _, a, b, c⟩)
          · exact absurd h.1 h1
          · rcases h3 with h3 | h3 | h3
            · exact absurd a h3
            · exact absurd b h3
            · omega
      · rw [if_neg h3]
        simp only [not_or, ne_eq, Decidable.not_not] at h3
        constructor
        · intro _; exact Or.inr ⟨by omega, by omega, by omega, h3.1, h3.2.1, by omega⟩
        · intro _; rfl
theorem GoodG.side {L : List Int} {n v d : Nat} (h : GoodG L n) (hv : v < n) (hd : d < 4) : (nxG L v d = -1 ∧ owG L v d = 0) ∨
    (0 ≤ nxG L v d ∧ nxG L v d < n ∧ nxG L v d ≠ v ∧ nxG L (nxG L v d).toNat (opp d) = v ∧ owG L (nxG L v d).toNat (opp d) = owG L v d ∧ -2 ≤ owG L v d) := chk1_zero.1 (h v d hv hd)

/-! Numbers set. -/
theorem getD_set (L : List Int) (i j : Nat) (x : Int) (h : i < L.length) : (L.set i x).getD j 0 = if j = i then x else L.getD j 0 := by
  rw [List.getD_eq_getElem?_getD, List.getD_eq_getElem?_getD, List.getElem?_set]
  by_cases e : i = j
  · subst e; simp [h]
  · rw [if_neg e, if_neg (fun e' => e e'.symm)]
/-- An edge laid on one cell's side. -/
def putG (L : List Int) (v d : Nat) (w o : Int) : List Int := (L.set (v * 8 + d) w).set (v * 8 + 4 + d) o
theorem put_len (L : List Int) (v d : Nat) (w o : Int) : (putG L v d w o).length = L.length := by simp [putG]
theorem nx_put {L : List Int} {n v d : Nat} (w o : Int) (hl : L.length = n * 8) (hv : v < n) (hd : d < 4) {a e : Nat} (he : e < 4) : nxG (putG L v d w o) a e = if a = v ∧ e = d then w else nxG L a e := by
  unfold nxG putG
  rw [getD_set _ _ _ _ (by rw [List.length_set]; omega), getD_set _ _ _ _ (by omega), if_neg (by omega)]
  by_cases h : a = v ∧ e = d
  · rw [if_pos h, if_pos (by omega)]
  · rw [if_neg h, if_neg (by omega)]
theorem ow_put {L : List Int} {n v d : Nat} (w o : Int) (hl : L.length = n * 8) (hv : v < n) (hd : d < 4) {a e : Nat} (he : e < 4) : owG (putG L v d w o) a e = if a = v ∧ e = d then o else owG L a e := by
  unfold owG putG
  rw [getD_set _ _ _ _ (by rw [List.length_set]; omega), getD_set _ _ _ _ (by omega)]
  by_cases h : a = v ∧ e = d
  · rw [if_pos h, if_pos (by omega)]
  · rw [if_neg h, if_neg (by omega), if_neg (by omega)]
/-- An edge laid from both ends. -/
def joinG (L : List Int) (v d w : Nat) (o : Int) : List Int := putG (putG L v d w o) w (opp d) v o
theorem join_len (L : List Int) (v d w : Nat) (o : Int) : (joinG L v d w o).length = L.length := by simp [joinG, put_len]
theorem nx_join {L : List Int} {n v d w : Nat} (o : Int) (hl : L.length = n * 8) (hv : v < n) (hw : w < n) (hd : d < 4) {a e : Nat} (he : e < 4) : nxG (joinG L v d w o) a e = if a = w ∧ e = opp d then (v : Int) else if a = v ∧ e = d then (w : Int) else nxG L a e := by
  unfold joinG
  rw [nx_put _ _ (by rw [put_len]; exact hl) hw (opp_lt d) he, nx_put _ _ hl hv hd he]
theorem ow_join {L : List Int} {n v d w : Nat} (o : Int) (hl : L.length = n * 8) (hv : v < n) (hw : w < n) (hd : d < 4) {a e : Nat} (he : e < 4) : owG (joinG L v d w o) a e = if a = w ∧ e = opp d then o else if a = v ∧ e = d then o else owG L a e := by
  unfold joinG
  rw [ow_put _ _ (by rw [put_len]; exact hl) hw (opp_lt d) he, ow_put _ _ hl hv hd he]
/-- Two sides that are free are joined: the cells may be still. -/
theorem join_good {L : List Int} {n v d w : Nat} {o : Int} (hl : L.length = n * 8) (hg : GoodG L n) (hv : v < n) (hw : w < n) (hne : v ≠ w) (hd : d < 4) (ho : -2 ≤ o) (h1 : nxG L v d = -1) (h2 : nxG L w (opp d) = -1) : GoodG (joinG L v d w o) n := by
  intro a e ha he
  rw [chk1_zero, nx_join o hl hv hw hd he, ow_join o hl hv hw hd he]
  by_cases c1 : a = w ∧ e = opp d
  · obtain ⟨rfl, rfl⟩ := c1
    right
    rw [if_pos ⟨rfl, rfl⟩, if_pos ⟨rfl, rfl⟩, Int.toNat_natCast, opp_opp hd, nx_join o hl hv hw hd hd, ow_join o hl hv hw hd hd]
    rw [if_neg (fun h => hne h.1), if_pos ⟨rfl, rfl⟩, if_neg (fun h => hne h.1), if_pos ⟨rfl, rfl⟩]
    exact ⟨by omega, by omega, by omega, rfl, rfl, ho⟩
  · rw [if_neg c1, if_neg c1]
    by_cases c2 : a = v ∧ e = d
    · obtain ⟨rfl, rfl⟩ := c2
      right
      rw [if_pos ⟨rfl, rfl⟩, if_pos ⟨rfl, rfl⟩, Int.toNat_natCast, nx_join o hl hv hw hd (opp_lt e), ow_join o hl hv hw hd (opp_lt e)]
      rw [if_pos ⟨rfl, rfl⟩, if_pos ⟨rfl, rfl⟩]
      exact ⟨by omega, by omega, by omega, rfl, rfl, ho⟩
    · rw [if_neg c2, if_neg c2]
      rcases hg.side ha he with h | ⟨g1, g2, g3, g4, g5, g6⟩
      · exact Or.inl h
      · right
        have hx : ∃ x : Nat, nxG L a e = (x : Int) ∧ x < n := ⟨(nxG L a e).toNat, by omega, by omega⟩
        obtain ⟨x, hx, hxn⟩ := hx
        rw [hx] at g1 g2 g3 g4 g5 ⊢
        rw [Int.toNat_natCast] at g4 g5 ⊢
        rw [nx_join o hl hv hw hd (opp_lt e), ow_join o hl hv hw hd (opp_lt e)]
        have n1 : ¬ (x = w ∧ opp e = opp d) := by
          rintro ⟨rfl, h⟩
          rw [h, h2] at g4
          omega
        have n2 : ¬ (x = v ∧ opp e = d) := by
          rintro ⟨rfl, h⟩
          rw [h, h1] at g4
          omega
        rw [if_neg n1, if_neg n1, if_neg n2, if_neg n2]
        exact ⟨g1, g2, g3, g4, g5, g6⟩

/-! More cells. -/
def freeC : List Int := [-1, -1, -1, -1, 0, 0, 0, 0]
def newG : Nat → List Int
  | 0 => []
  | n + 1 => newG n ++ freeC
theorem new_len : ∀ n, (newG n).length = n * 8
  | 0 => rfl
  | n + 1 => by rw [newG, List.length_append, new_len n]; simp [freeC]; omega
theorem getD_left {L M : List Int} {j : Nat} (h : j < L.length) : (L ++ M).getD j 0 = L.getD j 0 := by
  rw [List.getD_eq_getElem?_getD, List.getD_eq_getElem?_getD, List.getElem?_append_left h]
theorem getD_right {L M : List Int} {j : Nat} (h : L.length ≤ j) : (L ++ M).getD j 0 = M.getD (j - L.length) 0 := by
  rw [List.getD_eq_getElem?_getD, List.getD_eq_getElem?_getD, List.getElem?_append_right h]
theorem nx_old {L M : List Int} {n v d : Nat} (hl : L.length = n * 8) (hv : v < n) (hd : d < 4) : nxG (L ++ M) v d = nxG L v d := getD_left (by omega)
theorem ow_old {L M : List Int} {n v d : Nat} (hl : L.length = n * 8) (hv : v < n) (hd : d < 4) : owG (L ++ M) v d = owG L v d := getD_left (by omega)
theorem nx_free {L : List Int} {n d : Nat} (hl : L.length = n * 8) (hd : d < 4) : nxG (L ++ freeC) n d = -1 := by
  unfold nxG
  rw [getD_right (by omega), show n * 8 + d - L.length = d by omega]
  have hc : d = 0 ∨ d = 1 ∨ d = 2 ∨ d = 3 := by omega
  rcases hc with rfl | rfl | rfl | rfl <;> rfl
theorem ow_free {L : List Int} {n d : Nat} (hl : L.length = n * 8) (hd : d < 4) : owG (L ++ freeC) n d = 0 := by
  unfold owG
  rw [getD_right (by omega), show n * 8 + 4 + d - L.length = 4 + d by omega]
  have hc : d = 0 ∨ d = 1 ∨ d = 2 ∨ d = 3 := by omega
  rcases hc with rfl | rfl | rfl | rfl <;> rfl
/-- A cell more, without edges. -/
theorem add_good {L : List Int} {n : Nat} (hl : L.length = n * 8) (hg : GoodG L n) : GoodG (L ++ freeC) (n + 1) := by
  intro v d hv hd
  rw [chk1_zero]
  by_cases e : v = n
  · subst e
    exact Or.inl ⟨nx_free hl hd, ow_free hl hd⟩
  · have hv' : v < n := by omega
    rw [nx_old hl hv' hd, ow_old hl hv' hd]
    rcases hg.side hv' hd with h | ⟨g1, g2, g3, g4, g5, g6⟩
    · exact Or.inl h
    · refine Or.inr ⟨g1, by omega, g3, ?_, ?_, g6⟩
      · rw [nx_old hl (by omega) (opp_lt d)]; exact g4
      · rw [ow_old hl (by omega) (opp_lt d)]; exact g5
theorem new_good : ∀ n, GoodG (newG n) n
  | 0 => fun v _ hv => absurd hv (by omega)
  | n + 1 => by rw [newG]; exact add_good (new_len n) (new_good n)
theorem nx_new : ∀ {n v d : Nat}, v < n → d < 4 → nxG (newG n) v d = -1
  | 0, v, d, hv, _ => absurd hv (by omega)
  | n + 1, v, d, hv, hd => by
    rw [newG]
    by_cases e : v = n
    · subst e; exact nx_free (new_len v) hd
    · rw [nx_old (new_len n) (by omega) hd]; exact nx_new (by omega) hd
theorem ow_new : ∀ {n v d : Nat}, v < n → d < 4 → owG (newG n) v d = 0
  | 0, v, d, hv, _ => absurd hv (by omega)
  | n + 1, v, d, hv, hd => by
    rw [newG]
    by_cases e : v = n
    · subst e; exact ow_free (new_len v) hd
    · rw [ow_old (new_len n) (by omega) hd]; exact ow_new (by omega) hd

/-! An edge split by a cell. -/
/-- The cells with an edge from v in the direction d to w, o's, split by a cell more. -/
def splitG (L : List Int) (n v d w : Nat) (o : Int) : List Int := joinG (joinG (L ++ freeC) v d n o) n d w o
theorem split_len {L : List Int} {n : Nat} (hl : L.length = n * 8) (v d w : Nat) (o : Int) : (splitG L n v d w o).length = (n + 1) * 8 := by
  unfold splitG
  rw [join_len, join_len, List.length_append, hl]; simp [freeC]; omega
section
variable {L : List Int} {n v d w : Nat} {o : Int}
theorem more_len (hl : L.length = n * 8) : (L ++ freeC).length = (n + 1) * 8 := by rw [List.length_append, hl]; simp [freeC]; omega
theorem nx_split (hl : L.length = n * 8) (hv : v < n) (hw : w < n) (hd : d < 4) {a e : Nat} (ha : a < n) (he : e < 4) :
    nxG (splitG L n v d w o) a e = if a = w ∧ e = opp d then (n : Int) else if a = v ∧ e = d then (n : Int) else nxG L a e := by
  unfold splitG
  rw [nx_join o (by rw [join_len]; exact more_len hl) (by omega) (by omega) hd he, nx_join o (more_len hl) (by omega) (by omega) hd he, nx_old hl ha he]
  rw [if_neg (c := a = n ∧ e = opp d) (by omega), if_neg (c := a = n ∧ e = d) (by omega)]
theorem ow_split (hl : L.length = n * 8) (hv : v < n) (hw : w < n) (hd : d < 4) {a e : Nat} (ha : a < n) (he : e < 4) :
    owG (splitG L n v d w o) a e = if a = w ∧ e = opp d then o else if a = v ∧ e = d then o else owG L a e := by
  unfold splitG
  rw [ow_join o (by rw [join_len]; exact more_len hl) (by omega) (by omega) hd he, ow_join o (more_len hl) (by omega) (by omega) hd he, ow_old hl ha he]
  rw [if_neg (c := a = n ∧ e = opp d) (by omega), if_neg (c := a = n ∧ e = d) (by omega)]
theorem nx_split_new (hl : L.length = n * 8) (hv : v < n) (hw : w < n) (hd : d < 4) {e : Nat} (he : e < 4) :
    nxG (splitG L n v d w o) n e = if e = d then (w : Int) else if e = opp d then (v : Int) else -1 := by
  unfold splitG
  rw [nx_join o (by rw [join_len]; exact more_len hl) (by omega) (by omega) hd he, nx_join o (more_len hl) (by omega) (by omega) hd he, nx_free hl he]
  rw [if_neg (c := n = w ∧ e = opp d) (by omega), if_neg (c := n = v ∧ e = d) (by omega)]
  by_cases h1 : e = d
  · rw [if_pos ⟨rfl, h1⟩, if_pos h1]
  · rw [if_neg (fun h => h1 h.2), if_neg h1]
    by_cases h2 : e = opp d
    · rw [if_pos ⟨rfl, h2⟩, if_pos h2]
    · rw [if_neg (fun h => h2 h.2), if_neg h2]
theorem ow_split_new (hl : L.length = n * 8) (hv : v < n) (hw : w < n) (hd : d < 4) {e : Nat} (he : e < 4) :
    owG (splitG L n v d w o) n e = if e = d then o else if e = opp d then o else 0 := by
  unfold splitG
  rw [ow_join o (by rw [join_len]; exact more_len hl) (by omega) (by omega) hd he, ow_join o (more_len hl) (by omega) (by omega) hd he, ow_free hl he]
  rw [if_neg (c := n = w ∧ e = opp d) (by omega), if_neg (c := n = v ∧ e = d) (by omega)]
  by_cases h1 : e = d
  · rw [if_pos ⟨rfl, h1⟩, if_pos h1]
  · rw [if_neg (fun h => h1 h.2), if_neg h1]
    by_cases h2 : e = opp d
    · rw [if_pos ⟨rfl, h2⟩, if_pos h2]
    · rw [if_neg (fun h => h2 h.2), if_neg h2]
/-- Split, the cells may be still. -/
theorem split_good (hl : L.length = n * 8) (hg : GoodG L n) (hv : v < n) (hw : w < n) (hd : d < 4) (h1 : nxG L v d = w) (ho : owG L v d = o) : GoodG (splitG L n v d w o) (n + 1) := by
  have hs := hg.side hv hd
  rw [h1, ho] at hs
  have hs' : (w : Int) ≠ v ∧ nxG L w (opp d) = v ∧ owG L w (opp d) = o ∧ -2 ≤ o := by
    rcases hs with h | ⟨_, _, a, b, c, e⟩
    · omega
    · rw [Int.toNat_natCast] at b c; exact ⟨a, b, c, e⟩
  obtain ⟨hwv, hb, hc, ho2⟩ := hs'
  intro a e ha he
  rw [chk1_zero]
  by_cases en : a = n
  · subst en
    rw [nx_split_new hl hv hw hd he, ow_split_new hl hv hw hd he]
    by_cases c1 : e = d
    · subst c1
      right
      rw [if_pos rfl, if_pos rfl, Int.toNat_natCast, nx_split hl hv hw hd hw (opp_lt e), ow_split hl hv hw hd hw (opp_lt e), if_pos ⟨rfl, rfl⟩, if_pos ⟨rfl, rfl⟩]
      exact ⟨by omega, by omega, by omega, rfl, rfl, ho2⟩
    · rw [if_neg c1, if_neg c1]
      by_cases c2 : e = opp d
      · subst c2
        right
        rw [if_pos rfl, if_pos rfl, Int.toNat_natCast, opp_opp hd, nx_split hl hv hw hd hv hd, ow_split hl hv hw hd hv hd]
        rw [if_neg (by rintro ⟨h, _⟩; omega), if_pos ⟨rfl, rfl⟩, if_neg (by rintro ⟨h, _⟩; omega), if_pos ⟨rfl, rfl⟩]
        exact ⟨by omega, by omega, by omega, rfl, rfl, ho2⟩
      · rw [if_neg c2, if_neg c2]; exact Or.inl ⟨rfl, rfl⟩
  · have ha' : a < n := by omega
    rw [nx_split hl hv hw hd ha' he, ow_split hl hv hw hd ha' he]
    by_cases c1 : a = w ∧ e = opp d
    · obtain ⟨rfl, rfl⟩ := c1
      right
      rw [if_pos ⟨rfl, rfl⟩, if_pos ⟨rfl, rfl⟩, Int.toNat_natCast, opp_opp hd, nx_split_new hl hv hw hd hd, ow_split_new hl hv hw hd hd, if_pos rfl, if_pos rfl]
      exact ⟨by omega, by omega, by omega, rfl, rfl, ho2⟩
    · rw [if_neg c1, if_neg c1]
      by_cases c2 : a = v ∧ e = d
      · obtain ⟨rfl, rfl⟩ := c2
        right
        rw [if_pos ⟨rfl, rfl⟩, if_pos ⟨rfl, rfl⟩, Int.toNat_natCast, nx_split_new hl hv hw hd (opp_lt e), ow_split_new hl hv hw hd (opp_lt e), if_neg (opp_ne _), if_pos rfl, if_neg (opp_ne _), if_pos rfl]
        exact ⟨by omega, by omega, by omega, rfl, rfl, ho2⟩
      · rw [if_neg c2, if_neg c2]
        rcases hg.side ha' he with h | ⟨g1, g2, g3, g4, g5, g6⟩
        · exact Or.inl h
        · right
          obtain ⟨x, hx, hxn⟩ : ∃ x : Nat, nxG L a e = (x : Int) ∧ x < n := ⟨(nxG L a e).toNat, by omega, by omega⟩
          rw [hx] at g1 g2 g3 g4 g5 ⊢
          rw [Int.toNat_natCast] at g4 g5 ⊢
          rw [nx_split hl hv hw hd hxn (opp_lt e), ow_split hl hv hw hd hxn (opp_lt e)]
          have n1 : ¬ (x = w ∧ opp e = opp d) := by
            rintro ⟨rfl, h⟩
            rw [h, hb] at g4
            exact c2 ⟨by omega, opp_inj he hd h⟩
          have n2 : ¬ (x = v ∧ opp e = d) := by
            rintro ⟨rfl, h⟩
            rw [h, h1] at g4
            exact c1 ⟨by omega, by rw [← h, opp_opp he]⟩
          rw [if_neg n1, if_neg n1, if_neg n2, if_neg n2]
          exact ⟨g1, by omega, g3, g4, g5, g6⟩
end
/-- Lists of cells that have the same sides are the same. -/
theorem cells_ext {L M : List Int} {n : Nat} (hl : L.length = n * 8) (hm : M.length = n * 8) (h : ∀ v d, v < n → d < 4 → nxG L v d = nxG M v d ∧ owG L v d = owG M v d) : L = M := by
  apply List.ext_getElem (by omega)
  intro i h1 h2
  have e : ∀ (K : List Int) (hk : i < K.length), K.getD i 0 = K[i] := fun K hk => by simp [List.getD_eq_getElem?_getD, hk]
  rw [← e L h1, ← e M h2]
  by_cases c : i % 8 < 4
  · have := (h (i / 8) (i % 8) (by omega) c).1
    unfold nxG at this
    rw [show i / 8 * 8 + i % 8 = i by omega] at this
    exact this
  · have := (h (i / 8) (i % 8 - 4) (by omega) (by omega)).2
    unfold owG at this
    rw [show i / 8 * 8 + 4 + (i % 8 - 4) = i by omega] at this
    exact this
end Go.Proofs.Ytkgknbjcllcndaa.GrM
