/-
  What hangs together: ways from cell to cell, how far one is from another, parts: mathematics; no program stands here. Conditions: cells that may be.
-/
import Derived.Test.YtieffijdhcbcfaaFcM
namespace Go.Proofs.Ytieffijdhcbcfaa.JoM
open Go.Proofs.Ytieffijdhcbcfaa.GrM

/-- A way of so many steps. -/
inductive Wy (L : List Int) : Nat → Nat → Nat → Prop
  | here (v : Nat) : Wy L 0 v v
  | step {k v u w d : Nat} : Wy L k v u → d < 4 → nxG L u d = (w : Int) → Wy L (k + 1) v w
/-- They hang together. -/
def Con (L : List Int) (v w : Nat) : Prop := ∃ k, Wy L k v w
section
variable {L : List Int} {n : Nat}
theorem next_lt (hg : GoodG L n) {v d w : Nat} (hv : v < n) (hd : d < 4) (h : nxG L v d = (w : Int)) : w < n ∧ nxG L w (opp d) = (v : Int) := by
  rcases hg.side hv hd with e | ⟨_, a, _, b, _⟩
  · omega
  · rw [h, Int.toNat_natCast] at b
    exact ⟨by omega, b⟩
theorem Wy.lt (hg : GoodG L n) {k v w : Nat} (h : Wy L k v w) (hv : v < n) : w < n := by
  induction h with
  | here => exact hv
  | step _ hd hx ih => exact (next_lt hg (ih hv) hd hx).1
theorem Wy.trans {j k u v w : Nat} (h : Wy L j u v) (g : Wy L k v w) : Wy L (j + k) u w := by
  induction g with
  | here => exact h
  | step _ hd hx ih => exact (ih h).step hd hx
theorem Wy.back (hg : GoodG L n) {k v w : Nat} (h : Wy L k v w) (hv : v < n) : Wy L k w v := by
  induction h with
  | here => exact Wy.here _
  | @step k u0 u w d h1 hd hx ih =>
    have hu := h1.lt hg hv
    have := ((Wy.here w).step (opp_lt d) (next_lt hg hu hd hx).2).trans (ih hv)
    rwa [Nat.add_comm] at this
theorem Wy.none {v w : Nat} (h : Wy L 0 v w) : v = w := by
  cases h; rfl
theorem Wy.last {k v w : Nat} (h : Wy L (k + 1) v w) : ∃ u d, Wy L k v u ∧ d < 4 ∧ nxG L u d = (w : Int) := by
  cases h with
  | step a b c => exact ⟨_, _, a, b, c⟩
theorem Con.refl (v : Nat) : Con L v v := ⟨0, Wy.here v⟩
theorem Con.symm (hg : GoodG L n) {v w : Nat} (h : Con L v w) (hv : v < n) : Con L w v := let ⟨k, a⟩ := h; ⟨k, a.back hg hv⟩
theorem Con.trans {u v w : Nat} (h : Con L u v) (g : Con L v w) : Con L u w := let ⟨j, a⟩ := h; let ⟨k, b⟩ := g; ⟨j + k, a.trans b⟩
theorem Con.lt (hg : GoodG L n) {v w : Nat} (h : Con L v w) (hv : v < n) : w < n := let ⟨_, a⟩ := h; a.lt hg hv
theorem Con.one {v w d : Nat} (hd : d < 4) (h : nxG L v d = (w : Int)) : Con L v w := ⟨1, (Wy.here v).step hd h⟩

/-! How far. -/
theorem has_least {P : Nat → Prop} (h : ∃ k, P k) : ∃ m, P m ∧ ∀ k, P k → m ≤ k := by
  obtain ⟨k, hk⟩ := h
  induction k using Nat.strongRecOn with
  | _ k ih =>
    by_cases c : ∃ j, j < k ∧ P j
    · obtain ⟨j, h1, h2⟩ := c; exact ih j h1 h2
    · exact ⟨k, hk, fun j hj => Nat.le_of_not_lt fun h => c ⟨j, h, hj⟩⟩
/-- How far a cell is from another one: -1, if it isn't to be come to. -/
def Dis (L : List Int) (v w : Nat) (x : Int) : Prop := (x = -1 ∧ ¬ Con L v w) ∨ ∃ m : Nat, x = m ∧ Wy L m v w ∧ ∀ k, Wy L k v w → m ≤ k
theorem Dis.uniq {v w : Nat} {x y : Int} (h : Dis L v w x) (g : Dis L v w y) : x = y := by
  rcases h with ⟨rfl, a⟩ | ⟨m, rfl, a, b⟩ <;> rcases g with ⟨rfl, c⟩ | ⟨m2, rfl, c, d⟩
  · rfl
  · exact absurd ⟨_, c⟩ a
  · exact absurd ⟨_, a⟩ c
  · have := b _ c; have := d _ a; omega
theorem Dis.all (L : List Int) (v w : Nat) : ∃ x, Dis L v w x := by
  by_cases c : Con L v w
  · obtain ⟨m, a, b⟩ := has_least c
    exact ⟨m, Or.inr ⟨m, rfl, a, b⟩⟩
  · exact ⟨-1, Or.inl ⟨rfl, c⟩⟩
noncomputable def farI (L : List Int) (v w : Nat) : Int := Classical.choose (Dis.all L v w)
theorem far_dis (L : List Int) (v w : Nat) : Dis L v w (farI L v w) := Classical.choose_spec (Dis.all L v w)
theorem far_is {v w : Nat} {x : Int} (h : Dis L v w x) : farI L v w = x := (far_dis L v w).uniq h
theorem Dis.back (hg : GoodG L n) {v w : Nat} (hv : v < n) (hw : w < n) {x : Int} (h : Dis L v w x) : Dis L w v x := by
  rcases h with ⟨rfl, a⟩ | ⟨m, rfl, a, b⟩
  · exact Or.inl ⟨rfl, fun c => a (c.symm hg hw)⟩
  · exact Or.inr ⟨m, rfl, a.back hg hv, fun k hk => b k (hk.back hg hw)⟩
theorem far_back (hg : GoodG L n) {v w : Nat} (hv : v < n) (hw : w < n) : farI L v w = farI L w v := far_is ((far_dis L w v).back hg hw hv)
theorem far_self (v : Nat) : farI L v v = 0 := far_is (Or.inr ⟨0, rfl, Wy.here v, fun _ _ => Nat.zero_le _⟩)
theorem far_neg {v w : Nat} : farI L v w < 0 ↔ ¬ Con L v w := by
  rcases far_dis L v w with ⟨e, a⟩ | ⟨m, e, a, b⟩
  · rw [e]; exact ⟨fun _ => a, fun _ => by decide⟩
  · rw [e]; exact ⟨fun h => by omega, fun h => absurd ⟨_, a⟩ h⟩
theorem far_none {v w : Nat} : farI L v w = -1 ↔ ¬ Con L v w := by
  rcases far_dis L v w with ⟨e, a⟩ | ⟨m, e, a, b⟩
  · exact ⟨fun _ => a, fun _ => e⟩
  · rw [e]; exact ⟨fun h => by omega, fun h => absurd ⟨_, a⟩ h⟩
theorem far_nat {v w : Nat} (h : Con L v w) : ∃ m : Nat, farI L v w = m ∧ Wy L m v w ∧ ∀ k, Wy L k v w → m ≤ k := by
  rcases far_dis L v w with ⟨e, a⟩ | h2
  · exact absurd h a
  · exact h2
/-- One that is a step nearer. -/
theorem near_is (hg : GoodG L n) {s v k : Nat} (hs : s < n) (h : farI L s v = ((k + 1 : Nat) : Int)) : ∃ d u : Nat, d < 4 ∧ u < n ∧ nxG L v d = (u : Int) ∧ farI L s u = k := by
  have hc : Con L s v := by
    apply Classical.byContradiction
    intro c; rw [far_none.2 c] at h; omega
  obtain ⟨m, e, a, b⟩ := far_nat hc
  obtain rfl : m = k + 1 := by omega
  obtain ⟨u, d, g1, g2, g3⟩ := a.last
  have hu := g1.lt hg hs
  refine ⟨opp d, u, opp_lt d, hu, (next_lt hg hu g2 g3).2, far_is (Or.inr ⟨k, rfl, g1, fun j hj => ?_⟩)⟩
  have := b _ (hj.step g2 g3)
  omega
/-- None is nearer by more than a step. -/
theorem near_one (hg : GoodG L n) {s v d u k : Nat} (hv : v < n) (h : farI L s v = ((k + 1 : Nat) : Int)) (hd : d < 4) (hx : nxG L v d = (u : Int)) (hl : farI L s u < farI L s v) : farI L s u = k := by
  have hc : Con L s v := by
    apply Classical.byContradiction
    intro c; rw [far_none.2 c] at h; omega
  obtain ⟨m, e, _, b⟩ := far_nat hc
  obtain ⟨m2, e2, a2, _⟩ := far_nat (hc.trans (Con.one hd hx))
  have := b _ (a2.step (opp_lt d) (next_lt hg hv hd hx).2)
  omega
theorem near_con {s v d u : Nat} (hc : Con L s v) (hd : d < 4) (hx : nxG L v d = (u : Int)) : Con L s u := hc.trans (Con.one hd hx)
/-- Between cells there are no more steps than cells. -/
theorem far_chain (hg : GoodG L n) {s : Nat} (hs : s < n) : ∀ {m v : Nat}, v < n → farI L s v = (m : Int) → ∀ j, j ≤ m → ∃ u, u < n ∧ farI L s u = (j : Int)
  | 0, v, hv, h, j, hj => ⟨v, hv, by obtain rfl : j = 0 := by omega
                                     exact h⟩
  | m + 1, v, hv, h, j, hj => by
    by_cases e : j = m + 1
    · subst e; exact ⟨v, hv, h⟩
    · obtain ⟨_, u, _, hu, _, hf⟩ := near_is hg hs h
      exact far_chain hg hs hu hf j (by omega)
theorem far_lt (hg : GoodG L n) {s v : Nat} (hs : s < n) (hv : v < n) : farI L s v < n := by
  by_cases c : Con L s v
  · obtain ⟨m, e, _, _⟩ := far_nat c
    have ch := far_chain hg hs hv e
    have : ∀ j : Nat, ∃ u, j ≤ m → u < n ∧ farI L s u = (j : Int) := fun j => by
      by_cases hj : j ≤ m
      · obtain ⟨u, hu⟩ := ch j hj; exact ⟨u, fun _ => hu⟩
      · exact ⟨0, fun h => absurd h hj⟩
    obtain ⟨f, hf⟩ := Classical.axiomOfChoice this
    have hl := FcM.pigeonK (n := n) (P := (List.range (m + 1)).map f) (by
      rw [List.nodup_iff_pairwise_ne, List.pairwise_map]
      refine (List.nodup_iff_pairwise_ne.1 List.nodup_range).imp_of_mem ?_
      intro a b ha hb hne e2
      rw [List.mem_range] at ha hb
      have h1 := (hf a (by omega)).2
      have h2 := (hf b (by omega)).2
      rw [e2] at h1
      omega) (fun v hv => by
      obtain ⟨j, hj, rfl⟩ := List.mem_map.1 hv
      rw [List.mem_range] at hj
      exact (hf j (by omega)).1)
    rw [List.length_map, List.length_range] at hl
    omega
  · have := far_none.2 c
    omega

/-! The code's flood. -/
def updF (F : Nat → Int) (w : Nat) (x : Int) : Nat → Int := fun u => if u = w then x else F u
theorem upd_at (F : Nat → Int) (w : Nat) (x : Int) : updF F w x w = x := if_pos rfl
theorem upd_ne {F : Nat → Int} {w u : Nat} (x : Int) (h : u ≠ w) : updF F w x u = F u := if_neg h
structure Fl (L : List Int) (n s : Nat) (F0 : Nat → Int) (M : List Nat) (F : Nat → Int) (i d : Nat) : Prop where
  nd : M.Nodup
  lt : ∀ u ∈ M, u < n
  st : s ∈ M ∧ F s = 0
  far : ∀ u ∈ M, ∃ k : Nat, F u = k ∧ k < M.length ∧ Wy L k s u
  out : ∀ u, u ∉ M → F u = F0 u
  srt : ∀ j k, j ≤ k → k < M.length → F (M.getD j 0) ≤ F (M.getD k 0)
  top : ∀ u ∈ M, i < M.length → F u ≤ F (M.getD i 0) + 1
  done : ∀ j, j < i → ∀ e, e < 4 → ∀ w : Nat, nxG L (M.getD j 0) e = (w : Int) → w ∈ M ∧ F w ≤ F (M.getD j 0) + 1
  part : i < M.length → ∀ e, e < d → ∀ w : Nat, nxG L (M.getD i 0) e = (w : Int) → w ∈ M ∧ F w ≤ F (M.getD i 0) + 1
  hi : i ≤ M.length
theorem getD_mem {M : List Nat} {i : Nat} (h : i < M.length) : M.getD i 0 ∈ M := by
  rw [List.getD_eq_getElem?_getD, List.getElem?_eq_getElem h]
  exact List.getElem_mem h
theorem getD_app {M : List Nat} {w i : Nat} (h : i < M.length) : (M ++ [w]).getD i 0 = M.getD i 0 := by
  rw [List.getD_eq_getElem?_getD, List.getElem?_append_left h, ← List.getD_eq_getElem?_getD]
theorem getD_end (M : List Nat) (w : Nat) : (M ++ [w]).getD M.length 0 = w := by
  rw [List.getD_eq_getElem?_getD, List.getElem?_append_right (Nat.le_refl _)]
  simp
section
variable {s : Nat} {F0 F : Nat → Int} {M : List Nat} {i d : Nat}
theorem Fl.start (L : List Int) {n s : Nat} (hs : s < n) (F0 : Nat → Int) : Fl L n s F0 [s] (updF F0 s 0) 0 0 where
  nd := by simp
  lt := fun u hu => by obtain rfl := List.mem_singleton.1 hu; exact hs
  st := ⟨by simp, upd_at _ _ _⟩
  far := fun u hu => by obtain rfl := List.mem_singleton.1 hu; exact ⟨0, upd_at _ _ _, by simp, Wy.here _⟩
  out := fun u hu => upd_ne _ (by simpa using hu)
  srt := fun j k hj hk => by
    obtain rfl : k = 0 := by simpa using hk
    obtain rfl : j = 0 := by omega
    exact Int.le_refl _
  top := fun u hu _ => by
    obtain rfl := List.mem_singleton.1 hu
    show updF F0 u 0 u ≤ updF F0 u 0 u + 1
    omega
  done := fun j hj => absurd hj (by omega)
  part := fun _ e he => absurd he (by omega)
  hi := Nat.zero_le _
theorem Fl.len (h : Fl L n s F0 M F i d) : M.length ≤ n := FcM.pigeonK h.nd h.lt
theorem Fl.con (h : Fl L n s F0 M F i d) {u : Nat} (hu : u ∈ M) : Con L s u := let ⟨k, _, _, a⟩ := h.far u hu; ⟨k, a⟩
/-- Nothing to be met there. -/
theorem Fl.skip (h : Fl L n s F0 M F i d) (hi : i < M.length) (hc : nxG L (M.getD i 0) d = -1 ∨ ∃ w : Nat, nxG L (M.getD i 0) d = (w : Int) ∧ w ∈ M) : Fl L n s F0 M F i (d + 1) := by
  refine ⟨h.nd, h.lt, h.st, h.far, h.out, h.srt, h.top, h.done, fun hi2 e he w hx => ?_, h.hi⟩
  by_cases c : e = d
  · subst c
    rcases hc with hc | ⟨w2, hc, hm⟩
    · omega
    · obtain rfl : w2 = w := by omega
      exact ⟨hm, h.top _ hm hi⟩
  · exact h.part hi2 e (by omega) w hx
/-- One more is met. -/
theorem Fl.push (h : Fl L n s F0 M F i d) (hg : GoodG L n) (hi : i < M.length) (hd : d < 4) {w : Nat} (hx : nxG L (M.getD i 0) d = (w : Int)) (hw : w ∉ M) :
    Fl L n s F0 (M ++ [w]) (updF F w (F (M.getD i 0) + 1)) i (d + 1) := by
  have hm := getD_mem hi
  have keep : ∀ u ∈ M, ∀ x, updF F w x u = F u := fun u hu x => upd_ne x (fun e => hw (e ▸ hu))
  obtain ⟨k, e1, e2, e3⟩ := h.far _ hm
  refine ⟨?_, fun u hu => ?_, ⟨List.mem_append_left _ h.st.1, by rw [keep _ h.st.1]; exact h.st.2⟩, fun u hu => ?_, fun u hu => ?_, fun j k hj hk => ?_, fun u hu _ => ?_, fun j hj e he u hu => ?_, fun _ e he u hu => ?_, ?_⟩
  · rw [List.nodup_append]
    refine ⟨h.nd, by simp, fun a ha b hb e => ?_⟩
    obtain rfl := List.mem_singleton.1 hb
    exact hw (e ▸ ha)
  · rcases List.mem_append.1 hu with hu | hu
    · exact h.lt u hu
    · obtain rfl := List.mem_singleton.1 hu
      exact (next_lt hg (h.lt _ hm) hd hx).1
  · rcases List.mem_append.1 hu with hu | hu
    · obtain ⟨q, a, b, c⟩ := h.far u hu
      exact ⟨q, by rw [keep u hu]; exact a, by simp; omega, c⟩
    · obtain rfl := List.mem_singleton.1 hu
      exact ⟨k + 1, by rw [upd_at, e1]; omega, by simp; omega, e3.step hd hx⟩
  · rw [List.mem_append, List.mem_singleton] at hu
    rw [upd_ne _ (fun e => hu (Or.inr e))]
    exact h.out u (fun e => hu (Or.inl e))
  · rw [List.length_append, List.length_singleton] at hk
    by_cases c : k = M.length
    · subst c
      rw [getD_end, upd_at]
      by_cases c2 : j = M.length
      · subst c2; rw [getD_end, upd_at]; exact Int.le_refl _
      · rw [getD_app (by omega), keep _ (getD_mem (by omega))]
        exact h.top _ (getD_mem (by omega)) hi
    · rw [getD_app (by omega), getD_app (by omega), keep _ (getD_mem (by omega)), keep _ (getD_mem (by omega))]
      exact h.srt j k hj (by omega)
  · rw [getD_app hi, keep _ hm]
    rcases List.mem_append.1 hu with hu | hu
    · rw [keep u hu]; exact h.top u hu hi
    · obtain rfl := List.mem_singleton.1 hu
      rw [upd_at]; exact Int.le_refl _
  · have hjm : j < M.length := by have := h.hi; omega
    rw [getD_app hjm] at hu ⊢
    obtain ⟨a, b⟩ := h.done j hj e he u hu
    exact ⟨List.mem_append_left _ a, by rw [keep _ a, keep _ (getD_mem hjm)]; exact b⟩
  · rw [getD_app hi] at hu ⊢
    by_cases c : e = d
    · subst c
      obtain rfl : w = u := by omega
      exact ⟨by simp, by rw [upd_at, keep _ hm]; exact Int.le_refl _⟩
    · obtain ⟨a, b⟩ := h.part hi e (by omega) u hu
      exact ⟨List.mem_append_left _ a, by rw [keep _ a, keep _ hm]; exact b⟩
  · rw [List.length_append]; have := h.hi; omega
theorem Fl.next (h : Fl L n s F0 M F i 4) (hi : i < M.length) : Fl L n s F0 M F (i + 1) 0 := by
  refine ⟨h.nd, h.lt, h.st, h.far, h.out, h.srt, fun u hu hi2 => ?_, fun j hj e he w hx => ?_, fun _ e he => absurd he (by omega), hi⟩
  · have h1 := h.top u hu hi
    have h2 := h.srt i (i + 1) (by omega) hi2
    omega
  · by_cases c : j = i
    · subst c; exact h.part hi e he w hx
    · exact h.done j (by omega) e he w hx
/-- What was met is all that hangs together with it; how far each is. -/
theorem Fl.end_ (h : Fl L n s F0 M F i d) (hi : i = M.length) : (∀ u, u ∈ M ↔ Con L s u) ∧ ∀ u ∈ M, F u = farI L s u := by
  have key : ∀ {k u : Nat}, Wy L k s u → u ∈ M ∧ F u ≤ k := by
    intro k u hw
    have : ∀ {k v u : Nat}, Wy L k v u → v = s → u ∈ M ∧ F u ≤ k := by
      intro k v u hw
      induction hw with
      | here v => intro e; subst e; exact ⟨h.st.1, by rw [h.st.2]; exact Int.le_refl _⟩
      | @step k v u w d h1 hd hx ih =>
        intro e
        obtain ⟨a, b⟩ := ih e
        obtain ⟨j, hj, hje⟩ := List.getElem_of_mem a
        have hj2 : M.getD j 0 = u := by rw [List.getD_eq_getElem?_getD, List.getElem?_eq_getElem hj, hje]; rfl
        rw [← hj2] at hx b
        obtain ⟨c, e2⟩ := h.done j (by omega) d hd w hx
        exact ⟨c, by omega⟩
    exact this hw rfl
  refine ⟨fun u => ⟨fun hu => h.con hu, fun ⟨k, hk⟩ => (key hk).1⟩, fun u hu => ?_⟩
  obtain ⟨k, e, _, a⟩ := h.far u hu
  rw [e]
  refine (far_is (Or.inr ⟨k, rfl, a, fun j hj => ?_⟩)).symm
  have := (key hj).2
  omega
/-- Whether it was met. -/
theorem Fl.met (h : Fl L n s F0 M F i d) (h0 : ∀ u, Con L s u → F0 u = -1) {u : Nat} (hc : Con L s u) : F u = -1 ↔ u ∉ M := by
  constructor
  · intro e hm
    obtain ⟨k, a, _, _⟩ := h.far u hm
    omega
  · intro hm
    rw [h.out u hm]; exact h0 u hc
end
end
end Go.Proofs.Ytieffijdhcbcfaa.JoM
