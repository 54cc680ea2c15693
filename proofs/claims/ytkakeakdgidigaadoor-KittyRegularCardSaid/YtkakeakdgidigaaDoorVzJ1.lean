/-
  What hangs together: ways from cell to cell, how far one is from another, parts: mathematics; no program stands here. Conditions: cells that may be.
  Parts, in order; paths, as directions; cells turned, and an edge split; the reference's rounds: mathematics; no program stands here. Conditions: cells that may be.
-/
import Derived.Test.YtkakeakdgidigaaDoorVzF1
namespace Go.Proofs.YtkakeakdgidigaaDoor.JoM
open Go.Proofs.YtkakeakdgidigaaDoor.GrM

/-- A way of so many steps. -/
inductive Wy (L : List Int) : Nat → Nat → Nat → Prop
  | here (v : Nat) : Wy L 0 v v
  | step {k v u w d : Nat} : Wy L k v u → d < 4 → nxG L u d = (w : Int) → Wy L (k + 1) v w
/-- They hang together. -/
def Con (L : List Int) (v w : Nat) : Prop := ∃ k, Wy L k v w
section
variable {L : List Int} {n : Nat}
theorem next_lt (hg : GoodG L n) {v d w : Nat} (hv : v < n) (hd : d < 4) (h : nxG L v d = (w : Int)) : w < n ∧ nxG L w (opp d) = (v : Int) := by
  rcases hg.side hv hd with e | ⟨_, a, _, b, _⟩
  · omega
  · rw [h, Int.toNat_natCast] at b
    exact ⟨by omega, b⟩
theorem Wy.lt (hg : GoodG L n) {k v w : Nat} (h : Wy L k v w) (hv : v < n) : w < n := by
  induction h with
  | here => exact hv
  | step _ hd hx ih => exact (next_lt hg (ih hv) hd hx).1
theorem Wy.trans {j k u v w : Nat} (h : Wy L j u v) (g : Wy L k v w) : Wy L (j + k) u w := by
  induction g with
  | here => exact h
  | step _ hd hx ih => exact (ih h).step hd hx
theorem Wy.back (hg : GoodG L n) {k v w : Nat} (h : Wy L k v w) (hv : v < n) : Wy L k w v := by
  induction h with
  | here => exact Wy.here _
  | @step k u0 u w d h1 hd hx ih =>
    have hu := h1.lt hg hv
    have := ((Wy.here w).step (opp_lt d) (next_lt hg hu hd hx).2).trans (ih hv)
    rwa [Nat.add_comm] at this
theorem Wy.none {v w : Nat} (h : Wy L 0 v w) : v = w := by
  cases h; rfl
theorem Wy.last {k v w : Nat} (h : Wy L (k + 1) v w) : ∃ u d, Wy L k v u ∧ d < 4 ∧ nxG L u d = (w : Int) := by
  cases h with
  | step a b c => exact ⟨_, _, a, b, c⟩
theorem Con.refl (v : Nat) : Con L v v := ⟨0, Wy.here v⟩
theorem Con.symm (hg : GoodG L n) {v w : Nat} (h : Con L v w) (hv : v < n) : Con L w v := let ⟨k, a⟩ := h; ⟨k, a.back hg hv⟩
theorem Con.trans {u v w : Nat} (h : Con L u v) (g : Con L v w) : Con L u w := let ⟨j, a⟩ := h; let ⟨k, b⟩ := g; ⟨j + k, a.trans b⟩
theorem Con.lt (hg : GoodG L n) {v w : Nat} (h : Con L v w) (hv : v < n) : w < n := let ⟨_, a⟩ := h; a.lt hg hv
theorem Con.one {v w d : Nat} (hd : d < 4) (h : nxG L v d = (w : Int)) : Con L v w := ⟨1, (Wy.here v).step hd h⟩

/-! How far. -/
theorem has_least {P : Nat → Prop} (h : ∃ k, P k) : ∃ m, P m ∧ ∀ k, P k → m ≤ k := by
  obtain ⟨k, hk⟩ := h
  induction k using Nat.strongRecOn with
  | _ k ih =>
    by_cases c : ∃ j, j < k ∧ P j
    · obtain ⟨j, h1, h2⟩ := c; exact ih j h1 h2
    · exact ⟨k, hk, fun j hj => Nat.le_of_not_lt fun h => c ⟨j, h, hj⟩⟩
/-- How far a cell is from another one: -1, if it isn't to be come to. -/
def Dis (L : List Int) (v w : Nat) (x : Int) : Prop := (x = -1 ∧ ¬ Con L v w) ∨ ∃ m : Nat, x = m ∧ Wy L m v w ∧ ∀ k, Wy L k v w → m ≤ k
theorem Dis.uniq {v w : Nat} {x y : Int} (h : Dis L v w x) (g : Dis L v w y) : x = y := by
  rcases h with ⟨rfl, a⟩ | ⟨m, rfl, a, b⟩ <;> rcases g with ⟨rfl, c⟩ | ⟨m2, rfl, c, d⟩
  · rfl
  · exact absurd ⟨_, c⟩ a
  · exact absurd ⟨_, a⟩ c
  · have := b _ c; have := d _ a; omega
theorem Dis.all (L : List Int) (v w : Nat) : ∃ x, Dis L v w x := by
  by_cases c : Con L v w
  · obtain ⟨m, a, b⟩ := has_least c
    exact ⟨m, Or.inr ⟨m, rfl, a, b⟩⟩
  · exact ⟨-1, Or.inl ⟨rfl, c⟩⟩
noncomputable def farI (L : List Int) (v w : Nat) : Int := Classical.choose (Dis.all L v w)
theorem far_dis (L : List Int) (v w : Nat) : Dis L v w (farI L v w) := Classical.choose_spec (Dis.all L v w)
theorem far_is {v w : Nat} {x : Int} (h : Dis L v w x) : farI L v w = x := (far_dis L v w).uniq h
theorem Dis.back (hg : GoodG L n) {v w : Nat} (hv : v < n) (hw : w < n) {x : Int} (h : Dis L v w x) : Dis L w v x := by
  rcases h with ⟨rfl, a⟩ | ⟨m, rfl, a, b⟩
  · exact Or.inl ⟨rfl, fun c => a (c.symm hg hw)⟩
  · exact Or.inr ⟨m, rfl, a.back hg hv, fun k hk => b k (hk.back hg hw)⟩
theorem far_back (hg : GoodG L n) {v w : Nat} (hv : v < n) (hw : w < n) : farI L v w = farI L w v := far_is ((far_dis L w v).back hg hw hv)
theorem far_self (v : Nat) : farI L v v = 0 := far_is (Or.inr ⟨0, rfl, Wy.here v, fun _ _ => Nat.zero_le _⟩)
theorem far_neg {v w : Nat} : farI L v w < 0 ↔ ¬ Con L v w := by
  rcases far_dis L v w with ⟨e, a⟩ | ⟨m, e, a, b⟩
  · rw [e]; exact ⟨fun _ => a, fun _ => by decide⟩
  · rw [e]; exact ⟨fun h => by omega, fun h => absurd ⟨_, a⟩ h⟩
theorem far_none {v w : Nat} : farI L v w = -1 ↔ ¬ Con L v w := by
  rcases far_dis L v w with ⟨e, a⟩ | ⟨m, e, a, b⟩
  · exact ⟨fun _ => a, fun _ => e⟩
  · rw [e]; exact ⟨fun h => by omega, fun h => absurd ⟨_, a⟩ h⟩
theorem far_nat {v w : Nat} (h : Con L v w) : ∃ m : Nat, farI L v w = m ∧ Wy L m v w ∧ ∀ k, Wy L k v w → m ≤ k := by
  rcases far_dis L v w with ⟨e, a⟩ | h2
  · exact absurd h a
  · exact h2
/-- One that is a step nearer. -/
theorem near_is (hg : GoodG L n) {s v k : Nat} (hs : s < n) (h : farI L s v = ((k + 1 : Nat) : Int)) : ∃ d u : Nat, d < 4 ∧ u < n ∧ nxG L v d = (u : Int) ∧ farI L s u = k := by
  have hc : Con L s v := by
    apply Classical.byContradiction
    intro c; rw [far_none.2 c] at h; omega
  obtain ⟨m, e, a, b⟩ := far_nat hc
  obtain rfl : m = k + 1 := by omega
  obtain ⟨u, d, g1, g2, g3⟩ := a.last
  have hu := g1.lt hg hs
  refine ⟨opp d, u, opp_lt d, hu, (next_lt hg hu g2 g3).2, far_is (Or.inr ⟨k, rfl, g1, fun j hj => ?_⟩)⟩
  have := b _ (hj.step g2 g3)
  omega
/-- None is nearer by more than a step. -/
theorem near_one (hg : GoodG L n) {s v d u k : Nat} (hv : v < n) (h : farI L s v = ((k + 1 : Nat) : Int)) (hd : d < 4) (hx : nxG L v d = (u : Int)) (hl : farI L s u < farI L s v) : farI L s u = k := by
  have hc : Con L s v := by
    apply Classical.byContradiction
    intro c; rw [far_none.2 c] at h; omega
  obtain ⟨m, e, _, b⟩ := far_nat hc
  obtain ⟨m2, e2, a2, _⟩ := far_nat (hc.trans (Con.one hd hx))
  have := b _ (a2.step (opp_lt d) (next_lt hg hv hd hx).2)
  omega
theorem near_con {s v d u : Nat} (hc : Con L s v) (hd : d < 4) (hx : nxG L v d = (u : Int)) : Con L s u := hc.trans (Con.one hd hx)
/-- Between cells there are no more steps than cells. -/
theorem far_chain (hg : GoodG L n) {s : Nat} (hs : s < n) : ∀ {m v : Nat}, v < n → farI L s v = (m : Int) → ∀ j, j ≤ m → ∃ u, u < n ∧ farI L s u = (j : Int)
  | 0, v, hv, h, j, hj => ⟨v, hv, by obtain rfl : j = 0 := by omega
                                     exact h⟩
  | m + 1, v, hv, h, j, hj => by
    by_cases e : j = m + 1
    · subst e; exact ⟨v, hv, h⟩
    · obtain ⟨_, u, _, hu, _, hf⟩ := near_is hg hs h
      exact far_chain hg hs hu hf j (by omega)
theorem far_lt (hg : GoodG L n) {s v : Nat} (hs : s < n) (hv : v < n) : farI L s v < n := by
  by_cases c : Con L s v
  · obtain ⟨m, e, _, _⟩ := far_nat c
    have ch := far_chain hg hs hv e
    have : ∀ j : Nat, ∃ u, j ≤ m → u < n ∧ farI L s u = (j : Int) := fun j => by
      by_cases hj : j ≤ m
      · obtain ⟨u, hu⟩ := ch j hj; exact ⟨u, fun _ => hu⟩
      · exact ⟨0, fun h => absurd h hj⟩
    obtain ⟨f, hf⟩ := Classical.axiomOfChoice this
    have hl := FcM.pigeonK (n := n) (P := (List.range (m + 1)).map f) (by
      rw [List.nodup_iff_pairwise_ne, List.pairwise_map]
      refine (List.nodup_iff_pairwise_ne.1 List.nodup_range).imp_of_mem ?_
      intro a b ha hb hne e2
      rw [List.mem_range] at ha hb
      have h1 := (hf a (by omega)).2
      have h2 := (hf b (by omega)).2
      rw [e2] at h1
      omega) (fun v hv => by
      obtain ⟨j, hj, rfl⟩ := List.mem_map.1 hv
      rw [List.mem_range] at hj
      exact (hf j (by omega)).1)
    rw [List.length_map, List.length_range] at hl
    omega
  · have := far_none.2 c
    omega

/-! The code's flood. -/
def updF (F : Nat → Int) (w : Nat) (x : Int) : Nat → Int := fun u => if u = w then x else F u
theorem upd_at (F : Nat → Int) (w : Nat) (x : Int) : updF F w x w = x := if_pos rfl
theorem upd_ne {F : Nat → Int} {w u : Nat} (x : Int) (h : u ≠ w) : updF F w x u = F u := if_neg h
structure Fl (L : List Int) (n s : Nat) (F0 : Nat → Int) (M : List Nat) (F : Nat → Int) (i d : Nat) : Prop where
  nd : M.Nodup
  lt : ∀ u ∈ M, u < n
  st : s ∈ M ∧ F s = 0
  far : ∀ u ∈ M, ∃ k : Nat, F u = k ∧ k < M.length ∧ Wy L k s u
  out : ∀ u, u ∉ M → F u = F0 u
  srt : ∀ j k, j ≤ k → k < M.length → F (M.getD j 0) ≤ F (M.getD k 0)
  top : ∀ u ∈ M, i < M.length → F u ≤ F (M.getD i 0) + 1
  done : ∀ j, j < i → ∀ e, e < 4 → ∀ w : Nat, nxG L (M.getD j 0) e = (w : Int) → w ∈ M ∧ F w ≤ F (M.getD j 0) + 1
  part : i < M.length → ∀ e, e < d → ∀ w : Nat, nxG L (M.getD i 0) e = (w : Int) → w ∈ M ∧ F w ≤ F (M.getD i 0) + 1
  hi : i ≤ M.length
theorem getD_mem {M : List Nat} {i : Nat} (h : i < M.length) : M.getD i 0 ∈ M := by
  rw [List.getD_eq_getElem?_getD, List.getElem?_eq_getElem h]
  exact List.getElem_mem h
theorem getD_app {M : List Nat} {w i : Nat} (h : i < M.length) : (M ++ [w]).getD i 0 = M.getD i 0 := by
  rw [List.getD_eq_getElem?_getD, List.getElem?_append_left h, ← List.getD_eq_getElem?_getD]
theorem getD_end (M : List Nat) (w : Nat) : (M ++ [w]).getD M.length 0 = w := by
  rw [List.getD_eq_getElem?_getD, List.getElem?_append_right (Nat.le_refl _)]
  simp
section
variable {s : Nat} {F0 F : Nat → Int} {M : List Nat} {i d : Nat}
theorem Fl.start (L : List Int) {n s : Nat} (hs : s < n) (F0 : Nat → Int) : Fl L n s F0 [s] (updF F0 s 0) 0 0 where
  nd := by simp
  lt := fun u hu => by obtain rfl := List.mem_singleton.1 hu; exact hs
  st := ⟨by simp, upd_at _ _ _⟩
  far := fun u hu => by obtain rfl := List.mem_singleton.1 hu; exact ⟨0, upd_at _ _ _, by simp, Wy.here _⟩
  out := fun u hu => upd_ne _ (by simpa using hu)
  srt := fun j k hj hk => by
    obtain rfl : k = 0 := by simpa using hk
    obtain rfl : j = 0 := by omega
    exact Int.le_refl _
  top := fun u hu _ => by
    obtain rfl := List.mem_singleton.1 hu
    show updF F0 u 0 u ≤ updF F0 u 0 u + 1
    omega
  done := fun j hj => absurd hj (by omega)
  part := fun _ e he => absurd he (by omega)
  hi := Nat.zero_le _
theorem Fl.len (h : Fl L n s F0 M F i d) : M.length ≤ n := FcM.pigeonK h.nd h.lt
theorem Fl.con (h : Fl L n s F0 M F i d) {u : Nat} (hu : u ∈ M) : Con L s u := let ⟨k, _, _, a⟩ := h.far u hu; ⟨k, a⟩
/-- Nothing to be met there. -/
theorem Fl.skip (h : Fl L n s F0 M F i d) (hi : i < M.length) (hc : nxG L (M.getD i 0) d = -1 ∨ ∃ w : Nat, nxG L (M.getD i 0) d = (w : Int) ∧ w ∈ M) : Fl L n s F0 M F i (d + 1) := by
  refine ⟨h.nd, h.lt, h.st, h.far, h.out, h.srt, h.top, h.done, fun hi2 e he w hx => ?_, h.hi⟩
  by_cases c : e = d
  · subst c
    rcases hc with hc | ⟨w2, hc, hm⟩
    · omega
    · obtain rfl : w2 = w := by omega
      exact ⟨hm, h.top _ hm hi⟩
  · exact h.part hi2 e (by omega) w hx
/-- One more is met. -/
theorem Fl.push (h : Fl L n s F0 M F i d) (hg : GoodG L n) (hi : i < M.length) (hd : d < 4) {w : Nat} (hx : nxG L (M.getD i 0) d = (w : Int)) (hw : w ∉ M) :
    Fl L n s F0 (M ++ [w]) (updF F w (F (M.getD i 0) + 1)) i (d + 1) := by
  have hm := getD_mem hi
  have keep : ∀ u ∈ M, ∀ x, updF F w x u = F u := fun u hu x => upd_ne x (fun e => hw (e ▸ hu))
  obtain ⟨k, e1, e2, e3⟩ := h.far _ hm
  refine ⟨?_, fun u hu => ?_, ⟨List.mem_append_left _ h.st.1, by rw [keep _ h.st.1]; exact h.st.2⟩, fun u hu => ?_, fun u hu => ?_, fun j k hj hk => ?_, fun u hu _ => ?_, fun j hj e he u hu => ?_, fun _ e he u hu => ?_, ?_⟩
  · rw [List.nodup_append]
    refine ⟨h.nd, by simp, fun a ha b hb e => ?_⟩
    obtain rfl := List.mem_singleton.1 hb
    exact hw (e ▸ ha)
  · rcases List.mem_append.1 hu with hu | hu
    · exact h.lt u hu
    · obtain rfl := List.mem_singleton.1 hu
      exact (next_lt hg (h.lt _ hm) hd hx).1
  · rcases List.mem_append.1 hu with hu | hu
    · obtain ⟨q, a, b, c⟩ := h.far u hu
      exact ⟨q, by rw [keep u hu]; exact a, by simp; omega, c⟩
    · obtain rfl := List.mem_singleton.1 hu
      exact ⟨k + 1, by rw [upd_at, e1]; omega, by simp; omega, e3.step hd hx⟩
  · rw [List.mem_append, List.mem_singleton] at hu
    rw [upd_ne _ (fun e => hu (Or.inr e))]
    exact h.out u (fun e => hu (Or.inl e))
  · rw [List.length_append, List.length_singleton] at hk
    by_cases c : k = M.length
    · subst c
      rw [getD_end, upd_at]
      by_cases c2 : j = M.length
      · subst c2; rw [getD_end, upd_at]; exact Int.le_refl _
      · rw [getD_app (by omega), keep _ (getD_mem (by omega))]
        exact h.top _ (getD_mem (by omega)) hi
    · rw [getD_app (by omega), getD_app (by omega), keep _ (getD_mem (by omega)), keep _ (getD_mem (by omega))]
      exact h.srt j k hj (by omega)
  · rw [getD_app hi, keep _ hm]
    rcases List.mem_append.1 hu with hu | hu
    · rw [keep u hu]; exact h.top u hu hi
    · obtain rfl := List.mem_singleton.1 hu
      rw [upd_at]; exact Int.le_refl _
  · have hjm : j < M.length := by have := h.hi; omega
    rw [getD_app hjm] at hu ⊢
    obtain ⟨a, b⟩ := h.done j hj e he u hu
    exact ⟨List.mem_append_left _ a, by rw [keep _ a, keep _ (getD_mem hjm)]; exact b⟩
  · rw [getD_app hi] at hu ⊢
    by_cases c : e = d
    · subst c
      obtain rfl : w = u := by omega
      exact ⟨by simp, by rw [upd_at, keep _ hm]; exact Int.le_refl _⟩
    · obtain ⟨a, b⟩ := h.part hi e (by omega) u hu
      exact ⟨List.mem_append_left _ a, by rw [keep _ a, keep _ hm]; exact b⟩
  · rw [List.length_append]; have := h.hi; omega
theorem Fl.next (h : Fl L n s F0 M F i 4) (hi : i < M.length) : Fl L n s F0 M F (i + 1) 0 := by
  refine ⟨h.nd, h.lt, h.st, h.far, h.out, h.srt, fun u hu hi2 => ?_, fun j hj e he w hx => ?_, fun _ e he => absurd he (by omega), hi⟩
  · have h1 := h.top u hu hi
    have h2 := h.srt i (i + 1) (by omega) hi2
    omega
  · by_cases c : j = i
    · subst c; exact h.part hi e he w hx
    · exact h.done j (by omega) e he w hx
/-- What was met is all that hangs together with it; how far each is. -/
theorem Fl.end_ (h : Fl L n s F0 M F i d) (hi : i = M.length) : (∀ u, u ∈ M ↔ Con L s u) ∧ ∀ u ∈ M, F u = farI L s u := by
  have key : ∀ {k u : Nat}, Wy L k s u → u ∈ M ∧ F u ≤ k := by
    intro k u hw
    have : ∀ {k v u : Nat}, Wy L k v u → v = s → u ∈ M ∧ F u ≤ k := by
      intro k v u hw
      induction hw with
      | here v => intro e; subst e; exact ⟨h.st.1, by rw [h.st.2]; exact Int.le_refl _⟩
      | @step k v u w d h1 hd hx ih =>
        intro e
        obtain ⟨a, b⟩ := ih e
        obtain ⟨j, hj, hje⟩ := List.getElem_of_mem a
        have hj2 : M.getD j 0 = u := by rw [List.getD_eq_getElem?_getD, List.getElem?_eq_getElem hj, hje]; rfl
        rw [← hj2] at hx b
        obtain ⟨c, e2⟩ := h.done j (by omega) d hd w hx
        exact ⟨c, by omega⟩
    exact this hw rfl
  refine ⟨fun u => ⟨fun hu => h.con hu, fun ⟨k, hk⟩ => (key hk).1⟩, fun u hu => ?_⟩
  obtain ⟨k, e, _, a⟩ := h.far u hu
  rw [e]
  refine (far_is (Or.inr ⟨k, rfl, a, fun j hj => ?_⟩)).symm
  have := (key hj).2
  omega
/-- Whether it was met. -/
theorem Fl.met (h : Fl L n s F0 M F i d) (h0 : ∀ u, Con L s u → F0 u = -1) {u : Nat} (hc : Con L s u) : F u = -1 ↔ u ∉ M := by
  constructor
  · intro e hm
    obtain ⟨k, a, _, _⟩ := h.far u hm
    omega
  · intro hm
    rw [h.out u hm]; exact h0 u hc
end
end
end Go.Proofs.YtkakeakdgidigaaDoor.JoM

namespace Go.Proofs.YtkakeakdgidigaaDoor.JoM
open Go.Proofs.YtkakeakdgidigaaDoor.GrM

/-! Paths. -/
def Pth (L : List Int) : Nat → List Nat → Nat → Prop
  | v, [], w => v = w
  | v, d :: P, w => d < 4 ∧ ∃ u : Nat, nxG L v d = (u : Int) ∧ Pth L u P w
section
variable {L : List Int} {n : Nat}
theorem Pth.app : ∀ {v : Nat} {P Q : List Nat} {u w : Nat}, Pth L v P u → Pth L u Q w → Pth L v (P ++ Q) w
  | v, [], Q, u, w, h, g => by
    have : v = u := h
    subst this; exact g
  | v, d :: P, Q, u, w, ⟨h1, x, h2, h3⟩, g => ⟨h1, x, h2, h3.app g⟩
theorem Pth.snoc {v : Nat} {P : List Nat} {u d w : Nat} (h : Pth L v P u) (hd : d < 4) (hx : nxG L u d = (w : Int)) : Pth L v (P ++ [d]) w := h.app ⟨hd, w, hx, rfl⟩
/-- The next step of what is left of a path. -/
theorem Pth.drop {v i w : Nat} {P : List Nat} (h : Pth L v (P.drop i) w) (hi : i < P.length) : P.getD i 0 < 4 ∧ ∃ u : Nat, nxG L v (P.getD i 0) = (u : Int) ∧ Pth L u (P.drop (i + 1)) w := by
  rw [List.drop_eq_getElem_cons hi] at h
  rw [List.getD_eq_getElem?_getD, List.getElem?_eq_getElem hi]
  exact h
theorem Pth.end_ {v i w : Nat} {P : List Nat} (h : Pth L v (P.drop i) w) (hi : i = P.length) : v = w := by
  subst hi
  rw [List.drop_length] at h
  exact h
theorem Wy.pre {k : Nat} : ∀ {u v w d : Nat}, Wy L k v w → d < 4 → nxG L u d = (v : Int) → Wy L (k + 1) u w := by
  intro u v w d h hd hx
  have := ((Wy.here u).step hd hx).trans h
  rwa [Nat.add_comm] at this
theorem Pth.wy : ∀ {v : Nat} {P : List Nat} {w : Nat}, Pth L v P w → Wy L P.length v w
  | v, [], w, h => by
    have : v = w := h
    subst this; exact Wy.here _
  | v, d :: P, w, ⟨h1, x, h2, h3⟩ => h3.wy.pre h1 h2
theorem far_tri {a b c : Nat} (h1 : Con L a c) (h2 : Con L c b) : Con L a b ∧ farI L a b ≤ farI L a c + farI L c b := by
  obtain ⟨j, e1, a1, _⟩ := far_nat h1
  obtain ⟨k, e2, a2, _⟩ := far_nat h2
  obtain ⟨m, e3, _, b3⟩ := far_nat (h1.trans h2)
  have := b3 _ (a1.trans a2)
  exact ⟨h1.trans h2, by omega⟩

/-! Parts. -/
noncomputable def conB (L : List Int) (v w : Nat) : Bool := @decide (Con L v w) (Classical.propDecidable _)
theorem conB_iff {v w : Nat} : conB L v w = true ↔ Con L v w := by unfold conB; simp
/-- Does it hang together with one that is ahead of it? -/
noncomputable def oldB (L : List Int) (v : Nat) : Bool := @decide (∃ a, a < v ∧ Con L a v) (Classical.propDecidable _)
theorem oldB_iff {v : Nat} : oldB L v = true ↔ ∃ a, a < v ∧ Con L a v := by unfold oldB; simp
noncomputable def partL (L : List Int) (n v : Nat) : List Nat := (List.range n).filter (conB L v)
noncomputable def partsK (L : List Int) (n : Nat) : Nat → List (List Nat)
  | 0 => []
  | v + 1 => if oldB L v = true then partsK L n v else partsK L n v ++ [partL L n v]
theorem mem_part {v u : Nat} : u ∈ partL L n v ↔ u < n ∧ Con L v u := by
  unfold partL
  rw [List.mem_filter, List.mem_range, conB_iff]
theorem part_nodup (L : List Int) (n v : Nat) : (partL L n v).Nodup := List.nodup_range.filter _
theorem part_len (L : List Int) (n v : Nat) : (partL L n v).length ≤ n := Nat.le_trans (List.length_filter_le _ _) (by simp)
theorem parts_len (L : List Int) (n : Nat) : ∀ v, (partsK L n v).length ≤ v
  | 0 => Nat.le_refl _
  | v + 1 => by
    have := parts_len L n v
    rw [partsK]
    split
    · omega
    · rw [List.length_append, List.length_singleton]; omega
theorem part_lens (L : List Int) (n : Nat) : ∀ v, ∀ p ∈ partsK L n v, p.length ≤ n
  | 0, p, h => absurd h (by simp [partsK])
  | v + 1, p, h => by
    rw [partsK] at h
    split at h
    · exact part_lens L n v p h
    · rcases List.mem_append.1 h with h | h
      · exact part_lens L n v p h
      · obtain rfl := List.mem_singleton.1 h
        exact part_len L n v
/-- All that hang together with one, sorted. -/
theorem sorted_part {M : List Nat} {s : Nat} (hn : M.Nodup) (hl : ∀ u ∈ M, u < n) (hm : ∀ u, u ∈ M ↔ Con L s u) : ((M.map fun u : Nat => (u : Int)).mergeSort fun a b => decide (a ≤ b)) = (partL L n s).map fun u : Nat => (u : Int) := by
  have hp : M.Perm (partL L n s) := by
    rw [List.perm_ext_iff_of_nodup hn (part_nodup L n s)]
    intro u
    rw [mem_part]
    exact ⟨fun h => ⟨hl u h, (hm u).1 h⟩, fun h => (hm u).2 h.2⟩
  refine List.Perm.eq_of_pairwise (le := fun a b : Int => a ≤ b) (fun a b _ _ h1 h2 => Int.le_antisymm h1 h2) ?_ ?_ ((List.mergeSort_perm _ _).trans (hp.map _))
  · refine (List.pairwise_mergeSort ?_ ?_ _).imp (by intro a b h; simpa using h)
    · intro a b c h1 h2; simp at h1 h2 ⊢; omega
    · intro a b; simp; omega
  · rw [List.pairwise_map]
    unfold partL
    refine List.Pairwise.filter _ ?_
    exact List.pairwise_lt_range.imp (by intro a b h; omega)
/-- What was met so far, when so many cells were gone through. -/
def FarS (L : List Int) (n v : Nat) (F : Nat → Int) : Prop := ∀ u, u < n → (F u = -1 ∧ ¬ ∃ a, a < v ∧ Con L a u) ∨ (0 ≤ F u ∧ ∃ a, a < v ∧ Con L a u)
theorem FarS.start (L : List Int) (n : Nat) : FarS L n 0 (fun _ => -1) := fun _ _ => Or.inl ⟨rfl, fun ⟨_, h, _⟩ => absurd h (by omega)⟩
theorem FarS.skip {v : Nat} {F : Nat → Int} (h : FarS L n v F) (ho : oldB L v = true) : FarS L n (v + 1) F := by
  obtain ⟨b, hb, hc⟩ := oldB_iff.1 ho
  have key : ∀ u, (∃ a, a < v + 1 ∧ Con L a u) ↔ ∃ a, a < v ∧ Con L a u := fun u => by
    constructor
    · rintro ⟨a, ha, hu⟩
      by_cases e : a = v
      · subst e; exact ⟨b, hb, hc.trans hu⟩
      · exact ⟨a, by omega, hu⟩
    · rintro ⟨a, ha, hu⟩; exact ⟨a, by omega, hu⟩
  intro u hu
  rw [key u]
  exact h u hu
theorem FarS.old {v : Nat} {F : Nat → Int} (h : FarS L n v F) (hv : v < n) : F v = -1 ↔ ¬ oldB L v = true := by
  rw [oldB_iff]
  rcases h v hv with ⟨e, a⟩ | ⟨e, a⟩
  · exact ⟨fun _ => a, fun _ => e⟩
  · exact ⟨fun h => by omega, fun h => absurd a h⟩
theorem FarS.free {v : Nat} {F : Nat → Int} (hg : GoodG L n) (h : FarS L n v F) (hv : v < n) (ho : ¬ oldB L v = true) : ∀ u, Con L v u → F u = -1 := by
  intro u hc
  rcases h u (hc.lt hg hv) with ⟨e, _⟩ | ⟨_, a, ha, hu⟩
  · exact e
  · exact absurd (oldB_iff.2 ⟨a, ha, hu.trans (hc.symm hg hv)⟩) ho
theorem FarS.flood {v : Nat} {F F1 : Nat → Int} {M : List Nat} (h : FarS L n v F) (hf : Fl L n v F M F1 M.length 0) : FarS L n (v + 1) F1 := by
  obtain ⟨e1, _⟩ := hf.end_ rfl
  intro u hu
  by_cases hm : u ∈ M
  · obtain ⟨k, e, _, _⟩ := hf.far u hm
    exact Or.inr ⟨by omega, v, by omega, (e1 u).1 hm⟩
  · rw [hf.out u hm]
    rcases h u hu with ⟨e, a⟩ | ⟨e, a, ha, hc⟩
    · refine Or.inl ⟨e, ?_⟩
      rintro ⟨b, hb, hc⟩
      by_cases c : b = v
      · subst c; exact hm ((e1 u).2 hc)
      · exact a ⟨b, by omega, hc⟩
    · exact Or.inr ⟨e, a, by omega, hc⟩
theorem parts_skip {v : Nat} (ho : oldB L v = true) : partsK L n (v + 1) = partsK L n v := by rw [partsK, if_pos ho]
theorem parts_more {v : Nat} (ho : ¬ oldB L v = true) : partsK L n (v + 1) = partsK L n v ++ [partL L n v] := by rw [partsK, if_neg ho]

/-! Cells that hang together alike. -/
theorem con_mono {M : List Int} (hg : GoodG L n) (h : ∀ u d w : Nat, u < n → d < 4 → nxG L u d = (w : Int) → Con M u w) {v w : Nat} (hv : v < n) (hc : Con L v w) : Con M v w := by
  obtain ⟨k, hk⟩ := hc
  induction hk with
  | here => exact Con.refl _
  | step h1 hd hx ih => exact (ih hv).trans (h _ _ _ (h1.lt hg hv) hd hx)
theorem parts_congr {M : List Int} (h : ∀ v w, v < n → w < n → (Con L v w ↔ Con M v w)) : ∀ v, v ≤ n → partsK L n v = partsK M n v
  | 0, _ => rfl
  | v + 1, hv => by
    have e1 : (oldB L v = true) ↔ (oldB M v = true) := by
      rw [oldB_iff, oldB_iff]
      exact ⟨fun ⟨a, b, c⟩ => ⟨a, b, (h a v (by omega) (by omega)).1 c⟩, fun ⟨a, b, c⟩ => ⟨a, b, (h a v (by omega) (by omega)).2 c⟩⟩
    have e2 : partL L n v = partL M n v := by
      unfold partL
      refine List.filter_congr (fun w hw => ?_)
      rw [Bool.eq_iff_iff, conB_iff, conB_iff]
      exact h v w (by omega) (List.mem_range.1 hw)
    rw [partsK, partsK, parts_congr h v (by omega), e2]
    by_cases c : oldB L v = true
    · rw [if_pos c, if_pos (e1.1 c)]
    · rw [if_neg c, if_neg (fun x => c (e1.2 x))]
theorem turn_parts (hg : GoodG L n) : partsK (turnG L n) n n = partsK L n n := by
  have hM : GoodG (turnG L n) n := turn_good.2 hg
  refine (parts_congr (fun v w hv _ => ⟨con_mono hg ?_ hv, con_mono hM ?_ hv⟩) n (Nat.le_refl _)).symm
  · intro u d x hu hd hx
    exact Con.one (lft_lt d) (by rw [nx_turn L hu hd]; exact hx)
  · intro u d x hu hd hx
    obtain ⟨e, he, rfl⟩ := lft_all hd
    rw [nx_turn L hu he] at hx
    exact Con.one he hx
section
variable {v d w : Nat} {o : Int}
theorem split_con (hl : L.length = n * 8) (hg : GoodG L n) (hv : v < n) (hd : d < 4) (h1 : nxG L v d = (w : Int)) (ho : owG L v d = o) :
    (∀ a b, a < n → b < n → (Con (splitG L n v d w o) a b ↔ Con L a b)) ∧ ∀ a, a < n → (Con (splitG L n v d w o) a n ↔ Con L a v) := by
  obtain ⟨hw, hb⟩ := next_lt hg hv hd h1
  have hM : GoodG (splitG L n v d w o) (n + 1) := split_good hl hg hv hw hd h1 ho
  have ol := opp_lt d
  have nx : ∀ a e, a < n → e < 4 → nxG (splitG L n v d w o) a e = if a = w ∧ e = opp d then (n : Int) else if a = v ∧ e = d then (n : Int) else nxG L a e := fun a e ha he => nx_split hl hv hw hd ha he
  have nn : ∀ e, e < 4 → nxG (splitG L n v d w o) n e = if e = d then (w : Int) else if e = opp d then (v : Int) else -1 := fun e he => nx_split_new hl hv hw hd he
  generalize splitG L n v d w o = M at hM nx nn ⊢
  have cvw : Con L v w := Con.one hd h1
  have cwv : Con L w v := Con.one ol hb
  have ne0 : opp d ≠ d := opp_ne d
  have mvn : Con M v n := Con.one hd (by
    rw [nx v d hv hd]
    split
    · rfl
    · rw [if_pos ⟨rfl, rfl⟩])
  have mnv : Con M n v := Con.one ol (by rw [nn _ ol, if_neg ne0, if_pos rfl])
  have mwn : Con M w n := Con.one ol (by rw [nx w _ hw ol, if_pos ⟨rfl, rfl⟩])
  have mnw : Con M n w := Con.one hd (by rw [nn d hd, if_pos rfl])
  have up : ∀ a b, a < n → Con L a b → Con M a b := fun a b ha hc => con_mono hg (fun u e x hu he hx => by
    by_cases c1 : u = w ∧ e = opp d
    · obtain ⟨rfl, rfl⟩ := c1
      obtain rfl : x = v := by omega
      exact mwn.trans mnv
    · by_cases c2 : u = v ∧ e = d
      · obtain ⟨rfl, rfl⟩ := c2
        obtain rfl : x = w := by omega
        exact mvn.trans mnw
      · exact Con.one he (by rw [nx u e hu he, if_neg c1, if_neg c2]; exact hx)) ha hc
  have down : ∀ k a b, a < n + 1 → Wy M k a b → Con L (if a = n then v else a) (if b = n then v else b) := by
    intro k a b ha hk
    induction hk with
    | here => exact Con.refl _
    | @step k a u b e h1 he hx ih =>
      refine (ih ha).trans ?_
      have hu := h1.lt hM ha
      by_cases c : u = n
      · subst c
        rw [nn e he] at hx
        rw [if_pos rfl]
        by_cases c1 : e = d
        · rw [if_pos c1] at hx
          obtain rfl : w = b := by omega
          rw [if_neg (by omega)]; exact cvw
        · rw [if_neg c1] at hx
          by_cases c2 : e = opp d
          · rw [if_pos c2] at hx
            obtain rfl : v = b := by omega
            rw [if_neg (by omega)]; exact Con.refl _
          · rw [if_neg c2] at hx; omega
      · have hun : u < n := by omega
        rw [nx u e hun he] at hx
        rw [if_neg c]
        by_cases c1 : u = w ∧ e = opp d
        · rw [if_pos c1] at hx
          obtain rfl : n = b := by omega
          rw [if_pos rfl, c1.1]; exact cwv
        · rw [if_neg c1] at hx
          by_cases c2 : u = v ∧ e = d
          · rw [if_pos c2] at hx
            obtain rfl : n = b := by omega
            rw [if_pos rfl, c2.1]; exact Con.refl _
          · rw [if_neg c2] at hx
            have := (next_lt hg hun he hx).1
            rw [if_neg (by omega)]
            exact Con.one he hx
  refine ⟨fun a b ha hb2 => ⟨fun ⟨k, hk⟩ => ?_, up a b ha⟩, fun a ha => ⟨fun ⟨k, hk⟩ => ?_, fun h => (up a v ha h).trans mvn⟩⟩
  · have := down k a b (by omega) hk
    rw [if_neg (by omega), if_neg (by omega)] at this
    exact this
  · have := down k a n (by omega) hk
    rw [if_neg (by omega), if_pos rfl] at this
    exact this
theorem split_parts (hl : L.length = n * 8) (hg : GoodG L n) (hv : v < n) (hd : d < 4) (h1 : nxG L v d = (w : Int)) (ho : owG L v d = o) :
    partsK (splitG L n v d w o) (n + 1) (n + 1) = (partsK L n n).map fun p => if v ∈ p then p ++ [n] else p := by
  obtain ⟨c1, c2⟩ := split_con hl hg hv hd h1 ho
  generalize splitG L n v d w o = M at c1 c2 ⊢
  have key : ∀ k, k ≤ n → partsK M (n + 1) k = (partsK L n k).map fun p => if v ∈ p then p ++ [n] else p := by
    intro k
    induction k with
    | zero => intro _; rfl
    | succ k ih =>
      intro hk
      have e1 : (oldB L k = true) ↔ (oldB M k = true) := by
        rw [oldB_iff, oldB_iff]
        exact ⟨fun ⟨a, b, c⟩ => ⟨a, b, (c1 a k (by omega) (by omega)).2 c⟩, fun ⟨a, b, c⟩ => ⟨a, b, (c1 a k (by omega) (by omega)).1 c⟩⟩
      have e2 : partL M (n + 1) k = (fun p => if v ∈ p then p ++ [n] else p) (partL L n k) := by
        have e3 : (List.range n).filter (conB M k) = partL L n k := by
          unfold partL
          refine List.filter_congr (fun x hx => ?_)
          rw [Bool.eq_iff_iff, conB_iff, conB_iff]
          exact c1 k x (by omega) (List.mem_range.1 hx)
        show partL M (n + 1) k = if v ∈ partL L n k then partL L n k ++ [n] else partL L n k
        have e4 : partL M (n + 1) k = (List.range n).filter (conB M k) ++ [n].filter (conB M k) := by
          unfold partL; rw [List.range_succ, List.filter_append]
        rw [e4, e3]
        by_cases c : v ∈ partL L n k
        · rw [if_pos c, List.filter_cons_of_pos (conB_iff.2 ((c2 k (by omega)).2 (mem_part.1 c).2)), List.filter_nil]
        · rw [if_neg c, List.filter_cons_of_neg (fun x => c (mem_part.2 ⟨hv, (c2 k (by omega)).1 (conB_iff.1 x)⟩)), List.filter_nil, List.append_nil]
      by_cases c : oldB L k = true
      · rw [parts_skip c, parts_skip (e1.1 c)]; exact ih (by omega)
      · rw [parts_more c, parts_more (fun x => c (e1.2 x)), List.map_append, ih (by omega), e2]; rfl
  rw [parts_skip (oldB_iff.2 ⟨v, hv, (c2 v hv).2 (Con.refl v)⟩)]
  exact key n (Nat.le_refl _)
end

/-! The reference's rounds. -/
structure Fr (L : List Int) (n s : Nat) (X : Nat → Int) (r i d : Nat) : Prop where
  val : ∀ u, u < n → X u = -1 ∨ X u = farI L s u
  old : ∀ u, u < n → 0 ≤ farI L s u → farI L s u ≤ r → X u = farI L s u
  new : ∀ u, u < n → farI L s u = (r : Int) + 1 → (∃ a e : Nat, a < n ∧ e < 4 ∧ nxG L a e = (u : Int) ∧ farI L s a = r ∧ (a < i ∨ (a = i ∧ e < d))) → X u = farI L s u
theorem Fr.start {s : Nat} (hs : s < n) : Fr L n s (updF (fun _ => -1) s 0) 0 0 0 where
  val := fun u _ => by
    by_cases c : u = s
    · subst c; right; rw [upd_at, far_self]
    · left; rw [upd_ne _ c]
  old := fun u _ h1 h2 => by
    have h0 : farI L s u = 0 := by omega
    have hc : Con L s u := by
      apply Classical.byContradiction
      intro c; rw [far_none.2 c] at h0; omega
    obtain ⟨m, e, a, _⟩ := far_nat hc
    obtain rfl : m = 0 := by omega
    have := a.none
    subst this
    rw [upd_at, far_self]
  new := fun u _ _ ⟨a, e, _, _, _, _, h⟩ => by omega
theorem Fr.skip {s : Nat} {X : Nat → Int} {r i d : Nat} (h : Fr L n s X r i d) (hs : ∀ u : Nat, u < n → nxG L i d = (u : Int) → farI L s i = r → farI L s u = (r : Int) + 1 → X u = farI L s u) : Fr L n s X r i (d + 1) := by
  refine ⟨h.val, h.old, fun u hu hr ⟨a, e, ha, he, hx, hf, hc⟩ => ?_⟩
  by_cases c : a = i ∧ e = d
  · obtain ⟨rfl, rfl⟩ := c
    exact hs u hu hx hf hr
  · exact h.new u hu hr ⟨a, e, ha, he, hx, hf, by omega⟩
theorem Fr.cell {s : Nat} {X : Nat → Int} {r i : Nat} (h : Fr L n s X r i 4) : Fr L n s X r (i + 1) 0 := by
  refine ⟨h.val, h.old, fun u hu hr ⟨a, e, ha, he, hx, hf, hc⟩ => h.new u hu hr ⟨a, e, ha, he, hx, hf, by omega⟩⟩
theorem Fr.round {s : Nat} {X : Nat → Int} {r : Nat} (hg : GoodG L n) (hs : s < n) (h : Fr L n s X r n 0) : Fr L n s X (r + 1) 0 0 := by
  refine ⟨h.val, fun u hu h1 h2 => ?_, fun u _ _ ⟨a, e, _, _, _, _, h⟩ => by omega⟩
  by_cases c : farI L s u = (r : Int) + 1
  · obtain ⟨d, a, hd, ha, hx, hf⟩ := near_is hg hs (v := u) (k := r) (by omega)
    exact h.new u hu c ⟨a, opp d, ha, opp_lt d, (next_lt hg hu hd hx).2, hf, Or.inl ha⟩
  · exact h.old u hu h1 (by omega)
/-- Is a cell told to be as far as the round's number? -/
theorem Fr.is {s : Nat} {X : Nat → Int} {r i d : Nat} (h : Fr L n s X r i d) {u : Nat} (hu : u < n) : X u = r ↔ farI L s u = r := by
  constructor
  · intro e
    rcases h.val u hu with c | c
    · omega
    · omega
  · intro e
    rw [h.old u hu (by omega) (by omega)]; exact e
theorem Fr.next {s : Nat} {X : Nat → Int} {r i d : Nat} (hg : GoodG L n) (h : Fr L n s X r i d) (hi : i < n) (hd : d < 4) {u : Nat} (hx : nxG L i d = (u : Int)) (hf : farI L s i = r) (hX : X u < 0) : farI L s u = (r : Int) + 1 ∧ Fr L n s (updF X u ((r : Int) + 1)) r i (d + 1) := by
  have hun := (next_lt hg hi hd hx).1
  have hc : Con L s i := by
    apply Classical.byContradiction
    intro c; rw [far_none.2 c] at hf; omega
  obtain ⟨m, e1, a1, _⟩ := far_nat hc
  obtain ⟨k, e2, _, b2⟩ := far_nat (hc.trans (Con.one hd hx))
  have h1 := b2 _ (a1.step hd hx)
  have hk : farI L s u = (r : Int) + 1 := by
    have : ¬ farI L s u ≤ r := fun h2 => by
      have := h.old u hun (by omega) h2
      omega
    omega
  refine ⟨hk, ⟨fun x hxn => ?_, fun x hxn g1 g2 => ?_, fun x hxn g1 ⟨a, e, ha, he, hx2, hf2, hc2⟩ => ?_⟩⟩
  · by_cases c : x = u
    · subst c; right; rw [upd_at, hk]
    · rw [upd_ne _ c]; exact h.val x hxn
  · by_cases c : x = u
    · subst c; rw [upd_at, hk]
    · rw [upd_ne _ c]; exact h.old x hxn g1 g2
  · by_cases c : x = u
    · subst c; rw [upd_at, hk]
    · rw [upd_ne _ c]
      refine h.new x hxn g1 ⟨a, e, ha, he, hx2, hf2, ?_⟩
      have : ¬ (a = i ∧ e = d) := by
        rintro ⟨rfl, rfl⟩
        exact c (by omega)
      omega
theorem Fr.end_ {s : Nat} {X : Nat → Int} {r i d : Nat} (hg : GoodG L n) (hs : s < n) (h : Fr L n s X r i d) (hr : r = n) {u : Nat} (hu : u < n) : X u = farI L s u := by
  by_cases c : Con L s u
  · obtain ⟨m, e, _, _⟩ := far_nat c
    have := far_lt hg hs hu
    exact h.old u hu (by omega) (by omega)
  · have := far_none.2 c
    rcases h.val u hu with e | e
    · omega
    · exact e
end
end Go.Proofs.YtkakeakdgidigaaDoor.JoM
