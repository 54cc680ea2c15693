/-
  Rows that lead round, cut and joined: what becomes of their sums when two more darts are laid: mathematics; no program stands here. Conditions: none.
  An edge more: what becomes of the faces' rotations: mathematics; no program stands here. Conditions: cells that may be.
  Cells whose edges are some of a board's of eight by eight, and hang together: one of their faces has the rotation -4, all others 4: mathematics; no program stands here. Conditions: none.
  The board of eight by eight cells with all its edges: its faces: mathematics; no program stands here. Conditions: none.
  Cells drawn on the board of eight by eight, edges along its lines without crossings: their faces' rotations are those of the board's edges that they cover: mathematics; no program stands here. Conditions: none.
  Cells at places of a board of eight by eight, each next to the nearest ones to the right and above, no two lines crossing: they are drawn on it: mathematics; no program stands here. Conditions: none.
  Rotations of cells turned, of cells with an edge split; faces, cells and edges counted: mathematics; no program stands here. Conditions: cells that may be.
  Whether cells can be drawn: the error; the same of cells turned, and with an edge split; none of cells that lie on the board and hang together: mathematics; no program stands here. Conditions: none.
  Rotations gone through one by one: one of -4, all others 4, and where it is: mathematics; no program stands here. Conditions: none.
-/
import Derived.Test.YtkakeakdgidigaaDoorVzF1
import Derived.Test.YtkakeakdgidigaaDoorVzJ1
import Derived.KernelRfl
namespace Go.Proofs.YtkakeakdgidigaaDoor.VdM
open Go.Proofs.YtkakeakdgidigaaDoor.GrM Go.Proofs.YtkakeakdgidigaaDoor.FcM

theorem lnk_split {b : Nat → Nat} : ∀ {l m : List Nat} {z : Nat}, Lnk b (l ++ m) z → Lnk b l (m.headD z) ∧ Lnk b m z
  | [], _, _, h => ⟨trivial, h⟩
  | a :: l, m, z, h => by
    obtain ⟨h1, h2⟩ := h
    obtain ⟨i1, i2⟩ := lnk_split (l := l) h2
    refine ⟨⟨?_, i1⟩, i2⟩
    rw [h1]
    cases l <;> rfl
theorem lnk_congr {b b' : Nat → Nat} : ∀ {l : List Nat} {z : Nat}, (∀ a ∈ l, b' a = b a) → Lnk b l z → Lnk b' l z
  | [], _, _, _ => trivial
  | a :: l, z, h, ⟨h1, h2⟩ => ⟨(h a (by simp)).trans h1, lnk_congr (fun c hc => h c (by simp [hc])) h2⟩
theorem head_app (l m : List Nat) (z : Nat) : (l ++ m).headD z = l.headD (m.headD z) := by cases l <;> rfl
theorem head_any {l : List Nat} (h : l ≠ []) (y z : Nat) : l.headD y = l.headD z := by cases l with
  | nil => exact absurd rfl h
  | cons a l => rfl
theorem cyc_of {b : Nat → Nat} {l : List Nat} (h : l ≠ []) {z : Nat} (hl : Lnk b l (l.headD z)) : Cyc b l := cyc_lnk.2 ⟨h, by rw [head_any h 0 z]; exact hl⟩
theorem cyc_to {b : Nat → Nat} {l : List Nat} (h : Cyc b l) (z : Nat) : Lnk b l (l.headD z) := by
  obtain ⟨h1, h2⟩ := cyc_lnk.1 h
  rw [head_any h1 z 0]; exact h2
/-- All rows that lead round, each element once. -/
structure Dec (f : Nat → Nat) (D : Nat → Prop) (A : List (List Nat)) : Prop where
  cyc : ∀ l ∈ A, Cyc f l
  nd : A.flatten.Nodup
  all : ∀ k, k ∈ A.flatten ↔ D k
theorem Dec.sums {f : Nat → Nat} {D : Nat → Prop} {A B : List (List Nat)} (t : Nat → Int) (h : Dec f D A) (g : Dec f D B) : (A.map (smF t)).Perm (B.map (smF t)) :=
  cycs_perm (b := f) (fun l s _ => sm_perm t (rot_perm l s)) h.cyc g.cyc h.nd g.nd (fun k => (h.all k).trans (g.all k).symm)
theorem Dec.perm {f : Nat → Nat} {D : Nat → Prop} {A B : List (List Nat)} (h : Dec f D A) (p : A.Perm B) : Dec f D B :=
  ⟨fun l hl => h.cyc l (p.mem_iff.2 hl), (p.flatten.nodup_iff).1 h.nd, fun k => (p.flatten.mem_iff).symm.trans (h.all k)⟩
/-- One of them, written so that it ends with x. -/
theorem Dec.end_ {f : Nat → Nat} {D : Nat → Prop} {A : List (List Nat)} (h : Dec f D A) {x : Nat} {m : List Nat} (hm : m ∈ A) (hx : x ∈ m) : ∃ P, Dec f D ((P ++ [x]) :: A.erase m) ∧ (P ++ [x]).Perm m := by
  obtain ⟨U, V, rfl⟩ := List.append_of_mem hx
  have p1 := List.perm_cons_erase hm
  have p2 : ((V ++ U) ++ [x]).Perm (U ++ x :: V) := by
    rw [List.append_assoc]
    refine (List.perm_append_comm).trans ?_
    simp
  have hc := h.cyc _ hm
  refine ⟨V ++ U, ⟨fun l hl => ?_, ?_, fun k => ?_⟩, p2⟩
  · rcases List.mem_cons.1 hl with rfl | hl
    · have h1 := cyc_to hc 0
      obtain ⟨a1, a2⟩ := lnk_split h1
      obtain ⟨a3, a4⟩ : f x = V.headD ((U ++ x :: V).headD 0) ∧ Lnk f V ((U ++ x :: V).headD 0) := a2
      have hU : (U ++ x :: V).headD 0 = U.headD x := by cases U <;> rfl
      rw [hU] at a3 a4
      refine cyc_of (by simp) (z := 0) ?_
      have hz : (V ++ U ++ [x]).headD 0 = V.headD (U.headD x) := by cases V <;> cases U <;> rfl
      rw [hz]
      exact lnk_append (lnk_append a4 a1) ⟨by simpa using a3, trivial⟩
    · exact h.cyc l (List.mem_of_mem_erase hl)
  · have := (p1.flatten.nodup_iff).1 h.nd
    rw [List.flatten_cons] at this ⊢
    exact ((p2.append_right _).nodup_iff).2 this
  · rw [← h.all k, p1.flatten.mem_iff, List.flatten_cons, List.flatten_cons, List.mem_append, p2.mem_iff, ← List.mem_append]
theorem or3 {p q r : Prop} : (p ∨ q ∨ r) ↔ (r ∨ p ∨ q) := ⟨fun h => h.elim (fun e => Or.inr (Or.inl e)) fun h => h.elim (fun e => Or.inr (Or.inr e)) Or.inl, fun h => h.elim (fun e => Or.inr (Or.inr e)) fun h => h.elim Or.inl fun e => Or.inr (Or.inl e)⟩
section
variable {f f' : Nat → Nat} {t t' : Nat → Int} {D : Nat → Prop} {a b x y : Nat} {A : List (List Nat)}
/-- Rows that lead round and have neither x nor y still do. -/
theorem keep_cyc (hf : ∀ k, D k → k ≠ x → k ≠ y → f' k = f k) {l : List Nat} (h : Cyc f l) (hD : ∀ k ∈ l, D k) (hx : x ∉ l) (hy : y ∉ l) : Cyc f' l := by
  obtain ⟨h1, h2⟩ := cyc_lnk.1 h
  exact cyc_lnk.2 ⟨h1, lnk_congr (fun k hk => hf k (hD k hk) (fun e => hx (e ▸ hk)) (fun e => hy (e ▸ hk))) h2⟩
theorem keep_sum (hf : ∀ k, D k → k ≠ x → k ≠ y → t' k = t k) {l : List Nat} (hD : ∀ k ∈ l, D k) (hx : x ∉ l) (hy : y ∉ l) : smF t' l = smF t l :=
  sm_congr fun k hk => hf k (hD k hk) (fun e => hx (e ▸ hk)) (fun e => hy (e ▸ hk))
/-- Two darts more, both at cells that had some. -/
structure Two (f f' : Nat → Nat) (t t' : Nat → Int) (D : Nat → Prop) (a b x y : Nat) : Prop where
  dx : D x
  dy : D y
  ne : x ≠ y
  na : ¬ D a
  nb : ¬ D b
  ab : a ≠ b
  fx : f' x = a
  fa : f' a = f y
  fy : f' y = b
  fb : f' b = f x
  keep : ∀ k, D k → k ≠ x → k ≠ y → f' k = f k
  tx : t' x + t' b = t x + 2
  ty : t' y + t' a = t y + 2
  tk : ∀ k, D k → k ≠ x → k ≠ y → t' k = t k
theorem sums_keep {R : List (List Nat)} (hf : ∀ k, D k → k ≠ x → k ≠ y → t' k = t k) (hD : ∀ k ∈ R.flatten, D k) (hx : x ∉ R.flatten) (hy : y ∉ R.flatten) : R.map (smF t') = R.map (smF t) :=
  List.map_congr_left fun l hl => keep_sum hf (fun k hk => hD k (List.mem_flatten.2 ⟨l, hl, hk⟩)) (fun h => hx (List.mem_flatten.2 ⟨l, hl, h⟩)) (fun h => hy (List.mem_flatten.2 ⟨l, hl, h⟩))
/-- A row is cut in two, or two are joined. -/
theorem Two.cut (h : Two f f' t t' D a b x y) (hA : Dec f D A) : ∃ B, Dec f' (fun k => D k ∨ k = a ∨ k = b) B ∧
    ((∃ r1 r2 R, (B.map (smF t')).Perm (r1 :: r2 :: R) ∧ (A.map (smF t)).Perm ((r1 + r2 - 4) :: R)) ∨
     (∃ r1 r2 R, (A.map (smF t)).Perm (r1 :: r2 :: R) ∧ (B.map (smF t')).Perm ((r1 + r2 + 4) :: R))) := by
  obtain ⟨m, hm, hxm⟩ := List.mem_flatten.1 ((hA.all x).2 h.dx)
  obtain ⟨P, hP, pm⟩ := hA.end_ hm hxm
  have hs := hA.sums t hP
  generalize A.erase m = R at hP hs
  have hnd := hP.nd
  rw [List.flatten_cons] at hnd
  have hDall : ∀ k, k ∈ (P ++ [x]) ++ R.flatten → D k := fun k hk => (hP.all k).1 (by rw [List.flatten_cons]; exact hk)
  obtain ⟨nd1, nd2, nd3⟩ := List.nodup_append.1 hnd
  have hxR : x ∉ R.flatten := fun hh => nd3 x (by simp) x hh rfl
  have haN : ∀ k, k ∈ (P ++ [x]) ++ R.flatten → k ≠ a ∧ k ≠ b := fun k hk => ⟨fun e => h.na (e ▸ hDall k hk), fun e => h.nb (e ▸ hDall k hk)⟩
  have hcP := cyc_to (hP.cyc (P ++ [x]) (by simp)) 0
  obtain ⟨k1, k2⟩ := lnk_split hcP
  have hfx : f x = (P ++ [x]).headD 0 := k2.1
  have hxP : x ∉ P := by
    intro hh
    have := (List.nodup_append.1 nd1).2.2 x hh x (by simp)
    exact this rfl
  by_cases hyP : y ∈ P
  · obtain ⟨Q1, Q2, rfl⟩ := List.append_of_mem hyP
    refine ⟨(Q1 ++ [y, b]) :: (Q2 ++ [x, a]) :: R, ?_, Or.inl ⟨smF t' (Q1 ++ [y, b]), smF t' (Q2 ++ [x, a]), R.map (smF t), ?_, ?_⟩⟩
    all_goals
      have hyR : y ∉ R.flatten := fun hh => nd3 y (by simp) y hh rfl
      have hn1 := (List.nodup_append.1 nd1).1
      obtain ⟨n1, n2, n3⟩ := List.nodup_append.1 hn1
      have hyQ1 : y ∉ Q1 := fun hh => n3 y hh y (by simp) rfl
      have hyQ2 : y ∉ Q2 := (List.nodup_cons.1 n2).1
      have hxQ1 : x ∉ Q1 := fun hh => hxP (by simp [hh])
      have hxQ2 : x ∉ Q2 := fun hh => hxP (by simp [hh])
    · have pp : ((Q1 ++ [y, b]) :: (Q2 ++ [x, a]) :: R).flatten.Perm (a :: b :: ((Q1 ++ y :: Q2) ++ [x] ++ R.flatten)) := by
        rw [List.perm_iff_count]
        intro c
        simp only [List.flatten_cons, List.count_append, List.count_cons, List.count_nil]
        omega
      refine ⟨fun l hl => ?_, ?_, fun k => ?_⟩
      · obtain ⟨g1, g2⟩ := lnk_split k1
        obtain ⟨g3, g4⟩ : f y = Q2.headD x ∧ Lnk f Q2 x := g2
        have kp : ∀ {Q : List Nat} {z : Nat}, (∀ k ∈ Q, k ∈ Q1 ++ y :: Q2 ++ [x] ++ R.flatten) → x ∉ Q → y ∉ Q → Lnk f Q z → Lnk f' Q z := fun hQ h1 h2 hl => lnk_congr (fun k hk => h.keep k (hDall k (hQ k hk)) (fun e => h1 (e ▸ hk)) (fun e => h2 (e ▸ hk))) hl
        rcases List.mem_cons.1 hl with rfl | hl
        · refine cyc_of (by simp) (z := 0) (lnk_append (kp (fun k hk => by simp [hk]) hxQ1 hyQ1 g1) ⟨h.fy, ?_, trivial⟩)
          rw [h.fb, hfx]
          cases Q1 <;> rfl
        · rcases List.mem_cons.1 hl with rfl | hl
          · refine cyc_of (by simp) (z := 0) (lnk_append (kp (fun k hk => by simp [hk]) hxQ2 hyQ2 g4) ⟨h.fx, ?_, trivial⟩)
            rw [h.fa, g3]
            cases Q2 <;> rfl
          · exact keep_cyc h.keep (hP.cyc l (by simp [hl])) (fun k hk => hDall k (by simp only [List.mem_append]; exact Or.inr (List.mem_flatten.2 ⟨l, hl, hk⟩))) (fun e => hxR (List.mem_flatten.2 ⟨l, hl, e⟩)) (fun e => hyR (List.mem_flatten.2 ⟨l, hl, e⟩))
      · rw [pp.nodup_iff, List.nodup_cons, List.nodup_cons]
        refine ⟨fun hh => ?_, fun hh => (haN b hh).2 rfl, hnd⟩
        rcases List.mem_cons.1 hh with e | hh
        · exact h.ab e
        · exact (haN a hh).1 rfl
      · have := hP.all k
        rw [List.flatten_cons] at this
        rw [pp.mem_iff, List.mem_cons, List.mem_cons, ← this]
        exact or3
    · have e1 := sums_keep h.tk (fun k hk => hDall k (by simp only [List.mem_append]; exact Or.inr hk)) hxR hyR
      simp only [List.map_cons]
      rw [e1]
    · refine hs.trans ?_
      have e2 := keep_sum h.tk (l := Q1) (fun k hk => hDall k (by simp [hk])) hxQ1 hyQ1
      have e3 := keep_sum h.tk (l := Q2) (fun k hk => hDall k (by simp [hk])) hxQ2 hyQ2
      have e4 : smF t (Q1 ++ y :: Q2 ++ [x]) = smF t' (Q1 ++ [y, b]) + smF t' (Q2 ++ [x, a]) - 4 := by
        simp only [sm_append, smF, e2, e3]
        have := h.tx
        have := h.ty
        omega
      rw [List.map_cons, e4]
  · have hyD : y ∈ R.flatten := by
      have := (hP.all y).2 h.dy
      rw [List.flatten_cons, List.mem_append, List.mem_append] at this
      rcases this with (h1 | h1) | h1
      · exact absurd h1 hyP
      · exact absurd (List.mem_singleton.1 h1).symm h.ne
      · exact h1
    obtain ⟨m2, hm2, hym⟩ := List.mem_flatten.1 hyD
    have hR : Dec f (fun k => k ∈ R.flatten) R := ⟨fun l hl => hP.cyc l (by simp [hl]), nd2, fun k => Iff.rfl⟩
    obtain ⟨Q, hQ, -⟩ := hR.end_ hm2 hym
    have hs2 := hR.sums t hQ
    generalize R.erase m2 = S at hQ hs2
    have hQnd := hQ.nd
    rw [List.flatten_cons] at hQnd
    obtain ⟨q1, q2, q3⟩ := List.nodup_append.1 hQnd
    have hQall : ∀ k, k ∈ R.flatten ↔ (k ∈ Q ∨ k = y) ∨ k ∈ S.flatten := fun k => by
      rw [← hQ.all k, List.flatten_cons, List.mem_append, List.mem_append, List.mem_singleton]
    have hyQ : y ∉ Q := fun hh => (List.nodup_append.1 q1).2.2 y hh y (by simp) rfl
    have hyS : y ∉ S.flatten := fun hh => q3 y (by simp) y hh rfl
    have hxQ : x ∉ Q := fun hh => hxR ((hQall x).2 (Or.inl (Or.inl hh)))
    have hxS : x ∉ S.flatten := fun hh => hxR ((hQall x).2 (Or.inr hh))
    have inD : ∀ k, k ∈ R.flatten → D k := fun k hk => hDall k (by simp only [List.mem_append]; exact Or.inr hk)
    have hcQ := cyc_to (hQ.cyc (Q ++ [y]) (by simp)) 0
    obtain ⟨c1, c2⟩ := lnk_split hcQ
    have hfy : f y = (Q ++ [y]).headD 0 := c2.1
    have pp : (((P ++ [x, a]) ++ (Q ++ [y, b])) :: S).flatten.Perm (a :: b :: (P ++ [x] ++ ((Q ++ [y]) ++ S.flatten))) := by
      rw [List.perm_iff_count]
      intro c
      simp only [List.flatten_cons, List.count_append, List.count_cons, List.count_nil]
      omega
    have pR : ((Q ++ [y]) ++ S.flatten).Perm R.flatten := by
      rw [List.perm_ext_iff_of_nodup hQnd nd2]
      intro k
      rw [hQall k, List.mem_append, List.mem_append, List.mem_singleton]
    have pn : (P ++ [x] ++ ((Q ++ [y]) ++ S.flatten)).Perm (P ++ [x] ++ R.flatten) := pR.append_left _
    refine ⟨((P ++ [x, a]) ++ (Q ++ [y, b])) :: S, ⟨fun l hl => ?_, ?_, fun k => ?_⟩, Or.inr ⟨smF t (P ++ [x]), smF t (Q ++ [y]), S.map (smF t), ?_, ?_⟩⟩
    · rcases List.mem_cons.1 hl with rfl | hl
      · have p1 : Lnk f' P x := lnk_congr (fun k hk => h.keep k (hDall k (by simp [hk])) (fun e => hxP (e ▸ hk)) (fun e => hyP (e ▸ hk))) k1
        have p2 : Lnk f' Q y := lnk_congr (fun k hk => h.keep k (inD k ((hQall k).2 (Or.inl (Or.inl hk)))) (fun e => hxQ (e ▸ hk)) (fun e => hyQ (e ▸ hk))) c1
        refine cyc_of (by simp) (z := 0) (lnk_append (lnk_append p1 ⟨h.fx, ?_, trivial⟩) (lnk_append p2 ⟨h.fy, ?_, trivial⟩))
        · rw [h.fa, hfy]
          cases Q <;> rfl
        · rw [h.fb, hfx]
          cases P <;> rfl
      · exact keep_cyc h.keep (hQ.cyc l (by simp [hl])) (fun k hk => inD k ((hQall k).2 (Or.inr (List.mem_flatten.2 ⟨l, hl, hk⟩)))) (fun e => hxS (List.mem_flatten.2 ⟨l, hl, e⟩)) (fun e => hyS (List.mem_flatten.2 ⟨l, hl, e⟩))
    · rw [pp.nodup_iff, List.nodup_cons, List.nodup_cons]
      refine ⟨fun hh => ?_, fun hh => (haN b (pn.mem_iff.1 hh)).2 rfl, pn.nodup_iff.2 hnd⟩
      rcases List.mem_cons.1 hh with e | hh
      · exact h.ab e
      · exact (haN a (pn.mem_iff.1 hh)).1 rfl
    · have := hP.all k
      rw [List.flatten_cons, ← pn.mem_iff] at this
      rw [pp.mem_iff, List.mem_cons, List.mem_cons, ← this]
      exact or3
    · refine hs.trans ?_
      rw [List.map_cons]
      exact (hs2.trans (by rw [List.map_cons])).cons _
    · have e1 := sums_keep h.tk (R := S) (fun k hk => inD k ((hQall k).2 (Or.inr hk))) hxS hyS
      have e2 := keep_sum h.tk (l := P) (fun k hk => hDall k (by simp [hk])) hxP hyP
      have e3 := keep_sum h.tk (l := Q) (fun k hk => inD k ((hQall k).2 (Or.inl (Or.inl hk)))) hxQ hyQ
      have e4 : smF t' ((P ++ [x, a]) ++ (Q ++ [y, b])) = smF t (P ++ [x]) + smF t (Q ++ [y]) + 4 := by
        simp only [sm_append, smF, e2, e3]
        have := h.tx
        have := h.ty
        omega
      rw [List.map_cons, e1, e4]
/-- Two darts more, there and back, at one cell that had some. -/
structure One (f f' : Nat → Nat) (t t' : Nat → Int) (D : Nat → Prop) (a b x : Nat) : Prop where
  dx : D x
  na : ¬ D a
  nb : ¬ D b
  ab : a ≠ b
  fx : f' x = a
  fa : f' a = b
  fb : f' b = f x
  keep : ∀ k, D k → k ≠ x → f' k = f k
  tx : t' x + t' a + t' b = t x
  tk : ∀ k, D k → k ≠ x → t' k = t k
theorem One.cut (h : One f f' t t' D a b x) (hA : Dec f D A) : ∃ B, Dec f' (fun k => D k ∨ k = a ∨ k = b) B ∧ (B.map (smF t')).Perm (A.map (smF t)) := by
  obtain ⟨m, hm, hxm⟩ := List.mem_flatten.1 ((hA.all x).2 h.dx)
  obtain ⟨P, hP, pm⟩ := hA.end_ hm hxm
  have hs := hA.sums t hP
  generalize A.erase m = R at hP hs
  have hnd := hP.nd
  rw [List.flatten_cons] at hnd
  have hDall : ∀ k, k ∈ (P ++ [x]) ++ R.flatten → D k := fun k hk => (hP.all k).1 (by rw [List.flatten_cons]; exact hk)
  obtain ⟨nd1, nd2, nd3⟩ := List.nodup_append.1 hnd
  have hxR : x ∉ R.flatten := fun hh => nd3 x (by simp) x hh rfl
  have haN : ∀ k, k ∈ (P ++ [x]) ++ R.flatten → k ≠ a ∧ k ≠ b := fun k hk => ⟨fun e => h.na (e ▸ hDall k hk), fun e => h.nb (e ▸ hDall k hk)⟩
  have hcP := cyc_to (hP.cyc (P ++ [x]) (by simp)) 0
  obtain ⟨k1, k2⟩ := lnk_split hcP
  have hfx : f x = (P ++ [x]).headD 0 := k2.1
  have hxP : x ∉ P := by
    intro hh
    have := (List.nodup_append.1 nd1).2.2 x hh x (by simp)
    exact this rfl
  have kf : ∀ k, D k → k ≠ x → k ≠ x → f' k = f k := fun k hk e _ => h.keep k hk e
  have kt : ∀ k, D k → k ≠ x → k ≠ x → t' k = t k := fun k hk e _ => h.tk k hk e
  have pp : ((P ++ [x, a, b]) :: R).flatten.Perm (a :: b :: (P ++ [x] ++ R.flatten)) := by
    rw [List.perm_iff_count]
    intro c
    simp only [List.flatten_cons, List.count_append, List.count_cons, List.count_nil]
    omega
  refine ⟨(P ++ [x, a, b]) :: R, ⟨fun l hl => ?_, ?_, fun k => ?_⟩, ?_⟩
  · rcases List.mem_cons.1 hl with rfl | hl
    · have p1 : Lnk f' P x := lnk_congr (fun k hk => h.keep k (hDall k (by simp [hk])) (fun e => hxP (e ▸ hk))) k1
      refine cyc_of (by simp) (z := 0) (lnk_append p1 ⟨h.fx, h.fa, ?_, trivial⟩)
      rw [h.fb, hfx]
      cases P <;> rfl
    · exact keep_cyc kf (hP.cyc l (by simp [hl])) (fun k hk => hDall k (by simp only [List.mem_append]; exact Or.inr (List.mem_flatten.2 ⟨l, hl, hk⟩))) (fun e => hxR (List.mem_flatten.2 ⟨l, hl, e⟩)) (fun e => hxR (List.mem_flatten.2 ⟨l, hl, e⟩))
  · rw [pp.nodup_iff, List.nodup_cons, List.nodup_cons]
    refine ⟨fun hh => ?_, fun hh => (haN b hh).2 rfl, hnd⟩
    rcases List.mem_cons.1 hh with e | hh
    · exact h.ab e
    · exact (haN a hh).1 rfl
  · have := hP.all k
    rw [List.flatten_cons] at this
    rw [pp.mem_iff, List.mem_cons, List.mem_cons, ← this]
    exact or3
  · have e1 := sums_keep kt (R := R) (fun k hk => hDall k (by simp only [List.mem_append]; exact Or.inr hk)) hxR hxR
    have e2 := keep_sum kt (l := P) (fun k hk => hDall k (by simp [hk])) hxP hxP
    have e4 : smF t' (P ++ [x, a, b]) = smF t (P ++ [x]) := by
      simp only [sm_append, smF, e2]
      have := h.tx
      omega
    rw [List.map_cons, e1, e4]
    exact hs.symm
end
end Go.Proofs.YtkakeakdgidigaaDoor.VdM

namespace Go.Proofs.YtkakeakdgidigaaDoor.VdM
open Go.Proofs.YtkakeakdgidigaaDoor.GrM Go.Proofs.YtkakeakdgidigaaDoor.FcM

/-! One cell's sides. -/
def wayC (c : Nat → Bool) (e : Nat) : Nat := if c ((e + 1) % 4) = true then 0 else if c (e % 4) = true then 1 else if c ((e + 3) % 4) = true then 2 else 3
def dirC (c : Nat → Bool) (e : Nat) : Nat := (e + ordI (wayC c e)) % 4
def four (b0 b1 b2 b3 : Bool) (s : Nat) : Bool := if s = 0 then b0 else if s = 1 then b1 else if s = 2 then b2 else b3
def plus (c : Nat → Bool) (d : Nat) (s : Nat) : Bool := if s = d then true else c s
theorem wayC_congr {c c' : Nat → Bool} (h : ∀ s, s < 4 → c s = c' s) (e : Nat) : wayC c e = wayC c' e := by
  unfold wayC
  rw [h _ (Nat.mod_lt _ (by decide)), h _ (Nat.mod_lt _ (by decide)), h _ (Nat.mod_lt _ (by decide))]
theorem dirC_congr {c c' : Nat → Bool} (h : ∀ s, s < 4 → c s = c' s) (e : Nat) : dirC c e = dirC c' e := by
  unfold dirC
  rw [wayC_congr h]
theorem four_is (c : Nat → Bool) : ∀ s, s < 4 → c s = four (c 0) (c 1) (c 2) (c 3) s := by
  intro s hs
  have : s = 0 ∨ s = 1 ∨ s = 2 ∨ s = 3 := by omega
  rcases this with rfl | rfl | rfl | rfl <;> rfl
theorem side_more : ∀ b0 b1 b2 b3 : Bool, ∀ d : Fin 4, four b0 b1 b2 b3 d.1 = false → (b0 || b1 || b2 || b3) = true →
    ∃ e : Fin 4, four b0 b1 b2 b3 (opp e.1) = true ∧ dirC (plus (four b0 b1 b2 b3) d.1) e.1 = d.1 ∧ dirC (plus (four b0 b1 b2 b3) d.1) (opp d.1) = dirC (four b0 b1 b2 b3) e.1 ∧
      wayC (plus (four b0 b1 b2 b3) d.1) e.1 + wayC (plus (four b0 b1 b2 b3) d.1) (opp d.1) + 1 = wayC (four b0 b1 b2 b3) e.1 ∧
      ∀ g : Fin 4, four b0 b1 b2 b3 (opp g.1) = true → g ≠ e → wayC (plus (four b0 b1 b2 b3) d.1) g.1 = wayC (four b0 b1 b2 b3) g.1 := by decide
theorem side_first : ∀ b0 b1 b2 b3 : Bool, ∀ d : Fin 4, (b0 || b1 || b2 || b3) = false → wayC (plus (four b0 b1 b2 b3) d.1) (opp d.1) = 3 := by decide
def sd (L : List Int) (v s : Nat) : Bool := decide (nxG L v s ≠ -1)
theorem way_c (L : List Int) (v e : Nat) : wayI L v e = wayC (sd L v) e := by
  unfold wayI wayC sd
  simp only [decide_eq_true_eq]
theorem beh_c (L : List Int) (k : Nat) : behK L k = 4 * headK L k + dirC (sd L (headK L k)) (k % 4) := by
  unfold behK dirK wayK dirC
  rw [way_c]
theorem trn_c (L : List Int) (k : Nat) : trnK L k = 1 - (wayC (sd L (headK L k)) (k % 4) : Int) := by
  unfold trnK wayK
  rw [way_c]
section
variable {L M : List Int} {n u s : Nat}
/-- Where one side more is laid at a cell that has some. -/
theorem loc (hg : GoodG L n) (hu : u < n) (hs : s < 4) (h1 : nxG L u s = -1) (h2 : nxG M u s ≠ -1) (h3 : ∀ e, e < 4 → e ≠ s → nxG M u e = nxG L u e) (h4 : ∀ k, isK L n k → nxK M k = nxK L k) (h5 : ∃ e, e < 4 ∧ nxG L u e ≠ -1) :
    ∃ x, isK L n x ∧ headK L x = u ∧ behK M x = 4 * u + s ∧ (∀ b, headK M b = u → b % 4 = opp s → behK M b = behK L x ∧ trnK M x + trnK M b = trnK L x + 2) ∧
      ∀ k, isK L n k → headK L k = u → k ≠ x → behK M k = behK L k ∧ trnK M k = trnK L k := by
  obtain ⟨c, hc⟩ : ∃ c, sd L u = c := ⟨_, rfl⟩
  have sM : ∀ e, e < 4 → sd M u e = plus (four (c 0) (c 1) (c 2) (c 3)) s e := fun e he => by
    unfold plus
    by_cases q : e = s
    · rw [if_pos q, q]; unfold sd; exact decide_eq_true h2
    · rw [if_neg q, ← four_is c e he, ← hc]; unfold sd; rw [h3 e he q]
  have sL : ∀ e, e < 4 → sd L u e = four (c 0) (c 1) (c 2) (c 3) e := fun e he => by rw [hc]; exact four_is c e he
  have c1 : four (c 0) (c 1) (c 2) (c 3) s = false := by rw [← sL s hs]; unfold sd; rw [h1]; rfl
  have c2 : (c 0 || c 1 || c 2 || c 3) = true := by
    obtain ⟨e, he, hx⟩ := h5
    have q : c e = true := by rw [← hc]; unfold sd; exact decide_eq_true hx
    have : e = 0 ∨ e = 1 ∨ e = 2 ∨ e = 3 := by omega
    rcases this with rfl | rfl | rfl | rfl <;> simp [q]
  obtain ⟨e, a1, a2, a3, a4, a5⟩ := side_more (c 0) (c 1) (c 2) (c 3) ⟨s, hs⟩ c1 c2
  simp only at a2 a3 a4 a5
  have he := e.2
  have ho := opp_lt e.1
  have hx : nxG L u (opp e.1) ≠ -1 := by
    have := sL _ ho
    rw [a1] at this
    unfold sd at this
    simpa using this
  obtain ⟨z, hz, hzn, hzb⟩ : ∃ z : Nat, nxG L u (opp e.1) = (z : Int) ∧ z < n ∧ nxG L z e.1 = (u : Int) := by
    rcases hg.side hu ho with q | ⟨q1, q2, _, q4, _⟩
    · exact absurd q.1 hx
    · refine ⟨(nxG L u (opp e.1)).toNat, by omega, by omega, ?_⟩
      rw [opp_opp he] at q4
      exact q4
  have hd : isK L n (4 * z + e.1) := ⟨by omega, by unfold nxK; rw [show (4 * z + e.1) / 4 = z by omega, show (4 * z + e.1) % 4 = e.1 by omega, hzb]; omega⟩
  have hh : headK L (4 * z + e.1) = u := by unfold headK nxK; rw [show (4 * z + e.1) / 4 = z by omega, show (4 * z + e.1) % 4 = e.1 by omega, hzb]; rfl
  have hhM : headK M (4 * z + e.1) = u := by unfold headK; rw [h4 _ hd]; exact hh
  have e4 : (4 * z + e.1) % 4 = e.1 := by omega
  have dM := dirC_congr sM
  have wM := wayC_congr sM
  have dL := dirC_congr sL
  have wL := wayC_congr sL
  refine ⟨4 * z + e.1, hd, hh, ?_, fun b hb hbs => ?_, fun k hk hku hne => ?_⟩
  · rw [beh_c, hhM, e4, dM, a2]
  · rw [beh_c, beh_c L, hb, hh, hbs, e4, dM, dL, a3, trn_c, trn_c, trn_c L, hhM, hb, hh, e4, hbs, wM, wM, wL]
    refine ⟨rfl, ?_⟩
    omega
  · have hkM : headK M k = u := by unfold headK; rw [h4 _ hk]; exact hku
    obtain ⟨g1, _, g3⟩ := hk.good hg
    have hk4 : k % 4 < 4 := Nat.mod_lt _ (by decide)
    rw [hku] at g3
    have hkc : four (c 0) (c 1) (c 2) (c 3) (opp (k % 4)) = true := by
      rw [← sL _ (opp_lt _)]
      unfold sd
      rw [g3]
      exact decide_eq_true (by omega)
    have hke : (⟨k % 4, hk4⟩ : Fin 4) ≠ e := by
      intro q
      have q2 : k % 4 = e.1 := congrArg Fin.val q
      rw [q2, hz] at g3
      exact hne (by omega)
    have := a5 ⟨k % 4, hk4⟩ hkc hke
    simp only at this
    rw [beh_c, beh_c L, trn_c, trn_c L, hkM, hku, dM, dL, wM, wL]
    unfold dirC
    rw [this]
    exact ⟨rfl, rfl⟩
/-- .. at a cell that has none. -/
theorem loc0 (hs : s < 4) (h2 : nxG M u s ≠ -1) (h3 : ∀ e, e < 4 → e ≠ s → nxG M u e = -1) {b : Nat} (hb : headK M b = u) (hbs : b % 4 = opp s) : behK M b = 4 * u + s ∧ trnK M b = -2 := by
  have sM : ∀ e, e < 4 → sd M u e = plus (four false false false false) s e := fun e he => by
    unfold plus
    by_cases q : e = s
    · rw [if_pos q, q]; unfold sd; exact decide_eq_true h2
    · rw [if_neg q]
      unfold sd
      rw [h3 e he q]
      unfold four
      simp
  have := side_first false false false false ⟨s, hs⟩ rfl
  simp only at this
  rw [beh_c, trn_c, hb, hbs, dirC_congr sM, wayC_congr sM]
  unfold dirC
  rw [this]
  refine ⟨?_, by omega⟩
  unfold opp ordI
  simp only [show ¬ (3 = 0) by decide, show ¬ (3 = 1) by decide, show ¬ (3 = 2) by decide, if_false]
  omega
end
def rotsK (L : List Int) (n : Nat) : List Int := (facesK L n).map (smF (trnK L))
theorem dec_faces {L : List Int} {n : Nat} (hg : GoodG L n) : Dec (behK L) (isK L n) (facesK L n) := by
  have h := faces_is hg
  exact ⟨h.cyc, h.met.1, fun k => ⟨fun hk => h.met.2 k hk, fun hk => h.all k hk.1 hk.2⟩⟩
theorem Dec.imp {f : Nat → Nat} {D E : Nat → Prop} {A : List (List Nat)} (h : Dec f D A) (he : ∀ k, D k ↔ E k) : Dec f E A := ⟨h.cyc, h.nd, fun k => (h.all k).trans (he k)⟩
def Alone (L : List Int) (v : Nat) : Prop := ∀ e, e < 4 → nxG L v e = -1
theorem not_alone {L : List Int} {v : Nat} (h : ¬ Alone L v) : ∃ e, e < 4 ∧ nxG L v e ≠ -1 := by
  apply Classical.byContradiction
  intro hn
  exact h (fun e he => Decidable.byContradiction fun hx => hn ⟨e, he, hx⟩)
section
variable {L : List Int} {n v d w : Nat} {o : Int}
theorem join_dart (hl : L.length = n * 8) (hv : v < n) (hw : w < n) (hd : d < 4) (k : Nat) : nxK (joinG L v d w o) k = if k = 4 * w + opp d then (v : Int) else if k = 4 * v + d then (w : Int) else nxK L k := by
  have := opp_lt d
  unfold nxK
  rw [nx_join o hl hv hw hd (by omega)]
  by_cases c1 : k = 4 * w + opp d
  · rw [if_pos (by omega), if_pos c1]
  · rw [if_neg (by omega), if_neg c1]
    by_cases c2 : k = 4 * v + d
    · rw [if_pos (by omega), if_pos c2]
    · rw [if_neg (by omega), if_neg c2]
/-- An edge more, at one cell at least that has some. -/
theorem join_rots (hl : L.length = n * 8) (hg : GoodG L n) (hv : v < n) (hw : w < n) (hne : v ≠ w) (hd : d < 4) (ho : -2 ≤ o) (h1 : nxG L v d = -1) (h2 : nxG L w (opp d) = -1) (ha : ¬ (Alone L v ∧ Alone L w)) :
    (rotsK (joinG L v d w o) n).Perm (rotsK L n) ∨
    (∃ r1 r2 R, (rotsK (joinG L v d w o) n).Perm (r1 :: r2 :: R) ∧ (rotsK L n).Perm ((r1 + r2 - 4) :: R)) ∨
    (∃ r1 r2 R, (rotsK L n).Perm (r1 :: r2 :: R) ∧ (rotsK (joinG L v d w o) n).Perm ((r1 + r2 + 4) :: R)) := by
  have hM := join_good hl hg hv hw hne hd ho h1 h2
  have od := opp_lt d
  have jd := join_dart (o := o) hl hv hw hd
  have nj : ∀ a e, e < 4 → nxG (joinG L v d w o) a e = if a = w ∧ e = opp d then (v : Int) else if a = v ∧ e = d then (w : Int) else nxG L a e := fun a e he => nx_join o hl hv hw hd he
  unfold rotsK
  have DL := dec_faces hg
  have DM := dec_faces hM
  generalize joinG L v d w o = M at hM jd nj DM
  have na : ¬ isK L n (4 * v + d) := fun h => h.2 (by unfold nxK; rw [show (4 * v + d) / 4 = v by omega, show (4 * v + d) % 4 = d by omega]; exact h1)
  have nb : ¬ isK L n (4 * w + opp d) := fun h => h.2 (by unfold nxK; rw [show (4 * w + opp d) / 4 = w by omega, show (4 * w + opp d) % 4 = opp d by omega]; exact h2)
  have ab : 4 * v + d ≠ 4 * w + opp d := by omega
  have hk : ∀ k, isK L n k → nxK M k = nxK L k := fun k h => by
    have k1 : k ≠ 4 * w + opp d := fun e => nb (by rw [← e]; exact h)
    have k2 : k ≠ 4 * v + d := fun e => na (by rw [← e]; exact h)
    rw [jd, if_neg k1, if_neg k2]
  have hkh : ∀ k, isK L n k → headK M k = headK L k := fun k h => by unfold headK; rw [hk k h]
  have da : nxK M (4 * v + d) = (w : Int) := by rw [jd, if_neg ab, if_pos rfl]
  have db : nxK M (4 * w + opp d) = (v : Int) := by rw [jd, if_pos rfl]
  have hda : headK M (4 * v + d) = w := by unfold headK; rw [da]; rfl
  have hdb : headK M (4 * w + opp d) = v := by unfold headK; rw [db]; rfl
  have hDM : ∀ k, isK M n k ↔ (isK L n k ∨ k = 4 * v + d ∨ k = 4 * w + opp d) := fun k => by
    unfold isK
    rw [jd]
    constructor
    · rintro ⟨g1, g2⟩
      by_cases c1 : k = 4 * w + opp d
      · exact Or.inr (Or.inr c1)
      · by_cases c2 : k = 4 * v + d
        · exact Or.inr (Or.inl c2)
        · rw [if_neg c1, if_neg c2] at g2; exact Or.inl ⟨g1, g2⟩
    · rintro (⟨g1, g2⟩ | rfl | rfl)
      · refine ⟨g1, ?_⟩
        split
        · omega
        · split
          · omega
          · exact g2
      · rw [if_neg ab, if_pos rfl]; omega
      · rw [if_pos rfl]; omega
  have DM' := DM.imp hDM
  have mod1 : (4 * v + d) % 4 = opp (opp d) := by rw [opp_opp hd]; omega
  have mod2 : (4 * w + opp d) % 4 = opp d := by omega
  have v1 : nxG M v d ≠ -1 := by rw [nj v d hd, if_neg (by omega), if_pos ⟨rfl, rfl⟩]; omega
  have v2 : ∀ e, e < 4 → e ≠ d → nxG M v e = nxG L v e := fun e he hx => by rw [nj v e he, if_neg (by omega), if_neg (by omega)]
  have w1 : nxG M w (opp d) ≠ -1 := by rw [nj w _ od, if_pos ⟨rfl, rfl⟩]; omega
  have w2 : ∀ e, e < 4 → e ≠ opp d → nxG M w e = nxG L w e := fun e he hx => by rw [nj w e he, if_neg (by omega), if_neg (by omega)]
  have oth : ∀ k, isK L n k → headK L k ≠ v → headK L k ≠ w → behK M k = behK L k ∧ trnK M k = trnK L k := fun k h c1 c2 => by
    have sM : ∀ e, e < 4 → sd M (headK L k) e = sd L (headK L k) e := fun e he => by
      unfold sd
      rw [nj _ e he, if_neg (by omega), if_neg (by omega)]
    rw [beh_c, beh_c L, trn_c, trn_c L, hkh k h, dirC_congr sM, wayC_congr sM]
    exact ⟨rfl, rfl⟩
  by_cases av : Alone L v
  · have aw : ¬ Alone L w := fun h => ha ⟨av, h⟩
    obtain ⟨y, y1, y2, y3, y4, y5⟩ := loc hg hw od h2 w1 w2 hk (not_alone aw)
    obtain ⟨y6, y7⟩ := y4 _ hda mod1
    obtain ⟨z1, z2⟩ := loc0 hd v1 (fun e he hx => (v2 e he hx).trans (av e he)) hdb mod2
    have hnv : ∀ k, isK L n k → headK L k ≠ v := fun k h e => by
      obtain ⟨_, _, g3⟩ := h.good hg
      rw [e, av _ (opp_lt _)] at g3
      omega
    have S : One (behK L) (behK M) (trnK L) (trnK M) (isK L n) (4 * w + opp d) (4 * v + d) y :=
      { dx := y1, na := nb, nb := na, ab := fun e => ab e.symm, fx := y3, fa := z1, fb := y6
        keep := fun k h c => by
          by_cases q : headK L k = w
          · exact (y5 k h q c).1
          · exact (oth k h (hnv k h) q).1
        tx := by rw [z2]; omega
        tk := fun k h c => by
          by_cases q : headK L k = w
          · exact (y5 k h q c).2
          · exact (oth k h (hnv k h) q).2 }
    obtain ⟨B, hB, hs⟩ := S.cut DL
    refine Or.inl ((Dec.sums (trnK M) DM' (hB.imp (fun k => ⟨fun q => q.elim Or.inl (fun q => q.elim (fun e => Or.inr (Or.inr e)) (fun e => Or.inr (Or.inl e))), fun q => q.elim Or.inl (fun q => q.elim (fun e => Or.inr (Or.inr e)) (fun e => Or.inr (Or.inl e)))⟩))).trans hs)
  · obtain ⟨x, x1, x2, x3, x4, x5⟩ := loc hg hv hd h1 v1 v2 hk (not_alone av)
    obtain ⟨x6, x7⟩ := x4 _ hdb mod2
    by_cases aw : Alone L w
    · obtain ⟨z1, z2⟩ := loc0 od w1 (fun e he hx => (w2 e he hx).trans (aw e he)) hda mod1
      have hnw : ∀ k, isK L n k → headK L k ≠ w := fun k h e => by
        obtain ⟨_, _, g3⟩ := h.good hg
        rw [e, aw _ (opp_lt _)] at g3
        omega
      have S : One (behK L) (behK M) (trnK L) (trnK M) (isK L n) (4 * v + d) (4 * w + opp d) x :=
        { dx := x1, na := na, nb := nb, ab := ab, fx := x3, fa := z1, fb := x6
          keep := fun k h c => by
            by_cases q : headK L k = v
            · exact (x5 k h q c).1
            · exact (oth k h q (hnw k h)).1
          tx := by rw [z2]; omega
          tk := fun k h c => by
            by_cases q : headK L k = v
            · exact (x5 k h q c).2
            · exact (oth k h q (hnw k h)).2 }
      obtain ⟨B, hB, hs⟩ := S.cut DL
      exact Or.inl ((Dec.sums (trnK M) DM' hB).trans hs)
    · obtain ⟨y, y1, y2, y3, y4, y5⟩ := loc hg hw od h2 w1 w2 hk (not_alone aw)
      obtain ⟨y6, y7⟩ := y4 _ hda mod1
      have S : Two (behK L) (behK M) (trnK L) (trnK M) (isK L n) (4 * v + d) (4 * w + opp d) x y :=
        { dx := x1, dy := y1, ne := fun e => hne (by rw [← x2, ← y2, e]), na := na, nb := nb, ab := ab, fx := x3, fa := y6, fy := y3, fb := x6
          keep := fun k h c1 c2 => by
            by_cases q : headK L k = v
            · exact (x5 k h q c1).1
            · by_cases q2 : headK L k = w
              · exact (y5 k h q2 c2).1
              · exact (oth k h q q2).1
          tx := x7
          ty := y7
          tk := fun k h c1 c2 => by
            by_cases q : headK L k = v
            · exact (x5 k h q c1).2
            · by_cases q2 : headK L k = w
              · exact (y5 k h q2 c2).2
              · exact (oth k h q q2).2 }
      obtain ⟨B, hB, hs⟩ := S.cut DL
      have pB := Dec.sums (trnK M) DM' hB
      rcases hs with ⟨r1, r2, R, a1, a2⟩ | ⟨r1, r2, R, a1, a2⟩
      · exact Or.inr (Or.inl ⟨r1, r2, R, pB.trans a1, a2⟩)
      · exact Or.inr (Or.inr ⟨r1, r2, R, a1, pB.trans a2⟩)
end
end Go.Proofs.YtkakeakdgidigaaDoor.VdM

namespace Go.Proofs.YtkakeakdgidigaaDoor.VdM
open Go.Proofs.YtkakeakdgidigaaDoor.GrM Go.Proofs.YtkakeakdgidigaaDoor.FcM Go.Proofs.YtkakeakdgidigaaDoor.JoM

/-! Rotations. -/
def zS : List Int → Int
  | [] => 0
  | r :: R => (4 - r) + zS R
theorem zS_perm {A B : List Int} (h : A.Perm B) : zS A = zS B := by
  induction h with
  | nil => rfl
  | cons a _ ih => simp only [zS, ih]
  | swap a b l => simp only [zS]; omega
  | trans _ _ h1 h2 => exact h1.trans h2
/-- One of them is -4, all others are 4. -/
def goodR (R : List Int) : Prop := R.count (-4) = 1 ∧ ∀ r ∈ R, r = 4 ∨ r = -4
theorem goodR_perm {A B : List Int} (h : A.Perm B) (g : goodR A) : goodR B := ⟨(h.count_eq (-4)).symm.trans g.1, fun r hr => g.2 r (h.mem_iff.2 hr)⟩
theorem goodR_join {r1 r2 : Int} {R : List Int} (h : goodR (r1 :: r2 :: R)) : goodR ((r1 + r2 - 4) :: R) := by
  obtain ⟨h1, h2⟩ := h
  have a1 := h2 r1 (by simp)
  have a2 := h2 r2 (by simp)
  have a3 : ∀ r ∈ R, r = 4 ∨ r = -4 := fun r hr => h2 r (by simp [hr])
  rw [List.count_cons, List.count_cons] at h1
  refine ⟨?_, fun r hr => ?_⟩
  · rw [List.count_cons]
    rcases a1 with rfl | rfl <;> rcases a2 with rfl | rfl <;> simp at h1 ⊢ <;> omega
  · rcases List.mem_cons.1 hr with rfl | hr
    · rcases a1 with rfl | rfl <;> rcases a2 with rfl | rfl <;> simp at h1 ⊢
    · exact a3 r hr
/-! Edges laid one by one, each at a cell that has some. -/
inductive Grw (n : Nat) : List Int → List Int → Prop
  | refl (L : List Int) : Grw n L L
  | step {L M : List Int} {v d w : Nat} : Grw n L M → v < n → w < n → v ≠ w → d < 4 → nxG M v d = -1 → nxG M w (opp d) = -1 → ¬ (Alone M v ∧ Alone M w) → Grw n L (joinG M v d w 0)
theorem Grw.trans {n : Nat} {A B C : List Int} (h : Grw n A B) (g : Grw n B C) : Grw n A C := by
  induction g with
  | refl => exact h
  | step _ a b c d e f i ih => exact ih.step a b c d e f i
theorem Grw.good {n : Nat} {L M : List Int} (h : Grw n L M) (hl : L.length = n * 8) (hg : GoodG L n) : M.length = n * 8 ∧ GoodG M n ∧ zS (rotsK M n) ≤ zS (rotsK L n) := by
  induction h with
  | refl => exact ⟨hl, hg, Int.le_refl _⟩
  | step _ a b c d e f i ih =>
    obtain ⟨i1, i2, i3⟩ := ih
    refine ⟨by rw [join_len]; exact i1, join_good i1 i2 a b c d (by decide) e f, Int.le_trans ?_ i3⟩
    rcases join_rots (o := 0) i1 i2 a b c d (by decide) e f i with p | ⟨r1, r2, R, p, q⟩ | ⟨r1, r2, R, p, q⟩
    · rw [zS_perm p]; exact Int.le_refl _
    · rw [zS_perm p, zS_perm q]; simp only [zS]; omega
    · rw [zS_perm p, zS_perm q]; simp only [zS]; omega
/-- If no two faces were ever joined, what was good in the end was so all along. -/
theorem Grw.back {n : Nat} {L M : List Int} (h : Grw n L M) (hl : L.length = n * 8) (hg : GoodG L n) (hz : zS (rotsK M n) = zS (rotsK L n)) (hr : goodR (rotsK M n)) : goodR (rotsK L n) := by
  induction h with
  | refl => exact hr
  | step hh a b c d e f i ih =>
    obtain ⟨i1, i2, i3⟩ := hh.good hl hg
    rcases join_rots (o := 0) i1 i2 a b c d (by decide) e f i with p | ⟨r1, r2, R, p, q⟩ | ⟨r1, r2, R, p, q⟩
    · rw [zS_perm p] at hz
      exact ih hz (goodR_perm p hr)
    · refine ih ?_ (goodR_perm q.symm (goodR_join (goodR_perm p hr)))
      rw [← hz, zS_perm p, zS_perm q]; simp only [zS]; omega
    · exfalso
      have : zS _ = zS _ := hz
      rw [zS_perm q] at this
      rw [zS_perm p] at i3
      simp only [zS] at this i3
      omega
/-! Some of the edges. -/
def Sub (A B : List Int) (n : Nat) : Prop := ∀ v e, v < n → e < 4 → nxG A v e = -1 ∨ nxG A v e = nxG B v e
def Own0 (A : List Int) (n : Nat) : Prop := ∀ v e, v < n → e < 4 → owG A v e = 0
/-- All that have any hang together. -/
def Whl (B : List Int) (n : Nat) : Prop := ∀ a b, a < n → b < n → ¬ Alone B a → ¬ Alone B b → Con B a b
structure Pl (A : List Int) (n : Nat) : Prop where
  len : A.length = n * 8
  good : GoodG A n
  own : Own0 A n
def misB (A B : List Int) (k : Nat) : Bool := decide (nxK A k = -1) && decide (nxK B k ≠ -1)
theorem good_nat {A : List Int} {n u e : Nat} (h : GoodG A n) (hu : u < n) (he : e < 4) (hx : nxG A u e ≠ -1) : ∃ z : Nat, nxG A u e = (z : Int) ∧ z < n ∧ z ≠ u ∧ nxG A z (opp e) = (u : Int) := by
  rcases h.side hu he with q | ⟨q1, q2, q3, q4, _⟩
  · exact absurd q.1 hx
  · exact ⟨(nxG A u e).toNat, by omega, by omega, by omega, q4⟩
theorem Pl.more {A : List Int} {n u e z : Nat} (h : Pl A n) (hu : u < n) (hz : z < n) (hne : u ≠ z) (he : e < 4) (h1 : nxG A u e = -1) (h2 : nxG A z (opp e) = -1) : Pl (joinG A u e z 0) n :=
  ⟨by rw [join_len]; exact h.len, join_good h.len h.good hu hz hne he (by decide) h1 h2, fun v f hv hf => by
    rw [ow_join 0 h.len hu hz he hf]
    split
    · rfl
    · split
      · rfl
      · exact h.own v f hv hf⟩
theorem grow_to {n : Nat} {B : List Int} (hB : Pl B n) (hW : Whl B n) : ∀ (m : Nat) {A : List Int}, ((List.range (4 * n)).filter (misB A B)).length = m → Pl A n → Sub A B n → (∃ a, a < n ∧ ¬ Alone A a) → Grw n A B := by
  intro m
  induction m using Nat.strongRecOn with
  | _ m ih =>
    intro A hm hA hS hE
    by_cases hz : ∃ p e, p < n ∧ e < 4 ∧ nxG A p e = -1 ∧ nxG B p e ≠ -1
    · obtain ⟨p, e, hp, he, hp1, hp2⟩ := hz
      obtain ⟨u, f, z, hu, hf, hzn, hne, hx1, hx2, hal⟩ : ∃ u f z : Nat, u < n ∧ f < 4 ∧ z < n ∧ u ≠ z ∧ nxG A u f = -1 ∧ nxG B u f = (z : Int) ∧ ¬ (Alone A u ∧ Alone A z) := by
        by_cases hpa : Alone A p
        · obtain ⟨a, ha, haa⟩ := hE
          have haB : ¬ Alone B a := fun hb => haa (fun g hg => by
            rcases hS a g ha hg with q | q
            · exact q
            · rw [q]; exact hb g hg)
          obtain ⟨k, hk⟩ := hW a p ha hp haB (fun hb => hp2 (hb e he))
          have walk : ∀ {k a p : Nat}, Wy B k a p → a < n → ¬ Alone A a → Alone A p → ∃ u f z : Nat, u < n ∧ f < 4 ∧ z < n ∧ nxG B u f = (z : Int) ∧ ¬ Alone A u ∧ Alone A z := by
            intro k a p hk
            induction hk with
            | here => intro _ h1 h2; exact absurd h2 h1
            | @step k a u p g h1 hg hx ih2 =>
              intro ha haa hpa
              have hu := h1.lt hB.good ha
              by_cases hua : Alone A u
              · exact ih2 ha haa hua
              · exact ⟨u, g, p, hu, hg, (next_lt hB.good hu hg hx).1, hx, hua, hpa⟩
          obtain ⟨u, f, z, hu, hf, hz, hx, h1, h2⟩ := walk hk ha haa hpa
          refine ⟨u, f, z, hu, hf, hz, fun e => h1 (e ▸ h2), ?_, hx, fun q => h1 q.1⟩
          refine Decidable.byContradiction fun hn => ?_
          obtain ⟨y, y1, y2, y3, y4⟩ := good_nat hA.good hu hf hn
          have hyz : y = z := by
            rcases hS u f hu hf with q | q
            · exact absurd q hn
            · omega
          rw [hyz, h2 _ (opp_lt f)] at y4
          omega
        · obtain ⟨z, z1, z2, z3, _⟩ := good_nat hB.good hp he hp2
          exact ⟨p, e, z, hp, he, z2, fun q => z3 q.symm, hp1, z1, fun q => hpa q.1⟩
      have hb := (next_lt hB.good hu hf hx2).2
      have hx3 : nxG A z (opp f) = -1 := by
        refine Decidable.byContradiction fun hn => ?_
        obtain ⟨y, y1, y2, y3, y4⟩ := good_nat hA.good hzn (opp_lt f) hn
        rcases hS z (opp f) hzn (opp_lt f) with q | q
        · exact hn q
        · rw [q, hb] at y1
          obtain rfl : u = y := by omega
          rw [opp_opp hf, hx1] at y4
          omega
      have hA' := hA.more hu hzn hne hf hx1 hx3
      have nj : ∀ a g, g < 4 → nxG (joinG A u f z 0) a g = if a = z ∧ g = opp f then (u : Int) else if a = u ∧ g = f then (z : Int) else nxG A a g := fun a g hg => nx_join 0 hA.len hu hzn hf hg
      refine ((Grw.refl A).step hu hzn hne hf hx1 hx3 hal).trans (ih _ ?_ rfl hA' (fun a g ha hg => ?_) ⟨u, hu, fun q => ?_⟩)
      · rw [← hm]
        have imp : ∀ k, misB (joinG A u f z 0) B k = true → misB A B k = true := fun k hk => by
          unfold misB at hk ⊢
          rw [Bool.and_eq_true, decide_eq_true_eq, decide_eq_true_eq] at hk ⊢
          refine ⟨?_, hk.2⟩
          have h1 := hk.1
          unfold nxK at h1 ⊢
          rw [nj _ _ (Nat.mod_lt _ (by decide))] at h1
          split at h1
          · omega
          · split at h1
            · omega
            · exact h1
        have e1 : (List.range (4 * n)).filter (misB (joinG A u f z 0) B) = ((List.range (4 * n)).filter (misB A B)).filter (misB (joinG A u f z 0) B) := by
          rw [List.filter_filter]
          refine List.filter_congr fun k _ => ?_
          rw [Bool.eq_iff_iff, Bool.and_eq_true]
          exact ⟨fun h => ⟨h, imp k h⟩, fun h => h.1⟩
        rw [e1, List.length_filter_lt_length_iff_exists]
        refine ⟨4 * u + f, ?_, fun h2 => ?_⟩
        · rw [List.mem_filter, List.mem_range]
          refine ⟨by omega, ?_⟩
          unfold misB nxK
          rw [show (4 * u + f) / 4 = u by omega, show (4 * u + f) % 4 = f by omega, hx1, hx2, Bool.and_eq_true, decide_eq_true_eq, decide_eq_true_eq]
          exact ⟨rfl, by omega⟩
        · unfold misB nxK at h2
          rw [show (4 * u + f) / 4 = u by omega, show (4 * u + f) % 4 = f by omega, nj u f hf, if_neg (by omega), if_pos ⟨rfl, rfl⟩, Bool.and_eq_true, decide_eq_true_eq] at h2
          omega
      · rw [nj a g hg]
        by_cases c1 : a = z ∧ g = opp f
        · rw [if_pos c1, c1.1, c1.2, hb]; exact Or.inr rfl
        · rw [if_neg c1]
          by_cases c2 : a = u ∧ g = f
          · rw [if_pos c2, c2.1, c2.2, hx2]; exact Or.inr rfl
          · rw [if_neg c2]; exact hS a g ha hg
      · have := q f hf
        rw [nj u f hf, if_neg (by omega), if_pos ⟨rfl, rfl⟩] at this
        omega
    · have : A = B := cells_ext hA.len hB.len (fun v e hv he => ⟨by
        rcases hS v e hv he with q | q
        · rw [q]
          refine (Decidable.byContradiction fun hx => hz ⟨v, e, hv, he, q, fun h => hx h.symm⟩)
        · exact q, by rw [hA.own v e hv he, hB.own v e hv he]⟩)
      subst this
      exact Grw.refl _
/-- One edge. -/
theorem one_edge {n u e z : Nat} (hu : u < n) (hz : z < n) (hne : u ≠ z) (he : e < 4) : Pl (joinG (newG n) u e z 0) n ∧ zS (rotsK (joinG (newG n) u e z 0) n) = 8 ∧ ¬ Alone (joinG (newG n) u e z 0) u := by
  have P0 : Pl (newG n) n := ⟨new_len n, new_good n, fun v e hv he => ow_new hv he⟩
  have P1 := P0.more hu hz hne he (nx_new hu he) (nx_new hz (opp_lt e))
  have nj : ∀ a g, g < 4 → nxG (joinG (newG n) u e z 0) a g = if a = z ∧ g = opp e then (u : Int) else if a = u ∧ g = e then (z : Int) else nxG (newG n) a g := fun a g hg => nx_join 0 P0.len hu hz he hg
  have jd := join_dart (o := 0) P0.len hu hz he
  generalize joinG (newG n) u e z 0 = M at P1 nj jd
  have oe := opp_lt e
  have ab : 4 * u + e ≠ 4 * z + opp e := by omega
  have hha : headK M (4 * u + e) = z := by unfold headK; rw [jd, if_neg ab, if_pos rfl]; rfl
  have hhb : headK M (4 * z + opp e) = u := by unfold headK; rw [jd, if_pos rfl]; rfl
  obtain ⟨a1, a2⟩ := loc0 (M := M) (u := u) (s := e) he (by rw [nj u e he, if_neg (by omega), if_pos ⟨rfl, rfl⟩]; omega) (fun f hf hx => by rw [nj u f hf, if_neg (by omega), if_neg (by omega)]; exact nx_new hu hf) hhb (by omega)
  obtain ⟨b1, b2⟩ := loc0 (M := M) (u := z) (s := opp e) oe (by rw [nj z _ oe, if_pos ⟨rfl, rfl⟩]; omega) (fun f hf hx => by rw [nj z f hf, if_neg (by omega), if_neg (by omega)]; exact nx_new hz hf) hha (by rw [opp_opp he]; omega)
  refine ⟨P1, ?_, fun q => ?_⟩
  · have D : Dec (behK M) (isK M n) [[4 * u + e, 4 * z + opp e]] := by
      refine ⟨fun l hl => ?_, ?_, fun k => ?_⟩
      · obtain rfl := List.mem_singleton.1 hl
        exact cyc_lnk.2 ⟨by simp, b1, a1, trivial⟩
      · simp; exact ab
      · unfold isK
        rw [jd]
        simp only [List.flatten_cons, List.flatten_nil, List.append_nil, List.mem_cons, List.not_mem_nil, or_false]
        constructor
        · rintro (rfl | rfl)
          · rw [if_neg ab, if_pos rfl]; omega
          · rw [if_pos rfl]; omega
        · rintro ⟨g1, g2⟩
          by_cases c1 : k = 4 * z + opp e
          · exact Or.inr c1
          · by_cases c2 : k = 4 * u + e
            · exact Or.inl c2
            · rw [if_neg c1, if_neg c2] at g2
              exact absurd (by unfold nxK; exact nx_new (by omega) (Nat.mod_lt _ (by decide))) g2
    have p := Dec.sums (trnK M) (dec_faces P1.good) D
    have : rotsK M n = (facesK M n).map (smF (trnK M)) := rfl
    rw [this, zS_perm p]
    simp only [List.map_cons, List.map_nil, zS, smF, a2, b2]
    omega
  · have := q e he
    rw [nj u e he, if_neg (by omega), if_pos ⟨rfl, rfl⟩] at this
    omega
/-- Cells whose edges are some of good ones' that hang together. -/
theorem sub_good {n : Nat} {B H : List Int} (hB : Pl B n) (hH : Pl H n) (hS : Sub B H n) (hWB : Whl B n) (hWH : Whl H n) (hE : ∃ a, a < n ∧ ¬ Alone B a) (hz : zS (rotsK H n) = 8) (hr : goodR (rotsK H n)) : goodR (rotsK B n) := by
  have g2 := grow_to hH hWH _ rfl hB hS hE
  obtain ⟨a, ha, haa⟩ := hE
  obtain ⟨e, he, hx⟩ := not_alone haa
  obtain ⟨z, z1, z2, z3, z4⟩ := good_nat hB.good ha he hx
  obtain ⟨P1, Z1, N1⟩ := one_edge ha z2 (fun q => z3 q.symm) he
  have nj : ∀ v g, g < 4 → nxG (joinG (newG n) a e z 0) v g = if v = z ∧ g = opp e then (a : Int) else if v = a ∧ g = e then (z : Int) else nxG (newG n) v g := fun v g hg => nx_join 0 (new_len n) ha z2 he hg
  have g1 := grow_to hB hWB _ rfl P1 (fun v g hv hg => by
    rw [nj v g hg]
    by_cases c1 : v = z ∧ g = opp e
    · rw [if_pos c1, c1.1, c1.2, z4]; exact Or.inr rfl
    · rw [if_neg c1]
      by_cases c2 : v = a ∧ g = e
      · rw [if_pos c2, c2.1, c2.2, z1]; exact Or.inr rfl
      · rw [if_neg c2]; exact Or.inl (nx_new hv hg)) ⟨a, ha, N1⟩
  have l1 := (g1.good P1.len P1.good).2.2
  have l2 := (g2.good hB.len hB.good).2.2
  rw [Z1] at l1
  rw [hz] at l2
  exact g2.back hB.len hB.good (by omega) hr
end Go.Proofs.YtkakeakdgidigaaDoor.VdM

namespace Go.Proofs.YtkakeakdgidigaaDoor.VdM
open Go.Proofs.YtkakeakdgidigaaDoor.GrM Go.Proofs.YtkakeakdgidigaaDoor.FcM Go.Proofs.YtkakeakdgidigaaDoor.JoM

/-! Cells told by a function: what is next on each side; all owners 0. -/
def celN (N : Nat → Nat → Int) (v : Nat) : List Int := [N v 0, N v 1, N v 2, N v 3, 0, 0, 0, 0]
def mkG (N : Nat → Nat → Int) : Nat → List Int
  | 0 => []
  | n + 1 => mkG N n ++ celN N n
theorem mk_len (N : Nat → Nat → Int) : ∀ n, (mkG N n).length = n * 8
  | 0 => rfl
  | n + 1 => by rw [mkG, List.length_append, mk_len N n]; simp [celN]; omega
theorem nx_mk (N : Nat → Nat → Int) : ∀ {n v e : Nat}, v < n → e < 4 → nxG (mkG N n) v e = N v e
  | 0, v, e, hv, _ => absurd hv (by omega)
  | n + 1, v, e, hv, he => by
    rw [mkG]
    by_cases c : v = n
    · subst c
      show (mkG N v ++ celN N v).getD (v * 8 + e) 0 = _
      rw [getD_right (by rw [mk_len]; omega), mk_len, show v * 8 + e - v * 8 = e by omega]
      have : e = 0 ∨ e = 1 ∨ e = 2 ∨ e = 3 := by omega
      rcases this with rfl | rfl | rfl | rfl <;> rfl
    · rw [nx_old (mk_len N n) (by omega) he]
      exact nx_mk N (by omega) he
theorem ow_mk (N : Nat → Nat → Int) : ∀ {n v e : Nat}, v < n → e < 4 → owG (mkG N n) v e = 0
  | 0, v, e, hv, _ => absurd hv (by omega)
  | n + 1, v, e, hv, he => by
    rw [mkG]
    by_cases c : v = n
    · subst c
      show (mkG N v ++ celN N v).getD (v * 8 + 4 + e) 0 = _
      rw [getD_right (by rw [mk_len]; omega), mk_len, show v * 8 + 4 + e - v * 8 = 4 + e by omega]
      have : e = 0 ∨ e = 1 ∨ e = 2 ∨ e = 3 := by omega
      rcases this with rfl | rfl | rfl | rfl <;> rfl
    · rw [ow_old (mk_len N n) (by omega) he]
      exact ow_mk N (by omega) he
/-- They may be, if each edge leads back. -/
theorem mk_pl {N : Nat → Nat → Int} {n : Nat} (h : ∀ v e, v < n → e < 4 → N v e = -1 ∨ ∃ z : Nat, N v e = (z : Int) ∧ z < n ∧ z ≠ v ∧ N z (opp e) = (v : Int)) : Pl (mkG N n) n := by
  refine ⟨mk_len N n, fun v e hv he => ?_, fun v e hv he => ow_mk N hv he⟩
  rw [chk1_zero, nx_mk N hv he, ow_mk N hv he]
  rcases h v e hv he with q | ⟨z, q1, q2, q3, q4⟩
  · exact Or.inl ⟨q, rfl⟩
  · rw [q1, Int.toNat_natCast, nx_mk N q2 (opp_lt e), ow_mk N q2 (opp_lt e), q4]
    exact Or.inr ⟨by omega, by omega, by omega, rfl, rfl, by decide⟩
/-! The board. -/
def brdN (v e : Nat) : Int := if e = 0 then (if v % 8 = 7 then -1 else (v : Int) + 1) else if e = 1 then (if 56 ≤ v then -1 else (v : Int) + 8) else if e = 2 then (if v % 8 = 0 then -1 else (v : Int) - 1) else (if v < 8 then -1 else (v : Int) - 8)
def brdG : List Int := mkG brdN 64
theorem brd_pl : Pl brdG 64 := mk_pl (fun v e hv he => by
  have hc : e = 0 ∨ e = 1 ∨ e = 2 ∨ e = 3 := by omega
  rcases hc with rfl | rfl | rfl | rfl
  · by_cases c : v % 8 = 7
    · left; unfold brdN; simp [c]
    · right; exact ⟨v + 1, by unfold brdN; simp [c], by omega, by omega, by unfold brdN opp; simp; omega⟩
  · by_cases c : 56 ≤ v
    · left; unfold brdN; simp [c]
    · right; exact ⟨v + 8, by unfold brdN; simp [c], by omega, by omega, by unfold brdN opp; (simp <;> omega)⟩
  · by_cases c : v % 8 = 0
    · left; unfold brdN; simp [c]
    · right; exact ⟨v - 1, by unfold brdN; simp [c]; omega, by omega, by omega, by unfold brdN opp; simp; omega⟩
  · by_cases c : v < 8
    · left; unfold brdN; simp [c]
    · right; exact ⟨v - 8, by unfold brdN; simp [c]; omega, by omega, by omega, by unfold brdN opp; simp; omega⟩)
theorem brd_con : ∀ v, v < 64 → Con brdG 0 v := by
  intro v
  induction v using Nat.strongRecOn with
  | _ v ih =>
    intro hv
    by_cases h0 : v = 0
    · subst h0; exact Con.refl _
    · by_cases c : v % 8 = 0
      · have := ih (v - 8) (by omega) (by omega)
        exact this.trans (Con.one (d := 1) (by decide) (by unfold brdG; rw [nx_mk brdN (by omega) (by decide)]; unfold brdN; simp; omega))
      · have := ih (v - 1) (by omega) (by omega)
        exact this.trans (Con.one (d := 0) (by decide) (by unfold brdG; rw [nx_mk brdN (by omega) (by decide)]; unfold brdN; simp; omega))
theorem brd_whl : Whl brdG 64 := fun a b ha hb _ _ => ((brd_con a ha).symm brd_pl.good (by decide)).trans (brd_con b hb)
/-- Its faces: the squares, each round to the left; the outer one, round to the right. -/
def sqrF (i : Nat) : List Nat := [4 * (i / 7 * 8 + i % 7), 4 * (i / 7 * 8 + i % 7 + 1) + 1, 4 * (i / 7 * 8 + i % 7 + 9) + 2, 4 * (i / 7 * 8 + i % 7 + 8) + 3]
def outF : List Nat := (List.range 7).map (fun y => 4 * (8 * y) + 1) ++ (List.range 7).map (fun x => 4 * (56 + x)) ++ (List.range 7).map (fun y => 4 * (63 - 8 * y) + 3) ++ (List.range 7).map (fun x => 4 * (7 - x) + 2)
def brdF : List (List Nat) := outF :: (List.range 49).map sqrF
def lnkB (b : Nat → Nat) : List Nat → Nat → Bool
  | [], _ => true
  | a :: l, z => decide (b a = l.headD z) && lnkB b l z
theorem lnkB_is {b : Nat → Nat} : ∀ {l : List Nat} {z : Nat}, lnkB b l z = true → Lnk b l z
  | [], _, _ => trivial
  | a :: l, z, h => by
    rw [lnkB, Bool.and_eq_true, decide_eq_true_eq] at h
    exact ⟨h.1, lnkB_is h.2⟩
/-- What is behind a dart, reckoned by the function. -/
def wayN (N : Nat → Nat → Int) (v d : Nat) : Nat := if N v ((d + 1) % 4) ≠ -1 then 0 else if N v (d % 4) ≠ -1 then 1 else if N v ((d + 3) % 4) ≠ -1 then 2 else 3
def hdN (N : Nat → Nat → Int) (k : Nat) : Nat := (N (k / 4) (k % 4)).toNat
def behN (N : Nat → Nat → Int) (k : Nat) : Nat := 4 * hdN N k + (k % 4 + ordI (wayN N (hdN N k) (k % 4))) % 4
def trnN (N : Nat → Nat → Int) (k : Nat) : Int := 1 - (wayN N (hdN N k) (k % 4) : Int)
theorem beh_mk {N : Nat → Nat → Int} {n k : Nat} (hg : GoodG (mkG N n) n) (hk : isK (mkG N n) n k) : behK (mkG N n) k = behN N k ∧ trnK (mkG N n) k = trnN N k := by
  obtain ⟨g1, g2, _⟩ := hk.good hg
  have h4 : k % 4 < 4 := Nat.mod_lt _ (by decide)
  have hh : headK (mkG N n) k = hdN N k := by
    unfold headK nxK hdN
    rw [nx_mk N (by have := hk.1; omega) h4]
  rw [hh] at g2
  have hw : wayI (mkG N n) (hdN N k) (k % 4) = wayN N (hdN N k) (k % 4) := by
    unfold wayI wayN
    rw [nx_mk N g2 (Nat.mod_lt _ (by decide)), nx_mk N g2 (Nat.mod_lt _ (by decide)), nx_mk N g2 (Nat.mod_lt _ (by decide))]
  unfold behK trnK dirK wayK behN trnN
  rw [hh, hw]
  exact ⟨rfl, rfl⟩
theorem brd_chk1 : (brdF.all fun l => decide (l ≠ []) && lnkB (behN brdN) l (l.headD 0)) = true := by kernel_rfl
theorem brd_chk2 : ((List.range 256).all fun k => decide (brdF.flatten.count k = if brdN (k / 4) (k % 4) = -1 then 0 else 1)) = true := by kernel_rfl
theorem brd_chk3 : (brdF.flatten.all fun k => decide (k < 256)) = true := by kernel_rfl
theorem brd_chk4 : brdF.map (smF (trnN brdN)) = -4 :: List.replicate 49 4 := by kernel_rfl
theorem brd_dart {k : Nat} : isK brdG 64 k ↔ k < 256 ∧ brdN (k / 4) (k % 4) ≠ -1 := by
  unfold isK nxK brdG
  constructor
  · rintro ⟨h1, h2⟩
    rw [nx_mk brdN (by omega) (Nat.mod_lt _ (by decide))] at h2
    exact ⟨by omega, h2⟩
  · rintro ⟨h1, h2⟩
    rw [nx_mk brdN (by omega) (Nat.mod_lt _ (by decide))]
    exact ⟨by omega, h2⟩
theorem brd_in {k : Nat} : k ∈ brdF.flatten ↔ isK brdG 64 k := by
  rw [brd_dart]
  have c3 : k ∈ brdF.flatten → k < 256 := fun h => by simpa using List.all_eq_true.1 brd_chk3 k h
  have c2 : k < 256 → brdF.flatten.count k = if brdN (k / 4) (k % 4) = -1 then 0 else 1 := fun h => by simpa using List.all_eq_true.1 brd_chk2 k (List.mem_range.2 h)
  constructor
  · intro h
    have hk := c3 h
    refine ⟨hk, fun e => ?_⟩
    have := c2 hk
    rw [if_pos e] at this
    exact List.count_eq_zero.1 this h
  · rintro ⟨h1, h2⟩
    have := c2 h1
    rw [if_neg h2] at this
    exact List.count_pos_iff.1 (by omega)
theorem brd_dec : Dec (behK brdG) (isK brdG 64) brdF := by
  refine ⟨fun l hl => ?_, ?_, fun k => brd_in⟩
  · have := List.all_eq_true.1 brd_chk1 l hl
    rw [Bool.and_eq_true, decide_eq_true_eq] at this
    refine cyc_lnk.2 ⟨this.1, lnk_congr (fun a ha => ?_) (lnkB_is this.2)⟩
    exact (beh_mk brd_pl.good (brd_in.1 (List.mem_flatten.2 ⟨l, hl, ha⟩))).1
  · rw [List.nodup_iff_count]
    intro k
    by_cases h : k ∈ brdF.flatten
    · have h2 : k < 256 := by simpa using List.all_eq_true.1 brd_chk3 k h
      have h3 : brdF.flatten.count k = if brdN (k / 4) (k % 4) = -1 then 0 else 1 := by simpa using List.all_eq_true.1 brd_chk2 k (List.mem_range.2 h2)
      rw [h3]; split <;> omega
    · rw [List.count_eq_zero.2 h]; omega
theorem brd_rots : (rotsK brdG 64).Perm (-4 :: List.replicate 49 4) := by
  have p := Dec.sums (trnK brdG) (dec_faces brd_pl.good) brd_dec
  refine p.trans ?_
  rw [← brd_chk4]
  have : brdF.map (smF (trnK brdG)) = brdF.map (smF (trnN brdN)) := List.map_congr_left fun l hl => sm_congr fun a ha => (beh_mk brd_pl.good (brd_in.1 (List.mem_flatten.2 ⟨l, hl, ha⟩))).2
  rw [this]
theorem brd_z : zS (rotsK brdG 64) = 8 := by rw [zS_perm brd_rots]; decide
theorem brd_good : goodR (rotsK brdG 64) := goodR_perm brd_rots.symm ⟨by decide, fun r hr => by
  rcases List.mem_cons.1 hr with rfl | hr
  · exact Or.inr rfl
  · exact Or.inl (List.eq_of_mem_replicate hr)⟩
/-- Some of the board's edges, that hang together. -/
theorem plane_good {B : List Int} (hB : Pl B 64) (hS : Sub B brdG 64) (hW : Whl B 64) (hE : ∃ a, a < 64 ∧ ¬ Alone B a) : goodR (rotsK B 64) := sub_good hB brd_pl hS hW brd_whl hE brd_z brd_good
end Go.Proofs.YtkakeakdgidigaaDoor.VdM

namespace Go.Proofs.YtkakeakdgidigaaDoor.VdM
open Go.Proofs.YtkakeakdgidigaaDoor.GrM Go.Proofs.YtkakeakdgidigaaDoor.FcM Go.Proofs.YtkakeakdgidigaaDoor.JoM

theorem brd_back {q e : Nat} (hq : q < 64) (he : e < 4) (h : brdN q e ≠ -1) : ∃ z : Nat, brdN q e = (z : Int) ∧ z < 64 ∧ z ≠ q ∧ brdN z (opp e) = (q : Int) := by
  have h1 : nxG brdG q e ≠ -1 := by unfold brdG; rw [nx_mk brdN hq he]; exact h
  obtain ⟨z, a, b, c, d⟩ := good_nat brd_pl.good hq he h1
  unfold brdG at a d
  rw [nx_mk brdN hq he] at a
  rw [nx_mk brdN b (opp_lt e)] at d
  exact ⟨z, a, b, c, d⟩
/-- So many steps on the board. -/
def seg (q e : Nat) : Nat → Nat
  | 0 => q
  | j + 1 => (brdN (seg q e j) e).toNat
def Runs (q e m : Nat) : Prop := q < 64 ∧ ∀ j, j < m → brdN (seg q e j) e ≠ -1
theorem Runs.lt {q e m : Nat} (h : Runs q e m) (he : e < 4) : ∀ {j : Nat}, j ≤ m → seg q e j < 64
  | 0, _ => h.1
  | j + 1, hj => by
    obtain ⟨z, a, b, _⟩ := brd_back (h.lt he (j := j) (by omega)) he (h.2 j (by omega))
    rw [seg, a]; simpa using b
theorem Runs.next {q e m : Nat} (h : Runs q e m) (he : e < 4) {j : Nat} (hj : j < m) : brdN (seg q e j) e = (seg q e (j + 1) : Nat) ∧ brdN (seg q e (j + 1)) (opp e) = (seg q e j : Nat) ∧ seg q e (j + 1) ≠ seg q e j := by
  obtain ⟨z, a, b, c, d⟩ := brd_back (h.lt he (j := j) (by omega)) he (h.2 j hj)
  have : seg q e (j + 1) = z := by rw [seg, a]; rfl
  rw [this]
  exact ⟨a, d, c⟩
theorem seg_shift (q e i : Nat) : ∀ j, seg q e (i + j) = seg (seg q e i) e j
  | 0 => rfl
  | j + 1 => by rw [← Nat.add_assoc, seg, seg_shift q e i j]; rfl
/-- Back from its end. -/
theorem Runs.back {q e m : Nat} (h : Runs q e m) (he : e < 4) : ∀ {j : Nat}, j ≤ m → seg (seg q e m) (opp e) j = seg q e (m - j)
  | 0, _ => rfl
  | j + 1, hj => by
    rw [seg, h.back he (by omega)]
    have := (h.next he (j := m - (j + 1)) (by omega)).2.1
    rw [show m - (j + 1) + 1 = m - j by omega] at this
    rw [this]; rfl
/-- Where two ways in one direction meet, one is part of the other. -/
theorem seg_meet {a b e : Nat} (he : e < 4) : ∀ {i j : Nat}, Runs a e i → Runs b e j → i ≤ j → seg a e i = seg b e j → a = seg b e (j - i)
  | 0, j, _, _, _, h => h
  | i + 1, 0, _, _, hij, _ => absurd hij (by omega)
  | i + 1, j + 1, ha, hb, hij, h => by
    have h1 := (ha.next he (j := i) (by omega)).2.1
    have h2 := (hb.next he (j := j) (by omega)).2.1
    rw [h, h2] at h1
    have h3 : seg a e i = seg b e j := by omega
    have := seg_meet he (i := i) (j := j) ⟨ha.1, fun x hx => ha.2 x (by omega)⟩ ⟨hb.1, fun x hx => hb.2 x (by omega)⟩ (by omega) h3
    rw [show j + 1 - (i + 1) = j - i by omega]
    exact this
/-! A drawing. -/
structure Drw (L : List Int) (n : Nat) (p : Nat → Nat) (len : Nat → Nat → Nat) : Prop where
  good : GoodG L n
  lt : ∀ v, v < n → p v < 64
  inj : ∀ v w, v < n → w < n → p v = p w → v = w
  run : ∀ v e, v < n → e < 4 → nxG L v e ≠ -1 → 0 < len v e ∧ (∀ j, j < len v e → brdN (seg (p v) e j) e ≠ -1) ∧ seg (p v) e (len v e) = p (nxG L v e).toNat
  rev : ∀ v e, v < n → e < 4 → nxG L v e ≠ -1 → len (nxG L v e).toNat (opp e) = len v e
  free : ∀ v e, v < n → e < 4 → nxG L v e ≠ -1 → ∀ j, 0 < j → j < len v e → ∀ u, u < n → p u ≠ seg (p v) e j
  cross : ∀ v e u f, v < n → e < 4 → nxG L v e ≠ -1 → u < n → f < 4 → nxG L u f ≠ -1 → ∀ i j, 0 < i → i < len v e → 0 < j → j < len u f → seg (p v) e i = seg (p u) f j → f = e ∨ f = opp e
section
variable {L : List Int} {n : Nat} {p : Nat → Nat} {len : Nat → Nat → Nat}
def On (L : List Int) (n : Nat) (p : Nat → Nat) (len : Nat → Nat → Nat) (q e : Nat) : Prop := ∃ v j, v < n ∧ nxG L v e ≠ -1 ∧ j < len v e ∧ q = seg (p v) e j
noncomputable def covN (L : List Int) (n : Nat) (p : Nat → Nat) (len : Nat → Nat → Nat) (q e : Nat) : Int := @ite Int (On L n p len q e) (Classical.propDecidable _) (brdN q e) (-1)
noncomputable def covG (L : List Int) (n : Nat) (p : Nat → Nat) (len : Nat → Nat → Nat) : List Int := mkG (covN L n p len) 64
theorem Drw.runs (h : Drw L n p len) {v e : Nat} (hv : v < n) (he : e < 4) (hx : nxG L v e ≠ -1) : Runs (p v) e (len v e) := ⟨h.lt v hv, (h.run v e hv he hx).2.1⟩
theorem cov_on {q e : Nat} (h : On L n p len q e) : covN L n p len q e = brdN q e := if_pos h
theorem cov_off {q e : Nat} (h : ¬ On L n p len q e) : covN L n p len q e = -1 := if_neg h
theorem Drw.on (h : Drw L n p len) {q e : Nat} (he : e < 4) (ho : On L n p len q e) : ∃ z : Nat, brdN q e = (z : Int) ∧ z < 64 ∧ z ≠ q ∧ brdN z (opp e) = (q : Int) ∧ q < 64 ∧ On L n p len z (opp e) := by
  obtain ⟨v, j, hv, hx, hj, rfl⟩ := ho
  have hr := h.runs hv he hx
  obtain ⟨z, a, b, c, d⟩ := brd_back (hr.lt he (by omega)) he (hr.2 j hj)
  refine ⟨z, a, b, c, d, hr.lt he (by omega), ?_⟩
  obtain ⟨w, w1, w2, w3, w4⟩ := good_nat h.good hv he hx
  obtain ⟨r1, r2, r3⟩ := h.run v e hv he hx
  have r4 := h.rev v e hv he hx
  rw [w1, Int.toNat_natCast] at r3 r4
  have hz : z = seg (p v) e (j + 1) := by rw [seg, a]; rfl
  refine ⟨w, len v e - (j + 1), w2, by rw [w4]; omega, by rw [r4]; omega, ?_⟩
  rw [← r3, hr.back he (by omega), hz, show len v e - (len v e - (j + 1)) = j + 1 by omega]
theorem Drw.pl (h : Drw L n p len) : Pl (covG L n p len) 64 := mk_pl (fun q e hq he => by
  by_cases ho : On L n p len q e
  · obtain ⟨z, a, b, c, d, _, f⟩ := h.on he ho
    refine Or.inr ⟨z, by rw [cov_on ho, a], b, c, ?_⟩
    rw [cov_on f, d]
  · exact Or.inl (cov_off ho))
theorem cov_nx {q e : Nat} (hq : q < 64) (he : e < 4) : nxG (covG L n p len) q e = covN L n p len q e := nx_mk _ hq he
theorem cov_sub : Sub (covG L n p len) brdG 64 := fun q e hq he => by
  rw [cov_nx hq he]
  unfold brdG
  rw [nx_mk brdN hq he]
  by_cases ho : On L n p len q e
  · exact Or.inr (cov_on ho)
  · exact Or.inl (cov_off ho)
theorem Drw.on_nx (h : Drw L n p len) {q e : Nat} (hq : q < 64) (he : e < 4) : nxG (covG L n p len) q e ≠ -1 ↔ On L n p len q e := by
  rw [cov_nx hq he]
  by_cases ho : On L n p len q e
  · obtain ⟨z, a, _⟩ := h.on he ho
    rw [cov_on ho, a]
    exact ⟨fun _ => ho, fun _ => by omega⟩
  · rw [cov_off ho]
    exact ⟨fun q => absurd rfl q, fun q => absurd q ho⟩
/-- A cell's sides on the board are its own. -/
theorem Drw.at_cell (h : Drw L n p len) {v e : Nat} (hv : v < n) (he : e < 4) : On L n p len (p v) e ↔ nxG L v e ≠ -1 := by
  constructor
  · rintro ⟨u, j, hu, hx, hj, e1⟩
    by_cases h0 : j = 0
    · subst h0
      have := h.inj v u hv hu e1
      subst this
      exact hx
    · exact absurd e1 (h.free u e hu he hx j (by omega) hj v hv)
  · intro hx
    exact ⟨v, 0, hv, hx, (h.run v e hv he hx).1, rfl⟩
/-- Inside an edge there are no sides but its own. -/
theorem Drw.inside (h : Drw L n p len) {v e j : Nat} (hv : v < n) (he : e < 4) (hx : nxG L v e ≠ -1) (hj : 0 < j) (hj2 : j < len v e) {f : Nat} (hf : f < 4) (ho : On L n p len (seg (p v) e j) f) : f = e ∨ f = opp e := by
  obtain ⟨u, i, hu, hx2, hi, e1⟩ := ho
  by_cases h0 : i = 0
  · subst h0
    exact absurd e1.symm (h.free v e hv he hx j hj hj2 u hu)
  · exact h.cross v e u f hv he hx hu hf hx2 j i hj hj2 (by omega) hi e1
theorem Drw.one (h : Drw L n p len) {v u e i j : Nat} (hv : v < n) (hu : u < n) (he : e < 4) (hx : nxG L v e ≠ -1) (hy : nxG L u e ≠ -1) (hi : i < len v e) (hj : j < len u e) (heq : seg (p v) e i = seg (p u) e j) : v = u ∧ i = j := by
  have key : ∀ {v u i j : Nat}, v < n → u < n → nxG L v e ≠ -1 → nxG L u e ≠ -1 → i < len v e → j < len u e → seg (p v) e i = seg (p u) e j → i ≤ j → v = u ∧ i = j := by
    intro v u i j hv hu hx hy hi hj heq hij
    have r1 := h.runs hv he hx
    have r2 := h.runs hu he hy
    have := seg_meet he (i := i) (j := j) ⟨r1.1, fun x hx => r1.2 x (by omega)⟩ ⟨r2.1, fun x hx => r2.2 x (by omega)⟩ hij heq
    by_cases h0 : j - i = 0
    · rw [h0] at this
      exact ⟨h.inj v u hv hu this, by omega⟩
    · exact absurd this (h.free u e hu he hy (j - i) (by omega) (by omega) v hv)
  by_cases hij : i ≤ j
  · exact key hv hu hx hy hi hj heq hij
  · obtain ⟨a, b⟩ := key hu hv hy hx hj hi heq.symm (by omega)
    exact ⟨a.symm, b.symm⟩
/-! Its faces are told alike. -/
/-- Cells whose darts are those of others, each in place of some: the faces' rotations are the same. -/
theorem sums_same {L M : List Int} {n m : Nat} (hg : GoodG L n) (hm : GoodG M m) {h : Nat → Nat} {s : Nat → List Nat}
    (h1 : ∀ a, isK L n a → (s a).headD 0 = h a ∧ s a ≠ [] ∧ Lnk (behK M) (s a) (h (behK L a))) (h2 : ∀ a, isK L n a → (s a).Nodup)
    (h3 : ∀ a c, isK L n a → isK L n c → a ≠ c → ∀ x ∈ s a, ∀ y ∈ s c, x ≠ y) (h4 : ∀ k, isK M m k ↔ ∃ a, isK L n a ∧ k ∈ s a) (h5 : ∀ a, isK L n a → smF (trnK M) (s a) = trnK L a) :
    (rotsK L n).Perm (rotsK M m) := by
  have fL := faces_is hg
  have hd : ∀ x ∈ facesK L n, ∀ a ∈ x, isK L n a := fun x hx a ha => fL.met.2 a (List.mem_flatten.2 ⟨x, hx, ha⟩)
  have flat : ∀ x : List Nat, (∀ a ∈ x, isK L n a) → smF (trnK M) (x.flatMap s) = smF (trnK L) x := by
    intro x
    induction x with
    | nil => intro _; rfl
    | cons a x ih =>
      intro hx
      rw [List.flatMap_cons, sm_append, h5 a (hx a (by simp)), ih (fun c hc => hx c (by simp [hc]))]
      rfl
  have e : rotsK L n = ((facesK L n).map (·.flatMap s)).map (smF (trnK M)) := by
    unfold rotsK
    rw [List.map_map]
    exact List.map_congr_left fun x hx => (flat x (hd x hx)).symm
  rw [e]
  refine Dec.sums (D := isK M m) (trnK M) ⟨fun l hl => ?_, ?_, fun k => ?_⟩ (dec_faces hm)
  · obtain ⟨x, hx, rfl⟩ := List.mem_map.1 hl
    exact cyc_flat (fun a ha => h1 a (hd x hx a ha)) (fL.cyc x hx)
  · rw [flat_flat, List.nodup_iff_pairwise_ne, List.pairwise_flatMap]
    exact ⟨fun a ha => h2 a (fL.met.2 a ha), fL.met.1.imp_of_mem fun {a c} ha hc hne => h3 a c (fL.met.2 a ha) (fL.met.2 c hc) hne⟩
  · rw [flat_flat, List.mem_flatMap, h4 k]
    constructor
    · rintro ⟨a, ha, hk⟩
      exact ⟨a, fL.met.2 a ha, hk⟩
    · rintro ⟨a, ha, hk⟩
      exact ⟨a, fL.all a ha.1 ha.2, hk⟩
def patS (p : Nat → Nat) (len : Nat → Nat → Nat) (k : Nat) : List Nat := (List.range (len (k / 4) (k % 4))).map fun j => 4 * seg (p (k / 4)) (k % 4) j + k % 4
theorem pat_mem {k x : Nat} : x ∈ patS p len k ↔ ∃ j, j < len (k / 4) (k % 4) ∧ 4 * seg (p (k / 4)) (k % 4) j + k % 4 = x := by
  unfold patS
  rw [List.mem_map]
  exact ⟨fun ⟨j, hj, e⟩ => ⟨j, List.mem_range.1 hj, e⟩, fun ⟨j, hj, e⟩ => ⟨j, List.mem_range.2 hj, e⟩⟩
theorem pat_get {k j : Nat} (hj : j < len (k / 4) (k % 4)) : (patS p len k).getD j 0 = 4 * seg (p (k / 4)) (k % 4) j + k % 4 := by
  unfold patS
  simp [List.getD_eq_getElem?_getD, hj]
theorem pat_len (k : Nat) : (patS p len k).length = len (k / 4) (k % 4) := by simp [patS]
theorem isK.dart {L : List Int} {n k : Nat} (h : isK L n k) : k / 4 < n ∧ k % 4 < 4 ∧ nxG L (k / 4) (k % 4) ≠ -1 := ⟨by have := h.1; omega, Nat.mod_lt _ (by decide), h.2⟩
theorem Drw.step (h : Drw L n p len) {k j : Nat} (hk : isK L n k) (hj : j < len (k / 4) (k % 4)) :
    behK (covG L n p len) (4 * seg (p (k / 4)) (k % 4) j + k % 4) = (if j + 1 < len (k / 4) (k % 4) then 4 * seg (p (k / 4)) (k % 4) (j + 1) + k % 4 else 4 * p (behK L k / 4) + behK L k % 4) ∧
    trnK (covG L n p len) (4 * seg (p (k / 4)) (k % 4) j + k % 4) = if j + 1 < len (k / 4) (k % 4) then 0 else trnK L k := by
  obtain ⟨hv, he, hx⟩ := isK.dart hk
  have hhd : headK L k = (nxG L (k / 4) (k % 4)).toNat := rfl
  have hbc := beh_cell L k
  have hbd := beh_dir L k
  have hbc2 := beh_c L k
  have htc := trn_c L k
  generalize k / 4 = v at *
  generalize k % 4 = e at *
  have hr := h.runs hv he hx
  obtain ⟨n1, n2, n3⟩ := hr.next he hj
  have hq := hr.lt he (j := j) (by omega)
  have hq1 := hr.lt he (j := j + 1) (by omega)
  have hon : On L n p len (seg (p v) e j) e := ⟨v, j, hv, hx, hj, rfl⟩
  have hh : headK (covG L n p len) (4 * seg (p v) e j + e) = seg (p v) e (j + 1) := by
    unfold headK nxK
    rw [show (4 * seg (p v) e j + e) / 4 = seg (p v) e j by omega, show (4 * seg (p v) e j + e) % 4 = e by omega, cov_nx hq he, cov_on hon, n1]; rfl
  have hm : (4 * seg (p v) e j + e) % 4 = e := by omega
  rw [beh_c, trn_c, hh, hm]
  by_cases hlt : j + 1 < len v e
  · rw [if_pos hlt, if_pos hlt]
    have s1 : sd (covG L n p len) (seg (p v) e (j + 1)) ((e + 1) % 4) = false := by
      unfold sd
      refine decide_eq_false (fun hn => ?_)
      have := h.inside hv he hx (by omega) hlt (Nat.mod_lt _ (by decide)) ((h.on_nx hq1 (Nat.mod_lt _ (by decide))).1 hn)
      unfold opp at this
      omega
    have s2 : sd (covG L n p len) (seg (p v) e (j + 1)) (e % 4) = true := by
      unfold sd
      rw [Nat.mod_eq_of_lt he]
      exact decide_eq_true ((h.on_nx hq1 he).2 ⟨v, j + 1, hv, hx, hlt, rfl⟩)
    have w1 : wayC (sd (covG L n p len) (seg (p v) e (j + 1))) e = 1 := by
      unfold wayC
      rw [s1, s2]; rfl
    unfold dirC
    rw [w1]
    refine ⟨?_, rfl⟩
    show _ + (e + 0) % 4 = _
    omega
  · rw [if_neg hlt, if_neg hlt]
    have hje : j + 1 = len v e := by omega
    have r3 := (h.run v e hv he hx).2.2
    rw [hje, r3, ← hhd]
    have hw : headK L k < n := by
      obtain ⟨w, w1, w2, _⟩ := good_nat h.good hv he hx
      rw [hhd, w1]; exact w2
    have ss : ∀ f, f < 4 → sd (covG L n p len) (p (headK L k)) f = sd L (headK L k) f := fun f hf => by
      unfold sd
      rw [Bool.eq_iff_iff, decide_eq_true_eq, decide_eq_true_eq, h.on_nx (h.lt _ hw) hf, h.at_cell hw hf]
    rw [dirC_congr ss, wayC_congr ss, htc]
    refine ⟨?_, rfl⟩
    have : behK L k % 4 = dirC (sd L (headK L k)) e := by
      have h4 : dirC (sd L (headK L k)) e < 4 := Nat.mod_lt _ (by decide)
      omega
    rw [hbc, this]
theorem Drw.same (h : Drw L n p len) : (rotsK L n).Perm (rotsK (covG L n p len) 64) := by
  refine sums_same h.good h.pl.good (h := fun k => 4 * p (k / 4) + k % 4) (s := patS p len) (fun a ha => ?_) (fun a ha => ?_) (fun a c ha hc hne x hx y hy e => ?_) (fun k => ?_) (fun a ha => ?_)
  · obtain ⟨hv, he, hx⟩ := isK.dart ha
    have hp := (h.run _ _ hv he hx).1
    have hl := pat_len (p := p) (len := len) a
    have hn : patS p len a ≠ [] := fun e => by rw [e] at hl; simp at hl; omega
    refine ⟨?_, hn, ?_⟩
    · have : (patS p len a).headD 0 = (patS p len a).getD 0 0 := by cases patS p len a <;> rfl
      rw [this, pat_get hp]; rfl
    · rw [lnk_iff]
      intro j hj
      rw [hl] at hj ⊢
      rw [pat_get hj, (h.step ha hj).1]
      by_cases hlt : j + 1 < len (a / 4) (a % 4)
      · rw [if_pos hlt, if_pos hlt, pat_get hlt]
      · rw [if_neg hlt, if_neg hlt]
  · obtain ⟨hv, he, hx⟩ := isK.dart ha
    unfold patS
    rw [List.nodup_iff_pairwise_ne, List.pairwise_map]
    refine (List.nodup_iff_pairwise_ne.1 List.nodup_range).imp_of_mem ?_
    intro i j hi hj hne e
    rw [List.mem_range] at hi hj
    exact hne (h.one hv hv he hx hx hi hj (by omega)).2
  · obtain ⟨hv, he, hx1⟩ := isK.dart ha
    obtain ⟨hu, hf, hx2⟩ := isK.dart hc
    obtain ⟨i, hi, e1⟩ := pat_mem.1 hx
    obtain ⟨j, hj, e2⟩ := pat_mem.1 hy
    have hm : a % 4 = c % 4 := by omega
    rw [← hm] at hj hx2 e2
    have := (h.one hv hu he hx1 hx2 hi hj (by omega)).1
    omega
  · constructor
    · rintro ⟨g1, g2⟩
      unfold nxK at g2
      have hq : k / 4 < 64 := by omega
      have hf : k % 4 < 4 := Nat.mod_lt _ (by decide)
      obtain ⟨v, j, hv, hx, hj, e⟩ := (h.on_nx hq hf).1 g2
      refine ⟨4 * v + k % 4, ⟨by omega, ?_⟩, pat_mem.2 ⟨j, ?_, ?_⟩⟩
      · unfold nxK
        rw [show (4 * v + k % 4) / 4 = v by omega, show (4 * v + k % 4) % 4 = k % 4 by omega]; exact hx
      · rw [show (4 * v + k % 4) / 4 = v by omega, show (4 * v + k % 4) % 4 = k % 4 by omega]; exact hj
      · rw [show (4 * v + k % 4) / 4 = v by omega, show (4 * v + k % 4) % 4 = k % 4 by omega, ← e]; omega
    · rintro ⟨a, ha, hk⟩
      obtain ⟨hv, he, hx⟩ := isK.dart ha
      obtain ⟨j, hj, rfl⟩ := pat_mem.1 hk
      have hq := (h.runs hv he hx).lt he (j := j) (by omega)
      refine ⟨by omega, ?_⟩
      unfold nxK
      rw [show (4 * seg (p (a / 4)) (a % 4) j + a % 4) / 4 = seg (p (a / 4)) (a % 4) j by omega, show (4 * seg (p (a / 4)) (a % 4) j + a % 4) % 4 = a % 4 by omega]
      exact (h.on_nx hq he).2 ⟨_, j, hv, hx, hj, rfl⟩
  · obtain ⟨hv, he, hx⟩ := isK.dart ha
    have hp := (h.run _ _ hv he hx).1
    have key : ∀ m, m ≤ len (a / 4) (a % 4) → smF (trnK (covG L n p len)) ((List.range m).map fun j => 4 * seg (p (a / 4)) (a % 4) j + a % 4) = if m < len (a / 4) (a % 4) then 0 else trnK L a := by
      intro m
      induction m with
      | zero => intro _; rw [if_pos hp]; rfl
      | succ m ih =>
        intro hm
        rw [List.range_succ, List.map_append, sm_append, ih (by omega), if_pos (by omega)]
        simp only [List.map_cons, List.map_nil, smF]
        rw [(h.step ha (j := m) (by omega)).2]
        omega
    have := key _ (Nat.le_refl _)
    rw [if_neg (by omega)] at this
    exact this
/-- All that is drawn hangs together on the board. -/
theorem Drw.whl (h : Drw L n p len) (hW : ∀ a b, a < n → b < n → Con L a b) : Whl (covG L n p len) 64 := by
  have along : ∀ {v e j : Nat}, v < n → e < 4 → nxG L v e ≠ -1 → j ≤ len v e → Con (covG L n p len) (p v) (seg (p v) e j) := by
    intro v e j hv he hx
    induction j with
    | zero => intro _; exact Con.refl _
    | succ j ih =>
      intro hj
      have hr := h.runs hv he hx
      refine (ih (by omega)).trans (Con.one he ?_)
      rw [cov_nx (hr.lt he (by omega)) he, cov_on ⟨v, j, hv, hx, by omega, rfl⟩]
      exact (hr.next he (by omega)).1
  have cells : ∀ {a b : Nat}, a < n → Con L a b → Con (covG L n p len) (p a) (p b) := by
    rintro a b ha ⟨k, hk⟩
    induction hk with
    | here => exact Con.refl _
    | @step k a u w d h1 hd hx ih =>
      refine (ih ha).trans ?_
      have hu := h1.lt h.good ha
      have hxx : nxG L u d ≠ -1 := by rw [hx]; omega
      have := along hu hd hxx (Nat.le_refl _)
      rw [(h.run _ _ hu hd hxx).2.2, hx, Int.toNat_natCast] at this
      exact this
  have from_ : ∀ {q : Nat}, q < 64 → ¬ Alone (covG L n p len) q → ∃ v, v < n ∧ Con (covG L n p len) (p v) q := by
    intro q hq hal
    obtain ⟨e, he, hx⟩ := not_alone hal
    obtain ⟨v, j, hv, hx2, hj, rfl⟩ := (h.on_nx hq he).1 hx
    exact ⟨v, hv, along hv he hx2 (by omega)⟩
  intro a b ha hb hna hnb
  obtain ⟨v, hv, c1⟩ := from_ ha hna
  obtain ⟨u, hu, c2⟩ := from_ hb hnb
  exact ((c1.symm h.pl.good (h.lt v hv)).trans (cells hv (hW v u hv hu))).trans c2
/-- What is drawn on the board without crossings, and hangs together: one face has the rotation -4, all others 4. -/
theorem Drw.rots (h : Drw L n p len) (hW : ∀ a b, a < n → b < n → Con L a b) (hE : ∃ v e, v < n ∧ e < 4 ∧ nxG L v e ≠ -1) : goodR (rotsK L n) := by
  refine goodR_perm h.same.symm (plane_good h.pl cov_sub (h.whl hW) ?_)
  obtain ⟨v, e, hv, he, hx⟩ := hE
  refine ⟨p v, h.lt v hv, fun q => ?_⟩
  exact absurd (q e he) ((h.on_nx (h.lt v hv) he).2 ((h.at_cell hv he).2 hx))
end
end Go.Proofs.YtkakeakdgidigaaDoor.VdM

namespace Go.Proofs.YtkakeakdgidigaaDoor.VdM
open Go.Proofs.YtkakeakdgidigaaDoor.GrM Go.Proofs.YtkakeakdgidigaaDoor.FcM Go.Proofs.YtkakeakdgidigaaDoor.JoM

/-! Steps on the board, in coordinates. -/
theorem seg0 {x y : Nat} (hy : y < 8) : ∀ {j : Nat}, x + j < 8 → seg (x + 8 * y) 0 j = x + j + 8 * y
  | 0, _ => rfl
  | j + 1, h => by
    rw [seg, seg0 hy (by omega)]
    unfold brdN
    rw [if_pos rfl, if_neg (by omega)]; omega
theorem seg1 {x y : Nat} (hx : x < 8) : ∀ {j : Nat}, y + j < 8 → seg (x + 8 * y) 1 j = x + 8 * (y + j)
  | 0, _ => rfl
  | j + 1, h => by
    rw [seg, seg1 hx (by omega)]
    unfold brdN
    rw [if_neg (by decide), if_pos rfl, if_neg (by omega)]; omega
theorem seg2 {x y : Nat} (hx : x < 8) : ∀ {j : Nat}, j ≤ x → seg (x + 8 * y) 2 j = x - j + 8 * y
  | 0, _ => rfl
  | j + 1, h => by
    rw [seg, seg2 hx (by omega)]
    unfold brdN
    rw [if_neg (by decide), if_neg (by decide), if_pos rfl, if_neg (by omega)]; omega
theorem seg3 {x y : Nat} (hx : x < 8) (hy : y < 8) : ∀ {j : Nat}, j ≤ y → seg (x + 8 * y) 3 j = x + 8 * (y - j)
  | 0, _ => rfl
  | j + 1, h => by
    rw [seg, seg3 hx hy (by omega)]
    unfold brdN
    rw [if_neg (by decide), if_neg (by decide), if_neg (by decide), if_neg (by omega)]; omega
def xN (P : List (Int × Int)) (v : Nat) : Nat := (P.getD v (0, 0)).1.toNat
def yN (P : List (Int × Int)) (v : Nat) : Nat := (P.getD v (0, 0)).2.toNat
def pN (P : List (Int × Int)) (v : Nat) : Nat := xN P v + 8 * yN P v
def lenB (P : List (Int × Int)) (L : List Int) (v e : Nat) : Nat :=
  if e = 0 then xN P (nxG L v e).toNat - xN P v else if e = 1 then yN P (nxG L v e).toNat - yN P v else if e = 2 then xN P v - xN P (nxG L v e).toNat else yN P v - yN P (nxG L v e).toNat
/-- Places on the board, no two on one; edges to the nearest ones; none crosses another one. -/
structure OnB (P : List (Int × Int)) (L : List Int) : Prop where
  good : GoodG L P.length
  apart : Apart P
  bnd : ∀ v, v < P.length → 0 ≤ (P.getD v (0, 0)).1 ∧ (P.getD v (0, 0)).1 < 8 ∧ 0 ≤ (P.getD v (0, 0)).2 ∧ (P.getD v (0, 0)).2 < 8
  near : ∀ v d, v < P.length → d < 2 → nxG L v d ≠ -1 → nxG L v d = nearP P v d
  nox : ∀ v u, v < P.length → u < P.length → nxG L v 0 ≠ -1 → nxG L u 1 ≠ -1 → ¬ ((P.getD v (0, 0)).1 < (P.getD u (0, 0)).1 ∧ (P.getD u (0, 0)).1 < (P.getD (nxG L v 0).toNat (0, 0)).1 ∧ (P.getD u (0, 0)).2 < (P.getD v (0, 0)).2 ∧ (P.getD v (0, 0)).2 < (P.getD (nxG L u 1).toNat (0, 0)).2)
section
variable {P : List (Int × Int)} {L : List Int}
theorem OnB.x (h : OnB P L) {v : Nat} (hv : v < P.length) : (P.getD v (0, 0)).1 = (xN P v : Int) ∧ (P.getD v (0, 0)).2 = (yN P v : Int) ∧ xN P v < 8 ∧ yN P v < 8 := by
  have := h.bnd v hv
  unfold xN yN
  omega
theorem OnB.inj (h : OnB P L) {v w : Nat} (hv : v < P.length) (hw : w < P.length) (h1 : xN P v = xN P w) (h2 : yN P v = yN P w) : v = w := by
  obtain ⟨a1, a2, _⟩ := h.x hv
  obtain ⟨b1, b2, _⟩ := h.x hw
  exact h.apart v w hv hw (Prod.ext (by rw [a1, b1, h1]) (by rw [a2, b2, h2]))
/-- An edge to the right, or above. -/
theorem OnB.right (h : OnB P L) {v : Nat} (hv : v < P.length) (hx : nxG L v 0 ≠ -1) : ∃ w, w < P.length ∧ nxG L v 0 = (w : Nat) ∧ yN P w = yN P v ∧ xN P v < xN P w ∧ ∀ u, u < P.length → yN P u = yN P v → xN P v < xN P u → xN P w ≤ xN P u := by
  have hn := h.near v 0 hv (by decide) hx
  rcases near_range P v 0 with q | ⟨w, w1, w2, w3, w4⟩
  · rw [q] at hn; exact absurd hn hx
  · rw [ahP_iff] at w3
    simp only [acP, alP, if_true] at w3 w4
    obtain ⟨a1, a2, _⟩ := h.x hv
    obtain ⟨b1, b2, _⟩ := h.x w1
    refine ⟨w, w1, by rw [hn, w2], by omega, by omega, fun u hu hy hlt => ?_⟩
    obtain ⟨c1, c2, _⟩ := h.x hu
    have := w4 u hu (ahP_iff.2 (by simp only [acP, alP, if_true]; omega))
    omega
theorem OnB.above (h : OnB P L) {v : Nat} (hv : v < P.length) (hx : nxG L v 1 ≠ -1) : ∃ w, w < P.length ∧ nxG L v 1 = (w : Nat) ∧ xN P w = xN P v ∧ yN P v < yN P w ∧ ∀ u, u < P.length → xN P u = xN P v → yN P v < yN P u → yN P w ≤ yN P u := by
  have hn := h.near v 1 hv (by decide) hx
  rcases near_range P v 1 with q | ⟨w, w1, w2, w3, w4⟩
  · rw [q] at hn; exact absurd hn hx
  · rw [ahP_iff] at w3
    simp only [acP, alP, show ¬ (1 = 0) by decide, if_false] at w3 w4
    obtain ⟨a1, a2, _⟩ := h.x hv
    obtain ⟨b1, b2, _⟩ := h.x w1
    refine ⟨w, w1, by rw [hn, w2], by omega, by omega, fun u hu hy hlt => ?_⟩
    obtain ⟨c1, c2, _⟩ := h.x hu
    have := w4 u hu (ahP_iff.2 (by simp only [acP, alP, show ¬ (1 = 0) by decide, if_false]; omega))
    omega
/-- What an edge covers: the line, from where to where. -/
theorem OnB.hor (h : OnB P L) {v e : Nat} (hv : v < P.length) (he : e = 0 ∨ e = 2) (hx : nxG L v e ≠ -1) : ∃ w s t, w < P.length ∧ nxG L v e = (w : Nat) ∧ s < P.length ∧ nxG L s 0 = (t : Nat) ∧ t < P.length ∧ yN P w = yN P v ∧ yN P s = yN P v ∧ xN P s < xN P t ∧
    (∀ u, u < P.length → yN P u = yN P v → xN P s < xN P u → xN P t ≤ xN P u) ∧ (e = 0 → s = v ∧ t = w) ∧ (e = 2 → s = w ∧ t = v) ∧ lenB P L v e = xN P t - xN P s := by
  rcases he with rfl | rfl
  · obtain ⟨w, w1, w2, w3, w4, w5⟩ := h.right hv hx
    exact ⟨w, v, w, w1, w2, hv, w2, w1, w3, rfl, w4, w5, fun _ => ⟨rfl, rfl⟩, fun e => absurd e (by decide), by unfold lenB; rw [if_pos rfl, w2]; rfl⟩
  · obtain ⟨w, w1, w2, _, w4⟩ := good_nat h.good hv (by decide) hx
    have w5 : nxG L w 0 = (v : Nat) := w4
    obtain ⟨z, z1, z2, z3, z4, z5⟩ := h.right w2 (by rw [w5]; omega)
    obtain rfl : v = z := by omega
    exact ⟨w, w, v, w2, w1, w2, w5, hv, z3.symm, z3.symm, z4, fun u hu hy => z5 u hu (by omega), fun e => absurd e (by decide), fun _ => ⟨rfl, rfl⟩, by unfold lenB; rw [if_neg (by decide), if_neg (by decide), if_pos rfl, w1]; rfl⟩
theorem OnB.ver (h : OnB P L) {v e : Nat} (hv : v < P.length) (he : e = 1 ∨ e = 3) (hx : nxG L v e ≠ -1) : ∃ w s t, w < P.length ∧ nxG L v e = (w : Nat) ∧ s < P.length ∧ nxG L s 1 = (t : Nat) ∧ t < P.length ∧ xN P w = xN P v ∧ xN P s = xN P v ∧ yN P s < yN P t ∧
    (∀ u, u < P.length → xN P u = xN P v → yN P s < yN P u → yN P t ≤ yN P u) ∧ (e = 1 → s = v ∧ t = w) ∧ (e = 3 → s = w ∧ t = v) ∧ lenB P L v e = yN P t - yN P s := by
  rcases he with rfl | rfl
  · obtain ⟨w, w1, w2, w3, w4, w5⟩ := h.above hv hx
    exact ⟨w, v, w, w1, w2, hv, w2, w1, w3, rfl, w4, w5, fun _ => ⟨rfl, rfl⟩, fun e => absurd e (by decide), by unfold lenB; rw [if_neg (by decide), if_pos rfl, w2]; rfl⟩
  · obtain ⟨w, w1, w2, _, w4⟩ := good_nat h.good hv (by decide) hx
    have w5 : nxG L w 1 = (v : Nat) := w4
    obtain ⟨z, z1, z2, z3, z4, z5⟩ := h.above w2 (by rw [w5]; omega)
    obtain rfl : v = z := by omega
    exact ⟨w, w, v, w2, w1, w2, w5, hv, z3.symm, z3.symm, z4, fun u hu hy => z5 u hu (by omega), fun e => absurd e (by decide), fun _ => ⟨rfl, rfl⟩, by unfold lenB; rw [if_neg (by decide), if_neg (by decide), if_neg (by decide), w1]; rfl⟩
/-- Where a step of an edge is: on its line, between its ends. -/
theorem OnB.spot (h : OnB P L) {v e j : Nat} (hv : v < P.length) (he : e < 4) (hx : nxG L v e ≠ -1) (hj : j ≤ lenB P L v e) :
    seg (pN P v) e j = if e = 0 then xN P v + j + 8 * yN P v else if e = 1 then xN P v + 8 * (yN P v + j) else if e = 2 then xN P v - j + 8 * yN P v else xN P v + 8 * (yN P v - j) := by
  obtain ⟨_, _, vx, vy⟩ := h.x hv
  have hc : e = 0 ∨ e = 1 ∨ e = 2 ∨ e = 3 := by omega
  rcases hc with rfl | rfl | rfl | rfl
  · obtain ⟨w, s, t, w1, w2, s1, s2, t1, y1, y2, lt, _, q1, _, l⟩ := h.hor hv (Or.inl rfl) hx
    obtain ⟨rfl, rfl⟩ := q1 rfl
    obtain ⟨_, _, wx, wy⟩ := h.x w1
    rw [if_pos rfl]
    exact seg0 vy (by omega)
  · obtain ⟨w, s, t, w1, w2, s1, s2, t1, y1, y2, lt, _, q1, _, l⟩ := h.ver hv (Or.inl rfl) hx
    obtain ⟨rfl, rfl⟩ := q1 rfl
    obtain ⟨_, _, wx, wy⟩ := h.x w1
    rw [if_neg (by decide), if_pos rfl]
    exact seg1 vx (by omega)
  · obtain ⟨w, s, t, w1, w2, s1, s2, t1, y1, y2, lt, _, _, q1, l⟩ := h.hor hv (Or.inr rfl) hx
    obtain ⟨rfl, rfl⟩ := q1 rfl
    rw [if_neg (by decide), if_neg (by decide), if_pos rfl]
    exact seg2 vx (by omega)
  · obtain ⟨w, s, t, w1, w2, s1, s2, t1, y1, y2, lt, _, _, q1, l⟩ := h.ver hv (Or.inr rfl) hx
    obtain ⟨rfl, rfl⟩ := q1 rfl
    rw [if_neg (by decide), if_neg (by decide), if_neg (by decide)]
    exact seg3 vx vy (by omega)
/-- The same, by coordinates. -/
theorem OnB.inner (h : OnB P L) {v e j : Nat} (hv : v < P.length) (he : e < 4) (hx : nxG L v e ≠ -1) (hj : 0 < j) (hj2 : j < lenB P L v e) :
    ∃ a b, a < 8 ∧ b < 8 ∧ seg (pN P v) e j = a + 8 * b ∧
      ((e = 0 ∨ e = 2) → ∃ s t, s < P.length ∧ t < P.length ∧ nxG L s 0 = (t : Nat) ∧ yN P s = b ∧ xN P s < a ∧ a < xN P t ∧ ∀ u, u < P.length → yN P u = b → xN P s < xN P u → xN P t ≤ xN P u) ∧
      ((e = 1 ∨ e = 3) → ∃ s t, s < P.length ∧ t < P.length ∧ nxG L s 1 = (t : Nat) ∧ xN P s = a ∧ yN P s < b ∧ b < yN P t ∧ ∀ u, u < P.length → xN P u = a → yN P s < yN P u → yN P t ≤ yN P u) := by
  have sp := h.spot hv he hx (Nat.le_of_lt hj2)
  obtain ⟨_, _, vx, vy⟩ := h.x hv
  have hc : e = 0 ∨ e = 1 ∨ e = 2 ∨ e = 3 := by omega
  rcases hc with rfl | rfl | rfl | rfl
  · obtain ⟨w, s, t, w1, w2, s1, s2, t1, y1, y2, lt, mn, q1, _, l⟩ := h.hor hv (Or.inl rfl) hx
    obtain ⟨rfl, rfl⟩ := q1 rfl
    obtain ⟨_, _, wx, wy⟩ := h.x w1
    rw [if_pos rfl] at sp
    exact ⟨xN P s + j, yN P s, by omega, vy, sp, fun _ => ⟨s, t, s1, t1, s2, rfl, by omega, by omega, mn⟩, fun q => absurd q (by decide)⟩
  · obtain ⟨w, s, t, w1, w2, s1, s2, t1, y1, y2, lt, mn, q1, _, l⟩ := h.ver hv (Or.inl rfl) hx
    obtain ⟨rfl, rfl⟩ := q1 rfl
    obtain ⟨_, _, wx, wy⟩ := h.x w1
    rw [if_neg (by decide), if_pos rfl] at sp
    exact ⟨xN P s, yN P s + j, vx, by omega, sp, fun q => absurd q (by decide), fun _ => ⟨s, t, s1, t1, s2, rfl, by omega, by omega, mn⟩⟩
  · obtain ⟨w, s, t, w1, w2, s1, s2, t1, y1, y2, lt, mn, _, q1, l⟩ := h.hor hv (Or.inr rfl) hx
    obtain ⟨rfl, rfl⟩ := q1 rfl
    rw [if_neg (by decide), if_neg (by decide), if_pos rfl] at sp
    exact ⟨xN P t - j, yN P t, by omega, vy, sp, fun _ => ⟨s, t, s1, t1, s2, y2, by omega, by omega, mn⟩, fun q => absurd q (by decide)⟩
  · obtain ⟨w, s, t, w1, w2, s1, s2, t1, y1, y2, lt, mn, _, q1, l⟩ := h.ver hv (Or.inr rfl) hx
    obtain ⟨rfl, rfl⟩ := q1 rfl
    rw [if_neg (by decide), if_neg (by decide), if_neg (by decide)] at sp
    exact ⟨xN P t, yN P t - j, vx, by omega, sp, fun q => absurd q (by decide), fun _ => ⟨s, t, s1, t1, s2, y2, by omega, by omega, mn⟩⟩
theorem OnB.drw (h : OnB P L) : Drw L P.length (pN P) (lenB P L) where
  good := h.good
  lt := fun v hv => by
    obtain ⟨_, _, vx, vy⟩ := h.x hv
    unfold pN; omega
  inj := fun v w hv hw e => by
    obtain ⟨_, _, vx, vy⟩ := h.x hv
    obtain ⟨_, _, wx, wy⟩ := h.x hw
    unfold pN at e
    exact h.inj hv hw (by omega) (by omega)
  run := fun v e hv he hx => by
    obtain ⟨_, _, vx, vy⟩ := h.x hv
    have sp : ∀ j, j ≤ lenB P L v e → _ := fun j hj => h.spot hv he hx hj
    have hc : e = 0 ∨ e = 1 ∨ e = 2 ∨ e = 3 := by omega
    rcases hc with rfl | rfl | rfl | rfl
    · obtain ⟨w, s, t, w1, w2, s1, s2, t1, y1, y2, lt, mn, q1, _, l⟩ := h.hor hv (Or.inl rfl) hx
      obtain ⟨rfl, rfl⟩ := q1 rfl
      obtain ⟨_, _, wx, wy⟩ := h.x w1
      refine ⟨by omega, fun j hj => ?_, ?_⟩
      · rw [sp j (by omega), if_pos rfl]
        unfold brdN
        rw [if_pos rfl, if_neg (by omega)]; omega
      · rw [sp _ (Nat.le_refl _), if_pos rfl, l, w2]
        show _ = pN P t
        unfold pN; omega
    · obtain ⟨w, s, t, w1, w2, s1, s2, t1, y1, y2, lt, mn, q1, _, l⟩ := h.ver hv (Or.inl rfl) hx
      obtain ⟨rfl, rfl⟩ := q1 rfl
      obtain ⟨_, _, wx, wy⟩ := h.x w1
      refine ⟨by omega, fun j hj => ?_, ?_⟩
      · rw [sp j (by omega), if_neg (by decide), if_pos rfl]
        unfold brdN
        rw [if_neg (by decide), if_pos rfl, if_neg (by omega)]; omega
      · rw [sp _ (Nat.le_refl _), if_neg (by decide), if_pos rfl, l, w2]
        show _ = pN P t
        unfold pN; omega
    · obtain ⟨w, s, t, w1, w2, s1, s2, t1, y1, y2, lt, mn, _, q1, l⟩ := h.hor hv (Or.inr rfl) hx
      obtain ⟨rfl, rfl⟩ := q1 rfl
      refine ⟨by omega, fun j hj => ?_, ?_⟩
      · rw [sp j (by omega), if_neg (by decide), if_neg (by decide), if_pos rfl]
        unfold brdN
        rw [if_neg (by decide), if_neg (by decide), if_pos rfl, if_neg (by omega)]; omega
      · rw [sp _ (Nat.le_refl _), if_neg (by decide), if_neg (by decide), if_pos rfl, l, w2]
        show _ = pN P s
        unfold pN; omega
    · obtain ⟨w, s, t, w1, w2, s1, s2, t1, y1, y2, lt, mn, _, q1, l⟩ := h.ver hv (Or.inr rfl) hx
      obtain ⟨rfl, rfl⟩ := q1 rfl
      refine ⟨by omega, fun j hj => ?_, ?_⟩
      · rw [sp j (by omega), if_neg (by decide), if_neg (by decide), if_neg (by decide)]
        unfold brdN
        rw [if_neg (by decide), if_neg (by decide), if_neg (by decide), if_neg (by omega)]; omega
      · rw [sp _ (Nat.le_refl _), if_neg (by decide), if_neg (by decide), if_neg (by decide), l, w2]
        show _ = pN P s
        unfold pN; omega
  rev := fun v e hv he hx => by
    obtain ⟨w, w1, w2, _, w4⟩ := good_nat h.good hv he hx
    rw [w1]
    show lenB P L w (opp e) = _
    unfold lenB
    rw [w4, w1]
    have hc : e = 0 ∨ e = 1 ∨ e = 2 ∨ e = 3 := by omega
    rcases hc with rfl | rfl | rfl | rfl <;> rfl
  free := fun v e hv he hx j hj hj2 u hu eq => by
    obtain ⟨a, b, ha, hb, e1, f1, f2⟩ := h.inner hv he hx hj hj2
    obtain ⟨_, _, ux, uy⟩ := h.x hu
    rw [e1] at eq
    unfold pN at eq
    have g1 : xN P u = a := by omega
    have g2 : yN P u = b := by omega
    have hc : (e = 0 ∨ e = 2) ∨ (e = 1 ∨ e = 3) := by omega
    rcases hc with hc | hc
    · obtain ⟨s, t, _, _, _, _, h1, h2, h3⟩ := f1 hc
      have := h3 u hu g2 (by omega)
      omega
    · obtain ⟨s, t, _, _, _, _, h1, h2, h3⟩ := f2 hc
      have := h3 u hu g1 (by omega)
      omega
  cross := fun v e u f hv he hx hu hf hy i j hi hi2 hj hj2 eq => by
    obtain ⟨a, b, ha, hb, e1, f1, f2⟩ := h.inner hv he hx hi hi2
    obtain ⟨c, d, hc, hd, e2, g1, g2⟩ := h.inner hu hf hy hj hj2
    have q1 : a = c := by omega
    have q2 : b = d := by omega
    subst q1 q2
    have key : ∀ s t s2 t2, s < P.length → t < P.length → nxG L s 0 = (t : Nat) → yN P s = b → xN P s < a → a < xN P t → s2 < P.length → t2 < P.length → nxG L s2 1 = (t2 : Nat) → xN P s2 = a → yN P s2 < b → b < yN P t2 → False := by
      intro s t s2 t2 hs ht hn e1 l1 l2 hs2 ht2 hn2 e2 l3 l4
      refine h.nox s s2 hs hs2 (by rw [hn]; omega) (by rw [hn2]; omega) ?_
      rw [hn, hn2, Int.toNat_natCast, Int.toNat_natCast]
      have := h.x hs
      have := h.x ht
      have := h.x hs2
      have := h.x ht2
      omega
    have k1 : (e = 0 ∨ e = 2) ∨ (e = 1 ∨ e = 3) := by omega
    have k2 : (f = 0 ∨ f = 2) ∨ (f = 1 ∨ f = 3) := by omega
    rcases k1 with k1 | k1 <;> rcases k2 with k2 | k2
    · unfold opp; omega
    · obtain ⟨s, t, a1, a2, a3, a4, a5, a6, _⟩ := f1 k1
      obtain ⟨s2, t2, b1, b2, b3, b4, b5, b6, _⟩ := g2 k2
      exact (key s t s2 t2 a1 a2 a3 a4 a5 a6 b1 b2 b3 b4 b5 b6).elim
    · obtain ⟨s2, t2, a1, a2, a3, a4, a5, a6, _⟩ := f2 k1
      obtain ⟨s, t, b1, b2, b3, b4, b5, b6, _⟩ := g1 k2
      exact (key s t s2 t2 b1 b2 b3 b4 b5 b6 a1 a2 a3 a4 a5 a6).elim
    · unfold opp; omega
/-- Cells at places of the board that hang together, two at least: one face has the rotation -4, all others 4. -/
theorem OnB.rots (h : OnB P L) (hW : ∀ a b, a < P.length → b < P.length → Con L a b) (h2 : 1 < P.length) : goodR (rotsK L P.length) := by
  refine h.drw.rots hW ?_
  obtain ⟨k, hk⟩ := hW 0 1 (by omega) h2
  have : ∀ {k v w : Nat}, Wy L k v w → v < P.length → v ≠ w → ∃ v e, v < P.length ∧ e < 4 ∧ nxG L v e ≠ -1 := by
    intro k v w hk
    induction hk with
    | here => intro _ q; exact absurd rfl q
    | @step k a u w d h1 hd hx ih =>
      intro ha _
      exact ⟨u, d, h1.lt h.good ha, hd, by rw [hx]; omega⟩
  exact this hk (by omega) (by decide)
end
end Go.Proofs.YtkakeakdgidigaaDoor.VdM

namespace Go.Proofs.YtkakeakdgidigaaDoor.VdM
open Go.Proofs.YtkakeakdgidigaaDoor.GrM Go.Proofs.YtkakeakdgidigaaDoor.FcM Go.Proofs.YtkakeakdgidigaaDoor.JoM

/-! A face's rotation, by its word. -/
def wsum : List UInt8 → Int
  | [] => 0
  | b :: l => ((b.toNat : Int) - 109) + wsum l
theorem wsum_perm {a b : List UInt8} (h : a.Perm b) : wsum a = wsum b := by
  induction h with
  | nil => rfl
  | cons a _ ih => simp only [wsum, ih]
  | swap a b l => simp only [wsum]; omega
  | trans _ _ h1 h2 => exact h1.trans h2
theorem wsum_can (s : List UInt8) : wsum (canL s) = wsum s := by
  obtain ⟨⟨i, _, e⟩, _⟩ := cn_is s s.length
  unfold canL
  rw [e]
  exact wsum_perm (rot_perm s i)
theorem wsum_byt : ∀ {z : List Int}, (∀ a ∈ z, -2 ≤ a ∧ a ≤ 1) → wsum (bytL z) = smF (fun _ => 0) [] + z.foldr (· + ·) 0
  | [], _ => rfl
  | a :: z, h => by
    have ha := h a (by simp)
    have ih := wsum_byt (z := z) (fun c hc => h c (by simp [hc]))
    unfold bytL at ih ⊢
    rw [List.map_cons, wsum, ih, List.foldr_cons]
    have : (UInt8.ofNat (109 + a).toNat).toNat = (109 + a).toNat := by
      rw [UInt8.toNat_ofNat']
      omega
    rw [this]
    omega
theorem fold_wrd (t : Nat → Int) : ∀ x : List Nat, (wrdT t x).foldr (· + ·) 0 = smF t x
  | [] => rfl
  | a :: x => by
    have ih := fold_wrd t x
    unfold wrdT at ih ⊢
    rw [List.map_cons]
    by_cases h : t a = 0
    · rw [List.filter_cons_of_neg (by simp [h]), ih]
      simp only [smF, h]; omega
    · rw [List.filter_cons_of_pos (by simp [h]), List.foldr_cons, ih]
      rfl
theorem word_sum (L : List Int) (x : List Nat) : wsum (wordK L x) = smF (trnK L) x := by
  unfold wordK
  rw [wsum_can, wsum_byt, fold_wrd]
  · simp [smF]
  · intro a ha
    unfold wrdT at ha
    obtain ⟨h1, _⟩ := List.mem_filter.1 ha
    obtain ⟨k, _, rfl⟩ := List.mem_map.1 h1
    exact trn_range L k
theorem rots_word (L : List Int) (n : Nat) : rotsK L n = ((facesK L n).map (wordK L)).map wsum := by
  unfold rotsK
  rw [List.map_map]
  exact List.map_congr_left fun x _ => (word_sum L x).symm
theorem turn_rots {L : List Int} {n : Nat} (hg : GoodG L n) : (rotsK L n).Perm (rotsK (turnG L n) n) := by
  rw [rots_word, rots_word]
  exact (turn_told hg).map _
theorem split_rots {L : List Int} {n v d w : Nat} {o : Int} (hl : L.length = n * 8) (hg : GoodG L n) (hv : v < n) (hd : d < 4) (h1 : nxG L v d = w) (ho : owG L v d = o) : (rotsK L n).Perm (rotsK (splitG L n v d w o) (n + 1)) := by
  rw [rots_word, rots_word]
  exact (split_told hl hg hv hd h1 ho).map _
theorem goodR_iff {A B : List Int} (h : A.Perm B) : goodR A ↔ goodR B := ⟨goodR_perm h, goodR_perm h.symm⟩
instance (R : List Int) : Decidable (goodR R) := by unfold goodR; infer_instance
/-! Counted. -/
theorem sum_good : ∀ {R : List Int}, (∀ r ∈ R, r = 4 ∨ r = -4) → R.foldr (· + ·) 0 = 4 * (R.length : Int) - 8 * (R.count (-4) : Int)
  | [], _ => rfl
  | r :: R, h => by
    have hr := h r (by simp)
    have ih := sum_good (R := R) (fun c hc => h c (by simp [hc]))
    rw [List.foldr_cons, ih, List.length_cons, List.count_cons]
    rcases hr with rfl | rfl
    · simp; omega
    · simp; omega
theorem any_all {L : List Int} : ∀ {n : Nat}, (∀ v, v < n → ¬ Alone L v) → anyN L n = n
  | 0, _ => rfl
  | n + 1, h => by
    rw [anyN, any_all (n := n) (fun v hv => h v (by omega))]
    have : anyB L n = true := by
      obtain ⟨e, he, hx⟩ := not_alone (h n (by omega))
      have hb : isB L (4 * n + e) = true := by
        unfold isB nxK
        rw [show (4 * n + e) / 4 = n by omega, show (4 * n + e) % 4 = e by omega]
        exact decide_eq_true hx
      unfold anyB
      have : e = 0 ∨ e = 1 ∨ e = 2 ∨ e = 3 := by omega
      rcases this with rfl | rfl | rfl | rfl
      · rw [Nat.add_zero] at hb; rw [hb]; rfl
      · rw [hb]; simp
      · rw [hb]; simp
      · rw [hb]; simp
    rw [this, if_pos rfl]
    omega
/-- Two more faces and cells together than edges. -/
theorem euler {L : List Int} {n : Nat} (hg : GoodG L n) (hr : goodR (rotsK L n)) (ha : ∀ v, v < n → ¬ Alone L v) : ∃ h : Nat, (dartsT L (4 * n)).length = 2 * h ∧ (facesK L n).length + n = h + 2 := by
  obtain ⟨h, h1, h2⟩ := faces_sum hg
  refine ⟨h, by rw [← h1]; exact (faces_perm hg).length_eq.symm, ?_⟩
  rw [sm_flat, any_all ha] at h2
  have h3 := sum_good hr.2
  unfold rotsK at h3 hr
  rw [h2, hr.1, List.length_map] at h3
  omega
/-- Of two cells or more that hang together each has an edge. -/
theorem con_alone {L : List Int} {n : Nat} (hW : ∀ a b, a < n → b < n → Con L a b) (h2 : 1 < n) : ∀ v, v < n → ¬ Alone L v := by
  intro v hv hal
  obtain ⟨u, hu, hne⟩ : ∃ u, u < n ∧ v ≠ u := by
    by_cases c : v = 0
    · exact ⟨1, h2, by omega⟩
    · exact ⟨0, by omega, c⟩
  obtain ⟨k, hk⟩ := hW v u hv hu
  have : ∀ {k v w : Nat}, Wy L k v w → Alone L v → v = w := by
    intro k v w h
    induction h with
    | here => intro _; rfl
    | step h1 hd hx ih =>
      intro hal
      have e := ih hal
      subst e
      rw [hal _ hd] at hx
      omega
  exact hne (this hk hal)
end Go.Proofs.YtkakeakdgidigaaDoor.VdM

namespace Go.Proofs.YtkakeakdgidigaaDoor.VdM
open Go.Proofs.YtkakeakdgidigaaDoor.GrM Go.Proofs.YtkakeakdgidigaaDoor.FcM Go.Proofs.YtkakeakdgidigaaDoor.JoM

theorem parts_pos {L : List Int} {n : Nat} : ∀ {v : Nat}, 0 < v → 0 < (partsK L n v).length
  | 0, h => absurd h (by omega)
  | 1, _ => by
    have : ¬ oldB L 0 = true := fun h => by obtain ⟨a, h, _⟩ := oldB_iff.1 h; omega
    rw [parts_more this]; simp
  | v + 2, _ => by
    have := parts_pos (L := L) (n := n) (v := v + 1) (by omega)
    by_cases h : oldB L (v + 1) = true
    · rw [parts_skip h]; exact this
    · rw [parts_more h, List.length_append]; simp
theorem parts_one {L : List Int} {n : Nat} (hg : GoodG L n) : (partsK L n n).length = 1 ↔ 0 < n ∧ ∀ a b, a < n → b < n → Con L a b := by
  have mono : ∀ {v : Nat}, (partsK L n v).length ≤ (partsK L n (v + 1)).length := fun {v} => by
    by_cases h : oldB L v = true
    · rw [parts_skip h]; exact Nat.le_refl _
    · rw [parts_more h, List.length_append]; omega
  have up : ∀ (d v : Nat), (partsK L n v).length ≤ (partsK L n (v + d)).length := by
    intro d
    induction d with
    | zero => intro v; exact Nat.le_refl _
    | succ d ih => intro v; exact Nat.le_trans (ih v) mono
  constructor
  · intro h
    have hn : 0 < n := Nat.pos_of_ne_zero fun e => by subst e; simp [partsK] at h
    have old : ∀ v, 0 < v → v < n → oldB L v = true := by
      intro v hv hvn
      refine Decidable.byContradiction fun c => ?_
      have h1 := parts_pos (L := L) (n := n) hv
      have h2 := up (n - (v + 1)) (v + 1)
      rw [show v + 1 + (n - (v + 1)) = n by omega, h, parts_more c, List.length_append, List.length_singleton] at h2
      omega
    have zero : ∀ v, v < n → Con L 0 v := by
      intro v
      induction v using Nat.strongRecOn with
      | _ v ih =>
        intro hv
        by_cases c : v = 0
        · subst c; exact Con.refl _
        · obtain ⟨a, ha, hc⟩ := oldB_iff.1 (old v (by omega) hv)
          exact (ih a ha (by omega)).trans hc
    exact ⟨hn, fun a b ha hb => ((zero a ha).symm hg hn).trans (zero b hb)⟩
  · rintro ⟨hn, hW⟩
    have one : ∀ v, 0 < v → v ≤ n → (partsK L n v).length = 1 := by
      intro v
      induction v with
      | zero => intro h; omega
      | succ v ih =>
        intro _ hv
        by_cases c : v = 0
        · subst c
          have : ¬ oldB L 0 = true := fun h => by obtain ⟨a, h, _⟩ := oldB_iff.1 h; omega
          rw [parts_more this]; rfl
        · rw [parts_skip (oldB_iff.2 ⟨0, by omega, hW 0 v hn (by omega)⟩)]
          exact ih (by omega) (by omega)
    exact one n hn (Nat.le_refl _)
/-- The error: 0, or why they can't be drawn. -/
noncomputable def vldE (L : List Int) (n : Nat) : Int := if chkG L n ≠ 0 then chkG L n else if (partsK L n n).length ≠ 1 then 13 else if n = 1 then 0 else if goodR (rotsK L n) then 0 else 10
theorem vld_good {L : List Int} {n : Nat} (h : chkG L n = 0) : vldE L n = if (partsK L n n).length ≠ 1 then 13 else if n = 1 then 0 else if goodR (rotsK L n) then 0 else 10 := by
  unfold vldE
  rw [if_neg (fun q => q h)]
theorem vld_turn {L : List Int} {n : Nat} (h : chkG L n = 0) : vldE (turnG L n) n = vldE L n := by
  have hg := (chk_good.1 h).2
  rw [vld_good h, vld_good (turn_chk.2 h), turn_parts hg]
  have := goodR_iff (turn_rots hg)
  by_cases c : goodR (rotsK L n)
  · rw [if_pos c, if_pos (this.1 c)]
  · rw [if_neg c, if_neg (fun q => c (this.2 q))]
theorem vld_split {L : List Int} {n v d w : Nat} {o : Int} (hl : L.length = n * 8) (h : chkG L n = 0) (hn : n < 4096) (hv : v < n) (hd : d < 4) (h1 : nxG L v d = w) (ho : owG L v d = o) : vldE (splitG L n v d w o) (n + 1) = vldE L n := by
  have hg := (chk_good.1 h).2
  obtain ⟨hw, _⟩ := next_lt hg hv hd h1
  have hne : w ≠ v := by
    rcases hg.side hv hd with q | ⟨_, _, q, _⟩
    · omega
    · omega
  have hM := split_good hl hg hv hw hd h1 ho
  rw [vld_good h, vld_good (chk_good.2 ⟨by omega, hM⟩), split_parts hl hg hv hd h1 ho, List.length_map, if_neg (show ¬ n + 1 = 1 by omega), if_neg (show ¬ n = 1 by omega)]
  have := goodR_iff (split_rots hl hg hv hd h1 ho)
  by_cases c : goodR (rotsK L n)
  · rw [if_pos c, if_pos (this.1 c)]
  · rw [if_neg c, if_neg (fun q => c (this.2 q))]
/-- Cells at places of the board can be drawn just if they hang together. -/
theorem vld_plane {P : List (Int × Int)} {L : List Int} (h : OnB P L) (hn : P.length ≤ 4096) : vldE L P.length = if (partsK L P.length P.length).length = 1 then 0 else 13 := by
  rw [vld_good (chk_good.2 ⟨hn, h.good⟩)]
  by_cases c : (partsK L P.length P.length).length = 1
  · rw [if_neg (fun q => q c), if_pos c]
    obtain ⟨hp, hW⟩ := (parts_one h.good).1 c
    by_cases c1 : P.length = 1
    · rw [if_pos c1]
    · rw [if_neg c1, if_pos (h.rots hW (by omega))]
  · rw [if_pos c, if_neg c]
/-- Of two cells or more that can be drawn. -/
theorem vld_euler {L : List Int} {n : Nat} (h : chkG L n = 0) (hv : vldE L n = 0) (h2 : 1 < n) : ∃ e : Nat, (dartsT L (4 * n)).length = 2 * e ∧ (facesK L n).length + n = e + 2 := by
  have hg := (chk_good.1 h).2
  rw [vld_good h] at hv
  by_cases c : (partsK L n n).length = 1
  · rw [if_neg (fun q => q c), if_neg (by omega)] at hv
    by_cases c2 : goodR (rotsK L n)
    · exact euler hg c2 (con_alone ((parts_one hg).1 c).2 h2)
    · rw [if_neg c2] at hv; omega
  · rw [if_pos c] at hv; omega
end Go.Proofs.YtkakeakdgidigaaDoor.VdM

namespace Go.Proofs.YtkakeakdgidigaaDoor.VdM
open Go.Proofs.YtkakeakdgidigaaDoor.GrM Go.Proofs.YtkakeakdgidigaaDoor.FcM Go.Proofs.YtkakeakdgidigaaDoor.JoM

/-- So far all are 4 or -4; where the one of -4 is, -1 if there is none. -/
def ScR (R : List Int) (k : Nat) (a : Int) : Prop :=
  (∀ j, j < k → R.getD j 0 = 4 ∨ R.getD j 0 = -4) ∧ ((a = -1 ∧ ∀ j, j < k → R.getD j 0 ≠ -4) ∨ ∃ i : Nat, i < k ∧ a = (i : Int) ∧ R.getD i 0 = -4 ∧ ∀ j, j < k → R.getD j 0 = -4 → j = i)
theorem ScR.start (R : List Int) : ScR R 0 (-1) := ⟨fun j hj => absurd hj (by omega), Or.inl ⟨rfl, fun j hj => absurd hj (by omega)⟩⟩
/-- One more of 4. -/
theorem ScR.inner {R : List Int} {k : Nat} {a : Int} (h : ScR R k a) (hr : R.getD k 0 = 4) : ScR R (k + 1) a := by
  obtain ⟨h1, h2⟩ := h
  refine ⟨fun j hj => ?_, ?_⟩
  · by_cases c : j = k
    · subst c; exact Or.inl hr
    · exact h1 j (by omega)
  · rcases h2 with ⟨e, g⟩ | ⟨i, hi, e, g, u⟩
    · refine Or.inl ⟨e, fun j hj => ?_⟩
      by_cases c : j = k
      · subst c; rw [hr]; decide
      · exact g j (by omega)
    · refine Or.inr ⟨i, by omega, e, g, fun j hj hx => ?_⟩
      by_cases c : j = k
      · subst c; rw [hr] at hx; exact absurd hx (by decide)
      · exact u j (by omega) hx
/-- The first one of -4. -/
theorem ScR.outer {R : List Int} {k : Nat} {a : Int} (h : ScR R k a) (ha : a < 0) (hr : R.getD k 0 = -4) : ScR R (k + 1) k := by
  obtain ⟨h1, h2⟩ := h
  refine ⟨fun j hj => ?_, ?_⟩
  · by_cases c : j = k
    · subst c; exact Or.inr hr
    · exact h1 j (by omega)
  · rcases h2 with ⟨_, g⟩ | ⟨i, hi, e, _⟩
    · refine Or.inr ⟨k, by omega, rfl, hr, fun j hj hx => ?_⟩
      by_cases c : j = k
      · exact c
      · exact absurd hx (g j (by omega))
    · omega
theorem count_one {R : List Int} {i : Nat} (hi : i < R.length) (h1 : R.getD i 0 = -4) (h2 : ∀ j, j < R.length → R.getD j 0 = -4 → j = i) : R.count (-4) = 1 := by
  have e : R = R.take i ++ (-4) :: R.drop (i + 1) := by
    have := List.take_append_drop i R
    rw [List.drop_eq_getElem_cons hi] at this
    have hg : R[i] = -4 := by rw [List.getD_eq_getElem?_getD, List.getElem?_eq_getElem hi] at h1; simpa using h1
    rw [hg] at this
    exact this.symm
  have z1 : (R.take i).count (-4) = 0 := by
    refine List.count_eq_zero.2 fun hm => ?_
    obtain ⟨j, hj, hx⟩ := List.getElem_of_mem hm
    rw [List.length_take] at hj
    have : R.getD j 0 = -4 := by
      rw [List.getD_eq_getElem?_getD, List.getElem?_eq_getElem (by omega)]
      rw [List.getElem_take] at hx
      simpa using hx
    have := h2 j (by omega) this
    omega
  have z2 : (R.drop (i + 1)).count (-4) = 0 := by
    refine List.count_eq_zero.2 fun hm => ?_
    obtain ⟨j, hj, hx⟩ := List.getElem_of_mem hm
    rw [List.length_drop] at hj
    have : R.getD (i + 1 + j) 0 = -4 := by
      rw [List.getD_eq_getElem?_getD, List.getElem?_eq_getElem (by omega)]
      rw [List.getElem_drop] at hx
      simpa using hx
    have := h2 (i + 1 + j) (by omega) this
    omega
  rw [e, List.count_append, List.count_cons, z1, z2]
  simp
theorem getD_memI {R : List Int} {j : Nat} (h : j < R.length) : R.getD j 0 ∈ R := by
  rw [List.getD_eq_getElem?_getD, List.getElem?_eq_getElem h]
  exact List.getElem_mem h
/-- A bad one, or a second one of -4. -/
theorem ScR.bad {R : List Int} {k : Nat} {a : Int} (h : ScR R k a) (hk : k < R.length) (hb : (R.getD k 0 ≠ 4 ∧ R.getD k 0 ≠ -4) ∨ (R.getD k 0 = -4 ∧ 0 ≤ a)) : ¬ goodR R := by
  rintro ⟨g1, g2⟩
  rcases hb with ⟨b1, b2⟩ | ⟨b1, b2⟩
  · rcases g2 _ (getD_memI hk) with q | q
    · exact b1 q
    · exact b2 q
  · obtain ⟨_, h2⟩ := h
    rcases h2 with ⟨e, _⟩ | ⟨i, hi, e, g, u⟩
    · omega
    · have e1 : R = R.take k ++ (-4) :: R.drop (k + 1) := by
        have := List.take_append_drop k R
        rw [List.drop_eq_getElem_cons hk] at this
        have hg : R[k] = -4 := by rw [List.getD_eq_getElem?_getD, List.getElem?_eq_getElem hk] at b1; simpa using b1
        rw [hg] at this
        exact this.symm
      have z1 : 0 < (R.take k).count (-4) := by
        refine List.count_pos_iff.2 ?_
        have hm : (R.take k).getD i 0 ∈ R.take k := getD_memI (by rw [List.length_take]; omega)
        rw [List.getD_eq_getElem?_getD, List.getElem?_take, if_pos hi, ← List.getD_eq_getElem?_getD, g] at hm
        exact hm
      rw [e1, List.count_append, List.count_cons] at g1
      simp at g1
      omega
/-- Where the outer one is. -/
def outI (R : List Int) : Nat := R.idxOf (-4)
theorem ScR.end_ {R : List Int} {a : Int} (h : ScR R R.length a) : (a < 0 → ¬ goodR R) ∧ (0 ≤ a → goodR R ∧ a = (outI R : Int)) := by
  obtain ⟨h1, h2⟩ := h
  refine ⟨fun ha g => ?_, fun ha => ?_⟩
  · rcases h2 with ⟨e, q⟩ | ⟨i, hi, e, _⟩
    · have : 0 < R.count (-4) := by rw [g.1]; decide
      have hm := List.count_pos_iff.1 this
      obtain ⟨j, hj, hx⟩ := List.getElem_of_mem hm
      refine q j hj ?_
      rw [List.getD_eq_getElem?_getD, List.getElem?_eq_getElem hj, hx]; rfl
    · omega
  · rcases h2 with ⟨e, _⟩ | ⟨i, hi, e, g, u⟩
    · omega
    · have c := count_one hi g u
      refine ⟨⟨c, fun r hr => ?_⟩, ?_⟩
      · obtain ⟨j, hj, rfl⟩ := List.getElem_of_mem hr
        have := h1 j hj
        rw [List.getD_eq_getElem?_getD, List.getElem?_eq_getElem hj] at this
        simpa using this
      · have hm : (-4 : Int) ∈ R := List.count_pos_iff.1 (by omega)
        have hlt := List.idxOf_lt_length_of_mem hm
        have hx := List.getElem_idxOf hlt
        have := u (R.idxOf (-4)) hlt (by rw [List.getD_eq_getElem?_getD, List.getElem?_eq_getElem hlt, hx]; rfl)
        unfold outI
        omega
end Go.Proofs.YtkakeakdgidigaaDoor.VdM
