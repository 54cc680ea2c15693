/-
  What the document's making leaves is what the code's joins leave: mathematics. Conditions: a shape that may be written.
-/
import Derived.Test.YtecifgaekefkpaaDoorNcN
import Derived.Test.YtecifgaekefkpaaDoorNmG
namespace Go.Proofs.YtecifgaekefkpaaDoor
open Go.Proofs.YtecifgaekefkpaaDoor.LexM Go.Proofs.YtecifgaekefkpaaDoor.ParM Go.Proofs.YtecifgaekefkpaaDoor.GrM Go.Proofs.YtecifgaekefkpaaDoor.NmM

theorem newG_app (n : Nat) : ∀ m, newG (n + m) = newG n ++ newG m
  | 0 => by simp [newG]
  | m + 1 => by rw [show n + (m + 1) = (n + m) + 1 by omega, newG, newG_app n m, newG, List.append_assoc]
theorem put_app {L K : List Int} {n v d : Nat} {w o : Int} (hl : L.length = n * 8) (hv : v < n) (hd : d < 4) : putG (L ++ K) v d w o = putG L v d w o ++ K := by
  unfold putG
  rw [List.set_append_left _ _ (by omega), List.set_append_left _ _ (by rw [List.length_set]; omega)]
theorem join_app {L K : List Int} {n v d w : Nat} {o : Int} (hl : L.length = n * 8) (hv : v < n) (hw : w < n) (hd : d < 4) : joinG (L ++ K) v d w o = joinG L v d w o ++ K := by
  unfold joinG
  rw [put_app hl hv hd, put_app (by rw [put_len]; exact hl) hw (opp_lt d)]
theorem joi_app {L : List Int} {n m : Nat} {a d b o : Int} (hl : L.length = n * 8) (ha : 0 ≤ a ∧ a < n) (hb : 0 ≤ b ∧ b < n) : (joiO (L ++ newG m) (n + m) a d b o).2 = (joiO L n a d b o).2 ++ newG m := by
  unfold joiO
  by_cases h : badJ n a d b o
  · rw [if_pos h, if_pos (by unfold badJ at h ⊢; omega)]
  · rw [if_neg h, if_neg (by unfold badJ at h ⊢; omega)]
    unfold badJ at h
    rw [nx_old hl (by omega) (by omega), nx_old hl (by omega) (opp_lt _)]
    by_cases h2 : nxG L a.toNat d.toNat ≠ -1 ∨ nxG L b.toNat (opp d.toNat) ≠ -1
    · rw [if_pos h2, if_pos h2]
    · rw [if_neg h2, if_neg h2]
      exact join_app hl (by omega) (by omega) (by omega)
/-- The cells so far are what so many joins leave. -/
def Rep (s : NSt) (J : List Jn) : Prop := s.L.length = s.n * 8 ∧ ∀ m, s.L ++ newG m = jnA (s.n + m) (newG (s.n + m)) J
theorem Rep.mo {s : NSt} {J : List Jn} (h : Rep s J) : Rep (moN s) J := by
  refine ⟨more_len h.1, fun m => ?_⟩
  show (s.L ++ freeC) ++ newG m = jnA (s.n + 1 + m) (newG (s.n + 1 + m)) J
  have h1 := h.2 (1 + m)
  rw [newG_app 1 m, ← List.append_assoc, ← Nat.add_assoc] at h1
  exact h1
theorem Rep.put {s : NSt} {J : List Jn} (h : Rep s J) (t c : Int) : Rep (putE s t c) J := h
theorem Rep.joi {s : NSt} {J : List Jn} (h : Rep s J) {a d b o : Int} (ha : 0 ≤ a ∧ a < s.n) (hb : 0 ≤ b ∧ b < s.n) : Rep (joiN s a d b o) (J ++ [(a, d, b, o)]) := by
  refine ⟨joiO_len.trans h.1, fun m => ?_⟩
  show (joiO s.L s.n a d b o).2 ++ newG m = _
  rw [jnA_snoc, ← joi_app h.1 ha hb]
  show _ = jn1 (s.n + m) (jnA (s.n + m) (newG (s.n + m)) J) (a, d, b, o)
  rw [← h.2 m]; rfl
theorem celR_getD {a n i : Nat} (h : i < n) : (celR a n).getD i 0 = ((a + i : Nat) : Int) := by
  unfold celR
  rw [List.getD_eq_getElem?_getD, List.getElem?_map, List.getElem?_range h]; rfl
theorem rep_chain {s : NSt} {J : List Jn} {way c : Int} {l : List Int} {q : Nat} (h : Rep s J) (hc : 0 ≤ c ∧ c < s.n) : ∀ i, i ≤ q → Rep (chK way l s c i).1 (J ++ chJ way c (celR s.n q) i) ∧ (chK way l s c i).2 = chA c (celR s.n q) i ∧ 0 ≤ (chK way l s c i).2 ∧ (chK way l s c i).2 < (chK way l s c i).1.n
  | 0, _ => ⟨by rw [chJ, List.append_nil]; exact h, rfl, hc.1, hc.2⟩
  | i + 1, hi => by
    obtain ⟨h1, h2, h3, h4⟩ := rep_chain (way := way) (l := l) (q := q) h hc i (by omega)
    have hn := (chK_m (way := way) (l := l) (s := s) (c := c) i).1
    have e0 : chK way l s c (i + 1) = (joiN (putE (moN (chK way l s c i).1) (l.getD i 0) (chK way l s c i).1.n) (chK way l s c i).2 way (chK way l s c i).1.n (-1), ((chK way l s c i).1.n : Int)) := rfl
    have hm : (putE (moN (chK way l s c i).1) (l.getD i 0) (chK way l s c i).1.n).n = (chK way l s c i).1.n + 1 := rfl
    rw [e0, chJ, ← List.append_assoc]
    refine ⟨?_, ?_, ?_, ?_⟩
    · rw [celR_getD (a := s.n) (n := q) (i := i) (by omega), ← h2, ← hn]
      exact ((h1.mo).put _ _).joi ⟨h3, by rw [hm]; omega⟩ ⟨by omega, by rw [hm]; omega⟩
    · show _ = (celR s.n q).getD i 0
      rw [celR_getD (a := s.n) (n := q) (i := i) (by omega), hn]
    · show (0 : Int) ≤ ((chK way l s c i).1.n : Int); omega
    · show ((chK way l s c i).1.n : Int) < ((chK way l s c i).1.n + 1 : Nat); omega
theorem rep_side {E : List Edg} {v : Int} {c d : Nat} {s : NSt} {J : List Jn} (h : Rep s J) (hd : d < 4) (hc : c + 4 ≤ s.n) : Rep (sdN E v c s d) (J ++ sdJ (wyC d) (frC c d) (toC c d) (celR s.n (onL E v d).length)) := by
  have hf : 0 ≤ frC c d ∧ frC c d < s.n := by rw [frC_n]; have := frN_lt d; omega
  obtain ⟨h1, h2, h3, h4⟩ := rep_chain (way := wyC d) (l := onL E v d) (q := (onL E v d).length) h hf (onL E v d).length (Nat.le_refl _)
  have hn := (chK_m (way := wyC d) (l := onL E v d) (s := s) (c := frC c d) (onL E v d).length).1
  unfold sdN sdJ
  rw [celR_len, ← List.append_assoc, ← h2]
  exact h1.joi ⟨h3, h4⟩ (by rw [toC_n c d hd]; have := toN_lt d; omega)
theorem rep_box {E : List Edg} {v c : Nat} {s : NSt} {J : List Jn} (h : Rep s J) (hc : s.n = c + 4) : ∀ d, d ≤ 4 → Rep (bxK E v c s d) (J ++ bxJ c (fun d => sdC E v c d) d)
  | 0, _ => by rw [bxJ, List.append_nil]; exact h
  | d + 1, hd => by
    have h1 := rep_box (E := E) (v := v) h hc d (by omega)
    have hn := (bxK_m (E := E) (v := (v : Int)) (c := c) (s := s) d).1
    have h2 := rep_side (E := E) (v := (v : Int)) (c := c) h1 (show d < 4 by omega) (by omega)
    rw [hn, hc] at h2
    rw [bxJ, ← List.append_assoc]
    exact h2
theorem rep_boxN {E : List Edg} {v : Nat} {s : NSt} {J : List Jn} (h : Rep s J) : Rep (bxN E v s) (J ++ bxJ s.n (fun d => sdC E v s.n d) 4) := by
  unfold bxN
  refine rep_box (c := s.n) (s := { s with L := s.L ++ newG 4, n := s.n + 4 }) ⟨by show (s.L ++ newG 4).length = (s.n + 4) * 8; rw [List.length_append, h.1, new_len]; omega, fun m => ?_⟩ rfl 4 (Nat.le_refl _)
  show (s.L ++ newG 4) ++ newG m = jnA (s.n + 4 + m) (newG (s.n + 4 + m)) J
  rw [List.append_assoc, ← newG_app, Nat.add_assoc]
  exact h.2 (4 + m)
theorem rep_ptE {l : List Int} {c : Int} {s : NSt} {J : List Jn} (h : Rep s J) : ∀ i, Rep (ptE l c s i) J
  | 0 => h
  | i + 1 => (rep_ptE (l := l) (c := c) h i).put _ _
theorem rep_ptK {E : List Edg} {v c : Int} {s : NSt} {J : List Jn} (h : Rep s J) : ∀ d, Rep (ptK E v c s d) J
  | 0 => h
  | d + 1 => rep_ptE (rep_ptK (E := E) (v := v) (c := c) h d) _
theorem rep_vx (B : List Bool) (E : List Edg) : ∀ k, Rep (vxK B E k).1 (bsJ E (cntV B E) (boxK B k))
  | 0 => ⟨rfl, fun m => by show [] ++ newG m = _; rw [show boxK B 0 = [] from rfl]; show newG m = newG (0 + m); rw [Nat.zero_add]⟩
  | k + 1 => by
    have h := rep_vx B E k
    have hn := (vxK_m B E k).1
    show Rep (if B.getD k false = true then bxN E k (vxK B E k).1 else ptN E k (vxK B E k).1) _
    rw [boxK_next]
    by_cases hb : B.getD k false = true
    · rw [if_pos hb, if_pos hb]
      have h1 := rep_boxN (E := E) (v := k) h
      rw [hn] at h1
      unfold bsJ at h1 ⊢
      rw [List.flatMap_append]
      simpa using h1
    · rw [if_neg hb, if_neg hb]
      exact rep_ptK h.mo 4
/-- Where ends stand: at cells that are there, or not told yet. -/
def EnOk (s : NSt) : Prop := ∀ t, 0 ≤ s.en.getD t 0 ∧ (s.en.getD t 0 < s.n ∨ s.en.getD t 0 = 0)
theorem getD_setA (L : List Int) (i j : Nat) (x : Int) : (L.set i x).getD j 0 = x ∨ (L.set i x).getD j 0 = L.getD j 0 := by
  rw [List.getD_eq_getElem?_getD, List.getD_eq_getElem?_getD, List.getElem?_set]
  by_cases h : i = j
  · subst h
    by_cases h2 : i < L.length
    · left; simp [h2]
    · right; simp [h2]
  · right; rw [if_neg h]
theorem EnOk.put {s : NSt} (h : EnOk s) {t c : Int} (hc : 0 ≤ c ∧ c < s.n) : EnOk (putE s t c) := fun j => by
  rcases getD_setA s.en t.toNat j c with e | e
  · show 0 ≤ (s.en.set t.toNat c).getD j 0 ∧ ((s.en.set t.toNat c).getD j 0 < s.n ∨ _)
    rw [e]; exact ⟨hc.1, Or.inl hc.2⟩
  · show 0 ≤ (s.en.set t.toNat c).getD j 0 ∧ ((s.en.set t.toNat c).getD j 0 < s.n ∨ (s.en.set t.toNat c).getD j 0 = 0)
    rw [e]; exact h j
theorem EnOk.more {s s' : NSt} (h : EnOk s) (he : s'.en = s.en) (hn : s.n ≤ s'.n) : EnOk s' := fun j => by rw [he]; have := h j; omega
theorem ok_chain {way c : Int} {l : List Int} {s : NSt} (h : EnOk s) : ∀ i, EnOk (chK way l s c i).1
  | 0 => h
  | i + 1 => by
    have h1 := ok_chain (way := way) (c := c) (l := l) h i
    have h2 : EnOk (moN (chK way l s c i).1) := h1.more rfl (Nat.le_succ _)
    have h3 : EnOk (putE (moN (chK way l s c i).1) (l.getD i 0) (chK way l s c i).1.n) := h2.put ⟨by omega, by show ((chK way l s c i).1.n : Int) < ((chK way l s c i).1.n + 1 : Nat); omega⟩
    exact EnOk.more h3 rfl (Nat.le_refl _)
theorem ok_box {E : List Edg} {v : Int} {c : Nat} {s : NSt} (h : EnOk s) : ∀ d, EnOk (bxK E v c s d)
  | 0 => h
  | d + 1 => EnOk.more (ok_chain (way := wyC d) (c := frC c d) (l := onL E v d) (ok_box (E := E) (v := v) (c := c) h d) (onL E v d).length) rfl (Nat.le_refl _)
theorem ok_ptE {l : List Int} {c : Int} {s : NSt} (hc : 0 ≤ c ∧ c < s.n) (h : EnOk s) : ∀ i, EnOk (ptE l c s i)
  | 0 => h
  | i + 1 => (ok_ptE (l := l) hc h i).put (by rw [(ptE_n i).1]; exact hc)
theorem ok_ptK {E : List Edg} {v c : Int} {s : NSt} (hc : 0 ≤ c ∧ c < s.n) (h : EnOk s) : ∀ d, EnOk (ptK E v c s d)
  | 0 => h
  | d + 1 => ok_ptE (by rw [(ptK_n d).1]; exact hc) (ok_ptK hc h d) _
theorem ok_vx (B : List Bool) (E : List Edg) : ∀ k, EnOk (vxK B E k).1
  | 0 => fun t => by
    have e : (vxK B E 0).1.en.getD t 0 = 0 := by show (List.replicate (2 * E.length) (0 : Int)).getD t 0 = 0; rw [List.getD_eq_getElem?_getD, List.getElem?_replicate]; split <;> rfl
    rw [e]; omega
  | k + 1 => by
    have h := ok_vx B E k
    show EnOk (if B.getD k false = true then bxN E k (vxK B E k).1 else ptN E k (vxK B E k).1)
    by_cases hb : B.getD k false = true
    · rw [if_pos hb]
      exact ok_box (h.more (s' := { (vxK B E k).1 with L := (vxK B E k).1.L ++ newG 4, n := (vxK B E k).1.n + 4 }) rfl (by show _ ≤ (vxK B E k).1.n + 4; omega)) 4
    · rw [if_neg hb]
      exact ok_ptK (s := moN (vxK B E k).1) ⟨by omega, by show ((vxK B E k).1.n : Int) < ((vxK B E k).1.n + 1 : Nat); omega⟩ (h.more rfl (Nat.le_succ _)) 4
theorem wayF_at {en : List Int} {nb n i : Nat} : (wayF en nb n i).getD 0 0 = en.getD (2 * i) 0 ∧ (∀ k, k < nb → (wayF en nb n i).getD (k + 1) 0 = ((n + k : Nat) : Int)) ∧ (wayF en nb n i).getD (nb + 1) 0 = en.getD (2 * i + 1) 0 := by
  refine ⟨rfl, fun k hk => ?_, ?_⟩
  · show (celR n nb ++ [_]).getD k 0 = _
    rw [getD_left (by rw [celR_len]; exact hk), celR_getD hk]
  · show (celR n nb ++ [_]).getD nb 0 = _
    rw [getD_right (by rw [celR_len]; exact Nat.le_refl _), celR_len, Nat.sub_self]; rfl
theorem rep_bend {i : Nat} {bl : List UInt8} {s : NSt} {J : List Jn} {d0 a : Int} {W : List Int} (h : Rep s J) (ha : 0 ≤ a ∧ a < s.n) (h0 : 0 ≤ d0) (h3 : d0 ≤ 3) (hW0 : W.getD 0 0 = a) (hW : ∀ k, k < bl.length → W.getD (k + 1) 0 = ((s.n + k : Nat) : Int)) : ∀ k, k ≤ bl.length →
    Rep (bdK i bl s a d0 k).1 (J ++ egJ W d0 bl i k) ∧ (bdK i bl s a d0 k).2.1 = W.getD k 0 ∧ 0 ≤ (bdK i bl s a d0 k).2.1 ∧ (bdK i bl s a d0 k).2.1 < (bdK i bl s a d0 k).1.n ∧ (bdK i bl s a d0 k).2.2.1 = lastT d0 (bl.take k) ∧ (bdK i bl s a d0 k).2.2.2 = a :: celR s.n k
  | 0, _ => ⟨by rw [egJ, List.append_nil]; exact h, hW0.symm, ha.1, ha.2, (lastT_nil h0 h3).symm, rfl⟩
  | k + 1, hk => by
    obtain ⟨h1, h2, h3', h4, h5, h6⟩ := rep_bend (i := i) h ha h0 h3 hW0 hW k (by omega)
    have hn := (bdK_m (i := (i : Int)) (bl := bl) (s := s) (a := a) (d := d0) k).1
    have e0 : bdK i bl s a d0 (k + 1) = (joiN (moN (bdK i bl s a d0 k).1) (bdK i bl s a d0 k).2.1 (bdK i bl s a d0 k).2.2.1 (bdK i bl s a d0 k).1.n i, ((bdK i bl s a d0 k).1.n : Int), ((bdK i bl s a d0 k).2.2.1 + addT (bl.getD k 0)) % 4, (bdK i bl s a d0 k).2.2.2 ++ [((bdK i bl s a d0 k).1.n : Int)]) := rfl
    have hm : (moN (bdK i bl s a d0 k).1).n = (bdK i bl s a d0 k).1.n + 1 := rfl
    have hg : bl.take (k + 1) = bl.take k ++ [bl.getD k 0] := by
      rw [List.take_succ_eq_append_getElem (by omega), List.getD_eq_getElem?_getD, List.getElem?_eq_getElem (by omega)]; rfl
    rw [e0, egJ, ← List.append_assoc]
    refine ⟨?_, ?_, ?_, ?_, ?_, ?_⟩
    · rw [hW k (by omega), ← h2, ← h5, ← hn]
      exact h1.mo.joi ⟨h3', by rw [hm]; omega⟩ ⟨by omega, by rw [hm]; omega⟩
    · show ((bdK i bl s a d0 k).1.n : Int) = _
      rw [hW k (by omega), hn]
    · show (0 : Int) ≤ ((bdK i bl s a d0 k).1.n : Int); omega
    · show ((bdK i bl s a d0 k).1.n : Int) < ((bdK i bl s a d0 k).1.n + 1 : Nat); omega
    · show ((bdK i bl s a d0 k).2.2.1 + addT (bl.getD k 0)) % 4 = _
      rw [hg, last_snoc, h5]
    · show (bdK i bl s a d0 k).2.2.2 ++ [((bdK i bl s a d0 k).1.n : Int)] = _
      rw [h6, celR_more, hn]; rfl
theorem rep_edge (B : List Bool) (E : List Edg) (hM : May B E) : ∀ i, i ≤ E.length → Rep (egK E (vxK B E B.length).1 i).1 (bsJ E (cntV B E) (boxK B B.length) ++ esJ E (wayS B E) i) ∧ (∀ j, j < i → wyE E (vxK B E B.length).1 j = wayS B E j)
  | 0, _ => ⟨by rw [esJ, List.append_nil]; exact rep_vx B E B.length, fun j hj => absurd hj (by omega)⟩
  | i + 1, hi => by
    obtain ⟨h1, h2⟩ := rep_edge B E hM i (by omega)
    have hiE : i < E.length := by omega
    have GE : E.getD i noE = E[i] := by rw [List.getD_eq_getElem?_getD, List.getElem?_eq_getElem hiE]; rfl
    have hok := hM.ok E[i] (List.getElem_mem hiE)
    rw [← GE] at hok
    obtain ⟨em1, em2⟩ := egK_m (E := E) (s := (vxK B E B.length).1) i
    have hv := (vxK_m B E B.length).1
    have hpos : 1 ≤ cntV B E B.length := by
      have hB : 0 < B.length := by have := hok.1; have := hok.2.1; omega
      obtain ⟨b, hb⟩ : ∃ b, B.length = b + 1 := ⟨B.length - 1, by omega⟩
      rw [hb, cntV]
      unfold vtxC
      split <;> omega
    have hen := ok_vx B E B.length
    have hrg : ∀ t, 0 ≤ (vxK B E B.length).1.en.getD t 0 ∧ (vxK B E B.length).1.en.getD t 0 < ((egK E (vxK B E B.length).1 i).1.n : Int) := fun t => by
      have := hen t
      rw [hv] at this em1
      omega
    have hWS : wayS B E i = wayF (vxK B E B.length).1.en (nbE E i) (egK E (vxK B E B.length).1 i).1.n i := by
      unfold wayS wayW
      rw [if_pos hiE, em1, hv]
    obtain ⟨w0, w1, w2⟩ := wayF_at (en := (vxK B E B.length).1.en) (nb := nbE E i) (n := (egK E (vxK B E B.length).1 i).1.n) (i := i)
    rw [← hWS] at w0 w1 w2
    obtain ⟨r1, r2, r3, r4, r5, r6⟩ := rep_bend (i := i) (bl := (E.getD i noE).2.2.2) h1 (hrg (2 * i)) hok.2.2.2.2.1 hok.2.2.2.2.2.1 w0 w1 (nbE E i) (Nat.le_refl _)
    have hn := (bdK_m (i := (i : Int)) (bl := (E.getD i noE).2.2.2) (s := (egK E (vxK B E B.length).1 i).1) (a := (vxK B E B.length).1.en.getD (2 * i) 0) (d := (E.getD i noE).2.2.1) (nbE E i)).1
    refine ⟨?_, fun j hj => ?_⟩
    · rw [esJ, ← List.append_assoc]
      show Rep (joiN (bdK i (E.getD i noE).2.2.2 (egK E (vxK B E B.length).1 i).1 ((vxK B E B.length).1.en.getD (2 * i) 0) (E.getD i noE).2.2.1 (nbE E i)).1 _ _ ((vxK B E B.length).1.en.getD (2 * i + 1) 0) i) _
      rw [egJ, ← List.append_assoc]
      have e2 : (wayS B E i).getD (nbE E i + 1) 0 = (vxK B E B.length).1.en.getD (2 * i + 1) 0 := w2
      rw [e2, ← r2, ← r5]
      exact r1.joi ⟨r3, r4⟩ (by have := hrg (2 * i + 1); omega)
    · by_cases e : j = i
      · subst e
        unfold wyE bdE
        rw [r6, hWS]
        unfold wayF
        rfl
      · exact h2 j (by omega)
/-- The document's cells and ways are the code's. -/
theorem cells_same {B : List Bool} {E : List Edg} (hM : May B E) : (egK E (vxK B E B.length).1 E.length).1.L = celS B E ∧ (egK E (vxK B E B.length).1 E.length).1.n = cntN B E ∧ ∀ j, j < E.length → wyE E (vxK B E B.length).1 j = wayS B E j := by
  obtain ⟨h1, h2⟩ := rep_edge B E hM E.length (Nat.le_refl _)
  have hn : (egK E (vxK B E B.length).1 E.length).1.n = cntN B E := by
    rw [(egK_m E.length).1, (vxK_m B E B.length).1]
    unfold cntN
    rw [bndK_all]
  refine ⟨?_, hn, h2⟩
  have h := h1.2 0
  rw [show newG 0 = [] from rfl, List.append_nil, Nat.add_zero, hn] at h
  exact h
end Go.Proofs.YtecifgaekefkpaaDoor
