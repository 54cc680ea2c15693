/-
  A shape's cells laid out: mathematics of the numbers, one first cell more in memory. Conditions: none.
-/
import Derived.Test.YtecifgaekefkpaaDoorNcH
namespace Go
theorem wpList_append_in {P : Program} {w : World} {ops : Array Oper} {rest : List Oper} {o : Oper} {a : Act} {Q : Exit → Act → World → Prop} (hgd : o.guard = none) (s x : Operand) (t : TypeId)
    (hop : o.op = Op.call { callee := Callee.builtin Builtin.append, args := #[s, x], argTypes := #[t, t] })
    (base : Nat) (e : TypeId) (i : TypeInfo) (z : Value) (size bytes : Nat) (h1 : P.underlying t = some (.slice e)) (h2 : P.info? e = some i) (h3 : i.zero = some z) (h4 : i.size = size) (h5 : i.bytes = bytes) (h6 : z.cells.size = size) (h7 : 0 < size)
    (g n cap : Nat) (xs : List Value) (hs : a.eval s = .slice (some ⟨g, 0, none⟩) n cap) (hown : w.ownsRow base e size (.slice (some ⟨g, 0, none⟩) n cap) n xs)
    (ad : Addr) (m c : Nat) (news : List Value) (hx : a.eval x = .slice (some ad) m c) (hn : news.length = m * size) (hc : ∀ j u, news[j]? = some u → w.cell? (ad.add j) = some u) (h1c : ∀ u ∈ news, u.oneCell' = true)
    (b1 : n + m ≤ maxLen) (b2 : (n + m) * bytes ≤ 140737488355328) (hb : base ≤ w.heap.size) (hroom : n + m ≤ cap)
    (hK : ∀ w', w'.ownsRow base e size (.slice (some ⟨g, 0, none⟩) (n + m) cap) (n + m) (xs ++ news) → w.grownBy w' (some g) → wpList P ops Q rest (a.put o.dst (.slice (some ⟨g, 0, none⟩) (n + m) cap)) w') :
    wpList P ops Q (o :: rest) a w := by
  refine wpList_plain hgd fun _ hKK => ?_
  obtain ⟨w', hrun, r1, r2⟩ := run_append_in (P := P) w base t o.type e i z size bytes h1 h2 h3 h4 h5 h6 h7 g n cap xs hown ad m c news hn hc h1c b1 b2 hb hroom
  unfold Oper.wp
  simp [execOp, hop, resolve, invoke, builtin, hs, hx, hrun, Result.andThen]
  exact hKK _ _ (hK w' r1 r2)
end Go
namespace Go.Proofs.YtecifgaekefkpaaDoor
open Go.RowKit Go.Proofs.YtecifgaekefkpaaDoor.LexM Go.Proofs.YtecifgaekefkpaaDoor.ParM Go.Proofs.YtecifgaekefkpaaDoor.GrM Go.Proofs.YtecifgaekefkpaaDoor.NmM

/-- The vertices that are boxes. -/
def boxK (B : List Bool) (k : Nat) : List Nat := (List.range k).filter fun v => B.getD v false
theorem boxK_next (B : List Bool) (k : Nat) : boxK B (k + 1) = if B.getD k false = true then boxK B k ++ [k] else boxK B k := by
  unfold boxK
  rw [List.range_succ, List.filter_append]
  by_cases h : B.getD k false = true
  · have h' : B[k]?.getD false = true := by rw [List.getD_eq_getElem?_getD] at h; exact h
    rw [if_pos h]; simp [h']
  · have h' : B[k]?.getD false = false := by rw [List.getD_eq_getElem?_getD] at h; simpa using h
    rw [if_neg h]; simp [h']
theorem boxK_len (B : List Bool) (k : Nat) : (boxK B k).length ≤ k := by
  unfold boxK
  have := List.length_filter_le (fun v => B.getD v false) (List.range k)
  simpa using this
theorem vxK_m (B : List Bool) (E : List Edg) : ∀ k, (vxK B E k).1.n = cntV B E k ∧ (vxK B E k).1.en.length = 2 * E.length ∧ (vxK B E k).2.length = k
  | 0 => ⟨rfl, by simp [vxK], rfl⟩
  | k + 1 => by
    obtain ⟨h1, h2, h3⟩ := vxK_m B E k
    rw [vxK]
    refine ⟨?_, ?_, by rw [List.length_append, h3]; rfl⟩
    · show (if B.getD k false = true then bxN E k (vxK B E k).1 else ptN E k (vxK B E k).1).n = _
      rw [cntV]
      unfold vtxC
      by_cases h : B.getD k false = true
      · rw [if_pos h, if_pos h]
        show (bxK E k (vxK B E k).1.n { (vxK B E k).1 with L := (vxK B E k).1.L ++ newG 4, n := (vxK B E k).1.n + 4 } 4).n = _
        rw [(bxK_m 4).1]
        show (vxK B E k).1.n + 4 + _ = _
        omega
      · rw [if_neg h, if_neg h]
        show (ptK E k (vxK B E k).1.n (moN (vxK B E k).1) 4).n = _
        rw [(ptK_n 4).1]
        show (vxK B E k).1.n + 1 = _
        omega
    · show (if B.getD k false = true then bxN E k (vxK B E k).1 else ptN E k (vxK B E k).1).en.length = _
      by_cases h : B.getD k false = true
      · rw [if_pos h]
        exact (bxK_m 4).2.trans h2
      · rw [if_neg h]
        exact (ptK_n 4).2.trans h2
/-- How many bends the first so many edges have. -/
def bndK (E : List Edg) : Nat → Nat
  | 0 => 0
  | i + 1 => bndK E i + nbE E i
theorem bndK_take (E : List Edg) : ∀ i, i ≤ E.length → bndK E i = bendsOf (E.take i)
  | 0, _ => by simp [bndK, bendsOf]
  | i + 1, h => by
    have hi : i < E.length := by omega
    rw [bndK, bndK_take E i (by omega), List.take_succ_eq_append_getElem hi, bendsOf_snoc]
    unfold nbE
    rw [List.getD_eq_getElem?_getD, List.getElem?_eq_getElem hi]; rfl
theorem bndK_all (E : List Edg) : bndK E E.length = bendsOf E := by rw [bndK_take E _ (Nat.le_refl _), List.take_length]
theorem bndK_le {E : List Edg} {i : Nat} (h : i ≤ E.length) : bndK E i ≤ bndK E E.length := by
  have mono : ∀ d, bndK E i ≤ bndK E (i + d) := fun d => by
    induction d with
    | zero => exact Nat.le_refl _
    | succ d ih => rw [show i + (d + 1) = (i + d) + 1 by omega, bndK]; omega
  have := mono (E.length - i)
  rwa [show i + (E.length - i) = E.length by omega] at this
theorem nbE_le {E : List Edg} (h : bendsOf E ≤ 4096) (i : Nat) : nbE E i ≤ 4096 := by
  unfold nbE
  by_cases hi : i < E.length
  · have e : E.getD i noE = E[i] := by rw [List.getD_eq_getElem?_getD, List.getElem?_eq_getElem hi]; rfl
    rw [e]
    exact bend_le h (List.getElem_mem hi)
  · rw [List.getD_eq_getElem?_getD, List.getElem?_eq_none (by omega)]
    show noE.2.2.2.length ≤ 4096
    simp [noE]
/-- A way whose first so many bends are told; one that is told whole. -/
def wayP (en : List Int) (nb n b i : Nat) : List Int := en.getD (2 * i) 0 :: ((celR n b ++ List.replicate (nb - b) 0) ++ [en.getD (2 * i + 1) 0])
def wayF (en : List Int) (nb n i : Nat) : List Int := en.getD (2 * i) 0 :: (celR n nb ++ [en.getD (2 * i + 1) 0])
theorem wayP_zero (en : List Int) (nb n i : Nat) : wayP en nb n 0 i = wayZ en nb i := by simp [wayP, wayZ, celR]
theorem wayP_all (en : List Int) (nb n i : Nat) : wayP en nb n nb i = wayF en nb n i := by simp [wayP, wayF]
theorem wayP_len {en : List Int} {nb n b i : Nat} (h : b ≤ nb) : (wayP en nb n b i).length = nb + 2 := by simp [wayP, celR_len]; omega
theorem wayP_set {en : List Int} {nb n b i : Nat} (h : b < nb) : (wayP en nb n b i).set (b + 1) ((n + b : Nat) : Int) = wayP en nb n (b + 1) i := by
  unfold wayP
  rw [List.set_cons_succ, List.set_append_left _ _ (by simp [celR_len]; omega), List.set_append_right _ _ (by simp [celR_len])]
  rw [celR_len, Nat.sub_self, celR_more, show nb - b = (nb - (b + 1)) + 1 by omega, List.replicate_succ, List.set_cons_zero]
  simp
/-- The ways, those of the first so many edges told. -/
def wayW (E : List Edg) (en : List Int) (nv i : Nat) (j : Nat) : List Int := if j < i then wayF en (nbE E j) (nv + bndK E j) j else wayZ en (nbE E j) j
theorem wayW_zero (E : List Edg) (en : List Int) (nv : Nat) : wayW E en nv 0 = fun j => wayZ en (nbE E j) j := by
  funext j; unfold wayW; rw [if_neg (by omega)]
theorem wayW_next (E : List Edg) (en : List Int) (nv i : Nat) : (fun j => if j = i then wayP en (nbE E i) (nv + bndK E i) (nbE E i) i else wayW E en nv i j) = wayW E en nv (i + 1) := by
  funext j
  unfold wayW
  by_cases h : j = i
  · subst h; rw [if_pos rfl, if_pos (by omega), wayP_all]
  · rw [if_neg h]
    by_cases h2 : j < i
    · rw [if_pos h2, if_pos (by omega)]
    · rw [if_neg h2, if_neg (by omega)]
theorem wayW_open (E : List Edg) (en : List Int) (nv i : Nat) : (fun j => if j = i then wayP en (nbE E i) (nv + bndK E i) 0 i else wayW E en nv i j) = wayW E en nv i := by
  funext j
  by_cases h : j = i
  · subst h; rw [if_pos rfl, wayP_zero]; unfold wayW; rw [if_neg (by omega)]
  · rw [if_neg h]
section
variable {B s0 nE : Nat} {ln : Nat → Nat} {lb ob fb cF : Nat} {w wa w1 : World} {cnt nF : Nat} {F : List Int} {xv : Value} {W : Nat → List Int}
/-- A first cell more, in place. -/
theorem LyAt.first (h : LyAt B s0 nE ln lb ob fb cF w cnt F nF xv W) (b : Below w.heap.size w wa) {x : Int} (hown : w1.ownsRow B 3 1 (.slice (some ⟨fb, 0, none⟩) (nF + 1) cF) (nF + 1) (F.map intV ++ [intV x])) (hgrow : wa.grownBy w1 (some fb)) :
    LyAt B s0 nE ln lb ob fb cF (w1.setCell ⟨lb, 1, none⟩ (.slice (some ⟨fb, 0, none⟩) (nF + 1) cF)) cnt (F ++ [x]) (nF + 1) xv W := by
  have h' := h.below b (Nat.le_refl _)
  obtain ⟨n0, n1, n2, n3, n4, n5, n6, n7, n8⟩ := h.nums
  have o : Out (fun q => q = fb) wa w1 := (Out.refl _ wa).grown hgrow (fun k _ e => by simpa using e.symm)
  have hb1 : w1.heap[lb]? = _ := (o.block lb h'.lt n7).trans h'.blk
  have o2 := Out.trans (S := fun q => q = fb ∨ q = lb) (o.mono (fun _ _ e => Or.inl e)) (out_set w1 ⟨lb, 1, none⟩ (.slice (some ⟨fb, 0, none⟩) (nF + 1) cF)) (fun i _ e => Or.inr e)
  have keep : ∀ {g n c : Nat} {e : TypeId} {k : Nat} {xs : List Value}, wa.ownsRow B e k (.slice (some ⟨g, 0, none⟩) n c) n xs → g ≠ fb → g ≠ lb → (w1.setCell ⟨lb, 1, none⟩ (.slice (some ⟨fb, 0, none⟩) (nF + 1) cF)).ownsRow B e k (.slice (some ⟨g, 0, none⟩) n c) n xs := fun hr hg hg2 =>
    ownsRow_out hr o2 (fun q hq e => by
      simp only [Value.ownBlock, Option.some.injEq] at hq; subst hq
      rcases e with e | e
      · exact hg e
      · exact hg2 e)
  refine ⟨h.nums, ?_, ⟨by rw [List.length_append, h.fst.1]; rfl, ?_⟩, keep h'.out n8 (fun e => n6 e.symm), fun i hi => ⟨(h.row i hi).1, keep (h'.row i hi).2 (by omega) (by omega)⟩⟩
  · rw [heap_setCell_at hb1]; rfl
  · rw [List.map_append]
    exact ownsRow_setCell_other hown (fun e => n7 (by simp only [Value.ownBlock, Option.some.injEq] at e; exact e.symm)) _
end
end Go.Proofs.YtecifgaekefkpaaDoor
