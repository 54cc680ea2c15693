/-
  Darts counted in a map: a map of ints keyed by a struct of two numbers. Conditions: numbers of an int; each dart is counted once.
-/
import Derived.Test.YtkgabklponjagaaDoorFcD
import Derived.WideKeyEntry
namespace Go.Proofs.YtkgabklponjagaaDoor
open Go.RowKit Go.Maps Go.Proofs.YtkgabklponjagaaDoor.GrM Go.Proofs.YtkgabklponjagaaDoor.FcM

set_option maxRecDepth 100000 in
theorem lawD : WideMaps.KeyLaw Tryd.prog 28 := deep_law_laid laidOut12 (m := 2) (by omega) rowD (by kernel_rfl) wideD
def oneD : DataW Unit := .lit (.int .i64 1)
def cntD (M : List (Int × Int)) : DataW Unit := setOf oneD (M.map fun p => dkL p.1 p.2)
def CntAt (w : World) (b : Nat) (M : List (Int × Int)) : Prop := (∀ p ∈ M, WfP p) ∧ w.ownsMap Tryd.prog 28 (plainElem Tryd.prog 3) b M.length (cntD M)
theorem CntAt.made (w : World) : CntAt (w.alloc (.map #[] 0)) w.heap.size [] := ⟨fun p hp => absurd hp (by simp), World.ownsMap_made _ _ _ _⟩
theorem CntAt.lt {w : World} {b : Nat} {M : List (Int × Int)} (h : CntAt w b M) : b < w.heap.size := World.ownsMap.lt h.2
theorem CntAt.blk {w w' : World} {b : Nat} {M : List (Int × Int)} (h : CntAt w b M) (e : w'.heap[b]? = w.heap[b]?) : CntAt w' b M := by
  obtain ⟨hM, es, clock, hb, r⟩ := h
  exact ⟨hM, es, clock, e.trans hb, r⟩
theorem CntAt.below {w w' : World} {b C : Nat} {M : List (Int × Int)} (h : CntAt w b M) (o : Below C w w') (hC : w.heap.size ≤ C) : CntAt w' b M := h.blk (o.block b (Nat.lt_of_lt_of_le h.lt hC))
theorem at_fold_out {u z : DataW Unit} {k : Lit} : ∀ (acc : List Lit) (D : DataW Unit), k ∉ acc → (acc.foldl (fun m x => m.put x u) D).atKey k z = D.atKey k z
  | [], _, _ => rfl
  | x :: acc, D, h => by
    rw [List.foldl_cons, at_fold_out acc _ (fun e => h (by simp [e])), atKey_put_other (fun e => h (by simp [e]))]
theorem at_fold_in {u z : DataW Unit} {k : Lit} (hk : WideAt.IsKeyLit k) : ∀ (acc : List Lit) (D : DataW Unit), IsMap D → k ∈ acc → (acc.foldl (fun m x => m.put x u) D).atKey k z = u
  | [], _, _, h => absurd h (by simp)
  | x :: acc, D, hD, h => by
    rw [List.foldl_cons]
    by_cases hin : k ∈ acc
    · exact at_fold_in hk acc _ (hD.put _ _) hin
    · have e : k = x := by rcases List.mem_cons.1 h with e | e; exact e; exact absurd e hin
      subst e
      rw [at_fold_out acc _ hin, atKey_put_same hD hk]
theorem size_fold_new {u : DataW Unit} : ∀ (acc : List Lit) (D : DataW Unit), Tidy D → (∀ x ∈ acc, WideAt.IsKeyLit x) → acc.Nodup → (∀ x ∈ acc, Maps.has D x = false) → Maps.size (acc.foldl (fun m x => m.put x u) D) = Maps.size D + acc.length
  | [], _, _, _, _, _ => rfl
  | x :: acc, D, hD, hk, hn, hh => by
    obtain ⟨h1, h2⟩ := List.nodup_cons.1 hn
    rw [List.foldl_cons, size_fold_new acc _ (hD.put (hk x (by simp)) _) (fun y hy => hk y (by simp [hy])) h2 (fun y hy => by
      rw [has_put_other (fun e : y = x => h1 (by rw [← e]; exact hy))]
      exact hh y (by simp [hy])), size_put hD, hh x (by simp)]
    simp only [List.length_cons]
    rw [if_neg (by decide)]
    omega
theorem dk_mem {M : List (Int × Int)} (hM : ∀ p ∈ M, WfP p) {p : Int × Int} (hp : WfP p) : dkL p.1 p.2 ∈ M.map (fun p => dkL p.1 p.2) ↔ p ∈ M := by
  constructor
  · intro h
    obtain ⟨q, hq, he⟩ := List.mem_map.1 h
    obtain ⟨e1, e2⟩ := dk_inj (hM q hq).1 (hM q hq).2 hp.1 hp.2 he
    have : q = p := Prod.ext e1 e2
    exact this ▸ hq
  · exact fun h => List.mem_map.2 ⟨p, h, rfl⟩
theorem at_cnt {M : List (Int × Int)} (hM : ∀ p ∈ M, WfP p) {p : Int × Int} (hp : WfP p) : (cntD M).atKey (dkL p.1 p.2) (.lit (.int .i64 0)) = .lit (.int .i64 (if p ∈ M then 1 else 0)) := by
  unfold cntD setOf
  by_cases h : p ∈ M
  · rw [if_pos h, at_fold_in (isKeyDk _ _) _ _ isMap_empty ((dk_mem hM hp).2 h)]; rfl
  · rw [if_neg h, at_fold_out _ _ (fun e => h ((dk_mem hM hp).1 e))]; rfl
theorem zeroInt12 (w : World) : (zeroValue 3).run Tryd.prog w = .ok (.int .i64 0) w := by kernel_rfl
theorem CntAt.look {w : World} {b : Nat} {M : List (Int × Int)} (h : CntAt w b M) {p : Int × Int} (hp : WfP p) :
    (Instr.lookup 54 (.map (some b)) (.agg #[.int .i64 p.1, .int .i64 p.2]) false).run Tryd.prog w = .ok (.int .i64 (if p ∈ M then 1 else 0)) w := by
  obtain ⟨c, hr, ha, _⟩ := World.ownsMap.lookup_int h.2 keyedD Tryd.underlying54 Tryd.underlying3 (zeroInt12 w) (keyOfD hp.1 hp.2)
  rw [at_cnt h.1 hp] at ha
  simp only [DataW.lit.injEq, Lit.int.injEq, true_and] at ha
  rw [hr, ha]
theorem CntAt.len {w : World} {b : Nat} {M : List (Int × Int)} (h : CntAt w b M) (hn : M.Nodup) (ty : TypeId) : (Builtin.len_ #[54] ty #[.map (some b)]).run Tryd.prog w = .ok (.int .i64 M.length) w := by
  rw [World.ownsMap.len h.2 Tryd.underlying54 ty]
  unfold cntD setOf
  rw [size_fold_new _ _ tidy_empty (fun x hx => by obtain ⟨q, _, rfl⟩ := List.mem_map.1 hx; exact isKeyDk _ _) ?_ (fun _ _ => rfl)]
  · rw [List.length_map]
    show Result.ok (Value.int .i64 ((0 + M.length : Nat) : Int)) w = _
    rw [Nat.zero_add]
  · rw [List.nodup_iff_pairwise_ne, List.pairwise_map]
    refine hn.imp_of_mem fun {a c} ha hc hne e => hne ?_
    obtain ⟨e1, e2⟩ := dk_inj (h.1 a ha).1 (h.1 a ha).2 (h.1 c hc).1 (h.1 c hc).2 e
    exact Prod.ext e1 e2
theorem cnt_out {M : List (Int × Int)} (hM : ∀ p ∈ M, WfP p) {p : Int × Int} (hp : WfP p) (h : p ∉ M) (z : DataW Unit) : (cntD M).atKey (dkL p.1 p.2) z = z := by
  unfold cntD setOf
  rw [at_fold_out _ _ (fun e => h ((dk_mem hM hp).1 e))]; rfl
open Go.WideElems Go.ChangeMaps in
set_option maxRecDepth 100000 in
/-- A new one counted: the entry, and then the store; between both it reads as nothing. -/
theorem CntAt.incr {w : World} {b : Nat} {M : List (Int × Int)} (h : CntAt w b M) {p : Int × Int} (hp : WfP p) (hn : p ∉ M) (hl : M.length < 1000000) :
    ∃ st w1 w2, (Instr.mapEntry 54 (.map (some b)) (.agg #[.int .i64 p.1, .int .i64 p.2])).run Tryd.prog w = .ok (.tuple #[.int .i64 0, goInt st]) w1 ∧
      (Instr.lookup 54 (.map (some b)) (.agg #[.int .i64 p.1, .int .i64 p.2]) false).run Tryd.prog w1 = .ok (.int .i64 0) w1 ∧
      (Instr.entryStore 54 (.map (some b)) (goInt st) (.int .i64 1)).run Tryd.prog w1 = .ok () w2 ∧ CntAt w2 b (M ++ [p]) ∧ w.grownBy w2 (some b) ∧ w.grownBy w1 (some b) := by
  have hkey := keyOfD hp.1 hp.2
  obtain ⟨w', hr, ho, hg⟩ := World.ownsMap.update h.2 keyedD Tryd.underlying54 (by unfold maxLen; omega) hkey (plainElem_int (a := 1) Tryd.underlying3 (by decide))
  obtain ⟨w0, hr0, ho0, hg0⟩ := World.ownsMap.update h.2 keyedD Tryd.underlying54 (by unfold maxLen; omega) hkey (plainElem_int (a := 0) Tryd.underlying3 (by decide))
  obtain ⟨es, clock, hb, F, _, hD⟩ := h.2
  obtain ⟨v0, st, es1, clock1, r1, _, r2⟩ := entry_then_store lawD Tryd.underlying54 (fun u => zeroInt12 u) hb F hkey
  have hout := cnt_out h.1 hp hn
  rw [hD] at hout
  have hkeys : ∀ x ∈ es.toList, x.key ≠ (.agg #[.int .i64 p.1, .int .i64 p.2] : Value) := by
    rcases Maps.fit_look false keyedD Tryd.underlying54 (zeroInt12 w) hb F hkey with ⟨_, hk, _⟩ | ⟨_, y, _, _, _, _, hat, _⟩
    · exact hk
    · exfalso
      have a0 := (hat (.lit (.int .i64 0))).symm.trans (hout _)
      have a1 := (hat (.lit (.int .i64 1))).symm.trans (hout _)
      rw [a0] at a1
      simp at a1
  rcases lawD.find w hkey es.toList F.keys with ⟨f1, _⟩ | ⟨j, e0, _, f2, f3⟩
  · have m1 : (Instr.mapEntry 54 (.map (some b)) (.agg #[.int .i64 p.1, .int .i64 p.2])).run Tryd.prog w = .ok (.tuple #[.int .i64 0, goInt clock]) (setBlock w b (.map (es.push ⟨.agg #[.int .i64 p.1, .int .i64 p.2], .int .i64 0, clock⟩) (clock + 1))) := by
      simp [Instr.mapEntry, run_underlying Tryd.underlying54, MapKept.run_getObj_map hb, lawD.check w false hkey, f1, MapKept.run_setObj_map _ hb, Result.andThen, setBlock]
    have m2 : (Instr.mapUpdate 54 (.map (some b)) (.agg #[.int .i64 p.1, .int .i64 p.2]) (.int .i64 0)).run Tryd.prog w = .ok () (setBlock w b (.map (es.push ⟨.agg #[.int .i64 p.1, .int .i64 p.2], .int .i64 0, clock⟩) (clock + 1))) := by
      simp [Instr.mapUpdate, run_underlying Tryd.underlying54, MapKept.run_getObj_map hb, lawD.check w false hkey, f1, MapKept.run_setObj_map _ hb, Result.andThen, setBlock]
    obtain ⟨W1, hW⟩ : ∃ W, setBlock w b (.map (es.push ⟨.agg #[.int .i64 p.1, .int .i64 p.2], .int .i64 0, clock⟩) (clock + 1)) = W := ⟨_, rfl⟩
    rw [hW] at m1 m2
    rw [r1] at m1
    rw [hr0] at m2
    injection m1 with m1a m1b
    injection m2 with _ m2b
    simp only [Value.tuple.injEq, Array.mk.injEq, List.cons.injEq, and_true] at m1a
    obtain ⟨e1, e2⟩ := m1a
    subst e1
    have hb1 : W1.heap[b]? = some (.map es1 clock1) := by rw [← m1b]; exact heap_setBlock_same hb _
    obtain ⟨es', clock', q1, q2⟩ := r2 W1 (.int .i64 1) hb1
    rw [hr] at q2
    have e2 : w' = setBlock w b (.map es' clock') := by injection q2
    have e3 : setBlock W1 b (.map es' clock') = setBlock w b (.map es' clock') := by rw [← m1b]; simp [setBlock]
    rw [e3, ← e2] at q1
    obtain ⟨c, hc, hca, _⟩ := World.ownsMap.lookup_int ho0 keyedD Tryd.underlying54 Tryd.underlying3 (zeroInt12 w0) hkey
    rw [atKey_put_same (World.ownsMap.isMap h.2) (isKeyDk _ _)] at hca
    simp only [DataW.lit.injEq, Lit.int.injEq, true_and] at hca
    rw [← hca, m2b] at hc
    refine ⟨st, W1, w', by rw [r1, m1b], hc, q1, ⟨fun q hq => ?_, ?_⟩, hg, by rw [← m2b]; exact hg0⟩
    · rcases List.mem_append.1 hq with hq | hq
      · exact h.1 q hq
      · obtain rfl := List.mem_singleton.1 hq; exact hp
    · unfold cntD
      rw [List.map_append, List.map_cons, List.map_nil, setOf_snoc, List.length_append]
      exact ho
  · exact absurd f3 (hkeys _ (List.mem_of_getElem? f2))
end Go.Proofs.YtkgabklponjagaaDoor
