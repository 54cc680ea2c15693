/-
  A set of darts in memory: a map keyed by a struct of two numbers. Conditions: numbers of an int.
-/
import Derived.Test.YtkgabklponjagaaDoorFcC
import Derived.Maps.OwnSet
import Derived.Maps.OwnOps
import Derived.DeepKeys4
namespace Go.Proofs.YtkgabklponjagaaDoor
open Go.RowKit Go.Maps Go.Proofs.YtkgabklponjagaaDoor.GrM Go.Proofs.YtkgabklponjagaaDoor.FcM

theorem laidOut12 : laidOutB Tryd.prog = true := by kernel_rfl
set_option maxRecDepth 100000 in
theorem wideD : (match Tryd.prog.underlying 28 with | some (.array _ _) | some (.struct _) => true | _ => false) = true := by rw [Tryd.underlying28]
theorem rowD : (28 : TypeId) < Tryd.prog.types.size := of_decide_eq_true (by kernel_rfl)
set_option maxRecDepth 100000 in
theorem keyedD : Keyed Tryd.prog 28 := Keyed.of_law (deep_law_laid laidOut12 (m := 2) (by omega) rowD (by kernel_rfl) wideD)
def dkL (a b : Int) : Lit := .string (keyBytes [.int .i64 a, .int .i64 b])
def Wf64 (a : Int) : Prop := (Lit.int .i64 a).wf = true
theorem wf64 {a : Int} (h0 : -9223372036854775808 ≤ a) (h1 : a ≤ 9223372036854775807) : Wf64 a := by
  unfold Wf64
  simp [Lit.wf, IntKind.min, IntKind.max, IntKind.bits, IntKind.signed]
  omega
set_option maxRecDepth 100000 in
theorem keyOfD {a b : Int} (ha : Wf64 a) (hb : Wf64 b) : keyOf Tryd.prog 28 (.agg #[.int .i64 a, .int .i64 b]) = some (dkL a b) := by
  unfold Wf64 at ha hb
  obtain ⟨m, hm⟩ : ∃ m, Tryd.prog.types.size = m + 1 := ⟨Tryd.prog.types.size - 1, by have : 0 < Tryd.prog.types.size := Nat.lt_of_le_of_lt (Nat.zero_le _) rowD; omega⟩
  have hk : Tryd.prog.keyType 28 = true := by kernel_rfl
  have hc : Tryd.prog.cellsOf 28 = 2 := by kernel_rfl
  have hci : Tryd.prog.cellsOf 3 = 1 := by kernel_rfl
  have hu := Tryd.underlying28
  have hi := Tryd.underlying3
  unfold keyOf
  rw [hu, hm]
  simp only [hk, Value.formed, hu, hc, Program.keyLits]
  simp [hci, hi, ha, hb, dkL, Value.cells]
theorem dk_inj {a b c d : Int} (ha : Wf64 a) (hb : Wf64 b) (hc : Wf64 c) (hd : Wf64 d) (h : dkL a b = dkL c d) : a = c ∧ b = d := by
  have h1 := keyOfD ha hb
  have h2 := keyOfD hc hd
  rw [← h] at h2
  have := keyedD.inj h1 h2
  simpa using this
def unitD : DataW Unit := .agg []
def WfP (p : Int × Int) : Prop := Wf64 p.1 ∧ Wf64 p.2
/-- A set of darts. -/
def SetAt (w : World) (b : Nat) (M : List (Int × Int)) : Prop := (∀ p ∈ M, WfP p) ∧ w.ownsMap Tryd.prog 28 unitElem b M.length (setOf unitD (M.map fun p => dkL p.1 p.2))
theorem isKeyDk (a b : Int) : WideAt.IsKeyLit (dkL a b) := trivial
theorem has_set {M : List (Int × Int)} (hM : ∀ p ∈ M, WfP p) {p : Int × Int} (hp : WfP p) : Maps.has (setOf unitD (M.map fun p => dkL p.1 p.2)) (dkL p.1 p.2) = decide (p ∈ M) := by
  rw [has_setOf _ _ _ (fun x hx => by obtain ⟨q, _, rfl⟩ := List.mem_map.1 hx; exact isKeyDk _ _), Bool.eq_iff_iff, List.any_eq_true, decide_eq_true_eq]
  constructor
  · rintro ⟨x, hx, hs⟩
    obtain ⟨q, hq, rfl⟩ := List.mem_map.1 hx
    have he := WideAt.sameKey_eq hs
    obtain ⟨e1, e2⟩ := dk_inj (hM q hq).1 (hM q hq).2 hp.1 hp.2 he
    have : q = p := Prod.ext e1 e2
    exact this ▸ hq
  · intro h
    exact ⟨_, List.mem_map.2 ⟨p, h, rfl⟩, WideAt.sameKey_self (isKeyDk _ _)⟩
theorem zeroUnit (w : World) : (zeroValue 90).run Tryd.prog w = .ok (.agg #[]) w := by kernel_rfl
theorem SetAt.made (w : World) : SetAt (w.alloc (.map #[] 0)) w.heap.size [] := ⟨fun p hp => absurd hp (by simp), World.ownsMap_made _ _ _ _⟩
theorem SetAt.look {w : World} {b : Nat} {M : List (Int × Int)} (h : SetAt w b M) {p : Int × Int} (hp : WfP p) :
    (Instr.lookup 80 (.map (some b)) (.agg #[.int .i64 p.1, .int .i64 p.2]) true).run Tryd.prog w = .ok (.tuple #[.agg #[], .bool (decide (p ∈ M))]) w := by
  obtain ⟨v, ps, hr, hv⟩ := World.ownsMap.look_ok h.2 keyedD Tryd.underlying80 (zeroUnit w) unitElem_mk (keyOfD hp.1 hp.2)
  obtain ⟨rfl, _⟩ := unitElem_inv hv
  rw [hr, has_set h.1 hp]
theorem SetAt.put {w : World} {b : Nat} {M : List (Int × Int)} (h : SetAt w b M) {p : Int × Int} (hp : WfP p) (hl : M.length < 1000000) :
    ∃ w', (Instr.mapUpdate 80 (.map (some b)) (.agg #[.int .i64 p.1, .int .i64 p.2]) (.agg #[])).run Tryd.prog w = .ok () w' ∧ SetAt w' b (M ++ [p]) ∧ w.grownBy w' (some b) := by
  obtain ⟨w', hr, ho, hg⟩ := World.ownsMap.update h.2 keyedD Tryd.underlying80 (by unfold maxLen; omega) (keyOfD hp.1 hp.2) unitElem_mk
  refine ⟨w', hr, ⟨fun q hq => ?_, ?_⟩, hg⟩
  · rcases List.mem_append.1 hq with hq | hq
    · exact h.1 q hq
    · obtain rfl := List.mem_singleton.1 hq; exact hp
  · rw [List.map_append, List.map_cons, List.map_nil, setOf_snoc, List.length_append]
    exact ho
theorem SetAt.lt {w : World} {b : Nat} {M : List (Int × Int)} (h : SetAt w b M) : b < w.heap.size := World.ownsMap.lt h.2
theorem SetAt.blk {w w' : World} {b : Nat} {M : List (Int × Int)} (h : SetAt w b M) (e : w'.heap[b]? = w.heap[b]?) : SetAt w' b M := by
  obtain ⟨hM, es, clock, hb, r⟩ := h
  exact ⟨hM, es, clock, e.trans hb, r⟩
theorem SetAt.below {w w' : World} {b C : Nat} {M : List (Int × Int)} (h : SetAt w b M) (o : Below C w w') (hC : w.heap.size ≤ C) : SetAt w' b M := h.blk (o.block b (Nat.lt_of_lt_of_le h.lt hC))
theorem SetAt.not_row {w : World} {B n k b : Nat} {e : TypeId} {v : Value} {xs : List Value} {M : List (Int × Int)} (hl : SetAt w b M) (h : w.ownsRow B e k v n xs) : v.ownBlock ≠ some b := by
  obtain ⟨_, es, clock, hb, _⟩ := hl
  intro hc
  rcases h.2 with ⟨rfl, _⟩ | ⟨g, cap, c2, rfl, _, hg, _⟩
  · cases hc
  · have : g = b := by simpa [Value.ownBlock] using hc
    subst this; rw [hg] at hb
    cases hb
theorem wfPair {n k : Nat} (hn : n ≤ 100000) (hk : k < 4 * n) : WfP (pairK k) := ⟨wf64 (by unfold pairK; simp only; omega) (by unfold pairK; simp only; omega), wf64 (by unfold pairK; simp only; omega) (by unfold pairK; simp only; omega)⟩
end Go.Proofs.YtkgabklponjagaaDoor
