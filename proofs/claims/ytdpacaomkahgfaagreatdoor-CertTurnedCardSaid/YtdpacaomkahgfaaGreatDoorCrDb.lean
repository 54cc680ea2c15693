/-
  slices.Repeat over one distance: so many of it, in a row of the call's own; copy, of elements of any size. Conditions: at most 4096 of it.
  Two distances compared as wholes. Conditions: none.
  Where the search stands in memory: the distances, the heap of visits; a measure that no slot holds. Conditions: none.
  search: the walk. Conditions: as letFlow keeps them.
-/
import Derived.Test.YtdpacaomkahgfaaGreatDoorCqN
import Derived.Test.YtdpacaomkahgfaaGreatDoorShelf
import Derived.Laws.CopyOwn
import Derived.IntWalk
import Derived.Deep.RegionHeld3
import Derived.Laws.StructEq
import Derived.Test.YtdpacaomkahgfaaGreatDoorCrDa
import Derived.Lib.QuietBelow
namespace Go
theorem run_copy_rows {P : Program} (w : World) (dT sT ty elem : TypeId) (sz m g o dLen dCap : Nat) (a : Addr) (sLen sCap : Nat) (cur : Array Value) (t : TypeId) (cs : List Value)
    (hu : P.underlying dT = some (.slice elem)) (hs : (P.info? elem).map (·.size) = some sz)
    (hg : w.heap[g]? = some (.cells cur t (0, 0))) (hm : Nat.min sLen dLen = m) (hn : cs.length = m * sz)
    (hsrc : ∀ j v, cs[j]? = some v → w.cell? (a.add j) = some v) (hfit : o + cs.length ≤ cur.size) (h1 : ∀ v ∈ cs, v.oneCell' = true) :
    (Builtin.copy_ #[dT, sT] ty #[.slice (some ⟨g, o, none⟩) dLen dCap, .slice (some a) sLen sCap]).run P w =
      .ok (goInt m) (w.setRow g (cur.toList.take o ++ cs ++ cur.toList.drop (o + cs.length)).toArray) := by
  have hl := run_loadCells_list (P := P) w a cs hsrc
  have hst := run_storeCells_at P g o t cs 0 cur w hg (by simpa using hfit) h1
  cases hq : P.info? elem with
  | none => simp [hq] at hs
  | some i =>
    have hi : i.size = sz := by simpa [hq] using hs
    simp [Builtin.copy_, run_underlying hu, Builtin.lenOf, Builtin.firstCells, sizeOf, typeInfo, hq, hi, hm, ← hn, hl, hst]
/-- The same, what is behind it under a name of its own. -/
theorem copy_rows {P : Program} (w : World) (dT sT ty elem : TypeId) (sz m g o dLen dCap : Nat) (a : Addr) (sLen sCap : Nat) (cur : Array Value) (t : TypeId) (cs : List Value)
    (hu : P.underlying dT = some (.slice elem)) (hs : (P.info? elem).map (·.size) = some sz)
    (hg : w.heap[g]? = some (.cells cur t (0, 0))) (hm : Nat.min sLen dLen = m) (hn : cs.length = m * sz)
    (hsrc : ∀ j v, cs[j]? = some v → w.cell? (a.add j) = some v) (hfit : o + cs.length ≤ cur.size) (h1 : ∀ v ∈ cs, v.oneCell' = true) :
    ∃ w2, (Builtin.copy_ #[dT, sT] ty #[.slice (some ⟨g, o, none⟩) dLen dCap, .slice (some a) sLen sCap]).run P w = .ok (.int .i64 (m : Int)) w2 ∧
      w2.heap[g]? = some (.cells (cur.toList.take o ++ cs ++ cur.toList.drop (o + cs.length)).toArray t (0, 0)) ∧ RowKit.Below g w w2 :=
  ⟨_, run_copy_rows w dT sT ty elem sz m g o dLen dCap a sLen sCap cur t cs hu hs hg hm hn hsrc hfit h1, setRow_heap w g _ _ t _ hg, below_setRow (RowKit.Below.refl _ _) (Nat.le_refl _) _⟩
end Go
namespace Go.Proofs.YtdpacaomkahgfaaGreatDoor
open Go.RowKit Go.Proofs.YtdpacaomkahgfaaGreatDoor.DagM

theorem infoDst : (Tryz.prog.info? 121).map (fun i => (i.zero, i.size, i.bytes)) = some (some (.agg #[.int .i64 0, .int .i64 0]), 2, 16) := by kernel_rfl
theorem sizeDst : (Tryz.prog.info? 121).map (·.size) = some 2 := by kernel_rfl
theorem mkDst (N : Nat) (hN : N ≤ 1000000) (w : World) : (Instr.makeSlice 106 (.int .i64 (N : Int)) (.int .i64 (N : Int))).run Tryz.prog w = .ok (.slice (some ⟨w.heap.size, 0, none⟩) N N) (w.alloc (.cells (madeCells #[.int .i64 0, .int .i64 0] (N * 2)) 121)) := by
  obtain ⟨i, hi, h0, h1, h2⟩ := info_parts infoDst
  have h := run_make (P := Tryz.prog) w 106 121 i _ Tryz.underlying106 hi h0 .i64 .i64 N N (by omega) (by omega) (by rw [h2]; omega) (by omega)
  rw [h1] at h
  simpa [Value.cells] using h
/-- k of it, the rest still nothing. -/
def repC (N k : Nat) (d : Dst) : List Value := (List.replicate k d ++ List.replicate (N - k) ((0, 0) : Dst)).flatMap encD
def oneC (m : Nat) (d : Dst) : List Value := (List.replicate m d).flatMap encD
theorem oneC_len (m : Nat) (d : Dst) : (oneC m d).length = m * 2 := by unfold oneC; rw [flat_len encD encD_len]; simp
theorem repC_len {N k : Nat} (h : k ≤ N) (d : Dst) : (repC N k d).length = N * 2 := by unfold repC; rw [flat_len encD encD_len]; simp; omega
theorem oneC_cell (m : Nat) (d : Dst) : ∀ v ∈ oneC m d, v.oneCell' = true := by
  intro v hv
  unfold oneC at hv
  obtain ⟨x, _, hx⟩ := List.mem_flatMap.1 hv
  simp [encD] at hx
  rcases hx with e | e <;> subst e <;> rfl
theorem repC_zero (N : Nat) (d : Dst) : (madeCells #[.int .i64 0, .int .i64 0] (N * 2)) = (repC N 0 d).toArray := by
  apply Array.toList_inj.1
  have e1 : (madeCells #[.int .i64 0, .int .i64 0] (N * 2)).toList = List.replicate (N * 2) (Value.int .i64 0) := by
    rw [List.eq_replicate_iff]
    refine ⟨by simp [size_madeCells], fun b hb => ?_⟩
    simp only [madeCells, Array.toList_map, List.mem_map] at hb
    obtain ⟨i, _, rfl⟩ := hb
    have h2 : i % 2 = 0 ∨ i % 2 = 1 := by omega
    rcases h2 with e | e <;> simp [e]
  have e2 : repC N 0 d = List.replicate (N * 2) (Value.int .i64 0) := by
    rw [List.eq_replicate_iff]
    refine ⟨repC_len (by omega) d, fun b hb => ?_⟩
    unfold repC at hb
    obtain ⟨x, hx, hb⟩ := List.mem_flatMap.1 hb
    simp at hx
    obtain ⟨_, rfl⟩ := hx
    simpa [encD] using hb
  rw [e1, e2]
theorem repC_step {N k m : Nat} (h : k + m ≤ N) (d : Dst) : (repC N k d).take (k * 2) ++ oneC m d ++ (repC N k d).drop (k * 2 + (oneC m d).length) = repC N (k + m) d := by
  have e : N - k = m + (N - (k + m)) := by omega
  unfold repC
  rw [e, ← List.replicate_append_replicate, ← List.replicate_append_replicate, List.flatMap_append, List.flatMap_append, List.flatMap_append, List.flatMap_append]
  have l1 : ((List.replicate k d).flatMap encD).length = k * 2 := oneC_len k d
  have l2 : ((List.replicate m ((0, 0) : Dst)).flatMap encD).length = m * 2 := oneC_len m (0, 0)
  rw [oneC_len, List.take_left' l1, List.drop_append, l1, List.drop_of_length_le (by rw [l1]; omega), show k * 2 + m * 2 - k * 2 = m * 2 by omega, List.drop_left' l2]
  simp [oneC]
theorem repC_pre {N k m : Nat} (h : m ≤ k) (d : Dst) : ∀ (j : Nat) (v : Value), (oneC m d)[j]? = some v → (repC N k d)[j]? = some v := by
  intro j v hj
  have e : k = m + (k - m) := by omega
  have hlt : j < (oneC m d).length := (List.getElem?_eq_some_iff.1 hj).1
  unfold repC
  rw [e, ← List.replicate_append_replicate, List.flatMap_append, List.flatMap_append, List.append_assoc, List.getElem?_append_left (by exact hlt)]
  exact hj
theorem mulOne (N : Nat) (hN : N ≤ 4096) (w : World) : Calls Tryz.prog 99 #[.int .u64 1, .int .u64 (N : Int)] w fun e w' => e = .returned (.tuple #[.int .u64 0, .int .u64 (N : Int)]) ∧ w = w' := by
  refine (Go.Proofs.Tryz.bits_Mul 1 N (by omega) (by omega) w).mono ?_
  rintro e w' ⟨rfl, rfl⟩
  refine ⟨?_, rfl⟩
  have e1 : 1 * N / 18446744073709551616 = 0 := Nat.div_eq_of_lt (by omega)
  have e2 : 1 * N % 18446744073709551616 = N := by rw [Nat.mod_eq_of_lt (by omega)]; omega
  rw [e1, e2]
  rfl
theorem srcOne {W : World} {b m : Nat} {d : Dst} (hm : m ≤ 1) (x0 : W.cell? ⟨b, 0, none⟩ = some (.int .i64 d.1)) (x1 : W.cell? ⟨b, 1, none⟩ = some (.int .i64 d.2)) : ∀ (j : Nat) (v : Value), (oneC m d)[j]? = some v → W.cell? ((⟨b, 0, none⟩ : Addr).add j) = some v := by
  intro j v hj
  have hlt : j < (oneC m d).length := (List.getElem?_eq_some_iff.1 hj).1
  rw [oneC_len] at hlt
  obtain rfl : m = 1 := by omega
  have e : oneC 1 d = [.int .i64 d.1, .int .i64 d.2] := by simp [oneC, encD]
  rw [e] at hj
  match j, hlt with
  | 0, _ => simp at hj; subst hj; exact x0
  | 1, _ => simp at hj; subst hj; exact x1
theorem srcRep {W : World} {g N k m : Nat} {d : Dst} {T : TypeId} (hm : m ≤ k) (hg : W.heap[g]? = some (.cells (repC N k d).toArray T (0, 0))) : ∀ (j : Nat) (v : Value), (oneC m d)[j]? = some v → W.cell? ((⟨g, 0, none⟩ : Addr).add j) = some v := by
  intro j v hj
  have h := repC_pre (N := N) hm d j v hj
  have e : ((⟨g, 0, none⟩ : Addr).add j) = ⟨g, j, none⟩ := by
    by_cases hj : j = 0
    · subst hj; rfl
    · simp [Addr.add, hj]
  rw [e]
  simp only [World.cell?, hg, List.getElem?_toArray]
  exact h
/-- What Repeat leaves. -/
def Repeated (N : Nat) (d : Dst) (w : World) (e : Ending) (w' : World) : Prop := ∃ g, e = .returned (.slice (some ⟨g, 0, none⟩) N N) ∧ RowD w' w.heap.size g N (fun _ => d) ∧ Below w.heap.size w w'
def RepR (N : Nat) (d : Dst) (w : World) (wr : World) (nv : Value) : Prop :=
  ∃ k : Nat, nv = .int .i64 k ∧ (0 < N → 0 < k) ∧ k ≤ N ∧ Below w.heap.size w wr ∧ wr.heap[w.heap.size]? = some (.cells (repC N k d).toArray 121 (0, 0))
theorem repC_row {N : Nat} {d : Dst} {w w' : World} (hN : N ≤ 4096) (h : w'.heap[w.heap.size]? = some (.cells (repC N N d).toArray 121 (0, 0))) : RowD w' w.heap.size w.heap.size N (fun _ => d) := by
  have e : ((List.range N).map fun _ => d).flatMap encD = repC N N d := by
    unfold repC
    rw [Nat.sub_self, List.replicate_zero, List.append_nil, List.map_const', List.length_range]
  unfold RowD
  rw [e]
  refine ⟨repC_len (Nat.le_refl _) d, Or.inr ⟨_, N, _, rfl, Nat.le_refl _, h, Nat.le_refl _, by unfold maxLen; omega, by simp [repC_len], ?_⟩⟩
  rw [List.take_of_length_le (by simp [repC_len])]

set_option maxHeartbeats 4000000 in
set_option maxRecDepth 100000 in
theorem repeatD (N : Nat) (hN : N ≤ 4096) (b cap : Nat) (d : Dst) (w : World) (hb : b < w.heap.size) (x0 : w.cell? ⟨b, 0, none⟩ = some (.int .i64 d.1)) (x1 : w.cell? ⟨b, 1, none⟩ = some (.int .i64 d.2)) :
    Calls Tryz.prog 69 #[.slice (some ⟨b, 0, none⟩) 1 cap, .int .i64 (N : Int)] w (Repeated N d w) := by
  have hmk := mkDst N (by omega)
  have X0 := Lib.hid x0
  have X1 := Lib.hid x1
  have hw1 : IntKind.u64.wrap (N : Int) = (N : Int) := by rw [IntKind.wrap_u64]; omega
  have hw2 : IntKind.i64.wrap (N : Int) = (N : Int) := IntWalk.i64_in _ (by omega)
  obtain ⟨m, hm⟩ : ∃ m, Nat.min 1 N = m := ⟨_, rfl⟩
  have hm1 : m ≤ 1 := by rw [← hm]; exact Nat.min_le_left _ _
  have hm2 : m ≤ N := by rw [← hm]; exact Nat.min_le_right _ _
  have hm3 : 0 < N → 0 < m := fun h => by rw [← hm, Nat.lt_min]; omega
  have HM := Lib.hid hm
  have HM3 := Lib.hid hm3
  clear x0 x1 hm hm3
  have bA : Below w.heap.size w (w.alloc (.cells (madeCells #[.int .i64 0, .int .i64 0] (N * 2)) 121)) := (Below.refl _ _).alloc (Nat.le_refl _) _
  obtain ⟨w2, hrun, hg2, hb2⟩ := copy_rows (P := Tryz.prog) (w.alloc (.cells (madeCells #[.int .i64 0, .int .i64 0] (N * 2)) 121)) 106 106 3 121 2 m w.heap.size 0 N N ⟨b, 0, none⟩ 1 cap _ 121 (oneC m d) Tryz.underlying106 sizeDst (heap_alloc_new w _) HM.out (oneC_len _ _) (srcOne hm1 ((bA.cell (p := ⟨b, 0, none⟩) hb).trans X0.out) ((bA.cell (p := ⟨b, 1, none⟩) hb).trans X1.out)) (by rw [oneC_len, size_madeCells]; omega) (oneC_cell _ _)
  have G2 : Hid (w2.heap[w.heap.size]? = some (.cells (repC N m d).toArray 121 (0, 0))) := Lib.hid (by
    rw [repC_zero N d, List.toList_toArray] at hg2
    have h := repC_step (N := N) (k := 0) (m := m) (by omega) d
    rw [Nat.zero_mul, Nat.zero_add, Nat.zero_add] at h
    rw [Nat.zero_add, h] at hg2
    exact hg2)
  have B2 : Hid (Below w.heap.size w w2) := Lib.hid (bA.trans hb2)
  clear hg2 hb2 bA
  go_enter Tryz.func69, Tryz.ntmps69
  go_wp2_with (go_at_call 99; refine (mulOne N hN _).mono ?_; rintro e w1 ⟨rfl, rfl⟩)
  clear hrun
  clear hmk hw1
  go_loopw [8] (fun nv wr => RepR N d w wr nv) (fun nv _ => N - (intOf nv).toNat)
  case atStart => exact ⟨m, rfl, HM3.out, hm2, B2.out, G2.out⟩
  case round =>
    clear B2 G2 HM HM3 hm1 hm2
    obtain ⟨k, rfl, hk0, hk, hB, hG⟩ := hrel
    have B := Lib.hid hB
    have GG := Lib.hid hG
    have HK := Lib.hid hk0
    have hgs : w.heap.size < wr.heap.size := (Array.getElem?_eq_some_iff.1 hG).1
    clear hB hG hk0
    by_cases hlt : k < N
    · have hk1 : 0 < k := HK.out (by omega)
      obtain ⟨q, hq⟩ : ∃ q, Nat.min k (N - k) = q := ⟨_, rfl⟩
      have hq1 : q ≤ k := by rw [← hq]; exact Nat.min_le_left _ _
      have hq2 : q ≤ N - k := by rw [← hq]; exact Nat.min_le_right _ _
      have hq3 : 0 < q := by rw [← hq, Nat.lt_min]; omega
      have HQ := Lib.hid hq
      have i0 : (0 : Int) ≤ (k : Int) := by omega
      have i1 : (k : Int) ≤ (N : Int) := by omega
      have i2 : ¬ N = k := by omega
      have hw3 : IntKind.i64.wrap ((k : Int) + (q : Int)) = (k : Int) + (q : Int) := IntWalk.i64_in _ (by omega)
      obtain ⟨w3, hrun, hg3, hb3⟩ := copy_rows (P := Tryz.prog) wr.drew 106 106 3 121 2 q w.heap.size (k * 2) (N - k) (N - k) ⟨w.heap.size, 0, none⟩ k N _ 121 (oneC q d) Tryz.underlying106 sizeDst GG.out hq (oneC_len _ _) (srcRep (W := wr.drew) hq1 GG.out) (by rw [oneC_len, List.size_toArray, repC_len hk]; omega) (oneC_cell _ _)
      have G3 : Hid (w3.heap[w.heap.size]? = some (.cells (repC N (k + q) d).toArray 121 (0, 0))) := Lib.hid (by
        rw [List.toList_toArray, repC_step (by omega)] at hg3
        exact hg3)
      have B3 : Hid (Below w.heap.size w w3) := Lib.hid (B.out.trans ((Below.refl _ _).drew.trans hb3))
      clear hq hg3 hb3
      go_wp2
      go_region_held3 (fun _ => True) (trivial) (fail)
      all_goals
        clear hrun
        go_wp2
        go_roundw
        case rel => exact ⟨k + q, by go_num, fun _ => by omega, by omega, B3.out, G3.out⟩
        case measure => simp [intOf]; omega
    · obtain hkn : N = k := by omega
      have t0 : decide (k < N) = false := by simpa using hlt
      have G2 : Hid (wr.heap[w.heap.size]? = some (.cells (repC N N d).toArray 121 (0, 0))) := Lib.hid (by have h := GG.out; rw [← hkn] at h; exact h)
      clear hlt hkn hk
      go_wp2
      go_ret
      exact ⟨_, rfl, repC_row hN G2.out, B.out⟩
end Go.Proofs.YtdpacaomkahgfaaGreatDoor

namespace Go.Proofs.YtdpacaomkahgfaaGreatDoor
open Go.RowKit Go.Proofs.YtdpacaomkahgfaaGreatDoor.DagM

theorem guardD : Tryz.prog.eqGuardType Tryz.prog.depth 121 = false := by kernel_rfl
theorem heldD : Tryz.prog.stoodInHeld 121 = false := by kernel_rfl
theorem neq_dst (w : World) (a1 a2 b1 b2 : Int) (r : Bool) (hr : (a1 == b1 && a2 == b2) = !r) :
    (binOp .neq 121 (.agg #[.int .i64 a1, .int .i64 a2]) (.agg #[.int .i64 b1, .int .i64 b2])).run Tryz.prog w = .ok (.bool r) w := by
  have hu := Tryz.underlying121
  have hi := Tryz.underlying3
  rw [run_neq_struct]
  have h := run_equalIn_agg (P := Tryz.prog) w 9999 121 #[.int .i64 a1, .int .i64 a2] #[.int .i64 b1, .int .i64 b2] (by kernel_rfl) heldD
  rw [h]
  unfold Program.fieldsOf
  rw [hu]
  simp [Op.eqFields, go_sem]
  have h0 : r = !(a1 == b1 && a2 == b2) := by rw [hr]; simp
  subst h0
  by_cases h1 : a1 = b1
  · by_cases h2 : a2 = b2
    · simp [h1, h2]
    · simp [h1, h2]
  · simp [h1]
end Go.Proofs.YtdpacaomkahgfaaGreatDoor

namespace Go.Proofs.YtdpacaomkahgfaaGreatDoor
open Go.RowKit Go.Proofs.YtdpacaomkahgfaaGreatDoor.DagM Go.Proofs.YtdpacaomkahgfaaGreatDoor.HeapM

/-- A distance in a block of its own, made since w0. -/
def BoxD (w0 w : World) (b : Nat) (d : Dst) : Prop := Below w0.heap.size w0 w ∧ w0.heap.size ≤ b ∧ b < w.heap.size ∧ w.cell? ⟨b, 0, none⟩ = some (.int .i64 d.1) ∧ w.cell? ⟨b, 1, none⟩ = some (.int .i64 d.2)
/-- The least number of which p holds. -/
noncomputable def leastN (p : Nat → Prop) : Nat := Classical.epsilon fun m => p m ∧ ∀ k, p k → m ≤ k
theorem leastN_spec {p : Nat → Prop} (h : ∃ m, p m) : p (leastN p) ∧ ∀ k, p k → leastN p ≤ k := by
  have hex : ∃ m, p m ∧ ∀ k, p k → m ≤ k := by
    obtain ⟨m, hm⟩ := h
    induction m using Nat.strongRecOn with
    | _ m ih =>
      by_cases e : ∃ k, k < m ∧ p k
      · obtain ⟨k, hk, hp⟩ := e
        exact ih k hk hp
      · exact ⟨m, hm, fun k hp => Nat.le_of_not_lt fun hlt => e ⟨k, hlt, hp⟩⟩
  exact Classical.epsilon_spec (p := fun m => p m ∧ ∀ k, p k → m ≤ k) hex

abbrev srFn : Nat := 71
theorem foot_neV {w : World} {fn B q gd n : Nat} {hv : Value} {H : List (Int × Int × Int)} {c : Int} {far : Nat → Dst} (h : HV.Is ltV fn q w hv H c) (hr : RowD w B gd n far) : ¬ HV.Foot q hv gd := by
  obtain ⟨l, hm, _⟩ := h
  rintro (e | hb)
  · exact blk_ne hr hm.blk (by decide) (by rw [e]; rfl)
  · exact rows_ne hm.row hr (by decide) hb rfl
/-- The search's own memory: the distances at gd, the heap at q; all of it from w0's end on. -/
structure SrAt (w0 w : World) (n gd q : Nat) (hv : Value) (far : Nat → Dst) (H : List (Int × Int × Int)) (c : Int) : Prop where
  below : Below w0.heap.size w0 w
  rd : RowD w w0.heap.size gd n far
  heap : HV.Is ltV srFn q w hv H c
  q0 : w0.heap.size ≤ q
  h0 : ∀ b, hv.ownBlock = some b → w0.heap.size ≤ b
section
variable {w0 w w' : World} {n gd q : Nat} {hv : Value} {far : Nat → Dst} {H : List (Int × Int × Int)} {c : Int}
theorem SrAt.quiet (h : SrAt w0 w n gd q hv far H c) (o : Below w.heap.size w w') : SrAt w0 w' n gd q hv far H c :=
  ⟨h.below.trans (o.mono h.below.size), ownsRow_out (S := fun _ => False) h.rd (Out.ofBelow o) (fun _ _ e => e), h.heap.below o, h.q0, h.h0⟩
theorem SrAt.push {v' : Value} {H' : List (Int × Int × Int)} {c' : Int} (h : SrAt w0 w n gd q hv far H c) (i : HV.Is ltV srFn q w' v' H' c') (o : Out (HV.Foot q hv) w w') (f : ∀ b, v'.ownBlock = some b → hv.ownBlock = some b ∨ w.heap.size ≤ b) : SrAt w0 w' n gd q v' far H' c' := by
  have hz := h.below.size
  refine ⟨h.below.trans (o.below hz (fun b _ hb => ?_)), ownsRow_out h.rd o (fun b hb e => ?_), i, h.q0, fun b hb => ?_⟩
  · rcases hb with e | e
    · rw [e]; exact h.q0
    · exact h.h0 b e
  · simp only [Value.ownBlock, Option.some.injEq] at hb
    subst hb
    exact foot_neV h.heap h.rd e
  · rcases f b hb with e | e
    · exact h.h0 b e
    · omega
theorem SrAt.set (h : SrAt w0 w n gd q hv far H c) (t : Nat) (ht : t < n) (d : Dst) : SrAt w0 ((w.setCell ⟨gd, t * 2, none⟩ (.int .i64 d.1)).setCell ⟨gd, t * 2 + 1, none⟩ (.int .i64 d.2)) n gd q hv (fun v => if v = t then d else far v) H c := by
  have o : Out (fun b => b = gd) w ((w.setCell ⟨gd, t * 2, none⟩ (.int .i64 d.1)).setCell ⟨gd, t * 2 + 1, none⟩ (.int .i64 d.2)) := ((Out.refl _ w).setIn _ _).setIn _ _
  refine ⟨h.below.trans (o.below h.below.size (fun i _ e => by subst e; exact h.rd.gl.1)), h.rd.set t ht d, h.heap.out o (fun b hb e => ?_), h.q0, h.h0⟩
  subst e
  exact foot_neV h.heap h.rd hb
end

/-- What the pop of visits tells. -/
theorem first_minV {L : List (Int × Int × Int)} {a : Nat} (h : First ltV L a) : ∃ ha : a < L.length, (∀ e ∈ L, leD L[a].2 e.2) ∧ L.getD a default = L[a] := by
  obtain ⟨h1, h2⟩ := h
  refine ⟨h1, fun e he => ?_, by simp [List.getD_eq_getElem?_getD, h1]⟩
  obtain ⟨b, hb, rfl⟩ := List.mem_iff_getElem.1 he
  have h3 := h2 b hb
  have ea : L.getD a default = L[a] := by simp [List.getD_eq_getElem?_getD, h1]
  have eb : L.getD b default = L[b] := by simp [List.getD_eq_getElem?_getD, hb]
  rw [ea, eb] at h3
  simp only [ltV] at h3
  rcases Nat.lt_trichotomy b a with k | k | k
  · exact (ltD_not _ _).1 (by
      have := h3
      cases e : ltD L[b].2 L[a].2
      · rfl
      · have h4 := h3.1 k
        have h5 := (ltD_iff _ _).1 e
        have h6 := (ltD_iff _ _).1 h4
        omega) |> fun x => x
  · subst k; exact leD_refl _
  · exact (ltD_not _ _).1 (h3.2 k)
/-- A visit in a block of its own. -/
def visB (w : World) (b : Nat) (e : Int × Int × Int) : Prop := w.heap[b]? = some (.cells #[.int .i64 e.1, .int .i64 e.2.1, .int .i64 e.2.2] 125 (0, 0))
section
variable {w0 w w' : World} {n gd q b : Nat} {hv : Value} {far : Nat → Dst} {H : List (Int × Int × Int)} {c : Int} {e : Int × Int × Int}
theorem visB.lt (hb : visB w b e) : b < w.heap.size := (Array.getElem?_eq_some_iff.1 hb).1
theorem visB.quiet (hb : visB w b e) (o : Below w.heap.size w w') : visB w' b e := by unfold visB; rw [o.block b hb.lt]; exact hb
theorem visB.c0 (hb : visB w b e) : w.cell? ⟨b, 0, none⟩ = some (.int .i64 e.1) := by unfold visB at hb; simp [World.cell?, hb]
theorem visB.c1 (hb : visB w b e) : w.cell? ⟨b, 1, none⟩ = some (.int .i64 e.2.1) := by unfold visB at hb; simp [World.cell?, hb]
theorem visB.c2 (hb : visB w b e) : w.cell? ⟨b, 2, none⟩ = some (.int .i64 e.2.2) := by unfold visB at hb; simp [World.cell?, hb]
theorem visB.fr (hb : visB w b e) (j : Nat) : w.frozen? ⟨b, j, none⟩ = false := by unfold visB at hb; simp only [World.frozen?, hb]; simp
theorem SrAt.offV (h : SrAt w0 w n gd q hv far H c) (hb : visB w b e) : ¬ HV.Foot q hv b := by
  obtain ⟨l, hm, _⟩ := h.heap
  unfold visB at hb
  rintro (k | hb')
  · rw [k] at hb
    have h2 := hm.blk
    rw [hb] at h2
    injection h2 with h2
    injection h2 with _ ht
    exact absurd ht (by decide)
  · exact blk_ne hm.row hb (by decide) hb'
theorem SrAt.offD (h : SrAt w0 w n gd q hv far H c) (hb : visB w b e) : b ≠ gd := fun k => by
  unfold visB at hb
  exact blk_ne h.rd hb (by decide) (by rw [k]; rfl)
theorem visB.push (hb : visB w b e) (h : SrAt w0 w n gd q hv far H c) (o : Out (HV.Foot q hv) w w') : visB w' b e := by
  have hn := h.offV hb
  have hl := hb.lt
  unfold visB at hb ⊢
  rw [o.block b hl hn]
  exact hb
theorem visB.dist (hb : visB w b e) (h : SrAt w0 w n gd q hv far H c) (i j : Nat) (u v : Value) : visB ((w.setCell ⟨gd, i, none⟩ u).setCell ⟨gd, j, none⟩ v) b e := by
  have hn := h.offD hb
  unfold visB at hb ⊢
  rw [Below.heap_setCell _ _ _ _ hn, Below.heap_setCell _ _ _ _ hn]
  exact hb
theorem visB.set (hb : visB w b e) (e' : Int × Int × Int) : visB (((w.setCell ⟨b, 0, none⟩ (.int .i64 e'.1)).setCell ⟨b, 1, none⟩ (.int .i64 e'.2.1)).setCell ⟨b, 2, none⟩ (.int .i64 e'.2.2)) b e' := by
  unfold visB at hb ⊢
  rw [heap_setCell_at (heap_setCell_at (heap_setCell_at hb 0 _) 1 _) 2 _]
  rfl
theorem SrAt.vis (h : SrAt w0 w n gd q hv far H c) (hb : visB w b e) (h0 : w0.heap.size ≤ b) (u0 u1 u2 : Value) : SrAt w0 (((w.setCell ⟨b, 0, none⟩ u0).setCell ⟨b, 1, none⟩ u1).setCell ⟨b, 2, none⟩ u2) n gd q hv far H c := by
  have o : Out (fun k => k = b) w (((w.setCell ⟨b, 0, none⟩ u0).setCell ⟨b, 1, none⟩ u1).setCell ⟨b, 2, none⟩ u2) := (((Out.refl _ w).setIn _ _).setIn _ _).setIn _ _
  have hn := h.offV hb
  have hd := h.offD hb
  refine ⟨h.below.trans (o.below h.below.size (fun i _ k => by subst k; exact h0)), ownsRow_out h.rd o (fun k hk k2 => ?_), h.heap.out o (fun k hk k2 => ?_), h.q0, h.h0⟩
  · subst k2
    simp only [Value.ownBlock, Option.some.injEq] at hk
    exact hd hk.symm
  · subst k2; exact hn hk
end
/-- What was popped: nothing, or one that is nearest. -/
def PopC (w0 w : World) (n gd q : Nat) (far : Nat → Dst) (H : List (Int × Int × Int)) (okv : Value) (e : Int × Int × Int) (c : Int) : Prop :=
  (H = [] ∧ okv = .bool false ∧ ∃ hv, SrAt w0 w n gd q hv far [] c) ∨ ∃ (a : Nat) (ha : a < H.length), okv = .bool true ∧ e = H[a] ∧ (∀ k ∈ H, leD H[a].2 k.2) ∧ ∃ hv, SrAt w0 w n gd q hv far (H.eraseIdx a) c
theorem PopC.quiet {w0 w w' : World} {n gd q : Nat} {far : Nat → Dst} {H : List (Int × Int × Int)} {okv : Value} {e : Int × Int × Int} {c : Int} (h : PopC w0 w n gd q far H okv e c) (o : Below w.heap.size w w') : PopC w0 w' n gd q far H okv e c := by
  rcases h with ⟨h1, h2, hv, h3⟩ | ⟨a, ha, h1, h2, h3, hv, h4⟩
  · exact Or.inl ⟨h1, h2, hv, h3.quiet o⟩
  · exact Or.inr ⟨a, ha, h1, h2, h3, hv, h4.quiet o⟩
theorem PopC.vis {w0 w : World} {n gd q b : Nat} {far : Nat → Dst} {H : List (Int × Int × Int)} {okv : Value} {e e' : Int × Int × Int} {c : Int} (h : PopC w0 w n gd q far H okv e c) (hb : visB w b e') (h0 : w0.heap.size ≤ b) (u0 u1 u2 : Value) :
    PopC w0 (((w.setCell ⟨b, 0, none⟩ u0).setCell ⟨b, 1, none⟩ u1).setCell ⟨b, 2, none⟩ u2) n gd q far H okv e c := by
  rcases h with ⟨h1, h2, hv, h3⟩ | ⟨a, ha, h1, h2, h3, hv, h4⟩
  · exact Or.inl ⟨h1, h2, hv, h3.vis hb h0 u0 u1 u2⟩
  · exact Or.inr ⟨a, ha, h1, h2, h3, hv, h4.vis hb h0 u0 u1 u2⟩
/-- What the search's pop leaves. -/
def PopV (w0 w : World) (n gd q : Nat) (far : Nat → Dst) (H : List (Int × Int × Int)) (c : Int) (r : Ending) (w' : World) : Prop :=
  ∃ (e : Int × Int × Int) (okv : Value), r = .returned (.tuple #[.agg #[.int .i64 e.1, .int .i64 e.2.1, .int .i64 e.2.2], okv]) ∧ PopC w0 w' n gd q far H okv e c ∧ (∀ b k, visB w b k → visB w' b k) ∧ w.heap.size ≤ w'.heap.size
theorem popV {w0 w : World} {n gd q : Nat} {hv : Value} {far : Nat → Dst} {H : List (Int × Int × Int)} {c : Int} (h : SrAt w0 w n gd q hv far H c) (hc : c ≤ 1000000) :
    Calls Tryz.prog 74 #[.pointer (some ⟨q, 0, none⟩)] w (PopV w0 w n gd q far H c) := by
  by_cases h0 : H = []
  · subst h0
    refine (HV.pop_none (lt := ltV) (fn := srFn) q hv c w h.heap).mono ?_
    rintro e w' ⟨rfl, hb⟩
    exact ⟨(0, 0, 0), _, rfl, Or.inl ⟨rfl, rfl, hv, h.quiet hb⟩, fun b k hk => hk.quiet hb, hb.size⟩
  · have hpos : 0 < H.length := List.length_pos_iff.2 h0
    obtain ⟨a, ha⟩ := h.heap.first lessV hpos
    obtain ⟨ha', hmin, hx⟩ := first_minV ha
    refine (HV.pop_some lessV q hv H c w h.heap hc a ha _ hx).mono ?_
    rintro e w' ⟨rfl, v4, i4, o4, f4⟩
    exact ⟨H[a], _, rfl, Or.inr ⟨a, ha', rfl, rfl, hmin, v4, h.push i4 o4 f4⟩, fun b k hk => hk.push h o4, o4.size⟩

/-- The first loop: all sources below k are there. -/
def Sr1 (w : World) (n gd q : Nat) (lf : Nat → Int) (wr : World) (iv : Value) : Prop :=
  ∃ (k : Nat) (hv : Value), iv = .int .i64 k ∧ k ≤ n ∧ SrAt w wr n gd q hv (far0 lf k) (hp0 lf k) ((hp0 lf k).length : Int)
/-- The second loop: where the search stands; its measure is m. -/
def Sr2 (w : World) (n gd q : Nat) (E : EndL) (x f lf : Nat → Int) (m : Nat) (wr : World) (nv pv okv : Value) : Prop :=
  ∃ (P : List Nat) (far : Nat → Dst) (H : List (Int × Int × Int)) (near : Int) (last : Dst) (c : Int) (bv : Nat) (e : Int × Int × Int),
    nv = .int .i64 near ∧ pv = .pointer (some ⟨bv, 0, none⟩) ∧ w.heap.size ≤ bv ∧ visB wr bv e ∧ Dij E n x f lf (stps E) P far H near last ∧ c + (degS E (List.range n) P : Int) ≤ (n : Int) + 2 * (E.length : Int) ∧ m = H.length + degS E (List.range n) P ∧ PopC w wr n gd q far H okv e c
/-- The third loop: v's steps below j are taken. -/
def Sr3 (w : World) (n gd q : Nat) (E : EndL) (x f lf : Nat → Int) (P : List Nat) (near : Int) (v : Nat) (dv : Dst) (bv : Nat) (M : Nat) (wr : World) (iv : Value) : Prop :=
  ∃ (j : Nat) (far : Nat → Dst) (H : List (Int × Int × Int)) (hv : Value) (c : Int), iv = .int .i64 j ∧ j ≤ (stps E v).length ∧ far v = dv ∧ visB wr bv ((v : Int), dv) ∧ Dij E n x f lf (fun u => if u = v then (stps E v).take j else stps E u) (v :: P) far H near dv ∧
    c + (((stps E v).length : Int) - (j : Int)) + (degS E (List.range n) (v :: P) : Int) ≤ (n : Int) + 2 * (E.length : Int) ∧ H.length + ((stps E v).length - j) ≤ M ∧ SrAt w wr n gd q hv far H c
theorem leastN_less {q : Nat → Prop} {m mu : Nat} (hq : q m) (h : m < mu) : leastN q < mu := Nat.lt_of_le_of_lt ((leastN_spec ⟨m, hq⟩).2 m hq) h
/-- A step that isn't taken. -/
theorem sr3_pass {w wr w' : World} {n gd q : Nat} {E : EndL} {x f lf : Nat → Int} {P : List Nat} {near : Int} {v : Nat} {dv : Dst} {bv M j dg : Nat} {far : Nat → Dst} {H : List (Int × Int × Int)} {hv : Value} {c : Int} {s : Stp}
    (hD : Dij E n x f lf (fun u => if u = v then (stps E v).take j else stps E u) (v :: P) far H near dv) (hfv : far v = dv) (hdg : (stps E v).length = dg) (hj : j < dg) (hs : (stps E v)[j]'(by rw [hdg]; exact hj) = s) (hno : (opn f s && ltD (lenS x dv s) (far s.2.2.1)) = false)
    (hvb : visB wr bv ((v : Int), dv)) (hS : SrAt w wr n gd q hv far H c) (hB : Below wr.heap.size wr w')
    (hc : c + (((stps E v).length : Int) - (j : Int)) + (degS E (List.range n) (v :: P) : Int) ≤ (n : Int) + 2 * (E.length : Int)) (hl : H.length + ((stps E v).length - j) ≤ M) :
    Sr3 w n gd q E x f lf P near v dv bv M w' (.int .i64 ((j : Int) + 1)) := by
  have hj2 : j < (stps E v).length := by rw [hdg]; exact hj
  refine ⟨j + 1, far, H, hv, c, by push_cast; rfl, by omega, hfv, hvb.quiet hB, hD.pass hj2 (fun ho => ?_), by push_cast; omega, by omega, hS.quiet hB⟩
  rw [hs] at ho ⊢
  rw [hfv]
  rw [ho, Bool.true_and] at hno
  exact (ltD_not _ _).1 hno
/-- A step that is taken. -/
theorem sr3_relax {w w7 w' : World} {n gd q : Nat} {E : EndL} {x f lf : Nat → Int} {P : List Nat} {near : Int} {v : Nat} {dv : Dst} {bv M j dg : Nat} {far : Nat → Dst} {H : List (Int × Int × Int)} {hv v3 : Value} {c : Int} {s : Stp} (hn : n ≤ 4096) (hF : Fits E n x f)
    (hD : Dij E n x f lf (fun u => if u = v then (stps E v).take j else stps E u) (v :: P) far H near dv) (hfv : far v = dv) (hdg : (stps E v).length = dg) (hj : j < dg) (hs : (stps E v)[j]'(by rw [hdg]; exact hj) = s) (hyes : (opn f s && ltD (lenS x dv s) (far s.2.2.1)) = true)
    (hb : dv.2 ≤ P.length) (hvb : visB w7 bv ((v : Int), dv)) (hS : SrAt w w7 n gd q hv (fun u => if u = s.2.2.1 then lenS x dv s else far u) H c)
    (i3 : HV.Is ltV srFn q w' v3 (H ++ [((s.2.2.1 : Int), lenS x dv s)]) (c + 1)) (o3 : Out (HV.Foot q hv) w7 w') (f3 : ∀ b, v3.ownBlock = some b → hv.ownBlock = some b ∨ w7.heap.size ≤ b)
    (hc : c + (((stps E v).length : Int) - (j : Int)) + (degS E (List.range n) (v :: P) : Int) ≤ (n : Int) + 2 * (E.length : Int)) (hl : H.length + ((stps E v).length - j) ≤ M) :
    Sr3 w n gd q E x f lf P near v dv bv M w' (.int .i64 ((j : Int) + 1)) := by
  have hj2 : j < (stps E v).length := by rw [hdg]; exact hj
  rw [Bool.and_eq_true] at hyes
  subst hfv
  subst hs
  obtain ⟨hne, hD2⟩ := hD.relax hn hF hj2 (by simp) (by simp; omega) hyes.1 hyes.2
  refine ⟨j + 1, _, _, v3, c + 1, by push_cast; rfl, by omega, ?_, hvb.push hS o3, hD2, by push_cast; omega, by rw [List.length_append, List.length_singleton]; omega, hS.push i3 o3 f3⟩
  exact if_neg (fun e => hne e.symm)
/-- Behind the pop: the visit is stored, the loop goes on. -/
theorem sr2_next {w w5 : World} {n gd q : Nat} {E : EndL} {x f lf : Nat → Int} {P : List Nat} {far : Nat → Dst} {H : List (Int × Int × Int)} {near : Int} {last : Dst} {c : Int} {bv : Nat} {e k : Int × Int × Int} {okv : Value}
    (hD : Dij E n x f lf (stps E) P far H near last) (hc : c + (degS E (List.range n) P : Int) ≤ (n : Int) + 2 * (E.length : Int)) (hb : w.heap.size ≤ bv) (hv : visB w5 bv k) (hP : PopC w w5 n gd q far H okv e c) :
    Sr2 w n gd q E x f lf (H.length + degS E (List.range n) P) (((w5.setCell ⟨bv, 0, none⟩ (.int .i64 e.1)).setCell ⟨bv, 1, none⟩ (.int .i64 e.2.1)).setCell ⟨bv, 2, none⟩ (.int .i64 e.2.2)) (.int .i64 near) (.pointer (some ⟨bv, 0, none⟩)) okv :=
  ⟨P, far, H, near, last, c, bv, e, rfl, rfl, hb, hv.set e, hD, hc, rfl, hP.vis hv hb _ _ _⟩
end Go.Proofs.YtdpacaomkahgfaaGreatDoor

namespace Go.Proofs.YtdpacaomkahgfaaGreatDoor
open Go.RowKit Go.Proofs.YtdpacaomkahgfaaGreatDoor.DagM Go.Proofs.YtdpacaomkahgfaaGreatDoor.HeapM

theorem far0_nil (lf : Nat → Int) : far0 lf 0 = fun _ => infD := by funext v; simp [far0]
theorem far0_yesF {lf : Nat → Int} {k : Nat} (h : 0 < lf k) : (fun v => if v = k then ((0, 0) : Dst) else far0 lf k v) = far0 lf (k + 1) := by funext v; rw [far0_yes h]
theorem far0_noF {lf : Nat → Int} {k : Nat} (h : ¬ 0 < lf k) : far0 lf k = far0 lf (k + 1) := by funext v; rw [far0_no h]

theorem slk_le {x : Nat → Int} {n : Nat} (hx : ∀ v, v < n → -8192 ≤ x v ∧ x v ≤ 4096) (s : Stp) (h1 : s.2.1 < n) (h2 : s.2.2.1 < n) : slk x s ≤ 20000 := by
  unfold slk
  have := hx _ h1
  have := hx _ h2
  split <;> omega
theorem box_lt (W : World) : W.heap.size < (W.alloc (.cells #[.int .i64 0, .int .i64 0] 121)).drew.heap.size := by simp
theorem box_c0 (W : World) : (W.alloc (.cells #[.int .i64 0, .int .i64 0] 121)).drew.cell? ⟨W.heap.size, 0, none⟩ = some (.int .i64 0) := by go_simp
theorem box_c1 (W : World) : (W.alloc (.cells #[.int .i64 0, .int .i64 0] 121)).drew.cell? ⟨W.heap.size, 1, none⟩ = some (.int .i64 0) := by go_simp
theorem box_fr (W : World) (j : Nat) : (W.alloc (.cells #[.int .i64 0, .int .i64 0] 121)).drew.frozen? ⟨W.heap.size, j, none⟩ = false := by
  have h := heap_alloc_new W (.cells #[.int .i64 0, .int .i64 0] 121)
  show (W.alloc _).frozen? _ = false
  simp only [World.frozen?, h]
  simp

set_option maxHeartbeats 8000000 in
set_option maxRecDepth 100000 in
theorem search : SearchSpec := by
  intro w0 w T p gx gf gl gs n E V wt x0 x f lf tot D tk h hN g
  have H := Lib.hid h
  have NT := Lib.hid hN
  have G := Lib.hid g
  have hn : n ≤ 4096 := g.n1
  have hm : E.length ≤ 16384 := g.m1
  have hpl := h.pl
  have c0 := h.c0
  clear h hN g
  go_enter Tryz.func50, Tryz.ntmps50
  go_wp2_with (first
    | (go_at_call 69; refine (repeatD n hn w.heap.size 1 infD _ (by simp) (by show _ = some (Value.int .i64 9223372036854775807); go_simp) (by show _ = some (Value.int .i64 9223372036854775807); go_simp)).mono ?_; rintro e w1 ⟨gd, rfl, hR, hb⟩; have R1 : Hid (RowD w1 w.heap.size gd n (far0 lf 0)) := Lib.hid (by rw [far0_nil]; exact RowD.base hR (by simp)); have B1 : Hid (Below w.heap.size w w1) := Lib.hid (((Below.refl _ _).alloc (Nat.le_refl _) _).trans (hb.mono (by simp))); clear hR hb)
    | (go_at_call 70; refine (HV.new (fn := srFn) (lt := ltV) _).mono ?_; rintro e w2 ⟨rfl, j1, b1⟩; have I2 : Hid (SrAt w w2 n gd w1.heap.size (.slice none 0 0) (far0 lf 0) (hp0 lf 0) ((hp0 lf 0).length : Int)) := Lib.hid ⟨B1.out.trans (b1.mono B1.out.size), ownsRow_out (S := fun _ => False) R1.out (Out.ofBelow b1) (fun _ _ e => e), j1, B1.out.size, fun b hb => by simp [Value.ownBlock] at hb⟩; have d2 := (H.out.quiet I2.out.below).c2; have hpl2 := (H.out.quiet I2.out.below).pl; clear j1 b1 R1))
  clear B1
  go_loopw [28] (fun iv wr => Sr1 w n gd w1.heap.size lf wr iv) (fun iv _ => n - (intOf iv).toNat)
  case atStart => exact ⟨0, _, rfl, by omega, I2.out⟩
  case round =>
    clear I2 d2 hpl2
    obtain ⟨k, hv, rfl, hk, hI⟩ := hrel
    have I := Lib.hid hI
    have N1 := Lib.hid (H.out.quiet hI.below)
    clear hI
    by_cases hlt : k < n
    · have e0 := N1.out.rl.cell hlt
      have e1 := N1.out.rl.gl.2
      obtain ⟨lk, hlk⟩ : ∃ lk, lf k = lk := ⟨_, rfl⟩
      rw [hlk] at e0
      have HL := Lib.hid hlk
      clear hlk
      by_cases hp : 0 < lk
      · have hp2 : 0 < lf k := by rw [HL.out]; exact hp
        have t1 : decide (0 < lk) = true := by simpa using hp
        have S1 : Hid (SrAt w ((wr.setCell ⟨gd, k * 2, none⟩ (.int .i64 0)).setCell ⟨gd, k * 2 + 1, none⟩ (.int .i64 0)) n gd w1.heap.size hv (far0 lf (k + 1)) (hp0 lf k) ((hp0 lf k).length : Int)) := Lib.hid (by
          have h := I.out.set k hlt (0, 0)
          rw [far0_yesF hp2] at h
          exact h)
        have HP := Lib.hid hp2
        have g0 := (I.out.rd.cell hlt).1
        have g1 := (I.out.rd.cell hlt).2
        have g2 := I.out.rd.fr (k * 2)
        have g3 := I.out.rd.fr (k * 2 + 1)
        have g4 := I.out.rd.gl.2
        have hlen := hp0_len lf k
        generalize far0 lf k k = fk at g0 g1
        clear hp hp2
        go_wp2_with (go_at_call 73; refine (HV.push lessV w1.heap.size hv (hp0 lf k) _ ((k : Int), 0, 0) _ S1.out.heap (by omega)).mono ?_; rintro e w3 ⟨rfl, v3, i3, o3, f3⟩; have I3 := Lib.hid (S1.out.push i3 o3 f3); clear i3 o3 f3)
        go_roundw
        case rel =>
          have h := I3.out
          rw [← hp0_yes HP.out] at h
          have e5 : ((hp0 lf k).length : Int) + 1 = ((hp0 lf (k + 1)).length : Int) := by rw [hp0_yes HP.out]; simp
          rw [e5] at h
          exact ⟨k + 1, v3, by go_num, by omega, h⟩
        case measure => simp [intOf]; omega
      · have hp2 : ¬ 0 < lf k := by rw [HL.out]; exact hp
        have t1 : decide (0 < lk) = false := by simpa using hp
        have HP := Lib.hid hp2
        clear hp hp2
        go_wp2
        go_roundw
        case rel =>
          have h := I.out
          rw [far0_noF HP.out, ← hp0_no HP.out] at h
          exact ⟨k + 1, hv, by go_num, by omega, h⟩
        case measure => simp [intOf]; omega
    · obtain hkn : n = k := by omega
      have t0 : decide (k < n) = false := by simpa using hlt
      have S0 : Hid (SrAt w wr n gd w1.heap.size hv (far0 lf n) (hp0 lf n) ((hp0 lf n).length : Int)) := Lib.hid (by have h := I.out; rw [← hkn] at h; exact h)
      have D0 := Lib.hid (dij_start (E := E) (n := n) (x := x) (f := f) (lf := lf) (done := stps E) (fun v hv hl => by have := NT.out.src v hv hl; have := G.out.x0 v hv; omega))
      have hl0 := hp0_len lf n
      have hdg := degS_all E n
      have L0 := Lib.hid hl0
      have DG := Lib.hid hdg
      clear hlt hkn hk hdg I N1
      go_wp2_with (go_at_call 74; refine (popV S0.out (by omega)).mono ?_; rintro e w3 ⟨e3, ok3, rfl, hC, hV, hz⟩; have C3 := Lib.hid hC; have hwz := Nat.le_trans S0.out.below.size hz; clear hC hV hz hl0)
      go_loopw [3, 7, 8] (fun nv pv okv wr => ∃ m, Sr2 w n gd w1.heap.size E x f lf m wr nv pv okv) (fun nv pv okv wr => leastN fun m => Sr2 w n gd w1.heap.size E x f lf m wr nv pv okv)
      case atStart => exact ⟨_, [], far0 lf n, hp0 lf n, 9223372036854775807, (0, 0), _, w3.heap.size, e3, rfl, rfl, hwz, heap_alloc_new w3 _, D0.out, by have := L0.out; have := DG.out; omega, rfl, C3.out.quiet ((Below.refl _ _).alloc (Nat.le_refl _) _)⟩
      case round =>
        clear S0 D0 L0 DG C3 hwz t0
        obtain ⟨⟨P, far, H0, near, last, c, bv, e, rfl, rfl, hbw, hvb, hD, hc, hm, hP⟩, -⟩ := leastN_spec hrel
        have HM := Lib.hid hm
        have HD := Lib.hid hD
        have VB := Lib.hid hvb
        have HC := Lib.hid hc
        have v0 := hvb.c0
        have v1 := hvb.c1
        have v2 := hvb.c2
        have v3 := hvb.lt
        clear hm hD hvb hc hrel
        rcases hP with ⟨rfl, rfl, hv, hS⟩ | ⟨a, ha, rfl, rfl, hmin, hv, hS⟩
        · have S := Lib.hid hS
          clear hS v0 v1 v2
          go_wp2
          go_ret2
          exact ⟨gd, far, near, rfl, HD.out.found hn (fun v hv => (NT.out.xb G.out hv).2) (by simp), S.out.rd, S.out.below⟩
        · have S := Lib.hid hS
          have HMIN := Lib.hid hmin
          have hal := ha
          obtain ⟨v, hvn, hv1, hfin, hle, hla, hnP⟩ := HD.out.hp _ (List.getElem_mem ha)
          rw [hv1] at v0
          have f0 := (hS.rd.cell hvn).1
          have f1 := (hS.rd.cell hvn).2
          have f2 := hS.rd.gl.2
          obtain ⟨dd, hdd⟩ : ∃ dd : Dst, H0[a].2 = dd := ⟨_, rfl⟩
          rw [hdd] at v1 v2
          have HDD := Lib.hid hdd
          have HV1 := Lib.hid hv1
          clear hS hmin hv1 hfin hle hla hnP hdd
          by_cases hnear : dd.1 ≤ near
          · by_cases hd : far v = dd
            · obtain ⟨hvP, -, hB, hfv, hbk⟩ := HD.out.begin ha v HV1.out (by rw [HDD.out]; exact hd) HMIN.out (by rw [hd]; exact hnear)
              have hdeg := degS_cons E hvP (List.range n) List.nodup_range (by simpa using hvn)
              have BG := Lib.hid hB
              have FD := Lib.hid hd
              have DE := Lib.hid hdeg
              have HVP := Lib.hid hvP
              have HBK := Lib.hid hbk
              rw [hd] at f0 f1
              have u0 := (H.out.quiet S.out.below).rl.cell hvn
              have u1 := (H.out.quiet S.out.below).rl.gl.2
              have u2 := (H.out.quiet S.out.below).c2
              have u3 := (H.out.quiet S.out.below).pl
              obtain ⟨lv, hlv⟩ : ∃ lv, lf v = lv := ⟨_, rfl⟩
              rw [hlv] at u0
              have HLV := Lib.hid hlv
              obtain ⟨nr, hnr⟩ : ∃ nr, (if lf v < 0 then (far v).1 else near) = nr := ⟨_, rfl⟩
              have NR : Hid ((if lv < 0 then dd.1 else near) = nr) := Lib.hid (by rw [← hlv, ← hd]; exact hnr)
              have BG2 : Hid (Dij E n x f lf (fun u => if u = v then (stps E v).take 0 else stps E u) (v :: P) far (H0.eraseIdx a) nr dd) := Lib.hid (by
                have h := hB
                rw [hnr, hd] at h
                exact h)
              have DB : Hid (0 ≤ dd.1 ∧ dd.1 ≤ 9000 ∧ 0 ≤ dd.2 ∧ dd.2 ≤ 4096) := Lib.hid (by
                obtain ⟨b1, b2, b3, b4⟩ := HD.out.fin v hvn hfv
                have b5 := (NT.out.xb G.out hvn).2
                have b6 := pigeon HD.out.nd HD.out.lt
                rw [hd] at b1 b2 b3 b4
                omega)
              have HBK2 : Hid (dd.2 ≤ P.length) := Lib.hid (by rw [← hd]; exact hbk)
              clear hd hlv hnr hB hfv hdeg hvP hbk BG HBK
              have t1 : decide (dd.1 ≤ near) = true := by simpa using hnear
              have hng : ∀ W : World, (binOp .neq 121 (.agg #[.int .i64 dd.1, .int .i64 dd.2]) (.agg #[.int .i64 dd.1, .int .i64 dd.2])).run Tryz.prog W = .ok (.bool false) W := fun W => neq_dst W _ _ _ _ false (by simp)
              go_wp2
              go_quiet (fail)
              clear hng f0 f1 f2
              go_wp2
              go_quiet (fail)
              go_upto_if 78 with (fail)
              go_cut [3] from 79 to 81 (fun nv wx => nv = .int .i64 nr ∧ Below wr.heap.size wr wx)
              case first =>
                by_cases hl : lv < 0
                · have e := NR.out
                  rw [if_pos hl] at e
                  have E1 := Lib.hid e
                  clear e
                  go_wp2
                  all_goals
                    go_meet
                    exact ⟨by first | rw [E1.out] | (exfalso; omega), by first | exact belowN (belowN (Below.refl _ _) _) _ | exact belowN (Below.refl _ _) _⟩
                · have e := NR.out
                  rw [if_neg hl] at e
                  have E1 := Lib.hid e
                  clear e
                  go_wp2
                  all_goals
                    go_meet
                    exact ⟨by first | rw [E1.out] | (exfalso; omega), by first | exact belowN (belowN (Below.refl _ _) _) _ | exact belowN (Below.refl _ _) _⟩
              case rest =>
                obtain ⟨rfl, hbx⟩ := hcut
                have BX := Lib.hid hbx
                have S2 := Lib.hid (S.out.quiet hbx)
                have V2 : Hid (visB _ bv ((v : Int), dd)) := Lib.hid (by
                  have h := VB.out.quiet hbx
                  have e : H0[a] = ((v : Int), dd) := Prod.ext HV1.out HDD.out
                  rw [e] at h
                  exact h)
                have y0 := V2.out.c0
                have y1 := V2.out.lt
                have N2 := Lib.hid (H.out.quiet S2.out.below)
                have u2 := N2.out.c3
                have u3 := N2.out.pl
                have u4 := N2.out.cellS hvn
                have u5 := (World.ownsRow.lt N2.out.rs gs rfl).2
                obtain ⟨av, cv, hVv⟩ := N2.out.form hvn
                rw [hVv] at u4
                have HVF := Lib.hid hVv
                clear hbx hVv u0 u1 v0 v1 v2 v3 t1
                go_wp2
                go_quiet (fail)
                go_wp2
                generalize hwd : World.drewN _ _ = wd
                have bd : Below wr.heap.size wr wd := by rw [← hwd]; exact BX.out.trans ((belowN (Below.refl _ _) _).mono BX.out.size)
                have S3 := Lib.hid (S.out.quiet bd)
                have V3 : Hid (visB wd bv ((v : Int), dd)) := Lib.hid (by
                  have h := VB.out.quiet bd
                  have e : H0[a] = ((v : Int), dd) := Prod.ext HV1.out HDD.out
                  rw [e] at h
                  exact h)
                clear hwd bd y0 y1 u2 u3 u4 u5 S2 V2 N2 BX
                obtain ⟨wo, hwo⟩ : ∃ W, W = wr := ⟨_, rfl⟩
                subst hwo
                generalize hdg : (stps E v).length = dg at *
                have DG := Lib.hid hdg
                have hdeg2 : dg ≤ 32768 := by have := stps_len E v; omega
                clear hdg
                go_loopw [91] (fun iv wx => Sr3 w n gd w1.heap.size E x f lf P nr v dd bv ((H0.eraseIdx a).length + dg) wx iv) (fun iv _ => dg - (intOf iv).toNat)
                case atStart => exact ⟨0, far, H0.eraseIdx a, hv, c, rfl, by omega, FD.out, V3.out, BG2.out, by have := HC.out; have := DE.out; have := DG.out; omega, by have := DG.out; omega, S3.out⟩
                case round =>
                  clear S3 V3
                  obtain ⟨j, far3, H3, hv3, c3, rfl, hj, hfv, hvb, hD, hc, hln, hS⟩ := hrel
                  have FV := Lib.hid hfv
                  have VB3 := Lib.hid hvb
                  have HD3 := Lib.hid hD
                  have HC3 := Lib.hid hc
                  have HL3 := Lib.hid hln
                  have SS := Lib.hid hS
                  have NN := Lib.hid (H.out.quiet hS.below)
                  have y1 := hvb.c1
                  have y2 := hvb.c2
                  have y3 := hvb.lt
                  rw [DG.out] at hj
                  clear hfv hvb hD hc hln hS
                  by_cases hlt : j < dg
                  · have hlt2 : j < (stps E v).length := by rw [DG.out]; exact hlt
                    have hrow := NN.out.rows v hvn
                    obtain ⟨gv, cv', hVs, _, hgv, _⟩ := ownsRow_form hrow (by omega)
                    have hV2 := HVF.out.symm.trans hVs
                    simp only [Value.slice.injEq, DG.out, true_and] at hV2
                    obtain ⟨rfl, rfl⟩ := hV2
                    have hsm := List.getElem_mem hlt2
                    obtain ⟨m1, m2, m3, m4, m5, m6, m7, m8⟩ := NT.out.fits.step hsm
                    have k4 := hrow.cell hVs hlt2
                    obtain ⟨s, hs⟩ : ∃ s, (stps E v)[j] = s := ⟨_, rfl⟩
                    rw [hs] at m1 m2 m4 m5 m6 k4
                    have HS := Lib.hid hs
                    obtain ⟨k40, k41, k42, k43⟩ := k4
                    clear hrow hVs hsm m7 m8 hs
                    go_wp2
                    generalize hwa : World.alloc wr _ = wa
                    have ba : Below wr.heap.size wr wa := by rw [← hwa]; exact (Below.refl _ _).alloc (Nat.le_refl _) _
                    have hza : wa.heap.size = wr.heap.size + 1 := by rw [← hwa]; simp
                    have e0 : wa.cell? ⟨wr.heap.size, 0, none⟩ = some (.int .i64 (s.1 : Int)) := by rw [← hwa]; clear hwa; go_simp
                    have e1 : wa.cell? ⟨wr.heap.size, 1, none⟩ = some (.int .i64 (s.2.1 : Int)) := by rw [← hwa]; clear hwa; go_simp
                    have e2 : wa.cell? ⟨wr.heap.size, 2, none⟩ = some (.int .i64 (s.2.2.1 : Int)) := by rw [← hwa]; clear hwa; go_simp
                    have e3 : wa.cell? ⟨wr.heap.size, 3, none⟩ = some (.int .i64 (s.2.2.2 : Int)) := by rw [← hwa]; clear hwa; go_simp
                    rw [m2] at e1
                    have BA := Lib.hid ba
                    have NA := Lib.hid (NN.out.quiet ba)
                    have VA := Lib.hid (VB3.out.quiet ba)
                    have z1 := VA.out.c1
                    have z2 := VA.out.c2
                    clear hwa ba k40 k41 k42 k43 y1 y2 hgv
                    have m5' : (s.2.2.2 : Int) ≤ 1 := by omega
                    have cS := fun (W : World) (o : Below wa.heap.size wa W) => slack (NA.out.quiet o) (fun v hv => NT.out.xb G.out hv) s (by rw [m2]; exact hvn) m4
                    unfold stpV at cS
                    rw [m2] at cS
                    have CS := Lib.hid cS
                    clear cS
                    have ddb := DB.out
                    have hsl : slk x s ≤ 20000 := slk_le (fun v hv => NT.out.xb G.out hv) s (by rw [m2]; exact hvn) m4
                    obtain ⟨dn, hdn⟩ : ∃ dn, lenS x dd s = dn := ⟨_, rfl⟩
                    have hdn1 : dd.1 + slk x s = dn.1 := by rw [← hdn]; rfl
                    have hdn2 : dd.2 + (s.2.2.2 : Int) = dn.2 := by rw [← hdn]; rfl
                    have DN := Lib.hid hdn
                    have DN1 := Lib.hid hdn1
                    have DN2 := Lib.hid hdn2
                    generalize hsk : slk x s = sk at *
                    have wq1 : IntKind.i64.wrap (dd.1 + sk) = dd.1 + sk := IntWalk.i64_in _ (by omega)
                    have wq2 : IntKind.i64.wrap (dd.2 + (s.2.2.2 : Int)) = dd.2 + (s.2.2.2 : Int) := IntWalk.i64_in _ (by omega)
                    have hbv : bv < wa.heap.size := by omega
                    have hbw : wr.heap.size < wa.heap.size := by omega
                    have HZA := Lib.hid hza
                    clear hsk hza hdn hdn1 hdn2 ddb hsl
                    go_upto_region 20 with (fail)
                    go_cut [11] from 95 to 108 (fun pv wx => ∃ b11, pv = .pointer (some ⟨b11, 0, none⟩) ∧ BoxD wa wx b11 dn)
                    case first =>
                      go_region_held3 (fun w' => w'.cell? ⟨bv, 1, none⟩ = some (.int .i64 dd.1) ∧ w'.cell? ⟨bv, 2, none⟩ = some (.int .i64 dd.2) ∧ w'.cell? ⟨wr.heap.size, 0, none⟩ = some (.int .i64 (s.1 : Int)) ∧ w'.cell? ⟨wr.heap.size, 1, none⟩ = some (.int .i64 (v : Int)) ∧ w'.cell? ⟨wr.heap.size, 2, none⟩ = some (.int .i64 (s.2.2.1 : Int)) ∧ w'.cell? ⟨wr.heap.size, 3, none⟩ = some (.int .i64 (s.2.2.2 : Int)))
                        (first
                          | go_keep
                          | exact ⟨(Q5.out.cell (p := ⟨bv, 1, none⟩) hbv).trans z1, (Q5.out.cell (p := ⟨bv, 2, none⟩) hbv).trans z2, (Q5.out.cell (p := ⟨wr.heap.size, 0, none⟩) hbw).trans e0, (Q5.out.cell (p := ⟨wr.heap.size, 1, none⟩) hbw).trans e1, (Q5.out.cell (p := ⟨wr.heap.size, 2, none⟩) hbw).trans e2, (Q5.out.cell (p := ⟨wr.heap.size, 3, none⟩) hbw).trans e3⟩
                          | exact ⟨((Q5.out.alloc Q5.out.size _).cell (p := ⟨bv, 1, none⟩) hbv).trans z1, ((Q5.out.alloc Q5.out.size _).cell (p := ⟨bv, 2, none⟩) hbv).trans z2, ((Q5.out.alloc Q5.out.size _).cell (p := ⟨wr.heap.size, 0, none⟩) hbw).trans e0, ((Q5.out.alloc Q5.out.size _).cell (p := ⟨wr.heap.size, 1, none⟩) hbw).trans e1, ((Q5.out.alloc Q5.out.size _).cell (p := ⟨wr.heap.size, 2, none⟩) hbw).trans e2, ((Q5.out.alloc Q5.out.size _).cell (p := ⟨wr.heap.size, 3, none⟩) hbw).trans e3⟩
                          | go_loud (exact ⟨(((Q5.out.setCell (Nat.le_refl _) _).setCell (Nat.le_refl _) _).cell (p := ⟨bv, 1, none⟩) hbv).trans z1, (((Q5.out.setCell (Nat.le_refl _) _).setCell (Nat.le_refl _) _).cell (p := ⟨bv, 2, none⟩) hbv).trans z2, (((Q5.out.setCell (Nat.le_refl _) _).setCell (Nat.le_refl _) _).cell (p := ⟨wr.heap.size, 0, none⟩) hbw).trans e0, (((Q5.out.setCell (Nat.le_refl _) _).setCell (Nat.le_refl _) _).cell (p := ⟨wr.heap.size, 1, none⟩) hbw).trans e1, (((Q5.out.setCell (Nat.le_refl _) _).setCell (Nat.le_refl _) _).cell (p := ⟨wr.heap.size, 2, none⟩) hbw).trans e2, (((Q5.out.setCell (Nat.le_refl _) _).setCell (Nat.le_refl _) _).cell (p := ⟨wr.heap.size, 3, none⟩) hbw).trans e3⟩))
                        ((first
                          | (go_at_call 75; refine (CS.out _ (by first | exact (Below.refl _ _).drew | exact ((Below.refl _ _).drew).alloc (by simp) _)).mono ?_; rintro e w5 ⟨rfl, hb⟩; have Q5 : Hid (Below wa.heap.size wa w5) := Lib.hid (by first | exact (Below.refl wa.heap.size wa).drew.trans hb | exact (((Below.refl wa.heap.size wa).drew).alloc (by simp) _).trans (hb.mono (by simp))); (first | (have g0 : w5.cell? ⟨wa.heap.size, 0, none⟩ = some (.int .i64 0) := (hb.cell (p := ⟨wa.heap.size, 0, none⟩) (box_lt wa)).trans (box_c0 wa); have g1 : w5.cell? ⟨wa.heap.size, 1, none⟩ = some (.int .i64 0) := (hb.cell (p := ⟨wa.heap.size, 1, none⟩) (box_lt wa)).trans (box_c1 wa); have j0 : w5.frozen? ⟨wa.heap.size, 0, none⟩ = false := (hb.frozen (p := ⟨wa.heap.size, 0, none⟩) (box_lt wa)).trans (box_fr wa 0); have j1 : w5.frozen? ⟨wa.heap.size, 1, none⟩ = false := (hb.frozen (p := ⟨wa.heap.size, 1, none⟩) (box_lt wa)).trans (box_fr wa 1); have hz5 : wa.heap.size < w5.heap.size := Nat.lt_of_lt_of_le (box_lt wa) hb.size) | skip); clear hb)))
                      all_goals
                        go_wp2_with fail
                        go_meet
                        first
                          | exact ⟨w5.heap.size, rfl, Q5.out.alloc Q5.out.size _, Q5.out.size, by simp, by rw [← DN1.out]; go_simp, by rw [← DN2.out]; go_simp⟩
                          | exact ⟨wa.heap.size, rfl, (Q5.out.setCell (Nat.le_refl _) _).setCell (Nat.le_refl _) _, Nat.le_refl _, by simpa using hz5, by rw [← DN1.out]; go_simp, by rw [← DN2.out]; go_simp⟩
                    case rest =>
                      obtain ⟨b11, rfl, hB11⟩ := hcut
                      obtain ⟨wz, hwz⟩ : ∃ W, W = wc := ⟨_, rfl⟩
                      subst hwz
                      obtain ⟨bz, hb11, hb11z, q0, q1⟩ := hB11
                      have BZ := Lib.hid bz
                      have hzz := bz.size
                      have p0 := (bz.cell (p := ⟨wr.heap.size, 0, none⟩) hbw).trans e0
                      have p1 := (bz.cell (p := ⟨wr.heap.size, 1, none⟩) hbw).trans e1
                      have p2 := (bz.cell (p := ⟨wr.heap.size, 2, none⟩) hbw).trans e2
                      have p3 := (bz.cell (p := ⟨wr.heap.size, 3, none⟩) hbw).trans e3
                      have BW : Hid (Below wr.heap.size wr wz) := Lib.hid (BA.out.trans (bz.mono BA.out.size))
                      have NZ := Lib.hid (NA.out.quiet bz)
                      have SZ := Lib.hid (SS.out.quiet BW.out)
                      have VZ := Lib.hid (VA.out.quiet bz)
                      have f0 := (SZ.out.rd.cell m4).1
                      have f1 := (SZ.out.rd.cell m4).2
                      have f2 := SZ.out.rd.gl.2
                      obtain ⟨fd, hfd⟩ : ∃ fd, far3 s.2.2.1 = fd := ⟨_, rfl⟩
                      rw [hfd] at f0 f1
                      have FDD := Lib.hid hfd
                      clear bz hfd
                      have ca0 := fun d os => cell_regrown p0 d os
                      have ca1 := fun d os => cell_regrown p1 d os
                      have ca2 := fun d os => cell_regrown p2 d os
                      have ca3 := fun d os => cell_regrown p3 d os
                      have ca4 := fun d os => cell_regrown q0 d os
                      have ca5 := fun d os => cell_regrown q1 d os
                      have ca6 := fun d os => cell_regrown f0 d os
                      have ca7 := fun d os => cell_regrown f1 d os
                      have cO := fun d os => Calls.regrown_of (isOpen (NZ.out.quiet (below_regrown wz d os)) s m1)
                      have cL := fun d os => Calls.regrown_of (lessD dn fd (Go.Sort.grow (redrawn wz d) os))
                      unfold stpV at cO
                      rw [m2] at cO
                      obtain ⟨op, hop⟩ : ∃ op, opn f s = op := ⟨_, rfl⟩
                      have OP := Lib.hid hop
                      rw [hop] at cO
                      obtain ⟨lt, hlt3⟩ : ∃ lt, ltD dn fd = lt := ⟨_, rfl⟩
                      have LT := Lib.hid hlt3
                      rw [hlt3] at cL
                      clear hop hlt3
                      go_upto_region 21 with (fail)
                      go_cut [120] from 109 to 120 (fun pv wx => pv = .bool (op && lt) ∧ Below wz.heap.size wz wx)
                      case first =>
                        cases op with
                        | false =>
                          go_wp2
                          refine wp_region_quiet_below (by kernel_rfl) (by kernel_rfl) ?_
                          repeat (first | go_big_quiet_step (exact cO _ _) | go_big_quiet_step (exact cL _ _) | quiet_step (exact cO _ _) | quiet_step (exact cL _ _))
                          refine wpQuiet_nil ?_
                          intro _ hw'
                          obtain ⟨pp, hw''⟩ := hw'
                          subst hw''
                          go_wp2_with fail
                          go_meet
                          exact ⟨rfl, below_regrown wz pp.d pp.os⟩
                        | true =>
                          go_wp2
                          refine wp_region_quiet_below (by kernel_rfl) (by kernel_rfl) ?_
                          repeat (first | go_big_quiet_step (exact cO _ _) | go_big_quiet_step (exact cL _ _) | quiet_step (exact cO _ _) | quiet_step (exact cL _ _))
                          refine wpQuiet_nil ?_
                          intro _ hw'
                          obtain ⟨pp, hw''⟩ := hw'
                          subst hw''
                          go_wp2_with fail
                          go_meet
                          exact ⟨by simp, below_regrown wz pp.d pp.os⟩
                      case rest =>
                        obtain ⟨rfl, hbc⟩ := hcut
                        clear ca0 ca1 ca2 ca3 ca4 ca5 ca6 ca7 cO cL
                        obtain ⟨w7, hw7⟩ : ∃ W, W = wc := ⟨_, rfl⟩
                        subst hw7
                        have B7 := Lib.hid hbc
                        have hz7 := hbc.size
                        have hyn : (opn f s && ltD (lenS x dd s) (far3 s.2.2.1)) = (op && lt) := by rw [OP.out, DN.out, FDD.out, LT.out]
                        cases hb : (op && lt) with
                        | false =>
                          have YN := Lib.hid (hyn.trans hb)
                          have R3 := Lib.hid (sr3_pass (w' := w7) HD3.out FV.out DG.out hlt HS.out YN.out VB3.out SS.out (BW.out.trans (hbc.mono BW.out.size)) HC3.out HL3.out)
                          clear hyn hb hbc p0 p1 p2 p3 q0 q1 f0 f1
                          go_wp2
                          go_roundw
                          case rel => exact R3.out
                          case measure => simp [intOf]; omega
                        | true =>
                          have YN := Lib.hid (hyn.trans hb)
                          have S7 := Lib.hid (SZ.out.quiet hbc)
                          have V7 := Lib.hid (VZ.out.quiet hbc)
                          have k2 := (hbc.cell (p := ⟨wr.heap.size, 2, none⟩) (show wr.heap.size < wz.heap.size by omega)).trans p2
                          have k3 := (hbc.cell (p := ⟨b11, 0, none⟩) hb11z).trans q0
                          have k4 := (hbc.cell (p := ⟨b11, 1, none⟩) hb11z).trans q1
                          have k5 := (S7.out.rd.cell m4).1
                          have k6 := (S7.out.rd.cell m4).2
                          have k7 := S7.out.rd.fr (s.2.2.1 * 2)
                          have k8 := S7.out.rd.fr (s.2.2.1 * 2 + 1)
                          have k9 := S7.out.rd.gl.2
                          rw [FDD.out] at k5 k6
                          have hwz7 : wr.heap.size < w7.heap.size := by omega
                          have hb7 : b11 < w7.heap.size := by omega
                          have SX : Hid (SrAt w ((w7.setCell ⟨gd, s.2.2.1 * 2, none⟩ (.int .i64 dn.1)).setCell ⟨gd, s.2.2.1 * 2 + 1, none⟩ (.int .i64 dn.2)) n gd w1.heap.size hv3 (fun u => if u = s.2.2.1 then lenS x dd s else far3 u) H3 c3) := Lib.hid (by rw [DN.out]; exact S7.out.set _ m4 dn)
                          have VX : Hid (visB ((w7.setCell ⟨gd, s.2.2.1 * 2, none⟩ (.int .i64 dn.1)).setCell ⟨gd, s.2.2.1 * 2 + 1, none⟩ (.int .i64 dn.2)) bv ((v : Int), dd)) := Lib.hid (V7.out.dist S7.out _ _ _ _)
                          have hx0 := SS.out.rd.gl.2
                          have hx3 := HZA.out
                          have hx1 : b11 ≠ gd := by omega
                          have hx2 : wr.heap.size ≠ gd := by omega
                          clear hx0 hx3
                          have hcc : c3 ≤ 999999 := by have := HC3.out; omega
                          clear hyn hb hbc p0 p1 p2 p3 q0 q1 f0 f1 e0 e1 e2 e3
                          go_wp2_with (go_at_call 73; refine (HV.push lessV w1.heap.size hv3 H3 c3 ((s.2.2.1 : Int), dn.1, dn.2) _ SX.out.heap hcc).mono ?_; rintro e w8 ⟨rfl, v8, i8, o8, f8⟩; have R8 := Lib.hid (sr3_relax hn NT.out.fits HD3.out FV.out DG.out hlt HS.out YN.out HBK2.out VX.out SX.out (by rw [DN.out]; exact i8) o8 f8 HC3.out HL3.out); clear i8 o8 f8)
                          go_roundw
                          case rel => exact R8.out
                          case measure => simp [intOf]; omega
                  · have hjd : j = dg := by omega
                    have t3 : decide (j < dg) = false := by simpa using hlt
                    have D4 := Lib.hid (by
                      have h := HD3.out
                      rw [hjd, ← DG.out] at h
                      exact h.all)
                    have HC4 : Hid (c3 + (degS E (List.range n) (v :: P) : Int) ≤ (n : Int) + 2 * (E.length : Int)) := Lib.hid (by have := HC3.out; rw [DG.out] at this; omega)
                    have HL4 : Hid (H3.length ≤ (H0.eraseIdx a).length + dg) := Lib.hid (by have := HL3.out; omega)
                    have hcc : c3 ≤ 1000000 := by have := HC4.out; omega
                    have y0 := VB3.out.c0
                    clear hlt hjd hj
                    go_wp2_with (go_at_call 74; refine (popV (SS.out.quiet ((Below.refl _ _).alloc (Nat.le_refl _) _)) hcc).mono ?_; rintro e w5 ⟨e5, ok5, rfl, hC5, hV5, hz5⟩; have C5 := Lib.hid hC5; have V5 : Hid (visB w5 wr.heap.size ((v : Int), dd)) := Lib.hid (hV5 _ _ (heap_alloc_new wr _)); have x0 := V5.out.c0; have x1 := V5.out.c1; have x2 := V5.out.c2; have x3 := V5.out.fr 0; have x4 := V5.out.fr 1; have x5 := V5.out.fr 2; have x6 := V5.out.lt; clear hC5 hV5 hz5)
                    have RL := Lib.hid (sr2_next (x := x) (f := f) (lf := lf) D4.out HC4.out (show w.heap.size ≤ wr.heap.size from SS.out.below.size) V5.out C5.out)
                    go_roundw
                    case rel => exact ⟨_, RL.out⟩
                    case measure =>
                      rw [HM.out]
                      have h1 := HL4.out
                      have h2 := DE.out
                      have h3 := DG.out
                      rw [List.length_eraseIdx_of_lt hal] at h1
                      exact leastN_less RL.out (by omega)
            · have SK := Lib.hid (HD.out.skip ha v HV1.out (by rw [HDD.out]; exact hd))
              have hne : (dd.1 == (far v).1 && dd.2 == (far v).2) = false := by
                cases h : (dd.1 == (far v).1 && dd.2 == (far v).2)
                · rfl
                · simp only [Bool.and_eq_true, beq_iff_eq] at h
                  exact absurd (Prod.ext h.1.symm h.2.symm) hd
              have hng : ∀ W : World, (binOp .neq 121 (.agg #[.int .i64 dd.1, .int .i64 dd.2]) (.agg #[.int .i64 (far v).1, .int .i64 (far v).2])).run Tryz.prog W = .ok (.bool true) W := fun W => neq_dst W _ _ _ _ true (by rw [hne]; rfl)
              have t1 : decide (dd.1 ≤ near) = true := by simpa using hnear
              clear hd hne
              go_wp2
              go_quiet (fail)
              clear hng
              go_upto_region 25 with (fail)
              generalize hwq : World.drewN _ _ = wq
              have bq : Below wr.heap.size wr wq := by rw [← hwq]; exact belowN (Below.refl _ _) _
              have VQ : Hid (visB wq bv ((v : Int), dd)) := Lib.hid (by
                have h := VB.out.quiet bq
                have e : H0[a] = ((v : Int), dd) := Prod.ext HV1.out HDD.out
                rw [e] at h
                exact h)
              have SQ := Lib.hid (S.out.quiet bq)
              have y0 := VQ.out.c0
              have y1 := VQ.out.c1
              have y2 := VQ.out.c2
              have y3 := VQ.out.lt
              have hcc : c ≤ 1000000 := by have := HC.out; omega
              clear hwq bq v0 v1 v2 v3 f0 f1 f2 t1
              go_wp2_with (go_at_call 74; refine (popV (SQ.out.quiet ((Below.refl _ _).alloc (Nat.le_refl _) _)) hcc).mono ?_; rintro e w5 ⟨e5, ok5, rfl, hC5, hV5, hz5⟩; have C5 := Lib.hid hC5; have V5 : Hid (visB w5 wq.heap.size ((v : Int), dd)) := Lib.hid (hV5 _ _ (heap_alloc_new wq _)); have x0 := V5.out.c0; have x1 := V5.out.c1; have x2 := V5.out.c2; have x3 := V5.out.fr 0; have x4 := V5.out.fr 1; have x5 := V5.out.fr 2; have x6 := V5.out.lt; clear hC5 hV5 hz5)
              have RL := Lib.hid (sr2_next (x := x) (f := f) (lf := lf) SK.out HC.out (show w.heap.size ≤ wq.heap.size from SQ.out.below.size) V5.out C5.out)
              go_roundw
              case rel => exact ⟨_, RL.out⟩
              case measure =>
                rw [HM.out]
                exact leastN_less RL.out (by rw [List.length_eraseIdx_of_lt hal]; omega)
          · have t1 : decide (dd.1 ≤ near) = false := by simpa using hnear
            go_wp2
            go_ret2
            exact ⟨gd, far, near, rfl, HD.out.found hn (fun v hv => (NT.out.xb G.out hv).2) (fun e he => by have h := HMIN.out e he; rw [HDD.out] at h; unfold leD at h; omega), S.out.rd, S.out.below⟩
end Go.Proofs.YtdpacaomkahgfaaGreatDoor
