/-
  Library calls on rows of ints: compared, sorted, looked up, one int repeated; how far none was met. Conditions: at most 100000 ints.
-/
import Derived.Test.YtieffijdhcbcfaaJnA
import Derived.Test.YtieffijdhcbcfaaShelf
import Derived.Laws.CopyOwn
import Derived.IntWalk
import Derived.Deep.RegionHeld3
import Derived.Sort.OwnSortedInts
import Derived.Lib.OwnBridge
namespace Go
theorem run_copy13 {P : Program} (w : World) (dT sT ty elem : TypeId) (sz m g o dLen dCap : Nat) (a : Addr) (sLen sCap : Nat) (cur : Array Value) (t : TypeId) (cs : List Value)
    (hu : P.underlying dT = some (.slice elem)) (hs : (P.info? elem).map (·.size) = some sz)
    (hg : w.heap[g]? = some (.cells cur t (0, 0))) (hm : Nat.min sLen dLen = m) (hn : cs.length = m * sz)
    (hsrc : ∀ j v, cs[j]? = some v → w.cell? (a.add j) = some v) (hfit : o + cs.length ≤ cur.size) (h1 : ∀ v ∈ cs, v.oneCell' = true) :
    (Builtin.copy_ #[dT, sT] ty #[.slice (some ⟨g, o, none⟩) dLen dCap, .slice (some a) sLen sCap]).run P w =
      .ok (goInt m) (w.setRow g (cur.toList.take o ++ cs ++ cur.toList.drop (o + cs.length)).toArray) := by
  have hl := run_loadCells_list (P := P) w a cs hsrc
  have hst := run_storeCells_at P g o t cs 0 cur w hg (by simpa using hfit) h1
  cases hq : P.info? elem with
  | none => simp [hq] at hs
  | some i =>
    have hi : i.size = sz := by simpa [hq] using hs
    simp [Builtin.copy_, run_underlying hu, Builtin.lenOf, Builtin.firstCells, sizeOf, typeInfo, hq, hi, hm, ← hn, hl, hst]
theorem copy13 {P : Program} (w : World) (dT sT ty elem : TypeId) (sz m g o dLen dCap : Nat) (a : Addr) (sLen sCap : Nat) (cur : Array Value) (t : TypeId) (cs : List Value)
    (hu : P.underlying dT = some (.slice elem)) (hs : (P.info? elem).map (·.size) = some sz)
    (hg : w.heap[g]? = some (.cells cur t (0, 0))) (hm : Nat.min sLen dLen = m) (hn : cs.length = m * sz)
    (hsrc : ∀ j v, cs[j]? = some v → w.cell? (a.add j) = some v) (hfit : o + cs.length ≤ cur.size) (h1 : ∀ v ∈ cs, v.oneCell' = true) :
    ∃ w2, (Builtin.copy_ #[dT, sT] ty #[.slice (some ⟨g, o, none⟩) dLen dCap, .slice (some a) sLen sCap]).run P w = .ok (.int .i64 (m : Int)) w2 ∧
      w2.heap[g]? = some (.cells (cur.toList.take o ++ cs ++ cur.toList.drop (o + cs.length)).toArray t (0, 0)) ∧ RowKit.Below g w w2 :=
  ⟨_, run_copy13 w dT sT ty elem sz m g o dLen dCap a sLen sCap cur t cs hu hs hg hm hn hsrc hfit h1, setRow_heap w g _ _ t _ hg, below_setRow (RowKit.Below.refl _ _) (Nat.le_refl _) _⟩
end Go
namespace Go.Proofs.Ytieffijdhcbcfaa
open Go.RowKit Go.Sort Go.Lib Go.Proofs.Ytieffijdhcbcfaa.GrM Go.Proofs.Ytieffijdhcbcfaa.JoM

/-! Compared. -/
theorem drewN_bel13 (w : World) (n : Nat) : Below w.heap.size w (w.drewN n) := ⟨rfl, rfl, rfl, Nat.le_refl _, fun _ _ => rfl⟩
theorem equalJ (v u : Value) (x y : List Int) (n m : Nat) (w : World) (hX : ZsAt w v x n) (hY : ZsAt w u y m) (hx : n ≤ 9223372036854775807) (hy : m ≤ 9223372036854775807) :
    Calls Try.prog 12 #[v, u] w fun e w' => e = .returned (.bool (x == y)) ∧ Below w.heap.size w w' := by
  obtain ⟨hl, A, cap, rfl, hA⟩ := hX
  obtain ⟨hm, A', cap', rfl, hA'⟩ := hY
  subst hl hm
  by_cases h0 : x.length = y.length
  · by_cases h1 : x.length = 0
    · have h2 : y.length = 0 := by omega
      obtain rfl := List.eq_nil_of_length_eq_zero h1
      obtain rfl := List.eq_nil_of_length_eq_zero h2
      refine (Go.Proofs.Try.slices_Equal_int_empty A A' cap 0 cap' w (by omega)).mono ?_
      rintro e w' ⟨rfl, rfl⟩
      exact ⟨rfl, Below.refl _ _⟩
    · obtain ⟨b, o, rfl, _, hc⟩ := hA (by omega)
      obtain ⟨b', o', rfl, _, hc'⟩ := hA' (by omega)
      refine (Go.Proofs.Try.slices_Equal_int b o x.length cap b' o' y.length cap' x y w (Nat.le_refl _) (Nat.le_refl _) (by omega) (by omega) hc hc').mono ?_
      rintro e w' ⟨rfl, q, rfl⟩
      rw [List.take_length, List.take_length]
      exact ⟨rfl, drewN_bel13 w q⟩
  · refine (Go.Proofs.Try.slices_Equal_int_lens A A' x.length cap y.length cap' w h0).mono ?_
    rintro e w' ⟨rfl, rfl⟩
    refine ⟨ret_bool ?_, Below.refl _ _⟩
    have : x ≠ y := fun e => h0 (by rw [e])
    simpa using this
theorem zsNew13 (w : World) (g : Nat) (x : List Int) (n : Nat) (hn : x.length = n) (T : TypeId) (h : w.heap[g]? = some (.cells (x.map (Value.int .i64)).toArray T (0, 0))) : ZsAt w (.slice (some ⟨g, 0, none⟩) n n) x n := by
  subst hn
  refine ⟨rfl, _, _, rfl, fun _ => ⟨g, 0, rfl, (Array.getElem?_eq_some_iff.1 h).1, fun k hk => ?_⟩⟩
  simp [World.cell?, h, hk]
/-! Sorted. -/
theorem intV_map (x : List Int) : x.map intV = x.map (Value.int .i64) := rfl
theorem sortZ (B n : Nat) (v : Value) (x : List Int) (w : World) (h : OwnZ w B v x n) (hs : n ≤ 1000000) :
    Calls Try.prog 27 #[v] w fun e w' => e = .returned (.tuple #[]) ∧ OwnZ w' B v (x.mergeSort fun a b => decide (a ≤ b)) n ∧ w.grownBy w' v.ownBlock := by
  have hl := h.len
  subst hl
  by_cases h0 : x.length = 0
  · obtain rfl : x = [] := List.eq_nil_of_length_eq_zero h0
    obtain ⟨ao, cap, rfl⟩ := row_form12 h
    refine (Go.Proofs.Try.slices_Sort_int_none ao cap w).mono ?_
    rintro e w' ⟨rfl, rfl⟩
    exact ⟨rfl, by simpa using h, World.grownBy.refl _ _⟩
  · rcases h.2 with ⟨_, h2⟩ | ⟨gg, cap, cur, rfl, hbase, hb, h1, h2, h3, h4⟩
    · exact absurd h2 h0
    · refine (Go.Proofs.Try.slices_Sort_int gg 0 cap x w (holds_of_blockI hb (by simpa [intV_map] using h4)) (Array.getElem?_eq_some_iff.1 hb).1 (by omega)).mono ?_
      rintro e w' ⟨rfl, n, os, rfl⟩
      refine ⟨rfl, ?_, grownBy_sortedI _⟩
      have hl : (x.mergeSort fun a b => decide (a ≤ b)).length = x.length := by simp
      unfold OwnZ
      exact ownsRow_sortedI hl hbase hb h1 h2 h3
/-! Looked up. -/
theorem containsZ (v : Value) (x : List Int) (n : Nat) (a : Int) (w : World) (hX : ZsAt w v x n) (hx : n ≤ 9223372036854775807) :
    Calls Try.prog 19 #[v, .int .i64 a] w fun e w' => e = .returned (.bool (x.contains a)) ∧ w = w' := by
  obtain ⟨hl, A, cap, rfl, hA⟩ := hX
  subst hl
  by_cases h0 : x.length = 0
  · obtain rfl := List.eq_nil_of_length_eq_zero h0
    refine (Go.Proofs.Try.slices_Contains_int_empty A cap a w).mono ?_
    rintro e w' ⟨rfl, rfl⟩
    exact ⟨rfl, rfl⟩
  · obtain ⟨b, o, rfl, _, hc⟩ := hA (by omega)
    refine (Go.Proofs.Try.slices_Contains_int b o x.length cap x a w (Nat.le_refl _) hx hc).mono ?_
    rintro e w' ⟨rfl, rfl⟩
    rw [List.take_length]
    exact ⟨rfl, rfl⟩
/-! One int repeated. -/
theorem sizeInt13 : (Try.prog.info? 3).map (·.size) = some 1 := by kernel_rfl
def repI (N k : Nat) (x : Int) : List Value := (List.replicate k x ++ List.replicate (N - k) 0).map intV
def oneI13 (m : Nat) (x : Int) : List Value := (List.replicate m x).map intV
theorem oneI13_len (m : Nat) (x : Int) : (oneI13 m x).length = m := by simp [oneI13]
theorem repI_len {N k : Nat} (h : k ≤ N) (x : Int) : (repI N k x).length = N := by simp [repI]; omega
theorem oneI13_cell (m : Nat) (x : Int) : ∀ v ∈ oneI13 m x, v.oneCell' = true := fun v hv => by
  obtain ⟨y, _, rfl⟩ := List.mem_map.1 hv; rfl
theorem repI_zero (N : Nat) (x : Int) : (madeCells #[.int .i64 0] N).toList = repI N 0 x := by
  rw [toList_madeCells_one]; simp [repI, intV]
theorem repI_step {N k m : Nat} (h : k + m ≤ N) (x : Int) : (repI N k x).take k ++ oneI13 m x ++ (repI N k x).drop (k + (oneI13 m x).length) = repI N (k + m) x := by
  have e : N - k = m + (N - (k + m)) := by omega
  unfold repI
  rw [e, ← List.replicate_append_replicate, ← List.replicate_append_replicate, List.map_append, List.map_append, List.map_append, List.map_append]
  have l1 : ((List.replicate k x).map intV).length = k := by simp
  have l2 : ((List.replicate m (0 : Int)).map intV).length = m := by simp
  rw [oneI13_len, List.take_left' l1, List.drop_append, l1, List.drop_of_length_le (by rw [l1]; omega), show k + m - k = m by omega, List.drop_left' l2]
  simp [oneI13]
theorem repI_pre {N k m : Nat} (h : m ≤ k) (x : Int) : ∀ (j : Nat) (v : Value), (oneI13 m x)[j]? = some v → (repI N k x)[j]? = some v := by
  intro j v hj
  have hlt : j < m := by have := (List.getElem?_eq_some_iff.1 hj).1; rwa [oneI13_len] at this
  unfold repI oneI13 at *
  rw [List.getElem?_map, List.getElem?_append_left (by simp; omega)]
  rw [List.getElem?_map] at hj
  simp [hlt] at hj
  simp [show j < k by omega, hj]
theorem srcOneI {W : World} {b m : Nat} {x : Int} (hm : m ≤ 1) (x0 : W.cell? ⟨b, 0, none⟩ = some (.int .i64 x)) : ∀ (j : Nat) (v : Value), (oneI13 m x)[j]? = some v → W.cell? ((⟨b, 0, none⟩ : Addr).add j) = some v := by
  intro j v hj
  have hlt : j < m := by have := (List.getElem?_eq_some_iff.1 hj).1; rwa [oneI13_len] at this
  obtain rfl : m = 1 := by omega
  obtain rfl : j = 0 := by omega
  simp [oneI13, intV] at hj
  subst hj
  exact x0
theorem srcRepI {W : World} {g N k m : Nat} {x : Int} {T : TypeId} (hm : m ≤ k) (hg : W.heap[g]? = some (.cells (repI N k x).toArray T (0, 0))) : ∀ (j : Nat) (v : Value), (oneI13 m x)[j]? = some v → W.cell? ((⟨g, 0, none⟩ : Addr).add j) = some v := by
  intro j v hj
  have h := repI_pre (N := N) hm x j v hj
  have e : ((⟨g, 0, none⟩ : Addr).add j) = ⟨g, j, none⟩ := by
    by_cases hj : j = 0
    · subst hj; rfl
    · simp [Addr.add, hj]
  rw [e]
  simp only [World.cell?, hg, List.getElem?_toArray]
  exact h
theorem mulOne13 (N : Nat) (hN : N ≤ 100000) (w : World) : Calls Try.prog 37 #[.int .u64 1, .int .u64 (N : Int)] w fun e w' => e = .returned (.tuple #[.int .u64 0, .int .u64 (N : Int)]) ∧ w = w' := by
  refine (Go.Proofs.Try.bits_Mul 1 N (by omega) (by omega) w).mono ?_
  rintro e w' ⟨rfl, rfl⟩
  refine ⟨?_, rfl⟩
  have e1 : 1 * N / 18446744073709551616 = 0 := Nat.div_eq_of_lt (by omega)
  have e2 : 1 * N % 18446744073709551616 = N := by rw [Nat.mod_eq_of_lt (by omega)]; omega
  rw [e1, e2]
  rfl
def RepP (N : Nat) (x : Int) (w : World) (e : Ending) (w' : World) : Prop := ∃ g, e = .returned (.slice (some ⟨g, 0, none⟩) N N) ∧ FarAt w' w.heap.size g N (fun _ => x) ∧ Below w.heap.size w w'
def RepR13 (N : Nat) (x : Int) (w : World) (wr : World) (nv : Value) : Prop :=
  ∃ k : Nat, nv = .int .i64 k ∧ (0 < N → 0 < k) ∧ k ≤ N ∧ Below w.heap.size w wr ∧ wr.heap[w.heap.size]? = some (.cells (repI N k x).toArray 3 (0, 0))
theorem repI_row {N : Nat} {x : Int} {w w' : World} (hN : N ≤ 100000) (h : w'.heap[w.heap.size]? = some (.cells (repI N N x).toArray 3 (0, 0))) : FarAt w' w.heap.size w.heap.size N (fun _ => x) := by
  have e : ((List.range N).map fun _ => x) = List.replicate N x := by rw [List.map_const', List.length_range]
  have e2 : repI N N x = (List.replicate N x).map intV := by unfold repI; simp
  unfold FarAt OwnZ
  rw [e]
  refine ⟨by simp, Or.inr ⟨_, N, _, rfl, Nat.le_refl _, h, Nat.le_refl _, by unfold maxLen; omega, by simp [repI_len], ?_⟩⟩
  rw [List.take_of_length_le (by simp [repI_len]), e2]
set_option maxHeartbeats 4000000 in
set_option maxRecDepth 100000 in
theorem repeatZ (N : Nat) (hN : N ≤ 100000) (b cap : Nat) (x : Int) (w : World) (hb : b < w.heap.size) (x0 : w.cell? ⟨b, 0, none⟩ = some (.int .i64 x)) :
    Calls Try.prog 33 #[.slice (some ⟨b, 0, none⟩) 1 cap, .int .i64 (N : Int)] w (RepP N x w) := by
  have hmk := mkInts12 N (by omega)
  have X0 := Lib.hid x0
  have hw1 : IntKind.u64.wrap (N : Int) = (N : Int) := by rw [IntKind.wrap_u64]; omega
  have hw2 : IntKind.i64.wrap (N : Int) = (N : Int) := IntWalk.i64_in _ (by omega)
  obtain ⟨m, hm⟩ : ∃ m, Nat.min 1 N = m := ⟨_, rfl⟩
  have hm1 : m ≤ 1 := by rw [← hm]; exact Nat.min_le_left _ _
  have hm2 : m ≤ N := by rw [← hm]; exact Nat.min_le_right _ _
  have hm3 : 0 < N → 0 < m := fun h => by rw [← hm, Nat.lt_min]; omega
  have HM := Lib.hid hm
  have HM3 := Lib.hid hm3
  clear x0 hm hm3
  have bA : Below w.heap.size w (w.alloc (.cells (madeCells #[.int .i64 0] N) 3)) := (Below.refl _ _).alloc (Nat.le_refl _) _
  obtain ⟨w2, hrun, hg2, hb2⟩ := copy13 (P := Try.prog) (w.alloc (.cells (madeCells #[.int .i64 0] N) 3)) 38 38 3 3 1 m w.heap.size 0 N N ⟨b, 0, none⟩ 1 cap _ 3 (oneI13 m x) Try.underlying38 sizeInt13 (heap_alloc_new w _) HM.out (by rw [oneI13_len]; omega) (srcOneI hm1 ((bA.cell (p := ⟨b, 0, none⟩) hb).trans X0.out)) (by rw [oneI13_len, size_madeCells]; omega) (oneI13_cell _ _)
  have G2 : Hid (w2.heap[w.heap.size]? = some (.cells (repI N m x).toArray 3 (0, 0))) := Lib.hid (by
    rw [repI_zero N x] at hg2
    have h := repI_step (N := N) (k := 0) (m := m) (by omega) x
    rw [Nat.zero_add, Nat.zero_add] at h
    rw [Nat.zero_add, h] at hg2
    exact hg2)
  have B2 : Hid (Below w.heap.size w w2) := Lib.hid (bA.trans hb2)
  clear hg2 hb2 bA
  go_enter Try.func33, Try.ntmps33
  go_wp2_with (go_at_call 37; refine (mulOne13 N hN _).mono ?_; rintro e w1 ⟨rfl, rfl⟩)
  clear hrun
  clear hmk hw1
  go_loopw [8] (fun nv wr => RepR13 N x w wr nv) (fun nv _ => N - (intOf nv).toNat)
  case atStart => exact ⟨m, rfl, HM3.out, hm2, B2.out, G2.out⟩
  case round =>
    clear B2 G2 HM HM3 hm1 hm2
    obtain ⟨k, rfl, hk0, hk, hB, hG⟩ := hrel
    have B := Lib.hid hB
    have GG := Lib.hid hG
    have HK := Lib.hid hk0
    have hgs : w.heap.size < wr.heap.size := (Array.getElem?_eq_some_iff.1 hG).1
    clear hB hG hk0
    by_cases hlt : k < N
    · have hk1 : 0 < k := HK.out (by omega)
      obtain ⟨q, hq⟩ : ∃ q, Nat.min k (N - k) = q := ⟨_, rfl⟩
      have hq1 : q ≤ k := by rw [← hq]; exact Nat.min_le_left _ _
      have hq2 : q ≤ N - k := by rw [← hq]; exact Nat.min_le_right _ _
      have hq3 : 0 < q := by rw [← hq, Nat.lt_min]; omega
      have HQ := Lib.hid hq
      have i0 : (0 : Int) ≤ (k : Int) := by omega
      have i1 : (k : Int) ≤ (N : Int) := by omega
      have i2 : ¬ N = k := by omega
      have hw3 : IntKind.i64.wrap ((k : Int) + (q : Int)) = (k : Int) + (q : Int) := IntWalk.i64_in _ (by omega)
      obtain ⟨w3, hrun, hg3, hb3⟩ := copy13 (P := Try.prog) wr.drew 38 38 3 3 1 q w.heap.size k (N - k) (N - k) ⟨w.heap.size, 0, none⟩ k N _ 3 (oneI13 q x) Try.underlying38 sizeInt13 GG.out hq (by rw [oneI13_len]; omega) (srcRepI (W := wr.drew) hq1 GG.out) (by rw [oneI13_len, List.size_toArray, repI_len hk]; omega) (oneI13_cell _ _)
      have G3 : Hid (w3.heap[w.heap.size]? = some (.cells (repI N (k + q) x).toArray 3 (0, 0))) := Lib.hid (by
        rw [List.toList_toArray, repI_step (by omega)] at hg3
        exact hg3)
      have B3 : Hid (Below w.heap.size w w3) := Lib.hid (B.out.trans ((Below.refl _ _).drew.trans hb3))
      clear hq hg3 hb3
      go_wp2
      go_region_held3 (fun _ => True) (trivial) (fail)
      all_goals
        clear hrun
        go_wp2
        go_roundw
        case rel => exact ⟨k + q, by go_num, fun _ => by omega, by omega, B3.out, G3.out⟩
        case measure => simp [intOf]; omega
    · obtain hkn : N = k := by omega
      have t0 : decide (k < N) = false := by simpa using hlt
      have G2 : Hid (wr.heap[w.heap.size]? = some (.cells (repI N N x).toArray 3 (0, 0))) := Lib.hid (by have h := GG.out; rw [← hkn] at h; exact h)
      clear hlt hkn hk
      go_wp2
      go_ret
      exact ⟨_, rfl, repI_row hN G2.out, B.out⟩
theorem unmet13 (N : Nat) (hN : N ≤ 100000) (w : World) : Calls Try.prog 25 #[.int .i64 (N : Int)] w (RepP N (-1) w) := by
  have RZ := Lib.hid (fun b cap w hb x0 => repeatZ N hN b cap (-1) w hb x0)
  go_enter Try.func25, Try.ntmps25
  go_wp2_with (go_at_call 33; refine (RZ.out _ _ _ (by simp) (by go_simp)).mono ?_; rintro e w2 ⟨g, rfl, f2, b2⟩; have F2 := Lib.hid f2; have B2 := Lib.hid b2; clear f2 b2)
  go_ret
  exact ⟨g, rfl, F2.out.base (by simp), ((Below.refl _ _).alloc (Nat.le_refl _) _).trans (B2.out.mono (by simp))⟩
end Go.Proofs.Ytieffijdhcbcfaa
