/-
  Whether a graph may be; whether numbers are coordinates. Conditions: none (rows of at most a million elements).
  leastFirst: the walk. Conditions: the graph may be.
  Order, Check, Cost: what they answer. Conditions: none (Cost: at most a million numbers and nodes are reckoned with).
-/
import Derived.Test.YtappfojjjegnpaaGreatDoorCqA
import Derived.Test.YtappfojjjegnpaaGreatDoorCqM
import Derived.Deep.RegionWith
import Derived.Laws.EntriesVeiled
import Derived.Test.YtappfojjjegnpaaGreatDoorCqE
import Derived.Test.YtappfojjjegnpaaGreatDoorCqW
import Derived.IntWalk
namespace Go.Proofs.YtappfojjjegnpaaGreatDoor
open Go.RowKit Go.Proofs.YtappfojjjegnpaaGreatDoor.DagM

/-- What a search answers: an index from 0 on, just if there is one. -/
def Idx (b : Bool) (w : World) (e : Ending) (w' : World) : Prop := ∃ i : Int, e = .returned (.int .i64 i) ∧ decide (0 ≤ i) = b ∧ Below w.heap.size w w'
/-- Where a search stands. -/
def IdxAt (len : Nat) (b : Nat → Bool) (w wr : World) (iv : Value) : Prop := ∃ k : Nat, iv = .int .i64 k ∧ k ≤ len ∧ Below w.heap.size w wr ∧ b k = false

theorem any_take {α : Type} (p : α → Bool) (L : List α) (k : Nat) (h : k < L.length) : (L.take (k + 1)).any p = ((L.take k).any p || p L[k]) := by
  rw [List.take_succ_eq_append_getElem h, List.any_append]
  simp
theorem any_found {α : Type} (p : α → Bool) (L : List α) (k : Nat) (h : k < L.length) (hp : p L[k] = true) : L.any p = true :=
  List.any_eq_true.2 ⟨L[k], List.getElem_mem h, hp⟩

set_option maxHeartbeats 2000000 in
theorem indexBad (n : Int) (c d : Nat) (v : Value) (L : List Arc) (w : World) (hA : ArcsAt w v L) (hl : L.length ≤ 1000000) (hC : ClosAt n w c d) :
    Calls Tryz.prog 90 #[v, .func (.func 82) #[] #[.pointer (some ⟨c, 0, none⟩)]] w (Idx (L.any (badA n)) w) := by
  have eg := enters_of Tryz.func82 (by kernel_rfl) rfl
  have HC := Lib.hid hC
  have HA := Lib.hid hA
  obtain ⟨A, cap, rfl, hcap, -⟩ := hA
  clear hC
  go_enter Tryz.func90, Tryz.ntmps90
  go_wp2
  go_loopw [8] (fun iv wr => IdxAt L.length (fun k => (L.take k).any (badA n)) w wr iv) (fun iv _ => L.length - (intOf iv).toNat)
  case atStart => exact ⟨0, rfl, by omega, Below.refl _ _, rfl⟩
  case round =>
    obtain ⟨k, rfl, hk, hB, hN⟩ := hrel
    have B := Lib.hid hB
    have N := Lib.hid hN
    clear hB hN
    by_cases hlt : k < L.length
    · obtain ⟨A', cap', e, _, hA⟩ := HA.out
      simp only [Value.slice.injEq, true_and] at e
      obtain ⟨rfl, rfl⟩ := e
      obtain ⟨b, o, rfl, hb, hcell⟩ := hA (by omega)
      obtain ⟨c0, c1, c2⟩ := hcell k hlt
      have d0 := (B.out.cell (p := ⟨b, o + k * 3, none⟩) hb).trans c0
      have d1 := (B.out.cell (p := ⟨b, o + k * 3 + 1, none⟩) hb).trans c1
      have d2 := (B.out.cell (p := ⟨b, o + k * 3 + 2, none⟩) hb).trans c2
      have ht := Lib.hid (any_take (badA n) L k hlt)
      have hf := Lib.hid (any_found (badA n) L k hlt)
      clear hA hcell c0 c1 c2
      have HCw := Lib.hid (HC.out.below B.out)
      generalize L[k] = a at *
      have hz := B.out.size
      cases hbad : badA n a with
      | true =>
        have hb2 := Lib.hid hbad
        clear hbad
        go_wp2_with (go_at_call 82; refine (bad n a c d _ HCw.out).mono ?_; rintro e w1 ⟨rfl, b1⟩; rw [hb2.out]; have B1 := Lib.hid b1; clear b1)
        go_ret
        exact ⟨k, rfl, by rw [hf.out hb2.out]; simp, B.out.trans (B1.out.mono hz)⟩
      | false =>
        have hb2 := Lib.hid hbad
        clear hbad
        go_wp2_with (go_at_call 82; refine (bad n a c d _ HCw.out).mono ?_; rintro e w1 ⟨rfl, b1⟩; rw [hb2.out]; have B1 := Lib.hid b1; clear b1)
        go_roundw
        case rel => exact ⟨k + 1, by go_num, by omega, B.out.trans (B1.out.mono hz), by simp only []; rw [ht.out, N.out, hb2.out]; rfl⟩
        case measure => simp [intOf]; omega
    · obtain rfl : L.length = k := by omega
      go_wp2
      go_ret
      have h := N.out
      rw [List.take_length] at h
      exact ⟨-1, rfl, by rw [h]; rfl, B.out⟩

set_option maxHeartbeats 1000000 in
theorem containsBad (n : Int) (c d : Nat) (v : Value) (L : List Arc) (w : World) (hA : ArcsAt w v L) (hl : L.length ≤ 1000000) (hC : ClosAt n w c d) :
    Calls Tryz.prog 81 #[v, .func (.func 82) #[] #[.pointer (some ⟨c, 0, none⟩)]] w fun e w' => e = .returned (.bool (L.any (badA n))) ∧ Below w.heap.size w w' := by
  have I := indexBad n c d v L w hA hl hC
  clear hA hl hC
  go_enter Tryz.func81, Tryz.ntmps81
  go_wp2_with (go_at_call 90; refine I.mono ?_; rintro e w1 ⟨i, rfl, hi, b1⟩; have HI := Lib.hid hi; have B1 := Lib.hid b1; clear hi b1)
  go_ret
  exact ⟨ret_bool HI.out, B1.out⟩

set_option maxHeartbeats 1000000 in
theorem mayBe (n : Int) (v : Value) (L : List Arc) (w : World) (hA : ArcsAt w v L) :
    Calls Tryz.prog 69 #[.int .i64 n, v] w fun e w' => e = .returned (.bool (mayB n L)) ∧ Below w.heap.size w w' := by
  have HA := Lib.hid hA
  obtain ⟨A, cap, rfl, hcap, -⟩ := hA
  by_cases h : 0 ≤ n ∧ n ≤ 4096 ∧ L.length ≤ 16384
  · obtain ⟨h1, h2, h3⟩ := h
    have e : mayB n L = !L.any (badA n) := by
      unfold mayB
      have a1 : decide (n < 0) = false := by simpa using h1
      have a2 : decide (4096 < n) = false := by simpa using h2
      have a3 : decide (16384 < L.length) = false := by simpa using h3
      rw [a1, a2, a3]
      rfl
    have E := Lib.hid e
    clear e
    go_enter Tryz.func69, Tryz.ntmps69
    go_wp2_with (go_at_call 81; refine (containsBad n (w.heap.size + 1) w.heap.size _ L _ (HA.out.below (((Below.refl _ _).alloc (Nat.le_refl _) _).alloc (by simp) _)) (by omega) ⟨by go_simp, by go_simp, by (simp <;> omega), by (simp <;> omega)⟩).mono ?_; rintro e w1 ⟨rfl, b1⟩; have B1 := Lib.hid b1; clear b1)
    go_ret
    exact ⟨ret_bool E.out.symm, (((Below.refl _ _).alloc (Nat.le_refl _) _).alloc (by simp) _).trans (B1.out.mono (by simp; omega))⟩
  · have e : mayB n L = false := by
      cases e : mayB n L
      · rfl
      · have := (mayB_iff n L).1 e
        exact absurd ⟨this.n0, this.n1, this.len⟩ h
    rw [e]
    clear e
    by_cases h1 : n < 0
    · clear h
      go_enter Tryz.func69, Tryz.ntmps69
      go_wp2
      go_ret
      exact ⟨rfl, (Below.refl _ _).alloc (Nat.le_refl _) _⟩
    · by_cases h2 : 4096 < n
      · clear h
        go_enter Tryz.func69, Tryz.ntmps69
        go_wp2
        go_ret
        exact ⟨rfl, (Below.refl _ _).alloc (Nat.le_refl _) _⟩
      · have h3 : 16384 < L.length := by omega
        clear h
        go_enter Tryz.func69, Tryz.ntmps69
        go_wp2
        go_ret
        exact ⟨rfl, (Below.refl _ _).alloc (Nat.le_refl _) _⟩

/-- What a function of one int tells. -/
structure PredAt (fn : Nat) (p : Int → Bool) : Prop where
  eg : ∀ args w, (callFunc fn args).run Tryz.prog w = .ok (.enter fn args) w
  calls : ∀ (W : World) (x : Int), Calls Tryz.prog fn #[.int .i64 x] W fun e W' => e = .returned (.bool (p x)) ∧ W = W'

set_option maxHeartbeats 2000000 in
theorem indexInt {fn : Nat} {p : Int → Bool} (hP : PredAt fn p) (v : Value) (L : List Int) (w : World) (hA : IntsAt w v L) (hl : L.length ≤ 1000000) :
    Calls Tryz.prog 56 #[v, .func (.func fn) #[] #[]] w (Idx (L.any p) w) := by
  have eg := hP.eg
  have HP := Lib.hid hP.calls
  have HA := Lib.hid hA
  obtain ⟨A, cap, rfl, hcap, -⟩ := hA
  clear hP
  go_enter Tryz.func56, Tryz.ntmps56
  go_wp2
  go_loopw [8] (fun iv wr => IdxAt L.length (fun k => (L.take k).any p) w wr iv) (fun iv _ => L.length - (intOf iv).toNat)
  case atStart => exact ⟨0, rfl, by omega, Below.refl _ _, rfl⟩
  case round =>
    obtain ⟨k, rfl, hk, hB, hN⟩ := hrel
    have B := Lib.hid hB
    have N := Lib.hid hN
    clear hB hN
    by_cases hlt : k < L.length
    · obtain ⟨A', cap', e, _, hA⟩ := HA.out
      simp only [Value.slice.injEq, true_and] at e
      obtain ⟨rfl, rfl⟩ := e
      obtain ⟨b, o, rfl, hb, hcell⟩ := hA (by omega)
      have d0 := (B.out.cell (p := ⟨b, o + k, none⟩) hb).trans (hcell k hlt)
      have ht := Lib.hid (any_take p L k hlt)
      have hf := Lib.hid (any_found p L k hlt)
      clear hA hcell
      generalize L[k] = a at *
      cases hbad : p a with
      | true =>
        have hb2 := Lib.hid hbad
        clear hbad
        go_wp2_with (go_at_fn fn; refine (HP.out _ a).mono ?_; rintro e w1 ⟨rfl, rfl⟩; rw [hb2.out])
        go_ret
        exact ⟨k, rfl, by rw [hf.out hb2.out]; simp, B.out⟩
      | false =>
        have hb2 := Lib.hid hbad
        clear hbad
        go_wp2_with (go_at_fn fn; refine (HP.out _ a).mono ?_; rintro e w1 ⟨rfl, rfl⟩; rw [hb2.out])
        go_roundw
        case rel => exact ⟨k + 1, by go_num, by omega, B.out, by simp only []; rw [ht.out, N.out, hb2.out]; rfl⟩
        case measure => simp [intOf]; omega
    · obtain rfl : L.length = k := by omega
      go_wp2
      go_ret
      have h := N.out
      rw [List.take_length] at h
      exact ⟨-1, rfl, by rw [h]; rfl, B.out⟩

set_option maxHeartbeats 1000000 in
theorem containsInt {fn : Nat} {p : Int → Bool} (hP : PredAt fn p) (v : Value) (L : List Int) (w : World) (hA : IntsAt w v L) (hl : L.length ≤ 1000000) :
    Calls Tryz.prog 40 #[v, .func (.func fn) #[] #[]] w fun e w' => e = .returned (.bool (L.any p)) ∧ Below w.heap.size w w' := by
  have I := indexInt hP v L w hA hl
  clear hA hl hP
  go_enter Tryz.func40, Tryz.ntmps40
  go_wp2_with (go_at_call 56; refine I.mono ?_; rintro e w1 ⟨i, rfl, hi, b1⟩; have HI := Lib.hid hi; have B1 := Lib.hid b1; clear hi b1)
  go_ret
  exact ⟨ret_bool HI.out, B1.out⟩

theorem farAt : PredAt 55 far := by
  refine ⟨enters_of Tryz.func55 (by kernel_rfl) rfl, fun W x => ?_⟩
  go_enter Tryz.func55, Tryz.ntmps55
  go_wp2
  all_goals
    go_ret
    refine ⟨ret_bool ?_, rfl⟩
    rw [Bool.eq_iff_iff]
    simp [far]
    try omega
set_option maxHeartbeats 1000000 in
theorem areCoordinates (n : Int) (v : Value) (x : List Int) (w : World) (hA : IntsAt w v x) (hn : n ≤ 1000000) :
    Calls Tryz.prog 39 #[.int .i64 n, v] w fun e w' => e = .returned (.bool (coordB n x)) ∧ Below w.heap.size w w' := by
  by_cases h : (x.length : Int) = n
  · have I := containsInt farAt v x w hA (by omega)
    have e : coordB n x = !x.any far := by unfold coordB; simp [h]
    have E := Lib.hid e
    have hb : ((x.length : Int) == n) = true := by simpa using h
    obtain ⟨A, cap, rfl, hcap, -⟩ := hA
    clear e h
    go_enter Tryz.func39, Tryz.ntmps39
    go_wp2_with (go_at_call 40; refine I.mono ?_; rintro e w1 ⟨rfl, b1⟩; have B1 := Lib.hid b1; clear b1)
    go_ret
    exact ⟨ret_bool E.out.symm, B1.out⟩
  · have e : coordB n x = false := by unfold coordB; simp [h]
    rw [e]
    have hb : ((x.length : Int) == n) = false := by simpa using h
    obtain ⟨A, cap, rfl, hcap, -⟩ := hA
    clear e h
    go_enter Tryz.func39, Tryz.ntmps39
    go_wp2
    go_ret
    exact ⟨rfl, Below.refl _ _⟩
end Go.Proofs.YtappfojjjegnpaaGreatDoor

namespace Go.Proofs.YtappfojjjegnpaaGreatDoor
open Go.RowKit Go.Proofs.YtappfojjjegnpaaGreatDoor.DagM Go.Proofs.YtappfojjjegnpaaGreatDoor.HeapM

abbrev castL (L : List Nat) : List Int := L.map fun (x : Nat) => (x : Int)
/-- Loop 1: the nodes below k that nothing leads to are pushed. -/
def Lf1 (w0 : World) (B g m N : Nat) (V : Nat → Value) (E : EndL) (wr : World) (iv : Value) : Prop :=
  ∃ (k : Nat) (hv : Value), iv = .int .i64 k ∧ k ≤ N ∧ LfAt w0 wr B g m N V (outs E) (miss E []) B hv (castL ((List.range k).filter fun v => miss E [] v == 0)) ((List.range k).filter fun v => miss E [] v == 0).length (.slice none 0 0) []
/-- What is known when v was popped, or nothing. -/
def Nxt (E : EndL) (N : Nat) (P L : List Nat) (vv okv : Value) : Prop :=
  (okv = .bool false ∧ nextOf E N P = none) ∨ ∃ v, v < N ∧ okv = .bool true ∧ vv = .int .i64 (v : Int) ∧ nextOf E N P = some v ∧ Rdy N (P ++ [v]) (fun w => miss E (P ++ [v]) w + (outs E v).count w) L
def Lf2 (w0 : World) (B g m N : Nat) (V : Nat → Value) (E : EndL) (wr : World) (ov vv okv : Value) : Prop :=
  ∃ (P L : List Nat) (hv : Value) (c : Int), LfAt w0 wr B g m N V (outs E) (miss E P) B hv (castL L) c ov P ∧ Gr E N P ∧ c ≤ (P.length : Int) + 1 + L.length ∧ Nxt E N P L vv okv
def left (N : Nat) (ov : Value) : Nat := match ov with | .slice _ n _ => N - n | _ => 0
def Lf3 (w0 : World) (B g m N : Nat) (V : Nat → Value) (E : EndL) (P : List Nat) (v : Nat) (ov : Value) (wr : World) (iv : Value) : Prop :=
  ∃ (k : Nat) (L : List Nat) (hv : Value) (c : Int), iv = .int .i64 k ∧ k ≤ (outs E v).length ∧ LfAt w0 wr B g m N V (outs E) (fun w => miss E (P ++ [v]) w + ((outs E v).drop k).count w) B hv (castL L) c ov (P ++ [v]) ∧ c ≤ (P.length : Int) + 1 + L.length ∧ Rdy N (P ++ [v]) (fun w => miss E (P ++ [v]) w + ((outs E v).drop k).count w) L
def Least (N : Nat) (E : EndL) (w : World) (e : Ending) (w' : World) : Prop := ∃ v, e = .returned v ∧ OwnN w' w.heap.size v (topo E N) ∧ Below w.heap.size w w'

theorem rdy_len {N : Nat} {E : EndL} {P L : List Nat} {f : Nat → Nat} (hG : Gr E N P) (h : Rdy N P f L) : P.length + L.length ≤ N := by
  have := pigeon (n := N) (P := P ++ L) (List.nodup_append.2 ⟨gr_nodup hG, h.nd, fun x hx y hy e => ((h.iff y).1 hy).2.1 (e ▸ hx)⟩) (fun v hv => by
    rcases List.mem_append.1 hv with hv | hv
    · exact gr_lt hG v hv
    · exact ((h.iff v).1 hv).1)
  simpa using this
theorem filter_snoc (p : Nat → Bool) (k : Nat) : (List.range (k + 1)).filter p = if p k then (List.range k).filter p ++ [k] else (List.range k).filter p := by
  rw [List.range_succ, List.filter_append]
  by_cases h : p k <;> simp [h]

theorem OwnN.base {w : World} {B B' : Nat} {v : Value} {l : List Nat} (h : OwnN w B v l) (hb : B' ≤ B) : OwnN w B' v l := by
  refine ⟨h.1, ?_⟩
  rcases h.2 with h2 | ⟨g, cap, cur, hv, hg, r⟩
  · exact Or.inl h2
  · exact Or.inr ⟨g, cap, cur, hv, Nat.le_trans hb hg, r⟩
theorem gr_snoc_not {E : EndL} {N v : Nat} {P : List Nat} (h : Gr E N (P ++ [v])) : v ∉ P := fun hv => (List.nodup_append.1 (gr_nodup h)).2.2 v hv v (by simp) rfl
theorem newsN (w : World) (t : TypeId) (x : Nat) : ∀ j z, [encNat x][j]? = some z → (w.alloc (.cells #[.int .i64 (x : Int)] t)).cell? ((⟨w.heap.size, 0, none⟩ : Addr).add j) = some z := by
  intro j z hz
  have hj : j = 0 := by have := List.getElem?_eq_some_iff.1 hz; simp at this; omega
  subst hj
  simp at hz
  subst hz
  go_simp
  rfl
theorem oneN (x : Nat) : ∀ z ∈ [encNat x], z.oneCell' = true := by
  intro z hz
  simp [encNat] at hz
  subst hz
  rfl
/-- What the pop behind an order leaves. -/
def PopTo (w0 : World) (B g m N : Nat) (V : Nat → Value) (E : EndL) (P : List Nat) (ov : Value) (w : World) (e : Ending) (w' : World) : Prop :=
  ∃ (vv okv : Value) (L : List Nat) (hv : Value) (c : Int), e = .returned (.tuple #[vv, okv]) ∧ w.heap.size ≤ w'.heap.size ∧ LfAt w0 w' B g m N V (outs E) (miss E P) B hv (castL L) c ov P ∧ c ≤ (P.length : Int) + 1 + L.length ∧ Nxt E N P L vv okv ∧
    (okv = .bool false ∨ ∃ v : Nat, vv = .int .i64 (v : Int) ∧ okv = .bool true)
theorem popTo {w0 w : World} {B g m N : Nat} {V : Nat → Value} {E : EndL} {P L : List Nat} {hv ov : Value} {c : Int} (h : LfAt w0 w B g m N V (outs E) (miss E P) B hv (castL L) c ov P) (hG : Gr E N P) (hc : c ≤ (P.length : Int) + L.length) (hR : Rdy N P (miss E P) L) (hN : N ≤ 4096) :
    Calls Tryz.prog 87 #[.pointer (some ⟨B, 0, none⟩)] w (PopTo w0 B g m N V E P ov w) := by
  have hl := rdy_len hG hR
  by_cases h0 : L = []
  · subst h0
    refine (HI.pop_none (lt := ltI) (fn := 85) B hv c w h.heap).mono ?_
    rintro e w' ⟨rfl, hb⟩
    exact ⟨_, _, [], hv, c, rfl, hb.size, h.quiet hb, by simp at hc; simp; omega, Or.inl ⟨rfl, rdy_none hR⟩, Or.inl rfl⟩
  · have hpos : 0 < (castL L).length := by simp; exact List.length_pos_iff.2 h0
    obtain ⟨a, ha⟩ := h.heap.first lessI hpos
    obtain ⟨ha', hmin, hx⟩ := first_min ha
    refine (HI.pop_some lessI B hv (castL L) c w h.heap (by omega) a ha _ hx).mono ?_
    rintro e w' ⟨rfl, v4, i4, o4, f4⟩
    rw [map_erase] at i4
    have hlt := ((hR.iff L[a]).1 (List.getElem_mem ha')).1
    have hle : (L.eraseIdx a).length + 1 = L.length := by rw [List.length_eraseIdx_of_lt ha']; omega
    exact ⟨_, _, L.eraseIdx a, v4, c, rfl, o4.size, h.push i4 o4 f4, by omega, Or.inr ⟨L[a], hlt, rfl, rfl, rdy_next hR ha' hmin, rdy_pop hR ha'⟩, Or.inr ⟨L[a], rfl, rfl⟩⟩

set_option maxHeartbeats 8000000 in
set_option maxRecDepth 100000 in
theorem leastFirst (N : Nat) (v : Value) (L : List Arc) (w : World) (hA : ArcsAt w v L) (hM : May N L) :
    Calls Tryz.prog 70 #[.int .i64 N, v] w (Least N (ends L) w) := by
  have hN : N ≤ 4096 := by have := hM.n1; omega
  have hEl : (ends L).length ≤ 16384 := by have := hM.len; unfold ends; simpa using this
  have LK := Lib.hid (links N v L w hA hM)
  obtain ⟨A, cap, rfl, hcap, -⟩ := hA
  obtain ⟨i0, hi, hz0, hz1, hz2⟩ := info_parts infoI
  have hE : ∀ e ∈ ends L, e.1 < N ∧ e.2 < N := by
    intro e he
    obtain ⟨a, ha, rfl⟩ := List.mem_map.1 he
    have := hM.ok a ha
    simp only
    omega
  have HE := Lib.hid hE
  have HMK := Lib.hid (mkRoom N hN)
  clear hM hE
  generalize hEe : ends L = E at *
  have HEE := Lib.hid hEe
  clear hEe
  go_enter Tryz.func70, Tryz.ntmps70
  go_wp2_with (first
    | (go_at_call 83; refine LK.out.mono ?_; rintro e w1 ⟨g, m, V, rfl, hL⟩; rw [HEE.out] at hL; have K := Lib.hid hL; have hgl := hL.gl; have hml := hL.ml; have hbs := hL.below.size; clear hL)
    | (go_at_call 84; refine (HI.new (fn := 85) (lt := ltI) _).mono ?_; rintro e w2 ⟨rfl, j1, b1⟩; have I1 : Hid (LfAt w w2 w1.heap.size g m N V (outs E) (miss E []) w1.heap.size (.slice none 0 0) [] 0 (.slice none 0 0) []) := Lib.hid ⟨K.out.quiet b1, j1, World.ownsRow_nil _ _ _ _, K.out.below.size, b1.size, Nat.le_refl _, (fun b hb => by simp [Value.ownBlock] at hb), hgl, hml, fun v hv b hb => ((K.out.rows v hv).lt b hb).2⟩; clear j1 b1))
  go_loopw [24] (fun iv wr => Lf1 w w1.heap.size g m N V E wr iv) (fun iv _ => N - (intOf iv).toNat)
  case atStart => exact ⟨0, _, rfl, by omega, I1.out⟩
  case round =>
    clear I1
    obtain ⟨k, hv, rfl, hk, hI⟩ := hrel
    have I := Lib.hid hI
    clear hI K
    by_cases hlt : k < N
    · have g0 := I.out.lk.cellM hlt
      have hq : miss E [] k ≤ 16384 := by have := miss_le (E := E) (P := []) k; omega
      have HF := Lib.hid (filter_snoc (fun v => miss E [] v == 0) k)
      have hfl : ((List.range k).filter fun v => miss E [] v == 0).length ≤ k := by have := List.length_filter_le (fun v => miss E [] v == 0) (List.range k); simpa using this
      generalize hqv : miss E [] k = q at *
      have HQ := Lib.hid hqv
      clear hqv
      cases q with
      | zero =>
        go_wp2_with (go_at_call 86; refine (HI.push lessI _ _ _ _ (k : Int) _ I.out.heap (by omega)).mono ?_; rintro e w3 ⟨rfl, v3, i3, o3, f3⟩; have I3 := Lib.hid (I.out.push i3 o3 f3); clear i3 o3 f3)
        go_roundw
        case rel =>
          refine ⟨k + 1, v3, by go_num, by omega, ?_⟩
          have h := I3.out
          have e1 := HF.out
          simp only [beq_self_eq_true, if_true] at e1
          rw [e1]
          simpa [castL] using h
        case measure => simp [intOf]; omega
      | succ q =>
        have hb : (((q + 1 : Nat) : Int) == 0) = false := by simp; omega
        go_wp2
        go_roundw
        case rel =>
          refine ⟨k + 1, hv, by go_num, by omega, ?_⟩
          have e1 := HF.out
          simp only [Nat.add_eq_zero_iff, Nat.succ_ne_self, and_false, beq_iff_eq] at e1
          rw [e1]
          simpa using I.out
        case measure => simp [intOf]; omega
    · obtain hkN : N = k := by omega
      subst hkN
      have R0 := Lib.hid (rdy_first (n := N) (miss E []))
      have hfl : ((List.range N).filter fun v => miss E [] v == 0).length ≤ N := by have := List.length_filter_le (fun v => miss E [] v == 0) (List.range N); simpa using this
      clear hlt hk
      generalize hG0 : (List.range N).filter (fun v => miss E [] v == 0) = L0 at *
      clear hG0
      have hmk := HMK.out
      have B0 : w1.heap.size ≤ wr.heap.size := I.out.Bw
      go_wp2_with (go_at_call 87; refine (popTo (I.out.app (World.grownBy_alloc _ _ _) (OwnN.room wr _ N B0 hN)) gr_nil (by simp) R0.out hN).mono ?_; rintro e w5 ⟨vv, okv, L2, hv2, c2, rfl, hsz, hI5, hc5, hN5, hok⟩; have I5 := Lib.hid hI5; have C5 := Lib.hid hc5; have N5 := Lib.hid hN5; clear hI5 hc5 hN5 hsz hok)
      clear hmk
      go_loopw [10, 11, 12] (fun ov vv okv wr => Lf2 w w1.heap.size g m N V E wr ov vv okv) (fun ov _ _ _ => left N ov)
      case atStart => exact ⟨[], L2, hv2, c2, I5.out, gr_nil, C5.out, N5.out⟩
      case round =>
        clear I5 C5 N5 R0 I HMK
        obtain ⟨P, L3, hv3, c3, hI, hG, hc, hN3⟩ := hrel
        have hPl := gr_len hG
        have hIB := hI.Bw
        rcases hN3 with ⟨rfl, hn⟩ | ⟨v, hv', rfl, rfl, hnx, hR⟩
        · have I := Lib.hid hI
          have T := Lib.hid (topo_uniq hG hn)
          clear hI hG hc hn
          go_wp2
          go_ret
          refine ⟨_, rfl, ?_, I.out.lk.below⟩
          rw [← T.out]
          exact OwnN.base I.out.ord I.out.wB
        · have I := Lib.hid hI
          have G := Lib.hid (gr_snoc hG hnx)
          have hPN : P.length < N := by
            rcases Nat.lt_or_ge P.length N with h | h
            · exact h
            · have := gr_full hG (by omega)
              rw [this] at hnx
              cases hnx
          have R := Lib.hid hR
          obtain ⟨ao, cp, hVv⟩ := hI.rowAt hv'
          have HV := Lib.hid hVv
          obtain ⟨aoo, cpo, hou⟩ : ∃ aoo cpo, u10 = .slice aoo P.length cpo := by
            rcases hI.ord.2 with ⟨h1, h2⟩ | ⟨_, _, _, h, _⟩
            · exact ⟨none, 0, by rw [h2]; exact h1⟩
            · exact ⟨_, _, h⟩
          subst hou
          have C := Lib.hid hc
          have hov : (outs E v).length ≤ 16384 := by have := outs_len E v; omega
          clear hI hG hc hnx hR hVv
          go_wp2_with (at_builtin; refine wpList_append_fresh rfl (.tmp 48) (.tmp 50) 22 rfl w1.heap.size 3 i0 (.int .i64 0) 1 8 Tryz.underlying22 hi hz0 hz1 hz2 rfl (by decide) _ _ _ rfl (I.out.ord.alloc _) ⟨wr.heap.size, 0, none⟩ 1 1 [encNat v] rfl rfl (newsN _ _ _) (oneN _) (by unfold maxLen; omega) (by omega) (by simp; omega) ?_; intro v4 w4 hown hgrow hfr; have I4 := Lib.hid ((I.out.quiet ((Below.refl _ _).alloc (Nat.le_refl _) _)).app hgrow (OwnN.snoc hown)); obtain ⟨g4, c4, rfl, _, _, _⟩ := ownsRow_form hown (by omega); have q4 : w4.cell? ⟨g, v, none⟩ = some (.slice ao (outs E v).length cp) := (by rw [← HV.out]; exact I4.out.lk.cellG hv'); clear hown hgrow hfr)
          obtain ⟨wb, rfl⟩ : ∃ W, W = wr := ⟨_, rfl⟩
          go_loopw [57] (fun iv wr => Lf3 w w1.heap.size g m N V E P v (.slice (some ⟨g4, 0, none⟩) (P.length + 1) c4) wr iv) (fun iv _ => (outs E v).length - (intOf iv).toNat)
          case atStart =>
            have e1 : (fun x => miss E P x) = fun x => miss E (P ++ [v]) x + ((outs E v).drop 0).count x := by
              funext x
              exact miss_snoc (gr_snoc_not G.out) x
            refine ⟨0, L3, hv3, c3, rfl, by omega, ?_, C.out, by simpa using R.out⟩
            have h := I4.out
            rw [show miss E P = fun x => miss E (P ++ [v]) x + ((outs E v).drop 0).count x from e1] at h
            exact h
          case round =>
            clear I4 C R I q4
            obtain ⟨j, L5, hv5, c5, rfl, hj, hI, hc, hR⟩ := hrel
            have hIB := hI.Bw
            have I := Lib.hid hI
            have C := Lib.hid hc
            have R := Lib.hid hR
            have hLn := rdy_len G.out hR
            simp only [List.length_append, List.length_singleton] at hLn
            have hc5 : c5 ≤ 4096 := by omega
            clear hI hc hR
            by_cases hlt : j < (outs E v).length
            · have hown := I.out.lk.rows v hv'
              rw [HV.out] at hown
              obtain ⟨gv, cv, hu, _, hgv, _⟩ := ownsRow_form hown (by omega)
              simp only [Value.slice.injEq, true_and] at hu
              obtain ⟨rfl, rfl⟩ := hu
              have d0 := hown.cell rfl j hlt
              have hin := outs_mem (List.getElem_mem hlt)
              have ht := (HE.out _ hin).2
              have hno := gr_fresh G.out hin
              have ST := Lib.hid (rdy_step hlt ht hno R.out)
              have hcnt : ((outs E v).drop j).count (outs E v)[j] = ((outs E v).drop (j + 1)).count (outs E v)[j] + 1 := by
                rw [List.drop_eq_getElem_cons hlt, List.count_cons]
                simp
              have hcn : ∀ x, x ≠ (outs E v)[j] → ((outs E v).drop j).count x = ((outs E v).drop (j + 1)).count x := by
                intro x hx
                rw [List.drop_eq_getElem_cons hlt, List.count_cons]
                simp [Ne.symm hx]
              have CN := Lib.hid hcn
              have d1 := I.out.lk.cellM ht
              simp only [hcnt] at d1
              have d2 := I.out.lk.frM (outs E v)[j]
              have hb1 := miss_le (E := E) (P := P ++ [v]) (outs E v)[j]
              have hb2 : ((outs E v).drop (j + 1)).count (outs E v)[j] ≤ (outs E v).length := Nat.le_trans List.count_le_length (by simp)
              have CN2 := Lib.hid hcnt
              clear hown hin hno hcnt hcn
              generalize (outs E v)[j] = t at *
              obtain ⟨q, hq⟩ : ∃ q, q = miss E (P ++ [v]) t + ((outs E v).drop (j + 1)).count t := ⟨_, rfl⟩
              obtain ⟨z, hz⟩ : ∃ z : Int, z = ((miss E (P ++ [v]) t + (((outs E v).drop (j + 1)).count t + 1) : Nat) : Int) := ⟨_, rfl⟩
              have hzq : z - 1 = (q : Int) := by omega
              rw [← hz] at d1
              have z1 : 1 ≤ z := by omega
              have z2 : z ≤ 40000 := by omega
              have I6 : Hid (LfAt w (wr.setCell ⟨m, t, none⟩ (.int .i64 (z - 1))) w1.heap.size g m N V (outs E) (fun x => miss E (P ++ [v]) x + ((outs E v).drop (j + 1)).count x) w1.heap.size hv5 (castL L5) c5 (.slice (some ⟨g4, 0, none⟩) (P.length + 1) c4) (P ++ [v])) := by
                have h := I.out.dec t q
                have e : (fun x => if x = t then q else miss E (P ++ [v]) x + ((outs E v).drop j).count x) = fun x => miss E (P ++ [v]) x + ((outs E v).drop (j + 1)).count x := by
                  funext x
                  by_cases hx : x = t
                  · subst hx; simp [hq]
                  · simp only [if_neg hx, CN.out x hx]
                rw [e, encNat, ← hzq] at h
                exact Lib.hid h
              have Q := Lib.hid hq
              clear hq hz
              have HZ := Lib.hid hzq
              by_cases h0 : q = 0
              · have hbz : (z - 1 == 0) = true := by simp; omega
                clear hzq
                have H0 := Lib.hid h0
                clear h0
                go_wp2_with (go_at_call 86; refine (HI.push lessI _ _ _ _ (t : Int) _ I6.out.heap (by omega)).mono ?_; rintro e w7 ⟨rfl, v7, i7, o7, f7⟩; have I7 := Lib.hid (I6.out.push i7 o7 f7); clear i7 o7 f7)
                go_roundw
                case rel =>
                  have s := ST.out
                  rw [if_pos (by rw [← Q.out]; exact H0.out)] at s
                  have h := I7.out
                  refine ⟨j + 1, L5 ++ [t], v7, c5 + 1, by go_num, by omega, ?_, by have := C.out; simp; omega, s⟩
                  simpa [castL] using h
                case measure => simp [intOf]; omega
              · have hbz : (z - 1 == 0) = false := by simp; omega
                clear hzq
                have H0 := Lib.hid h0
                clear h0
                go_wp2
                go_roundw
                case rel =>
                  have s := ST.out
                  rw [if_neg (by rw [← Q.out]; exact H0.out)] at s
                  exact ⟨j + 1, L5, hv5, c5, by go_num, by omega, I6.out, C.out, s⟩
                case measure => simp [intOf]; omega
            · have hjl : j = (outs E v).length := by omega
              subst hjl
              have e1 : (fun x => miss E (P ++ [v]) x + ((outs E v).drop (outs E v).length).count x) = miss E (P ++ [v]) := by
                funext x; simp
              have I6 := I.out
              have R6 := R.out
              rw [e1] at I6 R6
              have J6 := Lib.hid I6
              have S6 := Lib.hid R6
              clear I6 R6 e1 hlt hj
              go_wp2_with (go_at_call 87; refine (popTo J6.out G.out (by have := C.out; simp; omega) S6.out hN).mono ?_; rintro e w7 ⟨vv, okv, L7, hv7, c7, rfl, hsz, hI7, hc7, hN7, hok⟩; have I7 := Lib.hid hI7; have C7 := Lib.hid hc7; have N7 := Lib.hid hN7; clear hI7 hc7 hN7 hsz hok)
              go_roundw
              case rel => exact ⟨P ++ [v], L7, hv7, c7, I7.out, G.out, C7.out, N7.out⟩
              case measure => simp [left]; omega
end Go.Proofs.YtappfojjjegnpaaGreatDoor

namespace Go.Proofs.YtappfojjjegnpaaGreatDoor
open Go.RowKit Go.Proofs.YtappfojjjegnpaaGreatDoor.DagM

def Ordered (n : Int) (L : List Arc) (w : World) (e : Ending) (w' : World) : Prop := ∃ v, e = .returned (.tuple #[v, .int .i64 (ordErr n L)]) ∧ OwnN w' w.heap.size v (ordRes n L) ∧ Below w.heap.size w w'
theorem OwnN.form {w : World} {B : Nat} {v : Value} {l : List Nat} (h : OwnN w B v l) : ∃ ao cap, v = .slice ao l.length cap := by
  rcases h.2 with ⟨h1, h2⟩ | ⟨_, _, _, h, _⟩
  · exact ⟨none, 0, by rw [h2]; exact h1⟩
  · exact ⟨_, _, h⟩

set_option maxHeartbeats 1000000 in
theorem order (n : Int) (v : Value) (L : List Arc) (w : World) (hA : ArcsAt w v L) :
    Calls Tryz.prog 54 #[.int .i64 n, v] w (Ordered n L w) := by
  have HA := Lib.hid hA
  cases hm : mayB n L with
  | false =>
    have e1 : ordErr n L = 2 := by unfold ordErr; rw [hm]; rfl
    have e2 : ordRes n L = [] := by unfold ordRes; rw [hm]; rfl
    have HM := Lib.hid hm
    have E1 := Lib.hid e1
    have E2 := Lib.hid e2
    clear hm e1 e2 hA
    go_enter Tryz.func54, Tryz.ntmps54
    go_wp2_with (go_at_call 69; refine (mayBe n v L _ HA.out).mono ?_; rintro e w1 ⟨rfl, b1⟩; rw [HM.out]; have B1 := Lib.hid b1; clear b1)
    go_ret2
    refine ⟨.slice none 0 0, by rw [E1.out]; rfl, ?_, B1.out⟩
    rw [E2.out]
    exact World.ownsRow_nil _ _ _ _
  | true =>
    have hM := (mayB_iff n L).1 hm
    obtain ⟨N, rfl⟩ : ∃ N : Nat, n = (N : Int) := ⟨n.toNat, by have := hM.n0; omega⟩
    have HM := Lib.hid hm
    have MY := Lib.hid hM
    clear hm hM hA
    go_enter Tryz.func54, Tryz.ntmps54
    by_cases hl : (topo (ends L) N).length < N
    · have E1 : Hid (ordErr N L = 11) := Lib.hid (by rw [ordErr_ok MY.out]; simp [hl])
      have E2 : Hid (ordRes N L = []) := Lib.hid (by unfold ordRes; rw [HM.out]; simp [hl])
      have h1 : decide ((topo (ends L) N).length < N) = true := by simpa using hl
      clear hl
      go_wp2_with (first
        | (go_at_call 69; refine (mayBe N v L _ HA.out).mono ?_; rintro e w1 ⟨rfl, b1⟩; rw [HM.out]; have B1 := Lib.hid b1; clear b1)
        | (go_at_call 70; refine (leastFirst N v L _ (HA.out.below B1.out) MY.out).mono ?_; rintro e w2 ⟨v2, rfl, ho, hb⟩; obtain ⟨ao, cp, rfl⟩ := ho.form; have B2 := Lib.hid hb; clear ho hb))
      go_ret2
      refine ⟨.slice none 0 0, by rw [E1.out]; rfl, ?_, B1.out.trans (B2.out.mono B1.out.size)⟩
      rw [E2.out]
      exact World.ownsRow_nil _ _ _ _
    · have E1 : Hid (ordErr N L = 0) := Lib.hid (by rw [ordErr_ok MY.out]; simp [hl])
      have E2 : Hid (ordRes N L = topo (ends L) N) := Lib.hid (by unfold ordRes; rw [HM.out]; simp [hl])
      have h1 : decide ((topo (ends L) N).length < N) = false := by simpa using hl
      clear hl
      go_wp2_with (first
        | (go_at_call 69; refine (mayBe N v L _ HA.out).mono ?_; rintro e w1 ⟨rfl, b1⟩; rw [HM.out]; have B1 := Lib.hid b1; clear b1)
        | (go_at_call 70; refine (leastFirst N v L _ (HA.out.below B1.out) MY.out).mono ?_; rintro e w2 ⟨v2, rfl, ho, hb⟩; obtain ⟨ao, cp, rfl⟩ := ho.form; have B2 := Lib.hid hb; have O2 := Lib.hid ho; clear ho hb))
      go_ret2
      refine ⟨.slice ao (topo (ends L) N).length cp, by rw [E1.out]; rfl, ?_, B1.out.trans (B2.out.mono B1.out.size)⟩
      rw [E2.out]
      exact OwnN.base O2.out B1.out.size

theorem check (n : Int) (v : Value) (L : List Arc) (w : World) (hA : ArcsAt w v L) :
    Calls Tryz.prog 38 #[.int .i64 n, v] w fun e w' => e = .returned (.int .i64 (ordErr n L)) ∧ Below w.heap.size w w' := by
  have HA := Lib.hid hA
  clear hA
  go_enter Tryz.func38, Tryz.ntmps38
  go_wp2_with (go_at_call 54; refine (order n v L _ HA.out).mono ?_; rintro e w1 ⟨v1, rfl, ho, hb⟩; have B1 := Lib.hid hb; clear ho hb)
  go_ret
  exact ⟨rfl, B1.out⟩

/-- The numbers of an arc's two ends. -/
theorem IntsAt.at_ {w : World} {v : Value} {x : List Int} (h : IntsAt w v x) {i : Nat} (hi : i < x.length) : ∃ b o cap, v = .slice (some ⟨b, o, none⟩) x.length cap ∧ b < w.heap.size ∧ w.cell? ⟨b, o + i, none⟩ = some (.int .i64 (val x i)) := by
  obtain ⟨A, cap, rfl, _, hA⟩ := h
  obtain ⟨b, o, rfl, hb, hc⟩ := hA (by omega)
  refine ⟨b, o, cap, rfl, hb, ?_⟩
  rw [hc i hi]
  simp [val, List.getD_eq_getElem?_getD, hi]
def Cst (x : List Int) (L : List Arc) (w wr : World) (iv cv : Value) : Prop :=
  ∃ k : Nat, iv = .int .i64 k ∧ k ≤ L.length ∧ cv = .int .i64 (costSum x (L.take k)) ∧ 0 ≤ costSum x (L.take k) ∧ costSum x (L.take k) ≤ 2000000000000 * (k : Int) ∧ fitB x (L.take k) = true ∧ Below w.heap.size w wr
def CostOf (n : Int) (L : List Arc) (x : List Int) (w : World) (e : Ending) (w' : World) : Prop := e = .returned (.tuple #[.int .i64 (costVal n L x), .int .i64 (costErr n L x)]) ∧ Below w.heap.size w w'

set_option maxHeartbeats 4000000 in
set_option maxRecDepth 100000 in
theorem cost (n : Int) (v xv : Value) (L : List Arc) (x : List Int) (w : World) (hA : ArcsAt w v L) (hX : IntsAt w xv x) :
    Calls Tryz.prog 26 #[.int .i64 n, v, xv] w (CostOf n L x w) := by
  have HA := Lib.hid hA
  have HX := Lib.hid hX
  have hr := ordErr_range n L
  by_cases h0 : ordErr n L = 0
  · have MY := Lib.hid (ordErr_may h0)
    have hn := MY.out.n1
    have hLl := MY.out.len
    cases hcb : coordB n x with
    | false =>
      have E1 : Hid (costErr n L x = 2) := Lib.hid (by unfold costErr; rw [if_pos h0, hcb]; rfl)
      have E2 : Hid (costVal n L x = 0) := Lib.hid (by unfold costVal; rw [E1.out]; rfl)
      have H0 := Lib.hid h0
      have HC := Lib.hid hcb
      clear h0 hcb hA hX hr
      go_enter Tryz.func26, Tryz.ntmps26
      go_wp2_with (first
        | (go_at_call 38; refine (check n v L _ HA.out).mono ?_; rintro e w1 ⟨rfl, b1⟩; rw [H0.out]; have B1 := Lib.hid b1; clear b1)
        | (go_at_call 39; refine (areCoordinates n xv x _ (HX.out.below B1.out) (by omega)).mono ?_; rintro e w2 ⟨rfl, b2⟩; rw [HC.out]; have B2 := Lib.hid b2; clear b2))
      go_ret2
      exact ⟨by rw [E1.out, E2.out]; rfl, B1.out.trans (B2.out.mono B1.out.size)⟩
    | true =>
      have NR := Lib.hid (fun i h1 h2 => val_near hcb i h1 h2)
      have H0 := Lib.hid h0
      have HC := Lib.hid hcb
      have EQ : Hid (costErr n L x = if fitB x L then 0 else 15) := Lib.hid (by unfold costErr; rw [if_pos h0, hcb]; rfl)
      clear h0 hcb hr
      obtain ⟨A, cap, rfl, hcap, -⟩ := hA
      go_enter Tryz.func26, Tryz.ntmps26
      go_wp2_with (first
        | (go_at_call 38; refine (check n _ L _ HA.out).mono ?_; rintro e w1 ⟨rfl, b1⟩; rw [H0.out]; have B1 := Lib.hid b1; clear b1)
        | (go_at_call 39; refine (areCoordinates n xv x _ (HX.out.below B1.out) (by omega)).mono ?_; rintro e w2 ⟨rfl, b2⟩; rw [HC.out]; have B2 := Lib.hid (B1.out.trans (b2.mono B1.out.size)); clear b2))
      go_loopw [25, 9] (fun iv cv wr => Cst x L w wr iv cv) (fun iv _ _ => L.length - (intOf iv).toNat)
      case atStart => exact ⟨0, rfl, by omega, rfl, Int.le_refl _, by simp [costSum], rfl, B2.out⟩
      case round =>
        clear B1 B2
        obtain ⟨k, rfl, hk, rfl, hc0, hc1, hF, hB⟩ := hrel
        have B := Lib.hid hB
        have FT := Lib.hid hF
        clear hB hF
        by_cases hlt : k < L.length
        · obtain ⟨A', cap', e, _, hA⟩ := HA.out
          simp only [Value.slice.injEq, true_and] at e
          obtain ⟨rfl, rfl⟩ := e
          obtain ⟨b, o, rfl, hb, hcell⟩ := hA (by omega)
          obtain ⟨c0, c1, c2⟩ := hcell k hlt
          have d0 := (B.out.cell (p := ⟨b, o + k * 3, none⟩) hb).trans c0
          have d1 := (B.out.cell (p := ⟨b, o + k * 3 + 1, none⟩) hb).trans c1
          have d2 := (B.out.cell (p := ⟨b, o + k * 3 + 2, none⟩) hb).trans c2
          have ok := MY.out.ok L[k] (List.getElem_mem hlt)
          have hsn := costSum_snoc x L k hlt
          have hfs := fit_snoc x L k hlt
          have hfn := fit_not x L k hlt
          clear hA hcell c0 c1 c2
          generalize L[k] = a at *
          obtain ⟨f, t, z⟩ := a
          obtain ⟨f, rfl⟩ : ∃ u : Nat, f = (u : Int) := ⟨f.toNat, by simp only at ok; omega⟩
          obtain ⟨t, rfl⟩ : ∃ u : Nat, t = (u : Int) := ⟨t.toNat, by simp only at ok; omega⟩
          simp only at ok d0 d1 d2
          obtain ⟨ok0, ok1, ok2, ok3, ok4, ok5⟩ := ok
          obtain ⟨n1, n2, n3⟩ := NR.out f ok0 ok1
          obtain ⟨n4, n5, n6⟩ := NR.out t ok2 ok3
          simp only [Int.toNat_natCast] at n3 n6
          obtain ⟨bx, ox, cx, rfl, hbx, x0⟩ := HX.out.at_ n3
          obtain ⟨bx', ox', cx', e, _, x1⟩ := HX.out.at_ n6
          simp only [Value.slice.injEq, Option.some.injEq, Addr.mk.injEq, and_true, true_and] at e
          obtain ⟨⟨rfl, rfl⟩, rfl⟩ := e
          have y0 := (B.out.cell (p := ⟨bx, ox + f, none⟩) hbx).trans x0
          have y1 := (B.out.cell (p := ⟨bx, ox + t, none⟩) hbx).trans x1
          clear x0 x1
          have hbz := B.out.size
          have hbx2 := Nat.lt_of_lt_of_le hbx hbz
          simp only [fitA, costA] at hsn hfs hfn
          generalize val x f = p at *
          generalize val x t = q at *
          have HS := Lib.hid hsn
          have HFS := Lib.hid hfs
          have HFN := Lib.hid hfn
          clear hsn hfs hfn
          have hw1 : IntKind.i64.wrap (q - p) = q - p := IntWalk.i64_in _ (by omega)
          by_cases hpq : p < q
          · obtain ⟨m0, m1⟩ := mul_near ok4 ok5 (d := q - p) (by omega) (by omega)
            have hle : decide (q - p ≤ 0) = false := by simp; omega
            go_wp2
            go_quiet (fail)
            all_goals
              clear hw1
              go_wp2
              go_roundw
              case rel => exact ⟨k + 1, by go_num, by omega, by rw [HS.out], by rw [HS.out]; omega, by rw [HS.out]; push_cast; omega, by rw [HFS.out, FT.out]; simp; omega, B.out.trans ((belowN ((Below.refl _ _).alloc (Nat.le_refl _) _) _).mono hbz)⟩
              case measure => simp [intOf]; omega
          · have hle : decide (q - p ≤ 0) = true := by simp; omega
            have E1 : Hid (costErr n L x = 15) := Lib.hid (by rw [EQ.out, HFN.out (by simpa using hpq)]; rfl)
            have E2 : Hid (costVal n L x = 0) := Lib.hid (by unfold costVal; rw [E1.out]; rfl)
            go_wp2
            go_quiet (fail)
            all_goals
              clear hw1
              go_wp2
              go_ret2
              exact ⟨by rw [E1.out, E2.out]; rfl, B.out.trans ((belowN ((Below.refl _ _).alloc (Nat.le_refl _) _) _).mono hbz)⟩
        · obtain rfl : k = L.length := by omega
          have h := FT.out
          rw [List.take_length] at h
          have E1 : Hid (costErr n L x = 0) := Lib.hid (by rw [EQ.out, h]; rfl)
          have E2 : Hid (costVal n L x = costSum x L) := Lib.hid (by unfold costVal; rw [E1.out]; rfl)
          clear h hlt
          go_wp2
          go_ret2
          exact ⟨by rw [E1.out, E2.out, List.take_length]; rfl, B.out⟩
  · have E1 : Hid (costErr n L x = ordErr n L) := Lib.hid (by unfold costErr; rw [if_neg h0])
    have E2 : Hid (costVal n L x = 0) := Lib.hid (by unfold costVal; rw [E1.out, if_neg h0])
    have hb : (ordErr n L == 0) = false := by simpa using h0
    have hb2 : (ordErr n L != 0) = true := by simpa using h0
    clear hA hX h0
    go_enter Tryz.func26, Tryz.ntmps26
    go_wp2_with (go_at_call 38; refine (check n _ L _ HA.out).mono ?_; rintro e w1 ⟨rfl, b1⟩; have B1 := Lib.hid b1; clear b1)
    go_ret2
    exact ⟨by rw [E1.out, E2.out]; rfl, B1.out⟩
end Go.Proofs.YtappfojjjegnpaaGreatDoor
