/-
  The library's Grow of nothing, Concat of two lists of ints. Conditions: the bounds of a row.
-/
import Derived.Test.YtdpacaomkahgfaaGreatDoorCtK
import Derived.Test.YtdpacaomkahgfaaGreatDoorCrLb
import Derived.Lib.AppendZeros
import Derived.Laws.AppendOwnNone
namespace Go.Proofs.YtdpacaomkahgfaaGreatDoor
open Go.RowKit Go.Proofs.YtdpacaomkahgfaaGreatDoor.DagM

set_option maxHeartbeats 2000000 in
set_option maxRecDepth 100000 in
theorem growI (N : Nat) (w : World) (hN : N ≤ 100000) :
    Calls Tryz.prog 43 #[.slice none 0 0, .int .i64 N] w fun e w' => ∃ v', e = .returned v' ∧ OwnI w' w.heap.size v' [] ∧ Below w.heap.size w w' := by
  obtain ⟨i0, hi, hz0, hz1, hz2⟩ := info_parts infoI
  by_cases h0 : 0 < N
  · have RZ := Lib.hid (Lib.run_append_nil_zeros (P := Tryz.prog) w 25 3 25 3 i0 (.int .i64 0) .i64 .i64 Tryz.underlying25 Tryz.underlying3 hi hz0 N h0 (by omega) (by omega) (by rw [hz2]; omega))
    have t1 : decide (0 < N) = true := by simpa using h0
    have g1 := grownCap_ge w N 0 3
    have g2 := grownCap_le_maxLen w N 0 3 (by unfold maxLen; omega)
    generalize grownCap w N 0 3 = c at *
    go_enter Tryz.func43, Tryz.ntmps43
    go_wp2_with (at_builtin; refine Lib.wpList_append_run _ rfl (.tmp 20) (.tmp 21) 25 3 rfl _ _ rfl rfl _ _ RZ.out ?_)
    go_ret
    refine ⟨_, rfl, ?_, ((Below.refl _ _).drew).alloc (by simp) _⟩
    refine ⟨by simp, Or.inr ⟨w.heap.size, c, Builtin.zeroCells (Value.int .i64 0).cells N ++ Builtin.zeroCells (Value.int .i64 0).cells (c - N), rfl, Nat.le_refl _, heap_alloc_new w.drew _, Nat.zero_le _, g2, ?_, by simp⟩⟩
    rw [Array.size_append, size_zeroCells, size_zeroCells]
    simp [Value.cells]
    omega
  · obtain rfl : N = 0 := by omega
    go_enter Tryz.func43, Tryz.ntmps43
    go_wp2
    go_ret
    exact ⟨_, rfl, World.ownsRow_nil _ _ _ _, Below.refl _ _⟩
/-- A value to append from: nothing, or a row's address. -/
def Src (w : World) (v : Value) (x : List Int) : Prop := (v = .slice none 0 0 ∧ x = []) ∨ ∃ g c, v = .slice (some ⟨g, 0, none⟩) x.length c ∧ g < w.heap.size ∧ ∀ j (h : j < x.length), w.cell? ⟨g, j, none⟩ = some (.int .i64 x[j])
theorem OwnI.src {w : World} {B : Nat} {v : Value} {x : List Int} (h : OwnI w B v x) : Src w v x := by
  have hc := h
  rcases h.2 with ⟨h1, h2⟩ | ⟨g, cap, cur, hv, hg, hh, _⟩
  · exact Or.inl ⟨h1, List.eq_nil_of_length_eq_zero h2⟩
  · subst hv
    refine Or.inr ⟨g, cap, rfl, (Array.getElem?_eq_some_iff.1 hh).1, fun j hj => ?_⟩
    have := World.ownsRow.cellAt hc j (by simpa using hj)
    rw [this]
    simp [hj]
theorem Src.below {w w' : World} {v : Value} {x : List Int} (h : Src w v x) (o : Below w.heap.size w w') : Src w' v x := by
  rcases h with h | ⟨g, c, e, hg, hc⟩
  · exact Or.inl h
  · exact Or.inr ⟨g, c, e, Nat.lt_of_lt_of_le hg o.size, fun j hj => by rw [o.cell (p := ⟨g, j, none⟩) hg]; exact hc j hj⟩
theorem Src.form {w : World} {v : Value} {x : List Int} (h : Src w v x) : ∃ a c, v = .slice a x.length c := by
  rcases h with ⟨rfl, rfl⟩ | ⟨g, c, rfl, _⟩
  · exact ⟨none, 0, rfl⟩
  · exact ⟨_, c, rfl⟩
def pre2 (x y : List Int) (k : Nat) : List Int := if k = 0 then [] else if k = 1 then x else x ++ y
def CcL (x y : List Int) (w wr : World) (sv iv : Value) : Prop := ∃ k : Nat, iv = .int .i64 k ∧ k ≤ 2 ∧ sv = .int .i64 ((pre2 x y k).length : Nat) ∧ wr = w
def CcR (x y : List Int) (w wr : World) (lv iv : Value) : Prop := ∃ (k : Nat) (L : List Int), iv = .int .i64 k ∧ k ≤ 2 ∧ L = pre2 x y k ∧ Below w.heap.size w wr ∧ OwnI wr w.heap.size lv L
theorem ints_app {w0 w w' : World} {v v' : Value} {K X : List Int} {m : Nat} (hm : X.length = m) (hB : Below w0.heap.size w0 w) (hO : OwnI w w0.heap.size v K) (hown : w'.ownsRow w0.heap.size 3 1 v' (K.length + m) (K.map (Value.int .i64) ++ X.map (Value.int .i64))) (hgrow : w.grownBy w' v.ownBlock) :
    OwnI w' w0.heap.size v' (K ++ X) ∧ Below w0.heap.size w0 w' := by
  subst hm
  refine ⟨?_, hB.trans (((Out.refl _ w).grown (S := fun b => v.ownBlock = some b) hgrow (fun _ _ e => e)).below hB.size (fun i _ e => (World.ownsRow.lt hO i e).1))⟩
  unfold OwnI
  rw [List.length_append, List.map_append]
  exact hown
theorem rowNews {w : World} {g m : Nat} {X : List Int} (_hm : X.length = m) (hc : ∀ j (h : j < X.length), w.cell? ⟨g, j, none⟩ = some (.int .i64 X[j])) : ∀ j u, (X.map (Value.int .i64))[j]? = some u → w.cell? ((⟨g, 0, none⟩ : Addr).add j) = some u := by
  intro j u hu
  have hj : j < X.length := by have := (List.getElem?_eq_some_iff.1 hu).1; simpa using this
  rw [add_lit, Nat.zero_add, hc j hj]
  rw [List.getElem?_map, List.getElem?_eq_getElem hj] at hu
  exact hu
theorem rowOne (X : List Int) : ∀ u ∈ X.map (Value.int .i64), u.oneCell' = true := by
  intro u hu
  obtain ⟨c, _, rfl⟩ := List.mem_map.1 hu
  rfl
set_option maxHeartbeats 8000000 in
set_option maxRecDepth 100000 in
theorem concat2 (b : Nat) (v1 v2 : Value) (x y : List Int) (w : World) (h0 : w.cell? ⟨b, 0, none⟩ = some v1) (h1 : w.cell? ⟨b, 1, none⟩ = some v2) (hx : Src w v1 x) (hy : Src w v2 y) (hlx : x.length ≤ 1000) (hly : y.length ≤ 1000) :
    Calls Tryz.prog 22 #[.slice (some ⟨b, 0, none⟩) 2 2] w fun e w' => ∃ v', e = .returned v' ∧ OwnI w' w.heap.size v' (x ++ y) ∧ Below w.heap.size w w' := by
  have SX := Lib.hid hx
  have SY := Lib.hid hy
  have hbl := lt_of_cell h0
  obtain ⟨a1, k1, rfl⟩ := hx.form
  obtain ⟨a2, k2, rfl⟩ := hy.form
  clear hx hy
  obtain ⟨i0, hi, hz0, hz1, hz2⟩ := info_parts infoI
  go_enter Tryz.func22, Tryz.ntmps22
  go_wp2
  go_loopw [3, 11] (fun sv iv wr => CcL x y w wr sv iv) (fun _ iv _ => 2 - (intOf iv).toNat)
  case atStart => exact ⟨0, rfl, by omega, rfl, rfl⟩
  case round =>
    obtain ⟨k, rfl, hk, rfl, hw⟩ := hrel
    have hw2 : w = wr := hw.symm
    clear hw
    subst hw2
    rcases (by omega : k = 0 ∨ k = 1 ∨ k = 2) with rfl | rfl | rfl
    · have e0 : (pre2 x y 0).length = 0 := rfl
      have e1 : Hid ((pre2 x y 1).length = x.length) := Lib.hid rfl
      rw [e0]
      clear e0
      go_wp2
      go_roundw
      case rel => exact ⟨1, by go_num, by omega, by rw [e1.out]; (try go_num), rfl⟩
      case measure => simp [intOf]
    · have e0 : (pre2 x y 1).length = x.length := rfl
      have e1 : Hid ((pre2 x y 2).length = x.length + y.length) := Lib.hid (by simp [pre2])
      rw [e0]
      clear e0
      go_wp2
      go_roundw
      case rel => exact ⟨2, by go_num, by omega, by rw [e1.out]; (try go_num), rfl⟩
      case measure => simp [intOf]
    · have e0 : (pre2 x y 2).length = x.length + y.length := by simp [pre2]
      rw [e0]
      clear e0
      go_wp2_with (go_at_call 43; go_loud (refine (growI (x.length + y.length) _ (by omega)).mono ?_; rintro e w1 ⟨v1, rfl, ho, hb⟩; have O1 := Lib.hid ho; have B1 := Lib.hid hb; clear ho hb))
      go_loopw [6, 27] (fun lv iv wr => CcR x y w wr lv iv) (fun _ iv _ => 2 - (intOf iv).toNat)
      case atStart => exact ⟨0, [], rfl, by omega, rfl, B1.out, O1.out⟩
      case round =>
        obtain ⟨k, L, rfl, hk, hL, hB, hO⟩ := hrel
        have B := Lib.hid hB
        have O := Lib.hid hO
        have HL := Lib.hid hL
        obtain ⟨ao, cp, rfl⟩ := hO.form
        have hll : L.length ≤ 2000 := by
          rw [hL]
          rcases (by omega : k = 0 ∨ k = 1 ∨ k = 2) with rfl | rfl | rfl <;> simp [pre2] <;> omega
        clear hL hB hO
        rcases (by omega : k = 0 ∨ k = 1 ∨ k = 2) with rfl | rfl | rfl
        · have c0 := (B.out.cell (p := ⟨b, 0, none⟩) hbl).trans h0
          rcases SX.out.below B.out with ⟨e, hn⟩ | ⟨g, c, e, hg, hc⟩
          · rw [e] at c0
            have NN := Lib.hid hn
            clear e hn
            go_wp2_with (at_builtin; refine wpList_append_own_none rfl (.tmp 31) (.tmp 32) 25 rfl w.heap.size 3 i0 1 Tryz.underlying25 hi (.slice ao L.length cp) L.length (L.map (Value.int .i64)) rfl O.out rfl ?_)
            go_roundw
            case rel => exact ⟨1, L, by go_num, by omega, by rw [HL.out, NN.out]; rfl, B.out, O.out⟩
            case measure => simp [intOf]
          · rw [e] at c0
            clear e
            obtain ⟨X, hXd⟩ : ∃ X, X = x := ⟨_, rfl⟩
            rw [← hXd] at hc c0
            obtain ⟨m, hm⟩ : ∃ m, X.length = m := ⟨_, rfl⟩
            have HC := Lib.hid hc
            have ML := Lib.hid hm
            have hml : m ≤ 1000 := by rw [← hm, hXd]; exact hlx
            rw [hm] at c0
            have XD := Lib.hid hXd
            clear hc hm hXd
            go_wp2_with (at_builtin; refine wpList_append_fresh rfl (.tmp 31) (.tmp 32) 25 rfl w.heap.size 3 i0 (.int .i64 0) 1 8 Tryz.underlying25 hi hz0 hz1 hz2 rfl (by decide) (.slice ao L.length cp) L.length (L.map (Value.int .i64)) rfl O.out ⟨g, 0, none⟩ m c (X.map (Value.int .i64)) rfl (by rw [List.length_map, ML.out]; omega) (rowNews ML.out HC.out) (rowOne X) (by unfold maxLen; omega) (by omega) (by have := B.out.size; exact this) ?_; intro v5 w5 hown hgrow hfr; obtain ⟨o5, b5⟩ := ints_app ML.out B.out O.out hown hgrow; have O5 := Lib.hid o5; have B5 := Lib.hid b5; clear hown hgrow hfr o5 b5)
            go_roundw
            case rel => exact ⟨1, _, by go_num, by omega, by rw [HL.out, XD.out]; rfl, B5.out, O5.out⟩
            case measure => simp [intOf]
        · have c0 := (B.out.cell (p := ⟨b, 1, none⟩) hbl).trans h1
          rcases SY.out.below B.out with ⟨e, hn⟩ | ⟨g, c, e, hg, hc⟩
          · rw [e] at c0
            have NN := Lib.hid hn
            clear e hn
            go_wp2_with (at_builtin; refine wpList_append_own_none rfl (.tmp 31) (.tmp 32) 25 rfl w.heap.size 3 i0 1 Tryz.underlying25 hi (.slice ao L.length cp) L.length (L.map (Value.int .i64)) rfl O.out rfl ?_)
            go_roundw
            case rel => exact ⟨2, L, by go_num, by omega, by rw [HL.out, NN.out]; simp [pre2], B.out, O.out⟩
            case measure => simp [intOf]
          · rw [e] at c0
            clear e
            obtain ⟨X, hXd⟩ : ∃ X, X = y := ⟨_, rfl⟩
            rw [← hXd] at hc c0
            obtain ⟨m, hm⟩ : ∃ m, X.length = m := ⟨_, rfl⟩
            have HC := Lib.hid hc
            have ML := Lib.hid hm
            have hml : m ≤ 1000 := by rw [← hm, hXd]; exact hly
            rw [hm] at c0
            have XD := Lib.hid hXd
            clear hc hm hXd
            go_wp2_with (at_builtin; refine wpList_append_fresh rfl (.tmp 31) (.tmp 32) 25 rfl w.heap.size 3 i0 (.int .i64 0) 1 8 Tryz.underlying25 hi hz0 hz1 hz2 rfl (by decide) (.slice ao L.length cp) L.length (L.map (Value.int .i64)) rfl O.out ⟨g, 0, none⟩ m c (X.map (Value.int .i64)) rfl (by rw [List.length_map, ML.out]; omega) (rowNews ML.out HC.out) (rowOne X) (by unfold maxLen; omega) (by omega) (by have := B.out.size; exact this) ?_; intro v5 w5 hown hgrow hfr; obtain ⟨o5, b5⟩ := ints_app ML.out B.out O.out hown hgrow; have O5 := Lib.hid o5; have B5 := Lib.hid b5; clear hown hgrow hfr o5 b5)
            go_roundw
            case rel => exact ⟨2, _, by go_num, by omega, by rw [HL.out, XD.out]; rfl, B5.out, O5.out⟩
            case measure => simp [intOf]
        · have e : L = x ++ y := HL.out
          have OO := O.out
          rw [e] at OO
          have OX := Lib.hid OO
          clear OO
          go_wp2
          go_ret
          exact ⟨_, rfl, by rw [show L.length = (x ++ y).length by rw [e]]; exact OX.out, B.out⟩
end Go.Proofs.YtdpacaomkahgfaaGreatDoor
