/-
  The heap of muntin/flow.visit: which of two items comes ahead, two items exchanged. Conditions: the function that the heap holds tells a strict weak order.
  The heap of muntin/flow.visit: two items exchanged. Conditions: both places lie in the row.
  The heap of muntin/flow.visit: an item rises, an item sinks. Conditions: the row is a heap but for that item.
  The heap of muntin/flow.visit: the top dropped, one thing pushed. Conditions: at most a million things; the row is a heap.
  The heap of muntin/flow.visit: one thing pushed. Conditions: at most a million were pushed.
  The heap of muntin/flow.visit: a new one, how many, the top, the least one popped, a nil one. Conditions: at most a million were pushed.
  The heap of muntin/flow.visit: the least one popped, a nil heap. Conditions: at most a million were pushed.
-/
import Derived.Test.YtdpacaomkahgfaaGreatDoorCqH
import Derived.BigRegion
import Derived.Deep.RegionWith
import Derived.Shelf.Abstract
import Derived.LoopTactic
import Derived.Handy
namespace Go.Proofs.YtdpacaomkahgfaaGreatDoor.HV
open Go.RowKit Go.Proofs.YtdpacaomkahgfaaGreatDoor.HeapM

/-- An item's cells. -/
def enc (x : (Int × Int × Int) × Int) : List Value := [.int .i64 x.1.1, .int .i64 x.1.2.1, .int .i64 x.1.2.2] ++ [.int .i64 x.2]
theorem enc_len (x : (Int × Int × Int) × Int) : (enc x).length = 4 := rfl

/-- What the heap's function tells. -/
structure LessAt (fn : Nat) (lt : (Int × Int × Int) → (Int × Int × Int) → Bool) : Prop where
  eg : ∀ args w, (callFunc fn args).run Tryz.prog w = .ok (.enter fn args) w
  calls : ∀ (W : World) (x y : (Int × Int × Int)), Calls Tryz.prog fn #[(.agg #[.int .i64 x.1, .int .i64 x.2.1, .int .i64 x.2.2]), (.agg #[.int .i64 y.1, .int .i64 y.2.1, .int .i64 y.2.2])] W fun e W' => e = .returned (.bool (lt x y)) ∧ Below W.heap.size W W'
  ord : Ord lt
variable {fn : Nat} {lt : (Int × Int × Int) → (Int × Int × Int) → Bool}

set_option maxHeartbeats 400000 in
set_option maxRecDepth 100000 in
theorem isLess (hL : LessAt fn lt) (p : Nat) (x y : (Int × Int × Int)) (w : World) (_hp : p < w.heap.size) (h0 : w.cell? ⟨p, 0, none⟩ = some (.func (.func fn) #[] #[])) :
    Calls Tryz.prog 154 #[.pointer (some ⟨p, 0, none⟩), (.agg #[.int .i64 x.1, .int .i64 x.2.1, .int .i64 x.2.2]), (.agg #[.int .i64 y.1, .int .i64 y.2.1, .int .i64 y.2.2])] w fun e w' => e = .returned (.bool (lt x y)) ∧ Below w.heap.size w w' := by
  have HL := Lib.hid hL.calls
  have eg := hL.eg
  clear hL
  have hnf := fun (w : World) => run_neq_func_nil (P := Tryz.prog) w 127 _ _ _ (.func fn) #[] #[] Tryz.underlying127
  go_enter Tryz.func154, Tryz.ntmps154
  go_wp2
  go_region_with (refine (HL.out _ x y).mono ?_; rintro e w1 ⟨rfl, hb⟩)
  all_goals
    go_wp2
    go_ret
    exact ⟨rfl, (((Below.refl _ _).alloc (Nat.le_refl _) _).alloc (by simp) _).drew.trans (hb.mono (by simp; omega))⟩

theorem cells_at {w : World} {T E p n g cap : Nat} {f : Value} {l : List ((Int × Int × Int) × Int)} {c : Int} (h : HeapMem w T E 4 p f (.slice (some ⟨g, 0, none⟩) n cap) l.length (l.flatMap enc) c) (hn : n = l.length) (i : Nat) (hi : i < l.length) (r : Nat) (hr : r < 4) : w.cell? ⟨g, i * 4 + r, none⟩ = some ((enc (at_ l i)).getD r default) := by
  subst hn
  have hm : i * 4 + r < l.length * 4 := by omega
  rw [h.cell _ hm, flat_get enc enc_len l i r hi hr]
  rfl

set_option maxHeartbeats 400000 in
set_option maxRecDepth 100000 in
theorem ahead (hL : LessAt fn lt) (T E p g n cap i j : Nat) (l : List ((Int × Int × Int) × Int)) (c : Int) (w : World) (h : HeapMem w T E 4 p (.func (.func fn) #[] #[]) (.slice (some ⟨g, 0, none⟩) n cap) l.length (l.flatMap enc) c)
    (hn : n = l.length) (hs : l.length ≤ 1000000) (hi : i < l.length) (hj : j < l.length) :
    Calls Tryz.prog 124 #[.pointer (some ⟨p, 0, none⟩), .int .i64 i, .int .i64 j] w fun e w' => e = .returned (.bool (ahd lt (at_ l i) (at_ l j))) ∧ Below w.heap.size w w' := by
  have hps := h.lt
  have hgs := (h.row.lt g rfl).2
  have hpg : g ≠ p := fun e => h.apart (by subst e; rfl)
  have h0 := h.c0
  have h1 := h.c1
  have hA := Lib.hid (cells_at h hn i hi)
  have hB := Lib.hid (cells_at h hn j hj)
  have hi' : i < n := by omega
  have hj' : j < n := by omega
  have hn' : n ≤ 1000000 := by omega
  clear h hn hs hi hj
  generalize at_ l i = x at *
  generalize at_ l j = y at *
  have a0 : w.cell? ⟨g, i * 4, none⟩ = some (.int .i64 x.1.1) := hA.out 0 (by omega)
  have a1 : w.cell? ⟨g, i * 4 + 1, none⟩ = some (.int .i64 x.1.2.1) := hA.out 1 (by omega)
  have a2 : w.cell? ⟨g, i * 4 + 2, none⟩ = some (.int .i64 x.1.2.2) := hA.out 2 (by omega)
  have a3 : w.cell? ⟨g, i * 4 + 3, none⟩ = some (.int .i64 x.2) := hA.out 3 (by omega)
  have b0 : w.cell? ⟨g, j * 4, none⟩ = some (.int .i64 y.1.1) := hB.out 0 (by omega)
  have b1 : w.cell? ⟨g, j * 4 + 1, none⟩ = some (.int .i64 y.1.2.1) := hB.out 1 (by omega)
  have b2 : w.cell? ⟨g, j * 4 + 2, none⟩ = some (.int .i64 y.1.2.2) := hB.out 2 (by omega)
  have b3 : w.cell? ⟨g, j * 4 + 3, none⟩ = some (.int .i64 y.2) := hB.out 3 (by omega)
  clear hA hB
  have hL' := Lib.hid hL
  clear hL
  by_cases hlt : x.2 < y.2
  · have e1 : ahd lt x y = !lt y.1 x.1 := by unfold ahd; rw [if_pos hlt]
    rw [e1]
    clear e1
    go_enter Tryz.func124, Tryz.ntmps124
    go_wp2
    go_region
    all_goals
      go_wp2_with (go_at_call 154; refine (isLess hL'.out _ y.1 x.1 _ (by simp; omega) (by go_simp)).mono ?_; rintro e w1 ⟨rfl, hb⟩)
      go_ret
      exact ⟨rfl, (((Below.refl _ _).alloc (Nat.le_refl _) _).alloc (by simp) _).drew.trans (hb.mono (by simp; omega))⟩
  · have e1 : ahd lt x y = lt x.1 y.1 := by unfold ahd; rw [if_neg hlt]
    rw [e1]
    clear e1
    go_enter Tryz.func124, Tryz.ntmps124
    go_wp2
    go_region
    all_goals
      go_wp2_with (go_at_call 154; refine (isLess hL'.out _ x.1 y.1 _ (by simp; omega) (by go_simp)).mono ?_; rintro e w1 ⟨rfl, hb⟩)
      go_ret
      exact ⟨rfl, (((Below.refl _ _).alloc (Nat.le_refl _) _).alloc (by simp) _).drew.trans (hb.mono (by simp; omega))⟩

end Go.Proofs.YtdpacaomkahgfaaGreatDoor.HV

namespace Go.Proofs.YtdpacaomkahgfaaGreatDoor.HV
open Go.RowKit Go.Proofs.YtdpacaomkahgfaaGreatDoor.HeapM

theorem runSet_swap (l : List ((Int × Int × Int) × Int)) (i j : Nat) (hi : i < l.length) (hj : j < l.length) : runSet (runSet (l.flatMap enc) (i * 4) (enc (at_ l j))) (j * 4) (enc (at_ l i)) = (sw l i j).flatMap enc := by
  rw [flat_set enc enc_len l i hi, flat_set enc enc_len _ j (by simpa using hj)]
  rfl

set_option maxHeartbeats 2000000 in
set_option maxRecDepth 100000 in
theorem swap (T E p g n cap i j : Nat) (l : List ((Int × Int × Int) × Int)) (f : Value) (c : Int) (w : World) (h : HeapMem w T E 4 p f (.slice (some ⟨g, 0, none⟩) n cap) l.length (l.flatMap enc) c)
    (hn : n = l.length) (hs : l.length ≤ 1000000) (hi : i < l.length) (hj : j < l.length) (hij : i ≠ j) :
    Calls Tryz.prog 125 #[.pointer (some ⟨p, 0, none⟩), .int .i64 i, .int .i64 j] w fun e w' => e = .returned (.tuple #[]) ∧
      HeapMem w' T E 4 p f (.slice (some ⟨g, 0, none⟩) n cap) (sw l i j).length ((sw l i j).flatMap enc) c ∧ Out (fun b => b = g) w w' := by
  have H := Lib.hid h
  have hpg : g ≠ p := fun e => h.apart (by subst e; rfl)
  have h1 := h.c1
  have hA := Lib.hid (cells_at h hn i hi)
  have hB := Lib.hid (cells_at h hn j hj)
  have hF := Lib.hid (fun q => (show HeapMem w T E 4 p f (.slice (some ⟨g, 0, none⟩) l.length cap) l.length (l.flatMap enc) c from hn ▸ h).frz q)
  have hS := Lib.hid (runSet_swap l i j hi hj)
  have hi' : i < n := by omega
  have hj' : j < n := by omega
  have hn' : n ≤ 1000000 := by omega
  have HN := Lib.hid hn
  clear h hn hs hi hj
  generalize at_ l i = x at *
  generalize at_ l j = y at *
  have a0 : w.cell? ⟨g, i * 4, none⟩ = some (.int .i64 x.1.1) := hA.out 0 (by omega)
  have fa0 := hF.out (i * 4)
  have a1 : w.cell? ⟨g, i * 4 + 1, none⟩ = some (.int .i64 x.1.2.1) := hA.out 1 (by omega)
  have fa1 := hF.out (i * 4 + 1)
  have a2 : w.cell? ⟨g, i * 4 + 2, none⟩ = some (.int .i64 x.1.2.2) := hA.out 2 (by omega)
  have fa2 := hF.out (i * 4 + 2)
  have a3 : w.cell? ⟨g, i * 4 + 3, none⟩ = some (.int .i64 x.2) := hA.out 3 (by omega)
  have fa3 := hF.out (i * 4 + 3)
  have b0 : w.cell? ⟨g, j * 4, none⟩ = some (.int .i64 y.1.1) := hB.out 0 (by omega)
  have fb0 := hF.out (j * 4)
  have b1 : w.cell? ⟨g, j * 4 + 1, none⟩ = some (.int .i64 y.1.2.1) := hB.out 1 (by omega)
  have fb1 := hF.out (j * 4 + 1)
  have b2 : w.cell? ⟨g, j * 4 + 2, none⟩ = some (.int .i64 y.1.2.2) := hB.out 2 (by omega)
  have fb2 := hF.out (j * 4 + 2)
  have b3 : w.cell? ⟨g, j * 4 + 3, none⟩ = some (.int .i64 y.2) := hB.out 3 (by omega)
  have fb3 := hF.out (j * 4 + 3)
  clear hA hB hF
  go_enter Tryz.func125, Tryz.ntmps125
  go_region
  all_goals
    go_wp2
    go_end0
    refine ⟨rfl, ?_, ?_⟩
    · refine HeapMem.drew ?_
      rw [sw_length, ← hS.out]
      have hh : HeapMem w T E 4 p f (.slice (some ⟨g, 0, none⟩) l.length cap) l.length (l.flatMap enc) c := HN.out ▸ H.out
      obtain rfl := HN.out
      exact (((((((hh.stored _ _).stored _ _).stored _ _).stored _ _).stored _ _).stored _ _).stored _ _).stored _ _
    · repeat (first | with_reducible refine Out.drew ?_ | with_reducible refine Out.setIn ?_ _ _)
      with_reducible exact Out.refl _ _
end Go.Proofs.YtdpacaomkahgfaaGreatDoor.HV

namespace Go.Proofs.YtdpacaomkahgfaaGreatDoor.HV
open Go.RowKit Go.Proofs.YtdpacaomkahgfaaGreatDoor.HeapM
variable {fn : Nat} {lt : (Int × Int × Int) → (Int × Int × Int) → Bool}

/-- Which comes ahead, told. -/
theorem aheadZ (hL : LessAt fn lt) {T E p g n cap : Nat} {l : List ((Int × Int × Int) × Int)} {c : Int} {w : World} (h : HeapMem w T E 4 p (.func (.func fn) #[] #[]) (.slice (some ⟨g, 0, none⟩) n cap) l.length (l.flatMap enc) c)
    (hn : n = l.length) (hs : n ≤ 1000000) (i j : Int) (a b : Nat) (ei : i = a) (ej : j = b) (hi : a < n) (hj : b < n) (r : Bool) (hr : ahd lt (at_ l a) (at_ l b) = r) :
    Calls Tryz.prog 124 #[.pointer (some ⟨p, 0, none⟩), .int .i64 i, .int .i64 j] w fun e w' => e = .returned (.bool r) ∧ Below w.heap.size w w' := by
  subst ei ej hr
  exact ahead hL T E p g n cap a b l c w h hn (by omega) (by omega) (by omega)
theorem swapZ {T E p g n cap : Nat} {l : List ((Int × Int × Int) × Int)} {f : Value} {c : Int} {w : World} (h : HeapMem w T E 4 p f (.slice (some ⟨g, 0, none⟩) n cap) l.length (l.flatMap enc) c)
    (hn : n = l.length) (hs : n ≤ 1000000) (i j : Int) (a b : Nat) (ei : i = a) (ej : j = b) (hi : a < n) (hj : b < n) (hij : a ≠ b) :
    Calls Tryz.prog 125 #[.pointer (some ⟨p, 0, none⟩), .int .i64 i, .int .i64 j] w fun e w' => e = .returned (.tuple #[]) ∧
      HeapMem w' T E 4 p f (.slice (some ⟨g, 0, none⟩) n cap) (sw l a b).length ((sw l a b).flatMap enc) c ∧ Out (fun b => b = g) w w' := by
  subst ei ej
  exact swap T E p g n cap a b l f c w h hn (by omega) (by omega) (by omega) hij

/-- A row that has the same items, in another order. -/
structure Row (lt : (Int × Int × Int) → (Int × Int × Int) → Bool) (fn T E p g n cap : Nat) (l : List ((Int × Int × Int) × Int)) (c : Int) (w wr : World) (l' : List ((Int × Int × Int) × Int)) : Prop where
  len : n = l'.length
  perm : l'.Perm l
  mem : HeapMem wr T E 4 p (.func (.func fn) #[] #[]) (.slice (some ⟨g, 0, none⟩) n cap) l'.length (l'.flatMap enc) c
  out : Out (fun b => b = g) w wr
def Done (lt : (Int × Int × Int) → (Int × Int × Int) → Bool) (fn T E p g n cap : Nat) (l : List ((Int × Int × Int) × Int)) (c : Int) (w : World) (e : Ending) (w' : World) : Prop :=
  e = .returned (.tuple #[]) ∧ ∃ l', Row lt fn T E p g n cap l c w w' l' ∧ Hp lt l'
def RiseRel (lt : (Int × Int × Int) → (Int × Int × Int) → Bool) (fn T E p g n cap : Nat) (l : List ((Int × Int × Int) × Int)) (c : Int) (w wr : World) (iv : Value) : Prop :=
  ∃ (i : Nat) (l' : List ((Int × Int × Int) × Int)), iv = .int .i64 i ∧ i < n ∧ Row lt fn T E p g n cap l c w wr l' ∧ HpR lt l' i
def SinkRel (lt : (Int × Int × Int) → (Int × Int × Int) → Bool) (fn T E p g n cap : Nat) (l : List ((Int × Int × Int) × Int)) (c : Int) (w wr : World) (iv : Value) : Prop :=
  ∃ (i : Nat) (l' : List ((Int × Int × Int) × Int)), iv = .int .i64 i ∧ i ≤ n ∧ Row lt fn T E p g n cap l c w wr l' ∧ HpS lt l' i
theorem Row.step {T E p g n cap : Nat} {l l' : List ((Int × Int × Int) × Int)} {c : Int} {w wr w1 w2 : World} (R : Row lt fn T E p g n cap l c w wr l') (hb : Below wr.heap.size wr w1) {a b : Nat} (ha : a < n) (hb' : b < n)
    (hm : HeapMem w2 T E 4 p (.func (.func fn) #[] #[]) (.slice (some ⟨g, 0, none⟩) n cap) (sw l' a b).length ((sw l' a b).flatMap enc) c) (ho : Out (fun b => b = g) w1 w2) : Row lt fn T E p g n cap l c w w2 (sw l' a b) :=
  ⟨by rw [sw_length]; exact R.len, (sw_perm l' (by have := R.len; omega) (by have := R.len; omega)).trans R.perm, hm, (R.out.trans (Out.ofBelow (S := fun b => b = g) hb) (fun _ _ e => e)).trans ho (fun _ _ e => e)⟩
theorem Row.below {T E p g n cap : Nat} {l l' : List ((Int × Int × Int) × Int)} {c : Int} {w wr w1 : World} (R : Row lt fn T E p g n cap l c w wr l') (hb : Below wr.heap.size wr w1) : Row lt fn T E p g n cap l c w w1 l' :=
  ⟨R.len, R.perm, R.mem.below hb, R.out.trans (Out.ofBelow (S := fun b => b = g) hb) (fun _ _ e => e)⟩

set_option maxHeartbeats 1000000 in
theorem rise (hL : LessAt fn lt) (T E p g n cap i : Nat) (l : List ((Int × Int × Int) × Int)) (c : Int) (w : World) (h : HeapMem w T E 4 p (.func (.func fn) #[] #[]) (.slice (some ⟨g, 0, none⟩) n cap) l.length (l.flatMap enc) c)
    (hn : n = l.length) (hs : n ≤ 1000000) (hi : i < n) (hR : HpR lt l i) :
    Calls Tryz.prog 100 #[.pointer (some ⟨p, 0, none⟩), .int .i64 i] w (Done lt fn T E p g n cap l c w) := by
  have H0 := Lib.hid h
  have HN := Lib.hid hn
  have HR := Lib.hid hR
  have HL := Lib.hid hL
  clear h hn hR hL
  go_enter Tryz.func100, Tryz.ntmps100
  go_wp2
  go_loopw [1] (fun iv wr => RiseRel lt fn T E p g n cap l c w wr iv) (fun iv _ => (intOf iv).toNat)
  case atStart => exact ⟨i, l, rfl, hi, ⟨HN.out, List.Perm.refl _, H0.out, Out.refl _ _⟩, HR.out⟩
  case round =>
    clear hi
    obtain ⟨i, l', rfl, hi, R, hR⟩ := hrel
    have R := Lib.hid R
    have HR := Lib.hid hR
    clear hR
    by_cases h0 : 0 < i
    · cases hb : ahd lt (at_ l' i) (at_ l' ((i - 1) / 2))
      · have HB := Lib.hid hb
        clear hb
        go_wp2_with (go_at_call 124; refine (aheadZ HL.out R.out.mem R.out.len hs _ _ i ((i - 1) / 2) (by omega) (by omega) (by omega) (by omega) false HB.out).mono ?_; rintro e w1 ⟨rfl, hb1⟩)
        go_end0
        exact ⟨rfl, l', R.out.below hb1, rise_done HR.out HB.out⟩
      · have HB := Lib.hid hb
        clear hb
        go_wp2_with (first
          | (go_at_call 124; refine (aheadZ HL.out R.out.mem R.out.len hs _ _ i ((i - 1) / 2) (by omega) (by omega) (by omega) (by omega) true HB.out).mono ?_; rintro e w1 ⟨rfl, hb1⟩; have B1 := Lib.hid hb1; clear hb1)
          | (go_at_call 125; refine (swapZ (R.out.mem.below B1.out) R.out.len hs _ _ i ((i - 1) / 2) (by omega) (by omega) (by omega) (by omega) (by omega)).mono ?_; rintro e w2 ⟨rfl, hm, ho⟩; have M2 := Lib.hid hm; have O2 := Lib.hid ho; clear hm ho))
        go_roundw
        case rel => exact ⟨(i - 1) / 2, sw l' i ((i - 1) / 2), by go_num, by omega, R.out.step B1.out (by omega) (by omega) M2.out O2.out, rise_step HL.out.ord HR.out h0 (by have := R.out.len; omega) HB.out⟩
        case measure => simp [intOf]; omega
    · go_wp2
      go_end0
      exact ⟨rfl, l', R.out, rise_done0 HR.out (by omega)⟩

set_option maxHeartbeats 2000000 in
theorem sink (hL : LessAt fn lt) (T E p g n cap i : Nat) (l : List ((Int × Int × Int) × Int)) (c : Int) (w : World) (h : HeapMem w T E 4 p (.func (.func fn) #[] #[]) (.slice (some ⟨g, 0, none⟩) n cap) l.length (l.flatMap enc) c)
    (hn : n = l.length) (hs : n ≤ 1000000) (hi : i ≤ n) (hR : HpS lt l i) :
    Calls Tryz.prog 127 #[.pointer (some ⟨p, 0, none⟩), .int .i64 i] w (Done lt fn T E p g n cap l c w) := by
  have H0 := Lib.hid h
  have HN := Lib.hid hn
  have HR := Lib.hid hR
  have HL := Lib.hid hL
  clear h hn hR hL
  go_enter Tryz.func127, Tryz.ntmps127
  go_wp2
  go_loopw [1] (fun iv wr => SinkRel lt fn T E p g n cap l c w wr iv) (fun iv _ => n - (intOf iv).toNat)
  case atStart => exact ⟨i, l, rfl, hi, ⟨HN.out, List.Perm.refl _, H0.out, Out.refl _ _⟩, HR.out⟩
  case round =>
    clear hi
    obtain ⟨i, l', rfl, hi, R, hR⟩ := hrel
    have R := Lib.hid R
    have HR := Lib.hid hR
    have h1 := R.out.mem.c1
    clear hR
    by_cases h0 : n ≤ 2 * i + 1
    · go_wp2
      go_end0
      exact ⟨rfl, l', R.out, sink_done HR.out (by have := R.out.len; omega)⟩
    by_cases h2 : n ≤ 2 * i + 2
    · have hmin : Hid (∀ d, (d = 2 * i + 1 ∨ d = 2 * i + 2) → d < l'.length → le lt (at_ l' (2 * i + 1)) (at_ l' d)) := fun d hd hdl => by
        have hl := R.out.len
        obtain rfl : d = 2 * i + 1 := by omega
        exact le_refl HL.out.ord _
      cases hb : ahd lt (at_ l' (2 * i + 1)) (at_ l' i)
      · have HB := Lib.hid hb
        clear hb
        go_wp2_with (go_at_call 124; refine (aheadZ HL.out (R.out.mem) R.out.len hs (_) (_) (2 * i + 1) (i) (by omega) (by omega) (by omega) (by omega) false HB.out).mono ?_; rintro e w1 ⟨rfl, hb1⟩; have B1 := Lib.hid (hb1); clear hb1)
        go_end0
        exact ⟨rfl, l', R.out.below B1.out, sink_done2 HL.out.ord HR.out hmin.out HB.out⟩
      · have HB := Lib.hid hb
        clear hb
        go_wp2_with (first
          | (go_at_call 124; refine (aheadZ HL.out (R.out.mem) R.out.len hs (_) (_) (2 * i + 1) (i) (by omega) (by omega) (by omega) (by omega) true HB.out).mono ?_; rintro e w1 ⟨rfl, hb1⟩; have B1 := Lib.hid (hb1); clear hb1)
          | (go_at_call 125; refine (swapZ (R.out.mem.below B1.out) R.out.len hs _ _ i (2 * i + 1) (by omega) (by omega) (by omega) (by omega) (by omega)).mono ?_; rintro e w9 ⟨rfl, hm, ho⟩; have M2 := Lib.hid hm; have O2 := Lib.hid ho; clear hm ho))
        go_roundw
        case rel => exact ⟨2 * i + 1, sw l' i (2 * i + 1), by go_num, by omega, R.out.step B1.out (by omega) (by omega) M2.out O2.out, sink_step HL.out.ord HR.out (by omega) (by have := R.out.len; omega) hmin.out HB.out⟩
        case measure => simp [intOf]; omega
    cases hq : ahd lt (at_ l' (2 * i + 2)) (at_ l' (2 * i + 1))
    · have HQ := Lib.hid hq
      clear hq
      have hmin : Hid (∀ d, (d = 2 * i + 1 ∨ d = 2 * i + 2) → d < l'.length → le lt (at_ l' (2 * i + 1)) (at_ l' d)) := fun d hd _ => by
        rcases hd with rfl | rfl
        · exact le_refl HL.out.ord _
        · exact HQ.out
      cases hb : ahd lt (at_ l' (2 * i + 1)) (at_ l' i)
      · have HB := Lib.hid hb
        clear hb
        have tok1 : True := trivial
        go_wp2_with (first
          | (go_at_call 124; have _t := tok1; refine (aheadZ HL.out (R.out.mem) R.out.len hs (_) (_) (2 * i + 2) (2 * i + 1) (by omega) (by omega) (by omega) (by omega) false HQ.out).mono ?_; rintro e w1 ⟨rfl, hb1⟩; have B1 := Lib.hid (hb1); clear hb1 tok1 _t)
          | (go_at_call 124; refine (aheadZ HL.out (R.out.mem.below B1.out) R.out.len hs (_) (_) (2 * i + 1) (i) (by omega) (by omega) (by omega) (by omega) false HB.out).mono ?_; rintro e w2 ⟨rfl, hb1⟩; have B2 := Lib.hid (B1.out.trans (hb1.mono B1.out.size)); clear hb1))
        go_end0
        exact ⟨rfl, l', R.out.below B2.out, sink_done2 HL.out.ord HR.out hmin.out HB.out⟩
      · have HB := Lib.hid hb
        clear hb
        have tok1 : True := trivial
        go_wp2_with (first
          | (go_at_call 124; have _t := tok1; refine (aheadZ HL.out (R.out.mem) R.out.len hs (_) (_) (2 * i + 2) (2 * i + 1) (by omega) (by omega) (by omega) (by omega) false HQ.out).mono ?_; rintro e w1 ⟨rfl, hb1⟩; have B1 := Lib.hid (hb1); clear hb1 tok1 _t)
          | (go_at_call 124; refine (aheadZ HL.out (R.out.mem.below B1.out) R.out.len hs (_) (_) (2 * i + 1) (i) (by omega) (by omega) (by omega) (by omega) true HB.out).mono ?_; rintro e w2 ⟨rfl, hb1⟩; have B2 := Lib.hid (B1.out.trans (hb1.mono B1.out.size)); clear hb1)
          | (go_at_call 125; refine (swapZ (R.out.mem.below B2.out) R.out.len hs _ _ i (2 * i + 1) (by omega) (by omega) (by omega) (by omega) (by omega)).mono ?_; rintro e w9 ⟨rfl, hm, ho⟩; have M2 := Lib.hid hm; have O2 := Lib.hid ho; clear hm ho))
        go_roundw
        case rel => exact ⟨2 * i + 1, sw l' i (2 * i + 1), by go_num, by omega, R.out.step B2.out (by omega) (by omega) M2.out O2.out, sink_step HL.out.ord HR.out (by omega) (by have := R.out.len; omega) hmin.out HB.out⟩
        case measure => simp [intOf]; omega
    · have HQ := Lib.hid hq
      clear hq
      have hmin : Hid (∀ d, (d = 2 * i + 1 ∨ d = 2 * i + 2) → d < l'.length → le lt (at_ l' (2 * i + 2)) (at_ l' d)) := fun d hd _ => by
        rcases hd with rfl | rfl
        · exact le_of_ahd HL.out.ord HQ.out
        · exact le_refl HL.out.ord _
      cases hb : ahd lt (at_ l' (2 * i + 2)) (at_ l' i)
      · have HB := Lib.hid hb
        clear hb
        have tok1 : True := trivial
        go_wp2_with (first
          | (go_at_call 124; have _t := tok1; refine (aheadZ HL.out (R.out.mem) R.out.len hs (_) (_) (2 * i + 2) (2 * i + 1) (by omega) (by omega) (by omega) (by omega) true HQ.out).mono ?_; rintro e w1 ⟨rfl, hb1⟩; have B1 := Lib.hid (hb1); clear hb1 tok1 _t)
          | (go_at_call 124; refine (aheadZ HL.out (R.out.mem.below B1.out) R.out.len hs (_) (_) (2 * i + 2) (i) (by omega) (by omega) (by omega) (by omega) false HB.out).mono ?_; rintro e w2 ⟨rfl, hb1⟩; have B2 := Lib.hid (B1.out.trans (hb1.mono B1.out.size)); clear hb1))
        go_end0
        exact ⟨rfl, l', R.out.below B2.out, sink_done2 HL.out.ord HR.out hmin.out HB.out⟩
      · have HB := Lib.hid hb
        clear hb
        have tok1 : True := trivial
        go_wp2_with (first
          | (go_at_call 124; have _t := tok1; refine (aheadZ HL.out (R.out.mem) R.out.len hs (_) (_) (2 * i + 2) (2 * i + 1) (by omega) (by omega) (by omega) (by omega) true HQ.out).mono ?_; rintro e w1 ⟨rfl, hb1⟩; have B1 := Lib.hid (hb1); clear hb1 tok1 _t)
          | (go_at_call 124; refine (aheadZ HL.out (R.out.mem.below B1.out) R.out.len hs (_) (_) (2 * i + 2) (i) (by omega) (by omega) (by omega) (by omega) true HB.out).mono ?_; rintro e w2 ⟨rfl, hb1⟩; have B2 := Lib.hid (B1.out.trans (hb1.mono B1.out.size)); clear hb1)
          | (go_at_call 125; refine (swapZ (R.out.mem.below B2.out) R.out.len hs _ _ i (2 * i + 2) (by omega) (by omega) (by omega) (by omega) (by omega)).mono ?_; rintro e w9 ⟨rfl, hm, ho⟩; have M2 := Lib.hid hm; have O2 := Lib.hid ho; clear hm ho))
        go_roundw
        case rel => exact ⟨2 * i + 2, sw l' i (2 * i + 2), by go_num, by omega, R.out.step B2.out (by omega) (by omega) M2.out O2.out, sink_step HL.out.ord HR.out (by omega) (by have := R.out.len; omega) hmin.out HB.out⟩
        case measure => simp [intOf]; omega
end Go.Proofs.YtdpacaomkahgfaaGreatDoor.HV

namespace Go.Proofs.YtdpacaomkahgfaaGreatDoor.HV
open Go.RowKit Go.Proofs.YtdpacaomkahgfaaGreatDoor.HeapM
variable {fn : Nat} {lt : (Int × Int × Int) → (Int × Int × Int) → Bool}

/-- A heap at p that holds the things of L, in the order of pushing; c were pushed. -/
def Is (lt : (Int × Int × Int) → (Int × Int × Int) → Bool) (fn p : Nat) (w : World) (v : Value) (L : List (Int × Int × Int)) (c : Int) : Prop :=
  ∃ l, HeapMem w 159 161 4 p (.func (.func fn) #[] #[]) v l.length (l.flatMap enc) c ∧ St lt l L c
def Foot (p : Nat) (v : Value) (b : Nat) : Prop := b = p ∨ v.ownBlock = some b

theorem riseZ (hL : LessAt fn lt) {T E p g n cap : Nat} {l : List ((Int × Int × Int) × Int)} {c : Int} {w : World} (h : HeapMem w T E 4 p (.func (.func fn) #[] #[]) (.slice (some ⟨g, 0, none⟩) n cap) l.length (l.flatMap enc) c)
    (hn : n = l.length) (hs : n ≤ 1000000) (j : Int) (i : Nat) (ej : j = i) (hi : i < n) (hR : HpR lt l i) :
    Calls Tryz.prog 100 #[.pointer (some ⟨p, 0, none⟩), .int .i64 j] w (Done lt fn T E p g n cap l c w) := by
  subst ej
  exact rise hL T E p g n cap i l c w h hn hs hi hR
theorem sinkZ (hL : LessAt fn lt) {T E p g n cap : Nat} {l : List ((Int × Int × Int) × Int)} {c : Int} {w : World} (h : HeapMem w T E 4 p (.func (.func fn) #[] #[]) (.slice (some ⟨g, 0, none⟩) n cap) l.length (l.flatMap enc) c)
    (hn : n = l.length) (hs : n ≤ 1000000) (hR : HpS lt l 0) :
    Calls Tryz.prog 127 #[.pointer (some ⟨p, 0, none⟩), .int .i64 0] w (Done lt fn T E p g n cap l c w) :=
  sink hL T E p g n cap 0 l c w h hn hs (by omega) hR

theorem infoE : (Tryz.prog.info? 161).map (fun i => (i.zero, i.size, i.bytes)) = some (some (.agg #[.int .i64 0, .int .i64 0, .int .i64 0, .int .i64 0]), 4, 32) := by kernel_rfl
theorem zeroE (w : World) : (zeroValue 161).run Tryz.prog w = .ok (.agg #[.int .i64 0, .int .i64 0, .int .i64 0, .int .i64 0]) w := by kernel_rfl

/-- What dropTop leaves. -/
def Dropped (lt : (Int × Int × Int) → (Int × Int × Int) → Bool) (fn p g m cap : Nat) (l : List ((Int × Int × Int) × Int)) (c : Int) (w : World) (e : Ending) (w' : World) : Prop :=
  e = .returned (.tuple #[]) ∧ ∃ l', l'.Perm l.tail ∧ Hp lt l' ∧ m = l'.length ∧ HeapMem w' 159 161 4 p (.func (.func fn) #[] #[]) (.slice (some ⟨g, 0, none⟩) m cap) l'.length (l'.flatMap enc) c ∧ Out (fun b => b = p ∨ b = g) w w'

theorem shorter {w : World} {T E p g n m cap : Nat} {f : Value} {xs : List Value} {c : Int} (h : HeapMem w T E 4 p f (.slice (some ⟨g, 0, none⟩) n cap) n xs c) (hm : m ≤ n) : HeapMem (w.setCell ⟨p, 1, none⟩ (.slice (some ⟨g, 0, none⟩) m cap)) T E 4 p f (.slice (some ⟨g, 0, none⟩) m cap) m (xs.take (m * 4)) c :=
  HeapMem.rowed h.blk (ownsRow_shorter h.row hm) h.apart
theorem zeros_len : ([.int .i64 0, .int .i64 0, .int .i64 0, .int .i64 0] : List Value).length = 4 := rfl

set_option maxHeartbeats 2000000 in
set_option maxRecDepth 100000 in
theorem dropTop (hL : LessAt fn lt) (p g m cap : Nat) (l : List ((Int × Int × Int) × Int)) (c : Int) (w : World) (h : HeapMem w 159 161 4 p (.func (.func fn) #[] #[]) (.slice (some ⟨g, 0, none⟩) (m + 1) cap) l.length (l.flatMap enc) c)
    (hn : m + 1 = l.length) (hs : m + 1 ≤ 1000000) (hH : Hp lt l) :
    Calls Tryz.prog 102 #[.pointer (some ⟨p, 0, none⟩)] w (Dropped lt fn p g m cap l c w) := by
  have HL := Lib.hid hL
  have HN := Lib.hid hn
  have HH := Lib.hid hH
  have hps := h.lt
  have hgs := (h.row.lt g rfl).2
  have hpg : g ≠ p := fun e => h.apart (by subst e; rfl)
  have h1 := h.c1
  have f1 := h.fr 1
  obtain ⟨_, cap', hv, hcap, hcm, _⟩ := h.form (by omega)
  simp only [Value.slice.injEq, Option.some.injEq, Addr.mk.injEq, and_true] at hv
  obtain ⟨rfl, hbad, rfl⟩ := hv
  clear hbad
  have hcap1 : m + 1 ≤ cap := by omega
  have hcap2 : ¬ cap = m := by omega
  have hcap3 : m ≤ cap := by omega
  clear hcap
  unfold maxLen at hcm
  have H : Hid (HeapMem w 159 161 4 p (.func (.func fn) #[] #[]) (.slice (some ⟨g, 0, none⟩) (m + 1) cap) (m + 1) (l.flatMap enc) c) := by
    show HeapMem _ _ _ _ _ _ _ _ _ _
    rw [hn]; rw [hn] at h; exact h
  have hA := Lib.hid (cells_at h hn 0 (by omega))
  have hB := Lib.hid (cells_at h hn m (by omega))
  have HY : Hid (at_ l (l.length - 1) = at_ l m) := by show _ = _; rw [← hn]; rfl
  have hmk : m * 4 + 4 ≤ (m + 1) * 4 := by omega
  have hsink := Lib.hid (drop_sink (lt := lt) hH)
  have hperm := Lib.hid (drop_perm l (by omega))
  clear h hn hH hL
  generalize at_ l 0 = x at *
  generalize hy : at_ l m = y at *
  have hy' := Lib.hid hy
  clear hy
  have a0 : w.cell? ⟨g, 0, none⟩ = some (.int .i64 x.1.1) := by have := hA.out 0 (by omega); rw [Nat.zero_mul, Nat.zero_add] at this; exact this
  have fa0 := H.out.frz (0)
  have a1 : w.cell? ⟨g, 1, none⟩ = some (.int .i64 x.1.2.1) := by have := hA.out 1 (by omega); rw [Nat.zero_mul, Nat.zero_add] at this; exact this
  have fa1 := H.out.frz (1)
  have a2 : w.cell? ⟨g, 2, none⟩ = some (.int .i64 x.1.2.2) := by have := hA.out 2 (by omega); rw [Nat.zero_mul, Nat.zero_add] at this; exact this
  have fa2 := H.out.frz (2)
  have a3 : w.cell? ⟨g, 3, none⟩ = some (.int .i64 x.2) := by have := hA.out 3 (by omega); rw [Nat.zero_mul, Nat.zero_add] at this; exact this
  have fa3 := H.out.frz (3)
  have b0 : w.cell? ⟨g, m * 4, none⟩ = some (.int .i64 y.1.1) := hB.out 0 (by omega)
  have b1 : w.cell? ⟨g, m * 4 + 1, none⟩ = some (.int .i64 y.1.2.1) := hB.out 1 (by omega)
  have b2 : w.cell? ⟨g, m * 4 + 2, none⟩ = some (.int .i64 y.1.2.2) := hB.out 2 (by omega)
  have b3 : w.cell? ⟨g, m * 4 + 3, none⟩ = some (.int .i64 y.2) := hB.out 3 (by omega)
  clear hA hB
  -- the world behind the copy, and behind the clearing
  have M3 := Lib.hid (((((H.out.stored 0 (.int .i64 y.1.1)).stored 1 (.int .i64 y.1.2.1)).stored 2 (.int .i64 y.1.2.2)).stored 3 (.int .i64 y.2))).drew
  have hclr := run_clear_one (P := Tryz.prog) _ 157 161 0 (.agg #[.int .i64 0, .int .i64 0, .int .i64 0, .int .i64 0]) [.int .i64 0, .int .i64 0, .int .i64 0, .int .i64 0] Tryz.underlying157 zeroE (by kernel_rfl) (by simp [Value.oneCell']) g (m * 4) (cap - m)
    (fun j hj => by rw [M3.out.cell (m * 4 + j) (by rw [zeros_len] at hj; omega)]; rfl) (fun j _ => M3.out.frz _)
  simp only [World.setCells, World.setCell_drew] at hclr
  clear hmk
  go_enter Tryz.func102, Tryz.ntmps102
  go_wp2
  go_region
  have M5 : Hid (HeapMem (((((((((w.setCell ⟨g, 0, none⟩ (.int .i64 y.1.1)).setCell ⟨g, 1, none⟩ (.int .i64 y.1.2.1)).setCell ⟨g, 2, none⟩ (.int .i64 y.1.2.2)).setCell ⟨g, 3, none⟩ (.int .i64 y.2)).setCell ⟨g, m * 4, none⟩ (.int .i64 0)).setCell ⟨g, m * 4 + 1, none⟩ (.int .i64 0)).setCell ⟨g, m * 4 + 2, none⟩ (.int .i64 0)).setCell ⟨g, m * 4 + 3, none⟩ (.int .i64 0)).setCell ⟨p, 1, none⟩ (.slice (some ⟨g, 0, none⟩) m cap)).drew 159 161 4 p (.func (.func fn) #[] #[]) (.slice (some ⟨g, 0, none⟩) m cap) ((l.set 0 (at_ l (l.length - 1))).take (l.length - 1)).length (((l.set 0 (at_ l (l.length - 1))).take (l.length - 1)).flatMap enc) c) := by
    have M4 := shorter (m := m) (((((((((H.out.stored (0) (.int .i64 y.1.1)).stored (1) (.int .i64 y.1.2.1)).stored (2) (.int .i64 y.1.2.2)).stored (3) (.int .i64 y.2)).stored (m * 4) (.int .i64 0)).stored (m * 4 + 1) (.int .i64 0)).stored (m * 4 + 2) (.int .i64 0)).stored (m * 4 + 3) (.int .i64 0))) (by omega)
    have hl1 : ((l.set 0 (at_ l (l.length - 1))).take (l.length - 1)).length = m := by have := HN.out; simp; omega
    have hl2 : l.length - 1 = m := by have := HN.out; omega
    have hx : ((l.set 0 (at_ l (l.length - 1))).take (l.length - 1)).flatMap enc = ((((((((((l.flatMap enc).set (0) (.int .i64 y.1.1)).set (1) (.int .i64 y.1.2.1)).set (2) (.int .i64 y.1.2.2)).set (3) (.int .i64 y.2)).set (m * 4) (.int .i64 0)).set (m * 4 + 1) (.int .i64 0)).set (m * 4 + 2) (.int .i64 0)).set (m * 4 + 3) (.int .i64 0)).take (m * 4)) := by
      have hX : ((((((((((l.flatMap enc).set (0) (.int .i64 y.1.1)).set (1) (.int .i64 y.1.2.1)).set (2) (.int .i64 y.1.2.2)).set (3) (.int .i64 y.2)).set (m * 4) (.int .i64 0)).set (m * 4 + 1) (.int .i64 0)).set (m * 4 + 2) (.int .i64 0)).set (m * 4 + 3) (.int .i64 0)).take (m * 4)) = (((((l.flatMap enc).set (0) (.int .i64 y.1.1)).set (1) (.int .i64 y.1.2.1)).set (2) (.int .i64 y.1.2.2)).set (3) (.int .i64 y.2)).take (m * 4) := by rw [List.take_set_of_le (by omega), List.take_set_of_le (by omega), List.take_set_of_le (by omega), List.take_set_of_le (by omega)]
      rw [hX, hl2, ← flat_take enc enc_len, ← flat_set enc enc_len l 0 (by have := HN.out; omega)]
      rw [← hl2, HY.out, hl2]
      rfl
    rw [hl1, hx]
    exact M4.drew
  all_goals
    go_wp2_with (go_at_call 127; refine (sinkZ HL.out M5.out (by have := HN.out; simp; omega) (by omega) hsink.out).mono ?_; rintro e w9 ⟨rfl, l', R9, hp9⟩)
    go_end0
    refine ⟨rfl, l', R9.perm.trans hperm.out, hp9, R9.len, R9.mem, ?_⟩
    refine Out.trans ?_ R9.out (fun _ _ e => Or.inr e)
    refine Out.drew ?_
    exact Out.setCell (Out.setCell (Out.setCell (Out.setCell (Out.setCell (Out.setCell (Out.setCell (Out.setCell (Out.setCell (Out.refl _ _) (fun _ => Or.inr rfl) _) (fun _ => Or.inr rfl) _) (fun _ => Or.inr rfl) _) (fun _ => Or.inr rfl) _) (fun _ => Or.inr rfl) _) (fun _ => Or.inr rfl) _) (fun _ => Or.inr rfl) _) (fun _ => Or.inr rfl) _) (fun _ => Or.inl rfl) _
end Go.Proofs.YtdpacaomkahgfaaGreatDoor.HV

namespace Go.Proofs.YtdpacaomkahgfaaGreatDoor.HV
open Go.RowKit Go.Proofs.YtdpacaomkahgfaaGreatDoor.HeapM
variable {fn : Nat} {lt : (Int × Int × Int) → (Int × Int × Int) → Bool}

theorem enc_one (x : (Int × Int × Int) × Int) : ∀ u ∈ enc x, u.oneCell' = true := by
  intro u hu
  simp [enc] at hu
  rcases hu with rfl | rfl | rfl | rfl <;> rfl
theorem news_at (w : World) (T : TypeId) (x : (Int × Int × Int) × Int) (b : Nat) (hb : w.heap.size = b) : ∀ j u, (enc x)[j]? = some u → ((w.alloc (.cells (enc x).toArray T)).drew).cell? ((⟨b, 0, none⟩ : Addr).add j) = some u := by
  intro j u hu
  subst hb
  have hj : ((⟨w.heap.size, 0, none⟩ : Addr).add j) = ⟨w.heap.size, j, none⟩ := by unfold Addr.add; split <;> simp_all
  rw [hj]
  have : ((w.alloc (.cells (enc x).toArray T)).drew).heap[w.heap.size]? = some (.cells (enc x).toArray T (0, 0)) := heap_alloc_new w _
  simp only [World.cell?, this]
  simpa using hu

theorem mem_snoc {W : World} {T E p : Nat} {f v : Value} {l : List ((Int × Int × Int) × Int)} {y : (Int × Int × Int) × Int} {d : Int} (h : HeapMem W T E 4 p f v (l.length + 1) (l.flatMap enc ++ enc y) d) : HeapMem W T E 4 p f v (l ++ [y]).length ((l ++ [y]).flatMap enc) d := by
  have e1 : (l ++ [y]).length = l.length + 1 := by simp
  have e2 : (l ++ [y]).flatMap enc = l.flatMap enc ++ enc y := by simp
  rw [e1, e2]
  exact h

/-- What a push leaves. -/
def Pushed (lt : (Int × Int × Int) → (Int × Int × Int) → Bool) (fn p : Nat) (v : Value) (L : List (Int × Int × Int)) (c : Int) (x : (Int × Int × Int)) (w : World) (e : Ending) (w' : World) : Prop :=
  e = .returned (.tuple #[]) ∧ ∃ v', Is lt fn p w' v' (L ++ [x]) (c + 1) ∧ Out (Foot p v) w w' ∧ ∀ b, v'.ownBlock = some b → v.ownBlock = some b ∨ w.heap.size ≤ b

set_option maxHeartbeats 2000000 in
set_option maxRecDepth 100000 in
theorem push (hL : LessAt fn lt) (p : Nat) (v : Value) (L : List (Int × Int × Int)) (c : Int) (x : (Int × Int × Int)) (w : World) (h : Is lt fn p w v L c) (hc : c ≤ 999999) :
    Calls Tryz.prog 73 #[.pointer (some ⟨p, 0, none⟩), (.agg #[.int .i64 x.1, .int .i64 x.2.1, .int .i64 x.2.2])] w (Pushed lt fn p v L c x w) := by
  obtain ⟨l, h, hSt⟩ := h
  obtain ⟨i0, hi, hz0, hz1, hz2⟩ := info_parts infoE
  have HL := Lib.hid hL
  have HS := Lib.hid hSt
  have hc0 : (l.length : Int) ≤ c := by rw [hSt.hold.len]; exact hSt.hold.room
  have hln : l.length ≤ 999999 := by omega
  obtain ⟨ao, cap, rfl, hcap, _⟩ := h.form0
  have H := Lib.hid h
  have h1 := h.c1
  have h2 := h.c2
  have hp := h.lt
  clear h hSt hL
  go_enter Tryz.func73, Tryz.ntmps73
  go_wp2
  go_region_law (refine step_push rfl (.tmp 10) (.tmp 17) 157 rfl 159 161 i0 (.agg #[.int .i64 0, .int .i64 0, .int .i64 0, .int .i64 0]) 4 32 Tryz.underlying157 hi hz0 hz1 hz2 rfl (by decide) p l.length (.func (.func fn) #[] #[]) (.slice ao l.length cap) (l.flatMap enc) c H.out (((Below.refl _ _).alloc (Nat.le_refl _) _).alloc (by simp) _).drew (by simp [Act.eval]) ⟨w.heap.size + 1, 0, none⟩ 1 (enc (x, c)) (by simp [Act.eval]) rfl (news_at (w.alloc _) _ _ _ (by simp)) (enc_one _) (by unfold maxLen; omega) (by omega) ?_; intro g' cap' w1 A; have k1 := A.k1; have k2 := A.k2; have e1 := A.e1; have e2 := A.e2; have HA := Lib.hid A; clear A)
  all_goals
    go_wp2_with (go_at_call 100; refine (riseZ HL.out (l := l ++ [(x, c)]) (mem_snoc (HA.out.mem (c + 1))) (by simp) (by omega) _ l.length rfl (by omega) (push_rise HS.out.hp (x, c))).mono ?_; rintro e w9 ⟨rfl, l', R, hp'⟩)
    go_end0
    refine ⟨rfl, _, ⟨l', R.mem, ⟨(HS.out.hold.push x).perm R.perm, hp'⟩⟩, ?_, ?_⟩
    · have o1 : Out (Foot p (.slice ao l.length cap)) w w1 := Out.grown (Out.ofBelow (((Below.refl _ _).alloc (Nat.le_refl _) _).alloc (by simp) _).drew) HA.out.grow (fun i _ e => Or.inr e)
      have o2 := (o1.setCell (p := ⟨p, 1, none⟩) (fun _ => Or.inl rfl) (.slice (some ⟨g', 0, none⟩) (l.length + 1) cap')).setCell (p := ⟨p, 2, none⟩) (fun _ => Or.inl rfl) (.int .i64 (c + 1))
      refine o2.trans R.out (fun i hi e => ?_)
      subst e
      rcases HA.out.fresh with h | h
      · exact Or.inr h
      · have := h
        simp at this
        omega
    · intro b hb
      have hbg : g' = b := by simpa [Value.ownBlock] using hb
      subst hbg
      rcases HA.out.fresh with h | h
      · exact Or.inl h
      · refine Or.inr ?_
        simp at h
        omega
end Go.Proofs.YtdpacaomkahgfaaGreatDoor.HV

namespace Go.Proofs.YtdpacaomkahgfaaGreatDoor.HV
open Go.RowKit Go.Proofs.YtdpacaomkahgfaaGreatDoor.HeapM
variable {fn : Nat} {lt : (Int × Int × Int) → (Int × Int × Int) → Bool}

theorem Is.size {p : Nat} {w : World} {v : Value} {L : List (Int × Int × Int)} {c : Int} (h : Is lt fn p w v L c) : p < w.heap.size := by
  obtain ⟨l, h, _⟩ := h
  exact h.lt
theorem Is.foot {p : Nat} {w : World} {v : Value} {L : List (Int × Int × Int)} {c : Int} (h : Is lt fn p w v L c) : ∀ b, Foot p v b → b < w.heap.size := by
  obtain ⟨l, h, _⟩ := h
  rintro b (rfl | hb)
  · exact h.lt
  · exact (h.row.lt b hb).2
theorem Is.out {p : Nat} {w w' : World} {v : Value} {L : List (Int × Int × Int)} {c : Int} {S : Nat → Prop} (h : Is lt fn p w v L c) (o : Out S w w') (hS : ∀ b, Foot p v b → ¬ S b) : Is lt fn p w' v L c := by
  obtain ⟨l, h, hs⟩ := h
  exact ⟨l, h.out o (hS p (Or.inl rfl)) (fun b hb => hS b (Or.inr hb)), hs⟩
theorem Is.below {p : Nat} {w w' : World} {v : Value} {L : List (Int × Int × Int)} {c : Int} (h : Is lt fn p w v L c) (o : Below w.heap.size w w') : Is lt fn p w' v L c :=
  h.out (S := fun _ => False) (Out.ofBelow o) (fun _ _ e => e)
theorem Is.first {p : Nat} {w : World} {v : Value} {L : List (Int × Int × Int)} {c : Int} (hL : LessAt fn lt) (h : Is lt fn p w v L c) (hne : 0 < L.length) : ∃ a, First lt L a := by
  obtain ⟨l, _, hs⟩ := h
  obtain ⟨a, ha, _⟩ := hs.top hL.ord (by rw [hs.hold.len]; exact hne)
  exact ⟨a, ha⟩
theorem Is.room {p : Nat} {w : World} {v : Value} {L : List (Int × Int × Int)} {c : Int} (h : Is lt fn p w v L c) : (L.length : Int) ≤ c := by
  obtain ⟨l, _, hs⟩ := h
  exact hs.hold.room

/-- What New leaves. -/
def Made (lt : (Int × Int × Int) → (Int × Int × Int) → Bool) (fn : Nat) (w : World) (e : Ending) (w' : World) : Prop :=
  e = .returned (.pointer (some ⟨w.heap.size, 0, none⟩)) ∧ Is lt fn w.heap.size w' (.slice none 0 0) [] 0 ∧ Below w.heap.size w w'
set_option maxHeartbeats 400000 in
theorem new (w : World) : Calls Tryz.prog 70 #[.func (.func fn) #[] #[]] w (Made lt fn w) := by
  go_enter Tryz.func70, Tryz.ntmps70
  go_wp2
  go_ret
  refine ⟨rfl, ⟨[], ⟨?_, World.ownsRow_nil _ _ _ _, by simp [Value.ownBlock]⟩, St.nil⟩, (Below.refl _ _).alloc (Nat.le_refl _) _⟩
  exact heap_alloc_new w _

set_option maxHeartbeats 400000 in
theorem len (p : Nat) (v : Value) (L : List (Int × Int × Int)) (c : Int) (w : World) (h : Is lt fn p w v L c) :
    Calls Tryz.prog 126 #[.pointer (some ⟨p, 0, none⟩)] w fun e w' => e = .returned (.int .i64 L.length) ∧ w = w' := by
  obtain ⟨l, h, hs⟩ := h
  obtain ⟨ao, cap, rfl, _, _⟩ := h.form0
  have h1 := h.c1
  rw [← hs.hold.len]
  clear h hs
  go_enter Tryz.func126, Tryz.ntmps126
  go_wp2
  go_ret
  exact ⟨rfl, rfl⟩
set_option maxHeartbeats 400000 in
theorem len_nil (w : World) :
    Calls Tryz.prog 126 #[.pointer none] w fun e w' => e = .returned (.int .i64 0) ∧ w = w' := by
  go_enter Tryz.func126, Tryz.ntmps126
  go_wp2
  go_ret
  exact ⟨rfl, rfl⟩

/-- An answer that leaves all that was there. -/
def Told (r : Value) (w : World) (e : Ending) (w' : World) : Prop := e = .returned r ∧ Below w.heap.size w w'
set_option maxHeartbeats 400000 in
theorem top_none (p : Nat) (v : Value) (c : Int) (w : World) (h : Is lt fn p w v [] c) :
    Calls Tryz.prog 101 #[.pointer (some ⟨p, 0, none⟩)] w (Told (.tuple #[.agg #[.int .i64 0, .int .i64 0, .int .i64 0], .bool false]) w) := by
  have H := Lib.hid h
  clear h
  go_enter Tryz.func101, Tryz.ntmps101
  go_wp2_with (go_at_call 126; refine (len p v [] c _ (H.out.below ((Below.refl _ _).alloc (Nat.le_refl _) _))).mono ?_; rintro e w' ⟨rfl, rfl⟩)
  go_returns
  exact ⟨rfl, by go_grown⟩
set_option maxHeartbeats 400000 in
theorem top_nil (w : World) : Calls Tryz.prog 101 #[.pointer none] w (Told (.tuple #[.agg #[.int .i64 0, .int .i64 0, .int .i64 0], .bool false]) w) := by
  go_enter Tryz.func101, Tryz.ntmps101
  go_wp2_with (go_at_call 126; refine (len_nil _).mono ?_; rintro e w' ⟨rfl, rfl⟩)
  go_returns
  exact ⟨rfl, by go_grown⟩
set_option maxHeartbeats 400000 in
theorem top_some (hL : LessAt fn lt) (p : Nat) (v : Value) (L : List (Int × Int × Int)) (c : Int) (w : World) (h : Is lt fn p w v L c) (a : Nat) (ha : First lt L a) :
    Calls Tryz.prog 101 #[.pointer (some ⟨p, 0, none⟩)] w (Told (.tuple #[(.agg #[.int .i64 (L.getD a default).1, .int .i64 (L.getD a default).2.1, .int .i64 (L.getD a default).2.2]), .bool true]) w) := by
  have H := Lib.hid h
  obtain ⟨l, h, hs⟩ := h
  have hne : 0 < L.length := Nat.lt_of_le_of_lt (Nat.zero_le _) ha.1
  have hln := hs.hold.len
  obtain ⟨a', ha', hx, _⟩ := hs.top hL.ord (by omega)
  obtain rfl := First.uniq ha ha'
  obtain ⟨g, cap, rfl, _, _, hpg, hgs⟩ := h.form (by omega)
  have h1 := h.c1
  have hA := Lib.hid (cells_at h rfl 0 (by omega))
  have hps := h.lt
  have HL := Lib.hid hln
  have hb : ((L.length : Int) == 0) = false := by simp; intro e; subst e; simp at hne
  have hlp : 0 < l.length := by omega
  clear h hs ha ha' hL hln hne
  generalize L.getD a default = t at *
  generalize at_ l 0 = x at *
  subst hx
  have a0 : w.cell? ⟨g, 0, none⟩ = some (.int .i64 x.1.1) := by have := hA.out 0 (by omega); rw [Nat.zero_mul, Nat.zero_add] at this; exact this
  have a1 : w.cell? ⟨g, 1, none⟩ = some (.int .i64 x.1.2.1) := by have := hA.out 1 (by omega); rw [Nat.zero_mul, Nat.zero_add] at this; exact this
  have a2 : w.cell? ⟨g, 2, none⟩ = some (.int .i64 x.1.2.2) := by have := hA.out 2 (by omega); rw [Nat.zero_mul, Nat.zero_add] at this; exact this
  have a3 : w.cell? ⟨g, 3, none⟩ = some (.int .i64 x.2) := by have := hA.out 3 (by omega); rw [Nat.zero_mul, Nat.zero_add] at this; exact this
  clear hA
  go_enter Tryz.func101, Tryz.ntmps101
  go_wp2_with (go_at_call 126; refine (len p _ L c _ (H.out.below ((Below.refl _ _).alloc (Nat.le_refl _) _))).mono ?_; rintro e w' ⟨rfl, rfl⟩)
  go_returns
  exact ⟨rfl, by go_grown⟩
end Go.Proofs.YtdpacaomkahgfaaGreatDoor.HV

namespace Go.Proofs.YtdpacaomkahgfaaGreatDoor.HV
open Go.RowKit Go.Proofs.YtdpacaomkahgfaaGreatDoor.HeapM
variable {fn : Nat} {lt : (Int × Int × Int) → (Int × Int × Int) → Bool}

theorem top_x (hL : LessAt fn lt) {p : Nat} {v : Value} {L : List (Int × Int × Int)} {c : Int} {w : World} (h : Is lt fn p w v L c) {a : Nat} (ha : First lt L a) (x : (Int × Int × Int)) (hx : L.getD a default = x) :
    Calls Tryz.prog 101 #[.pointer (some ⟨p, 0, none⟩)] w (Told (.tuple #[(.agg #[.int .i64 x.1, .int .i64 x.2.1, .int .i64 x.2.2]), .bool true]) w) := by
  subst hx
  exact top_some hL p v L c w h a ha
/-- What Pop leaves. -/
def Popped (lt : (Int × Int × Int) → (Int × Int × Int) → Bool) (fn p : Nat) (v : Value) (L : List (Int × Int × Int)) (c : Int) (a : Nat) (x : (Int × Int × Int)) (w : World) (e : Ending) (w' : World) : Prop :=
  e = .returned (.tuple #[(.agg #[.int .i64 x.1, .int .i64 x.2.1, .int .i64 x.2.2]), .bool true]) ∧ ∃ v', Is lt fn p w' v' (L.eraseIdx a) c ∧ Out (Foot p v) w w' ∧ ∀ b, v'.ownBlock = some b → v.ownBlock = some b ∨ w.heap.size ≤ b
set_option maxHeartbeats 400000 in
theorem pop_none (p : Nat) (v : Value) (c : Int) (w : World) (h : Is lt fn p w v [] c) :
    Calls Tryz.prog 74 #[.pointer (some ⟨p, 0, none⟩)] w (Told (.tuple #[.agg #[.int .i64 0, .int .i64 0, .int .i64 0], .bool false]) w) := by
  have H := Lib.hid h
  clear h
  go_enter Tryz.func74, Tryz.ntmps74
  go_wp2_with (go_at_call 101; refine (top_none p v c _ (H.out.below ((Below.refl _ _).alloc (Nat.le_refl _) _))).mono ?_; rintro e w1 ⟨rfl, hb⟩; have z1 : w.heap.size < w1.heap.size := (by have := hb.size; simp at this; omega); have Q1 : Hid (Below w.heap.size w w1) := Lib.hid (((Below.refl _ _).alloc (Nat.le_refl _) _).trans (hb.mono (by simp))); have r0 : w1.cell? ⟨w.heap.size, 0, none⟩ = some (.int .i64 0) := (by rw [hb.cell (by simp)]; go_simp); have r1 : w1.cell? ⟨w.heap.size, 1, none⟩ = some (.int .i64 0) := (by rw [hb.cell (by simp)]; go_simp); have r2 : w1.cell? ⟨w.heap.size, 2, none⟩ = some (.int .i64 0) := (by rw [hb.cell (by simp)]; go_simp); have f0 : w1.frozen? ⟨w.heap.size, 0, none⟩ = false := (by rw [hb.frozen (by simp)]; go_simp); have f1 : w1.frozen? ⟨w.heap.size, 1, none⟩ = false := (by rw [hb.frozen (by simp)]; go_simp); have f2 : w1.frozen? ⟨w.heap.size, 2, none⟩ = false := (by rw [hb.frozen (by simp)]; go_simp); clear hb)
  refine bodyPost_ret (v := .tuple #[.agg #[.int .i64 0, .int .i64 0, .int .i64 0], .bool false]) (by simp [results, Tryz.results74, go_sem, r0, r1, r2, z1]) rfl ⟨rfl, ?_⟩
  have hq := Q1.out
  go_grown
set_option maxHeartbeats 400000 in
theorem pop_nil (w : World) : Calls Tryz.prog 74 #[.pointer none] w (Told (.tuple #[.agg #[.int .i64 0, .int .i64 0, .int .i64 0], .bool false]) w) := by
  go_enter Tryz.func74, Tryz.ntmps74
  go_wp2_with (go_at_call 101; refine (top_nil _).mono ?_; rintro e w1 ⟨rfl, hb⟩; have z1 : w.heap.size < w1.heap.size := (by have := hb.size; simp at this; omega); have Q1 : Hid (Below w.heap.size w w1) := Lib.hid (((Below.refl _ _).alloc (Nat.le_refl _) _).trans (hb.mono (by simp))); have r0 : w1.cell? ⟨w.heap.size, 0, none⟩ = some (.int .i64 0) := (by rw [hb.cell (by simp)]; go_simp); have r1 : w1.cell? ⟨w.heap.size, 1, none⟩ = some (.int .i64 0) := (by rw [hb.cell (by simp)]; go_simp); have r2 : w1.cell? ⟨w.heap.size, 2, none⟩ = some (.int .i64 0) := (by rw [hb.cell (by simp)]; go_simp); have f0 : w1.frozen? ⟨w.heap.size, 0, none⟩ = false := (by rw [hb.frozen (by simp)]; go_simp); have f1 : w1.frozen? ⟨w.heap.size, 1, none⟩ = false := (by rw [hb.frozen (by simp)]; go_simp); have f2 : w1.frozen? ⟨w.heap.size, 2, none⟩ = false := (by rw [hb.frozen (by simp)]; go_simp); clear hb)
  refine bodyPost_ret (v := .tuple #[.agg #[.int .i64 0, .int .i64 0, .int .i64 0], .bool false]) (by simp [results, Tryz.results74, go_sem, r0, r1, r2, z1]) rfl ⟨rfl, ?_⟩
  have hq := Q1.out
  go_grown
set_option maxHeartbeats 400000 in
theorem push_nil (x : (Int × Int × Int)) (w : World) : Calls Tryz.prog 73 #[.pointer none, (.agg #[.int .i64 x.1, .int .i64 x.2.1, .int .i64 x.2.2])] w (Told (.tuple #[]) w) := by
  go_enter Tryz.func73, Tryz.ntmps73
  go_wp2
  go_returns
  exact ⟨rfl, by go_grown⟩

/-- Behind the top: the row's own parts. -/
theorem dropTopI (hL : LessAt fn lt) (p : Nat) (v : Value) (L : List (Int × Int × Int)) (c : Int) (w : World) (h : Is lt fn p w v L c) (hc : c ≤ 1000000) (a : Nat) (ha : First lt L a) :
    Calls Tryz.prog 102 #[.pointer (some ⟨p, 0, none⟩)] w fun e w' => e = .returned (.tuple #[]) ∧ ∃ v', Is lt fn p w' v' (L.eraseIdx a) c ∧ Out (Foot p v) w w' ∧ ∀ b, v'.ownBlock = some b → v.ownBlock = some b := by
  obtain ⟨l, h, hs⟩ := h
  have hln := hs.hold.len
  have hne : 0 < L.length := Nat.lt_of_le_of_lt (Nat.zero_le _) ha.1
  have hr := hs.hold.room
  obtain ⟨a', ha', _, hd⟩ := hs.top hL.ord (by omega)
  obtain rfl := First.uniq ha ha'
  obtain ⟨m, hm⟩ : ∃ m, l.length = m + 1 := ⟨l.length - 1, by omega⟩
  obtain ⟨g, cap, hv, _, _, hpg, hgs⟩ := h.form (by omega)
  subst hv
  have h' : HeapMem w 159 161 4 p (.func (.func fn) #[] #[]) (.slice (some ⟨g, 0, none⟩) (m + 1) cap) l.length (l.flatMap enc) c := hm ▸ h
  refine (dropTop hL p g m cap l c w h' hm.symm (by omega) hs.hp).mono ?_
  rintro e w' ⟨rfl, l', hp, hh, hml, hmem, ho⟩
  refine ⟨rfl, _, ⟨l', hmem, ⟨hd.perm hp, hh⟩⟩, ho.mono (fun i _ e => ?_), fun b hb => ?_⟩
  · rcases e with e | e
    · exact Or.inl e
    · exact Or.inr (by subst e; rfl)
  · simpa [Value.ownBlock] using hb

set_option maxHeartbeats 800000 in
theorem pop_some (hL : LessAt fn lt) (p : Nat) (v : Value) (L : List (Int × Int × Int)) (c : Int) (w : World) (h : Is lt fn p w v L c) (hc : c ≤ 1000000) (a : Nat) (ha : First lt L a) (x : (Int × Int × Int)) (hx : L.getD a default = x) :
    Calls Tryz.prog 74 #[.pointer (some ⟨p, 0, none⟩)] w (Popped lt fn p v L c a x w) := by
  have H := Lib.hid h
  have HA := Lib.hid ha
  have HL := Lib.hid hL
  have HF := Lib.hid h.foot
  have HX := Lib.hid hx
  clear h ha hL hx
  go_enter Tryz.func74, Tryz.ntmps74
  go_wp2_with (first
    | (go_at_call 101; refine (top_x HL.out (H.out.below ((Below.refl _ _).alloc (Nat.le_refl _) _)) HA.out x HX.out).mono ?_; rintro e w1 ⟨rfl, hb⟩; have z1 : w.heap.size < w1.heap.size := (by have := hb.size; simp at this; omega); have B1 : Hid (Below w.heap.size w w1) := Lib.hid (((Below.refl _ _).alloc (Nat.le_refl _) _).trans (hb.mono (by simp))); have C1 := Lib.hid hb; clear hb)
    | (go_at_call 102; refine (dropTopI HL.out p v L c _ (H.out.below (B1.out.alloc (by omega) _)) hc a HA.out).mono ?_; rintro e w2 ⟨rfl, v', hI, ho, hf⟩; have I2 := Lib.hid hI; have O2 := Lib.hid ho; have F2 := Lib.hid hf; have z2 : w1.heap.size < w2.heap.size := (by have := ho.size; simp at this; omega); have z3 : w.heap.size < w2.heap.size := (by omega); have q0 : w2.cell? ⟨w1.heap.size, 0, none⟩ = some (.int .i64 x.1) := (by rw [ho.cell _ (by simp) (fun e => by have := HF.out _ e; omega)]; go_simp); have q1 : w2.cell? ⟨w1.heap.size, 1, none⟩ = some (.int .i64 x.2.1) := (by rw [ho.cell _ (by simp) (fun e => by have := HF.out _ e; omega)]; go_simp); have q2 : w2.cell? ⟨w1.heap.size, 2, none⟩ = some (.int .i64 x.2.2) := (by rw [ho.cell _ (by simp) (fun e => by have := HF.out _ e; omega)]; go_simp); have r0 : w2.cell? ⟨w.heap.size, 0, none⟩ = some (.int .i64 0) := (by rw [ho.cell _ (by simp; omega) (fun e => by have := HF.out _ e; omega), Below.cell ((Below.refl w1.heap.size w1).alloc (Nat.le_refl _) _) z1, C1.out.cell (by simp)]; go_simp); have r1 : w2.cell? ⟨w.heap.size, 1, none⟩ = some (.int .i64 0) := (by rw [ho.cell _ (by simp; omega) (fun e => by have := HF.out _ e; omega), Below.cell ((Below.refl w1.heap.size w1).alloc (Nat.le_refl _) _) z1, C1.out.cell (by simp)]; go_simp); have r2 : w2.cell? ⟨w.heap.size, 2, none⟩ = some (.int .i64 0) := (by rw [ho.cell _ (by simp; omega) (fun e => by have := HF.out _ e; omega), Below.cell ((Below.refl w1.heap.size w1).alloc (Nat.le_refl _) _) z1, C1.out.cell (by simp)]; go_simp); have f0 : w2.frozen? ⟨w.heap.size, 0, none⟩ = false := (by rw [ho.frz _ (by simp; omega) (fun e => by have := HF.out _ e; omega), Below.frozen ((Below.refl w1.heap.size w1).alloc (Nat.le_refl _) _) z1, C1.out.frozen (by simp)]; go_simp); have f1 : w2.frozen? ⟨w.heap.size, 1, none⟩ = false := (by rw [ho.frz _ (by simp; omega) (fun e => by have := HF.out _ e; omega), Below.frozen ((Below.refl w1.heap.size w1).alloc (Nat.le_refl _) _) z1, C1.out.frozen (by simp)]; go_simp); have f2 : w2.frozen? ⟨w.heap.size, 2, none⟩ = false := (by rw [ho.frz _ (by simp; omega) (fun e => by have := HF.out _ e; omega), Below.frozen ((Below.refl w1.heap.size w1).alloc (Nat.le_refl _) _) z1, C1.out.frozen (by simp)]; go_simp); clear hI ho hf))
  refine bodyPost_ret (v := .tuple #[(.agg #[.int .i64 x.1, .int .i64 x.2.1, .int .i64 x.2.2]), .bool true]) (by simp [results, Tryz.results74, go_sem, r0, r1, r2]) rfl ⟨rfl, v', ?_, ?_, fun b hb => Or.inl (F2.out b hb)⟩
  · refine I2.out.out (S := fun b => b = w.heap.size) ((((Out.refl _ _).setIn _ _).setIn _ _).setIn _ _) (fun b hb e => ?_)
    have hlt : b < w.heap.size := HF.out b (by rcases hb with hb | hb; exact Or.inl hb; exact Or.inr (F2.out b hb))
    omega
  · refine Out.setCell (Out.setCell (Out.setCell ((Out.ofBelow (B1.out.alloc (by omega) _)).trans O2.out (fun _ _ e => e)) (fun h => absurd h (by simp)) _) (fun h => absurd h (by simp)) _) (fun h => absurd h (by simp)) _
end Go.Proofs.YtdpacaomkahgfaaGreatDoor.HV
