/-
  The heap of muntin/flow.visit: an item rises, an item sinks. Conditions: the row is a heap but for that item.
-/
import Derived.Test.YtkloaekmjnbacaaHeapVW
import Derived.LoopTactic
namespace Go.Proofs.Ytkloaekmjnbacaa.HV
open Go.RowKit Go.Proofs.Ytkloaekmjnbacaa.HeapM
variable {fn : Nat} {lt : (Int × Int × Int) → (Int × Int × Int) → Bool}

/-- Which comes ahead, told. -/
theorem aheadZ (hL : LessAt fn lt) {T E p g n cap : Nat} {l : List ((Int × Int × Int) × Int)} {c : Int} {w : World} (h : HeapMem w T E 4 p (.func (.func fn) #[] #[]) (.slice (some ⟨g, 0, none⟩) n cap) l.length (l.flatMap enc) c)
    (hn : n = l.length) (hs : n ≤ 1000000) (i j : Int) (a b : Nat) (ei : i = a) (ej : j = b) (hi : a < n) (hj : b < n) (r : Bool) (hr : ahd lt (at_ l a) (at_ l b) = r) :
    Calls Try.prog 78 #[.pointer (some ⟨p, 0, none⟩), .int .i64 i, .int .i64 j] w fun e w' => e = .returned (.bool r) ∧ Below w.heap.size w w' := by
  subst ei ej hr
  exact ahead hL T E p g n cap a b l c w h hn (by omega) (by omega) (by omega)
theorem swapZ {T E p g n cap : Nat} {l : List ((Int × Int × Int) × Int)} {f : Value} {c : Int} {w : World} (h : HeapMem w T E 4 p f (.slice (some ⟨g, 0, none⟩) n cap) l.length (l.flatMap enc) c)
    (hn : n = l.length) (hs : n ≤ 1000000) (i j : Int) (a b : Nat) (ei : i = a) (ej : j = b) (hi : a < n) (hj : b < n) (hij : a ≠ b) :
    Calls Try.prog 79 #[.pointer (some ⟨p, 0, none⟩), .int .i64 i, .int .i64 j] w fun e w' => e = .returned (.tuple #[]) ∧
      HeapMem w' T E 4 p f (.slice (some ⟨g, 0, none⟩) n cap) (sw l a b).length ((sw l a b).flatMap enc) c ∧ Out (fun b => b = g) w w' := by
  subst ei ej
  exact swap T E p g n cap a b l f c w h hn (by omega) (by omega) (by omega) hij

/-- A row that has the same items, in another order. -/
structure Row (lt : (Int × Int × Int) → (Int × Int × Int) → Bool) (fn T E p g n cap : Nat) (l : List ((Int × Int × Int) × Int)) (c : Int) (w wr : World) (l' : List ((Int × Int × Int) × Int)) : Prop where
  len : n = l'.length
  perm : l'.Perm l
  mem : HeapMem wr T E 4 p (.func (.func fn) #[] #[]) (.slice (some ⟨g, 0, none⟩) n cap) l'.length (l'.flatMap enc) c
  out : Out (fun b => b = g) w wr
def Done (lt : (Int × Int × Int) → (Int × Int × Int) → Bool) (fn T E p g n cap : Nat) (l : List ((Int × Int × Int) × Int)) (c : Int) (w : World) (e : Ending) (w' : World) : Prop :=
  e = .returned (.tuple #[]) ∧ ∃ l', Row lt fn T E p g n cap l c w w' l' ∧ Hp lt l'
def RiseRel (lt : (Int × Int × Int) → (Int × Int × Int) → Bool) (fn T E p g n cap : Nat) (l : List ((Int × Int × Int) × Int)) (c : Int) (w wr : World) (iv : Value) : Prop :=
  ∃ (i : Nat) (l' : List ((Int × Int × Int) × Int)), iv = .int .i64 i ∧ i < n ∧ Row lt fn T E p g n cap l c w wr l' ∧ HpR lt l' i
def SinkRel (lt : (Int × Int × Int) → (Int × Int × Int) → Bool) (fn T E p g n cap : Nat) (l : List ((Int × Int × Int) × Int)) (c : Int) (w wr : World) (iv : Value) : Prop :=
  ∃ (i : Nat) (l' : List ((Int × Int × Int) × Int)), iv = .int .i64 i ∧ i ≤ n ∧ Row lt fn T E p g n cap l c w wr l' ∧ HpS lt l' i
theorem Row.step {T E p g n cap : Nat} {l l' : List ((Int × Int × Int) × Int)} {c : Int} {w wr w1 w2 : World} (R : Row lt fn T E p g n cap l c w wr l') (hb : Below wr.heap.size wr w1) {a b : Nat} (ha : a < n) (hb' : b < n)
    (hm : HeapMem w2 T E 4 p (.func (.func fn) #[] #[]) (.slice (some ⟨g, 0, none⟩) n cap) (sw l' a b).length ((sw l' a b).flatMap enc) c) (ho : Out (fun b => b = g) w1 w2) : Row lt fn T E p g n cap l c w w2 (sw l' a b) :=
  ⟨by rw [sw_length]; exact R.len, (sw_perm l' (by have := R.len; omega) (by have := R.len; omega)).trans R.perm, hm, (R.out.trans (Out.ofBelow (S := fun b => b = g) hb) (fun _ _ e => e)).trans ho (fun _ _ e => e)⟩
theorem Row.below {T E p g n cap : Nat} {l l' : List ((Int × Int × Int) × Int)} {c : Int} {w wr w1 : World} (R : Row lt fn T E p g n cap l c w wr l') (hb : Below wr.heap.size wr w1) : Row lt fn T E p g n cap l c w w1 l' :=
  ⟨R.len, R.perm, R.mem.below hb, R.out.trans (Out.ofBelow (S := fun b => b = g) hb) (fun _ _ e => e)⟩

set_option maxHeartbeats 1000000 in
theorem rise (hL : LessAt fn lt) (T E p g n cap i : Nat) (l : List ((Int × Int × Int) × Int)) (c : Int) (w : World) (h : HeapMem w T E 4 p (.func (.func fn) #[] #[]) (.slice (some ⟨g, 0, none⟩) n cap) l.length (l.flatMap enc) c)
    (hn : n = l.length) (hs : n ≤ 1000000) (hi : i < n) (hR : HpR lt l i) :
    Calls Try.prog 64 #[.pointer (some ⟨p, 0, none⟩), .int .i64 i] w (Done lt fn T E p g n cap l c w) := by
  have H0 := Lib.hid h
  have HN := Lib.hid hn
  have HR := Lib.hid hR
  have HL := Lib.hid hL
  clear h hn hR hL
  go_enter Try.func64, Try.ntmps64
  go_wp2
  go_loopw [1] (fun iv wr => RiseRel lt fn T E p g n cap l c w wr iv) (fun iv _ => (intOf iv).toNat)
  case atStart => exact ⟨i, l, rfl, hi, ⟨HN.out, List.Perm.refl _, H0.out, Out.refl _ _⟩, HR.out⟩
  case round =>
    clear hi
    obtain ⟨i, l', rfl, hi, R, hR⟩ := hrel
    have R := Lib.hid R
    have HR := Lib.hid hR
    clear hR
    by_cases h0 : 0 < i
    · cases hb : ahd lt (at_ l' i) (at_ l' ((i - 1) / 2))
      · have HB := Lib.hid hb
        clear hb
        go_wp2_with (go_at_call 78; refine (aheadZ HL.out R.out.mem R.out.len hs _ _ i ((i - 1) / 2) (by omega) (by omega) (by omega) (by omega) false HB.out).mono ?_; rintro e w1 ⟨rfl, hb1⟩)
        go_end0
        exact ⟨rfl, l', R.out.below hb1, rise_done HR.out HB.out⟩
      · have HB := Lib.hid hb
        clear hb
        go_wp2_with (first
          | (go_at_call 78; refine (aheadZ HL.out R.out.mem R.out.len hs _ _ i ((i - 1) / 2) (by omega) (by omega) (by omega) (by omega) true HB.out).mono ?_; rintro e w1 ⟨rfl, hb1⟩; have B1 := Lib.hid hb1; clear hb1)
          | (go_at_call 79; refine (swapZ (R.out.mem.below B1.out) R.out.len hs _ _ i ((i - 1) / 2) (by omega) (by omega) (by omega) (by omega) (by omega)).mono ?_; rintro e w2 ⟨rfl, hm, ho⟩; have M2 := Lib.hid hm; have O2 := Lib.hid ho; clear hm ho))
        go_roundw
        case rel => exact ⟨(i - 1) / 2, sw l' i ((i - 1) / 2), by go_num, by omega, R.out.step B1.out (by omega) (by omega) M2.out O2.out, rise_step HL.out.ord HR.out h0 (by have := R.out.len; omega) HB.out⟩
        case measure => simp [intOf]; omega
    · go_wp2
      go_end0
      exact ⟨rfl, l', R.out, rise_done0 HR.out (by omega)⟩

set_option maxHeartbeats 2000000 in
theorem sink (hL : LessAt fn lt) (T E p g n cap i : Nat) (l : List ((Int × Int × Int) × Int)) (c : Int) (w : World) (h : HeapMem w T E 4 p (.func (.func fn) #[] #[]) (.slice (some ⟨g, 0, none⟩) n cap) l.length (l.flatMap enc) c)
    (hn : n = l.length) (hs : n ≤ 1000000) (hi : i ≤ n) (hR : HpS lt l i) :
    Calls Try.prog 81 #[.pointer (some ⟨p, 0, none⟩), .int .i64 i] w (Done lt fn T E p g n cap l c w) := by
  have H0 := Lib.hid h
  have HN := Lib.hid hn
  have HR := Lib.hid hR
  have HL := Lib.hid hL
  clear h hn hR hL
  go_enter Try.func81, Try.ntmps81
  go_wp2
  go_loopw [1] (fun iv wr => SinkRel lt fn T E p g n cap l c w wr iv) (fun iv _ => n - (intOf iv).toNat)
  case atStart => exact ⟨i, l, rfl, hi, ⟨HN.out, List.Perm.refl _, H0.out, Out.refl _ _⟩, HR.out⟩
  case round =>
    clear hi
    obtain ⟨i, l', rfl, hi, R, hR⟩ := hrel
    have R := Lib.hid R
    have HR := Lib.hid hR
    have h1 := R.out.mem.c1
    clear hR
    by_cases h0 : n ≤ 2 * i + 1
    · go_wp2
      go_end0
      exact ⟨rfl, l', R.out, sink_done HR.out (by have := R.out.len; omega)⟩
    by_cases h2 : n ≤ 2 * i + 2
    · have hmin : Hid (∀ d, (d = 2 * i + 1 ∨ d = 2 * i + 2) → d < l'.length → le lt (at_ l' (2 * i + 1)) (at_ l' d)) := fun d hd hdl => by
        have hl := R.out.len
        obtain rfl : d = 2 * i + 1 := by omega
        exact le_refl HL.out.ord _
      cases hb : ahd lt (at_ l' (2 * i + 1)) (at_ l' i)
      · have HB := Lib.hid hb
        clear hb
        go_wp2_with (go_at_call 78; refine (aheadZ HL.out (R.out.mem) R.out.len hs (_) (_) (2 * i + 1) (i) (by omega) (by omega) (by omega) (by omega) false HB.out).mono ?_; rintro e w1 ⟨rfl, hb1⟩; have B1 := Lib.hid (hb1); clear hb1)
        go_end0
        exact ⟨rfl, l', R.out.below B1.out, sink_done2 HL.out.ord HR.out hmin.out HB.out⟩
      · have HB := Lib.hid hb
        clear hb
        go_wp2_with (first
          | (go_at_call 78; refine (aheadZ HL.out (R.out.mem) R.out.len hs (_) (_) (2 * i + 1) (i) (by omega) (by omega) (by omega) (by omega) true HB.out).mono ?_; rintro e w1 ⟨rfl, hb1⟩; have B1 := Lib.hid (hb1); clear hb1)
          | (go_at_call 79; refine (swapZ (R.out.mem.below B1.out) R.out.len hs _ _ i (2 * i + 1) (by omega) (by omega) (by omega) (by omega) (by omega)).mono ?_; rintro e w9 ⟨rfl, hm, ho⟩; have M2 := Lib.hid hm; have O2 := Lib.hid ho; clear hm ho))
        go_roundw
        case rel => exact ⟨2 * i + 1, sw l' i (2 * i + 1), by go_num, by omega, R.out.step B1.out (by omega) (by omega) M2.out O2.out, sink_step HL.out.ord HR.out (by omega) (by have := R.out.len; omega) hmin.out HB.out⟩
        case measure => simp [intOf]; omega
    cases hq : ahd lt (at_ l' (2 * i + 2)) (at_ l' (2 * i + 1))
    · have HQ := Lib.hid hq
      clear hq
      have hmin : Hid (∀ d, (d = 2 * i + 1 ∨ d = 2 * i + 2) → d < l'.length → le lt (at_ l' (2 * i + 1)) (at_ l' d)) := fun d hd _ => by
        rcases hd with rfl | rfl
        · exact le_refl HL.out.ord _
        · exact HQ.out
      cases hb : ahd lt (at_ l' (2 * i + 1)) (at_ l' i)
      · have HB := Lib.hid hb
        clear hb
        have tok1 : True := trivial
        go_wp2_with (first
          | (go_at_call 78; have _t := tok1; refine (aheadZ HL.out (R.out.mem) R.out.len hs (_) (_) (2 * i + 2) (2 * i + 1) (by omega) (by omega) (by omega) (by omega) false HQ.out).mono ?_; rintro e w1 ⟨rfl, hb1⟩; have B1 := Lib.hid (hb1); clear hb1 tok1 _t)
          | (go_at_call 78; refine (aheadZ HL.out (R.out.mem.below B1.out) R.out.len hs (_) (_) (2 * i + 1) (i) (by omega) (by omega) (by omega) (by omega) false HB.out).mono ?_; rintro e w2 ⟨rfl, hb1⟩; have B2 := Lib.hid (B1.out.trans (hb1.mono B1.out.size)); clear hb1))
        go_end0
        exact ⟨rfl, l', R.out.below B2.out, sink_done2 HL.out.ord HR.out hmin.out HB.out⟩
      · have HB := Lib.hid hb
        clear hb
        have tok1 : True := trivial
        go_wp2_with (first
          | (go_at_call 78; have _t := tok1; refine (aheadZ HL.out (R.out.mem) R.out.len hs (_) (_) (2 * i + 2) (2 * i + 1) (by omega) (by omega) (by omega) (by omega) false HQ.out).mono ?_; rintro e w1 ⟨rfl, hb1⟩; have B1 := Lib.hid (hb1); clear hb1 tok1 _t)
          | (go_at_call 78; refine (aheadZ HL.out (R.out.mem.below B1.out) R.out.len hs (_) (_) (2 * i + 1) (i) (by omega) (by omega) (by omega) (by omega) true HB.out).mono ?_; rintro e w2 ⟨rfl, hb1⟩; have B2 := Lib.hid (B1.out.trans (hb1.mono B1.out.size)); clear hb1)
          | (go_at_call 79; refine (swapZ (R.out.mem.below B2.out) R.out.len hs _ _ i (2 * i + 1) (by omega) (by omega) (by omega) (by omega) (by omega)).mono ?_; rintro e w9 ⟨rfl, hm, ho⟩; have M2 := Lib.hid hm; have O2 := Lib.hid ho; clear hm ho))
        go_roundw
        case rel => exact ⟨2 * i + 1, sw l' i (2 * i + 1), by go_num, by omega, R.out.step B2.out (by omega) (by omega) M2.out O2.out, sink_step HL.out.ord HR.out (by omega) (by have := R.out.len; omega) hmin.out HB.out⟩
        case measure => simp [intOf]; omega
    · have HQ := Lib.hid hq
      clear hq
      have hmin : Hid (∀ d, (d = 2 * i + 1 ∨ d = 2 * i + 2) → d < l'.length → le lt (at_ l' (2 * i + 2)) (at_ l' d)) := fun d hd _ => by
        rcases hd with rfl | rfl
        · exact le_of_ahd HL.out.ord HQ.out
        · exact le_refl HL.out.ord _
      cases hb : ahd lt (at_ l' (2 * i + 2)) (at_ l' i)
      · have HB := Lib.hid hb
        clear hb
        have tok1 : True := trivial
        go_wp2_with (first
          | (go_at_call 78; have _t := tok1; refine (aheadZ HL.out (R.out.mem) R.out.len hs (_) (_) (2 * i + 2) (2 * i + 1) (by omega) (by omega) (by omega) (by omega) true HQ.out).mono ?_; rintro e w1 ⟨rfl, hb1⟩; have B1 := Lib.hid (hb1); clear hb1 tok1 _t)
          | (go_at_call 78; refine (aheadZ HL.out (R.out.mem.below B1.out) R.out.len hs (_) (_) (2 * i + 2) (i) (by omega) (by omega) (by omega) (by omega) false HB.out).mono ?_; rintro e w2 ⟨rfl, hb1⟩; have B2 := Lib.hid (B1.out.trans (hb1.mono B1.out.size)); clear hb1))
        go_end0
        exact ⟨rfl, l', R.out.below B2.out, sink_done2 HL.out.ord HR.out hmin.out HB.out⟩
      · have HB := Lib.hid hb
        clear hb
        have tok1 : True := trivial
        go_wp2_with (first
          | (go_at_call 78; have _t := tok1; refine (aheadZ HL.out (R.out.mem) R.out.len hs (_) (_) (2 * i + 2) (2 * i + 1) (by omega) (by omega) (by omega) (by omega) true HQ.out).mono ?_; rintro e w1 ⟨rfl, hb1⟩; have B1 := Lib.hid (hb1); clear hb1 tok1 _t)
          | (go_at_call 78; refine (aheadZ HL.out (R.out.mem.below B1.out) R.out.len hs (_) (_) (2 * i + 2) (i) (by omega) (by omega) (by omega) (by omega) true HB.out).mono ?_; rintro e w2 ⟨rfl, hb1⟩; have B2 := Lib.hid (B1.out.trans (hb1.mono B1.out.size)); clear hb1)
          | (go_at_call 79; refine (swapZ (R.out.mem.below B2.out) R.out.len hs _ _ i (2 * i + 2) (by omega) (by omega) (by omega) (by omega) (by omega)).mono ?_; rintro e w9 ⟨rfl, hm, ho⟩; have M2 := Lib.hid hm; have O2 := Lib.hid ho; clear hm ho))
        go_roundw
        case rel => exact ⟨2 * i + 2, sw l' i (2 * i + 2), by go_num, by omega, R.out.step B2.out (by omega) (by omega) M2.out O2.out, sink_step HL.out.ord HR.out (by omega) (by have := R.out.len; omega) hmin.out HB.out⟩
        case measure => simp [intOf]; omega
end Go.Proofs.Ytkloaekmjnbacaa.HV
