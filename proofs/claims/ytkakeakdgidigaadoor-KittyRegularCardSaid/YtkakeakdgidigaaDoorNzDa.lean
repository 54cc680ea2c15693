/-
  A grid in memory: the block of its one field, the row of its cells. What Len, has, full and contrary answer. Conditions: none.
  A grid: a cell put behind the others; New. Conditions: at most 100000 cells; New: from 0 to 4096.
  A grid: two cells linked. Conditions: both are there; at most 100000 cells.
-/
import Derived.Test.YtkakeakdgidigaaDoorNzRa
import Derived.Test.YtkakeakdgidigaaDoorNzC
import Derived.BigRegion
namespace Go.Proofs.YtkakeakdgidigaaDoor
open Go.RowKit Go.Proofs.YtkakeakdgidigaaDoor.GrM

theorem heap_two (w : World) (a b : Obj) : ((w.alloc a).alloc b).heap[w.heap.size + 1]? = some b := by
  have h := heap_alloc_new (w.alloc a) b
  simpa using h
structure GrdAt (w : World) (p : Nat) (v : Value) (L : List Int) (n : Nat) : Prop where
  blk : w.heap[p]? = some (.cells #[v] 106 (0, 0))
  row : OwnG w 0 v L n
  apart : v.ownBlock ≠ some p
/-- Its blocks. -/
def FootG (p : Nat) (v : Value) (b : Nat) : Prop := b = p ∨ v.ownBlock = some b
section
variable {w w' : World} {p n : Nat} {v : Value} {L : List Int}
theorem GrdAt.lt (h : GrdAt w p v L n) : p < w.heap.size := (Array.getElem?_eq_some_iff.1 h.blk).1
theorem GrdAt.vlt (h : GrdAt w p v L n) {b : Nat} (hb : v.ownBlock = some b) : b < w.heap.size := (World.ownsRow.lt h.row b hb).2
theorem GrdAt.foot (h : GrdAt w p v L n) {b : Nat} (hb : FootG p v b) : b < w.heap.size := by
  rcases hb with rfl | hb
  · exact h.lt
  · exact h.vlt hb
theorem GrdAt.out {S : Nat → Prop} (h : GrdAt w p v L n) (o : Out S w w') (hS : ∀ b, FootG p v b → ¬ S b) : GrdAt w' p v L n :=
  ⟨by rw [o.block p h.lt (hS p (Or.inl rfl))]; exact h.blk, ownsRow_out h.row o (fun b hb => hS b (Or.inr hb)), h.apart⟩
theorem GrdAt.below (h : GrdAt w p v L n) (o : RowKit.Below w.heap.size w w') : GrdAt w' p v L n :=
  h.out (S := fun _ => False) (Out.ofBelow o) (fun _ _ e => e)
theorem GrdAt.drew (h : GrdAt w p v L n) : GrdAt w.drew p v L n := h.below ((Below.refl _ _).drew)
theorem GrdAt.c0 (h : GrdAt w p v L n) : w.cell? ⟨p, 0, none⟩ = some v := by simp [World.cell?, h.blk]
theorem GrdAt.fr (h : GrdAt w p v L n) (j : Nat) : w.frozen? ⟨p, j, none⟩ = false := by
  simp only [World.frozen?, h.blk]
  simp
theorem GrdAt.form (h : GrdAt w p v L n) : ∃ ao cap, v = .slice ao n cap := h.row.form
theorem GrdAt.len (h : GrdAt w p v L n) : L.length = n * 8 := h.row.len
theorem GrdAt.some_ (h : GrdAt w p v L n) (h0 : 0 < n) : ∃ g cap, v = .slice (some ⟨g, 0, none⟩) n cap ∧ g ≠ p ∧ g < w.heap.size := by
  obtain ⟨g, cap, hv, _, hg, _⟩ := ownsRow_form h.row h0
  exact ⟨g, cap, hv, fun e => h.apart (by rw [hv, e]; rfl), hg⟩
theorem GrdAt.cel (h : GrdAt w p v L n) : CelAt w v L n := h.row.cel
/-- A number set in its row. -/
theorem GrdAt.set {g cap : Nat} (h : GrdAt w p (.slice (some ⟨g, 0, none⟩) n cap) L n) (j : Nat) (x : Int) : GrdAt (w.setCell ⟨g, j, none⟩ (.int .i64 x)) p (.slice (some ⟨g, 0, none⟩) n cap) (L.set j x) n := by
  refine ⟨?_, h.row.set j x, h.apart⟩
  rw [Below.heap_setCell _ _ _ _ (fun e => h.apart (by subst e; rfl))]
  exact h.blk
/-- Another row. -/
theorem GrdAt.rowed {v' : Value} {n' : Nat} {L' : List Int} (hb : w.heap[p]? = some (.cells #[v] 106 (0, 0))) (hr : OwnG w 0 v' L' n') (ha : v'.ownBlock ≠ some p) : GrdAt (w.setCell ⟨p, 0, none⟩ v') p v' L' n' := by
  refine ⟨?_, ownsRow_setCell_other hr ha _, ha⟩
  rw [heap_setCell_at hb]; rfl
end

theorem lenY {w : World} {p n : Nat} {v : Value} {L : List Int} (h : GrdAt w p v L n) : Calls Tryd.prog 67 #[.pointer (some ⟨p, 0, none⟩)] w fun e w' => e = .returned (.int .i64 n) ∧ w = w' := by
  have h0 := h.c0
  obtain ⟨ao, cap, rfl⟩ := h.form
  clear h
  go_enter Tryd.func67, Tryd.ntmps67
  go_wp2
  go_ret
  exact ⟨rfl, rfl⟩
theorem lenN (w : World) : Calls Tryd.prog 67 #[.pointer none] w fun e w' => e = .returned (.int .i64 0) ∧ w = w' := by
  go_enter Tryd.func67, Tryd.ntmps67
  go_wp2
  go_ret
  exact ⟨rfl, rfl⟩
/-- Is it one of so many cells? -/
def hasB (n : Nat) (x : Int) : Bool := decide (0 ≤ x ∧ x < n)
theorem hasB_t {n : Nat} {x : Int} (h : 0 ≤ x ∧ x < n) : hasB n x = true := decide_eq_true h
theorem hasB_f {n : Nat} {x : Int} (h : ¬ (0 ≤ x ∧ x < n)) : hasB n x = false := decide_eq_false h
theorem hasY {w : World} {p n : Nat} {v : Value} {L : List Int} (x : Int) (h : GrdAt w p v L n) : Calls Tryd.prog 59 #[.pointer (some ⟨p, 0, none⟩), .int .i64 x] w fun e w' => e = .returned (.bool (hasB n x)) ∧ w = w' := by
  have L := Lib.hid (lenY h)
  clear h
  by_cases h0 : 0 ≤ x
  · have q0 : decide (0 ≤ x) = true := by rw [decide_eq_true_eq]; exact h0
    by_cases h1 : x < n
    · have q1 : decide (x < (n : Int)) = true := by rw [decide_eq_true_eq]; exact h1
      have e := hasB_t ⟨h0, h1⟩
      have E := Lib.hid e
      clear e
      go_enter Tryd.func59, Tryd.ntmps59
      go_wp2_with (go_at_call 67; refine L.out.mono ?_; rintro e w' ⟨rfl, rfl⟩)
      go_ret
      exact ⟨ret_bool E.out.symm, rfl⟩
    · have q1 : decide (x < (n : Int)) = false := by rw [decide_eq_false_iff_not]; exact h1
      have E := Lib.hid (hasB_f (n := n) (fun e => h1 e.2))
      go_enter Tryd.func59, Tryd.ntmps59
      go_wp2_with (go_at_call 67; refine L.out.mono ?_; rintro e w' ⟨rfl, rfl⟩)
      go_ret
      exact ⟨ret_bool E.out.symm, rfl⟩
  · have q0 : decide (0 ≤ x) = false := by rw [decide_eq_false_iff_not]; exact h0
    have E := Lib.hid (hasB_f (n := n) (fun e => h0 e.1))
    go_enter Tryd.func59, Tryd.ntmps59
    go_wp2_with (fail)
    go_ret
    exact ⟨ret_bool E.out.symm, rfl⟩
theorem hasN (x : Int) (w : World) : Calls Tryd.prog 59 #[.pointer none, .int .i64 x] w fun e w' => e = .returned (.bool false) ∧ w = w' := by
  have L := Lib.hid (lenN w)
  by_cases h0 : 0 ≤ x
  · have q0 : decide (0 ≤ x) = true := by rw [decide_eq_true_eq]; exact h0
    have q1 : decide (x < 0) = false := by rw [decide_eq_false_iff_not]; omega
    go_enter Tryd.func59, Tryd.ntmps59
    go_wp2_with (go_at_call 67; refine L.out.mono ?_; rintro e w' ⟨rfl, rfl⟩)
    go_ret
    exact ⟨rfl, rfl⟩
  · have q0 : decide (0 ≤ x) = false := by rw [decide_eq_false_iff_not]; exact h0
    go_enter Tryd.func59, Tryd.ntmps59
    go_wp2_with (fail)
    go_ret
    exact ⟨rfl, rfl⟩
def fullB (n : Nat) : Bool := decide (4096 ≤ n)

theorem contraryY (d : Nat) (w : World) (hd : d < 4) : Calls Tryd.prog 63 #[.int .i64 d] w fun e w' => e = .returned (.int .i64 (opp d)) ∧ w = w' := by
  have e : leftI d 2 = ((opp d : Nat) : Int) := by rw [leftI_t (by omega) (by omega)]; unfold opp; omega
  have h := left_any d 2 w
  rw [e] at h
  have L := Lib.hid (kept h)
  clear h e
  go_enter Tryd.func63, Tryd.ntmps63
  go_wp2_with (go_at_call 51; refine L.out.mono ?_; rintro e w' ⟨rfl, rfl⟩)
  go_ret
  exact ⟨rfl, rfl⟩
end Go.Proofs.YtkakeakdgidigaaDoor

namespace Go.Proofs.YtkakeakdgidigaaDoor
open Go.RowKit Go.Proofs.YtkakeakdgidigaaDoor.GrM

/-- What a turned grid is: its cells, what lies outside its old blocks as it was, its row where it was or new. -/
def Turned (p : Nat) (v : Value) (M : List Int) (m : Nat) (w w' : World) : Prop :=
  ∃ v', GrdAt w' p v' M m ∧ Out (FootG p v) w w' ∧ ∀ b, v'.ownBlock = some b → v.ownBlock = some b ∨ w.heap.size ≤ b
def PutP (p : Nat) (v : Value) (L : List Int) (n : Nat) (w : World) (e : Ending) (w' : World) : Prop :=
  e = .returned (.int .i64 n) ∧ Turned p v (L ++ freeC) (n + 1) w w'
theorem freeI : freeC.map intV = [(.int .i64 (-1) : Value), .int .i64 (-1), .int .i64 (-1), .int .i64 (-1), .int .i64 0, .int .i64 0, .int .i64 0, .int .i64 0] := rfl

/-- What makes a grid: the pointer to it; all of it is new. -/
def MadeG (M : List Int) (n : Nat) (w : World) (e : Ending) (w' : World) : Prop :=
  ∃ p v, e = .returned (.tuple #[.pointer (some ⟨p, 0, none⟩), .int .i64 0]) ∧ GrdAt w' p v M n ∧ (∀ b, FootG p v b → w.heap.size ≤ b) ∧ Below w.heap.size w w'


theorem mkCap (N : Nat) (hN : N ≤ 1000000) (w : World) : (Instr.makeSlice 26 (.int .i64 0) (.int .i64 (N : Int))).run Tryd.prog w = .ok (.slice (some ⟨w.heap.size, 0, none⟩) 0 N) (w.alloc (.cells (madeCells zeroC (N * 8)) 73)) := by
  obtain ⟨i, hi, hz, hs, hb⟩ := info_c8
  have h := run_make (P := Tryd.prog) w 26 73 i (.agg zeroC) Tryd.underlying26 hi hz .i64 .i64 0 (N : Int) (by omega) (by omega) (by rw [hb]; omega) (by omega)
  simp only [Int.toNat_natCast] at h
  rw [hs] at h
  exact h
theorem made_cap (N : Nat) (hN : N ≤ 1000000) (w : World) : OwnG (w.alloc (.cells (madeCells zeroC (N * 8)) 73)) w.heap.size (.slice (some ⟨w.heap.size, 0, none⟩) 0 N) [] 0 :=
  ownsRow_shorter (made_own N hN w) (Nat.zero_le _)
theorem made_cap2 (N : Nat) (hN : N ≤ 1000000) (w : World) (o : Obj) : OwnG ((w.alloc (.cells (madeCells zeroC (N * 8)) 73)).alloc o) 0 (.slice (some ⟨w.heap.size, 0, none⟩) 0 N) [] 0 :=
  ((made_cap N hN w).below ((Below.refl _ _).alloc (Nat.le_refl _) _) (Nat.le_refl _)).base (Nat.zero_le _)
def RgN (p n : Nat) (wb wr : World) (iv : Value) : Prop := ∃ k : Nat, iv = .int .i64 k ∧ k ≤ n ∧ ∃ v, GrdAt wr p v (newG k) k ∧ (∀ b, FootG p v b → wb.heap.size ≤ b) ∧ Below wb.heap.size wb wr

end Go.Proofs.YtkakeakdgidigaaDoor

namespace Go.Proofs.YtkakeakdgidigaaDoor
open Go.RowKit Go.Proofs.YtkakeakdgidigaaDoor.GrM


end Go.Proofs.YtkakeakdgidigaaDoor
