/-
  A grid in memory: the block of its one field, the row of its cells. What Len, has, full and contrary answer. Conditions: none.
  A grid: a cell put behind the others; New. Conditions: at most 100000 cells; New: from 0 to 4096.
  A grid: two cells linked. Conditions: both are there; at most 100000 cells.
-/
import Derived.Test.YtieffijdhcbcfaaNzRa
import Derived.Test.YtieffijdhcbcfaaNzC
import Derived.BigRegion
namespace Go.Proofs.Ytieffijdhcbcfaa
open Go.RowKit Go.Proofs.Ytieffijdhcbcfaa.GrM

theorem heap_two (w : World) (a b : Obj) : ((w.alloc a).alloc b).heap[w.heap.size + 1]? = some b := by
  have h := heap_alloc_new (w.alloc a) b
  simpa using h

/-- Its blocks. -/
def FootG (p : Nat) (v : Value) (b : Nat) : Prop := b = p ∨ v.ownBlock = some b
section
variable {w w' : World} {p n : Nat} {v : Value} {L : List Int}














end



/-- Is it one of so many cells? -/
def hasB (n : Nat) (x : Int) : Bool := decide (0 ≤ x ∧ x < n)
theorem hasB_t {n : Nat} {x : Int} (h : 0 ≤ x ∧ x < n) : hasB n x = true := decide_eq_true h
theorem hasB_f {n : Nat} {x : Int} (h : ¬ (0 ≤ x ∧ x < n)) : hasB n x = false := decide_eq_false h


def fullB (n : Nat) : Bool := decide (4096 ≤ n)

theorem contraryY (d : Nat) (w : World) (hd : d < 4) : Calls Try.prog 36 #[.int .i64 d] w fun e w' => e = .returned (.int .i64 (opp d)) ∧ w = w' := by
  have e : leftI d 2 = ((opp d : Nat) : Int) := by rw [leftI_t (by omega) (by omega)]; unfold opp; omega
  have h := left_any d 2 w
  rw [e] at h
  have L := Lib.hid (kept h)
  clear h e
  go_enter Try.func36, Try.ntmps36
  go_wp2_with (go_at_call 49; refine L.out.mono ?_; rintro e w' ⟨rfl, rfl⟩)
  go_ret
  exact ⟨rfl, rfl⟩
end Go.Proofs.Ytieffijdhcbcfaa

namespace Go.Proofs.Ytieffijdhcbcfaa
open Go.RowKit Go.Proofs.Ytieffijdhcbcfaa.GrM



theorem freeI : freeC.map intV = [(.int .i64 (-1) : Value), .int .i64 (-1), .int .i64 (-1), .int .i64 (-1), .int .i64 0, .int .i64 0, .int .i64 0, .int .i64 0] := rfl




theorem mkCap (N : Nat) (hN : N ≤ 1000000) (w : World) : (Instr.makeSlice 26 (.int .i64 0) (.int .i64 (N : Int))).run Try.prog w = .ok (.slice (some ⟨w.heap.size, 0, none⟩) 0 N) (w.alloc (.cells (madeCells zeroC (N * 8)) 48)) := by
  obtain ⟨i, hi, hz, hs, hb⟩ := info_c8
  have h := run_make (P := Try.prog) w 26 48 i (.agg zeroC) Try.underlying26 hi hz .i64 .i64 0 (N : Int) (by omega) (by omega) (by rw [hb]; omega) (by omega)
  simp only [Int.toNat_natCast] at h
  rw [hs] at h
  exact h
theorem made_cap (N : Nat) (hN : N ≤ 1000000) (w : World) : OwnG (w.alloc (.cells (madeCells zeroC (N * 8)) 48)) w.heap.size (.slice (some ⟨w.heap.size, 0, none⟩) 0 N) [] 0 :=
  ownsRow_shorter (made_own N hN w) (Nat.zero_le _)
theorem made_cap2 (N : Nat) (hN : N ≤ 1000000) (w : World) (o : Obj) : OwnG ((w.alloc (.cells (madeCells zeroC (N * 8)) 48)).alloc o) 0 (.slice (some ⟨w.heap.size, 0, none⟩) 0 N) [] 0 :=
  ((made_cap N hN w).below ((Below.refl _ _).alloc (Nat.le_refl _) _) (Nat.le_refl _)).base (Nat.zero_le _)


end Go.Proofs.Ytieffijdhcbcfaa

namespace Go.Proofs.Ytieffijdhcbcfaa
open Go.RowKit Go.Proofs.Ytieffijdhcbcfaa.GrM


end Go.Proofs.Ytieffijdhcbcfaa
