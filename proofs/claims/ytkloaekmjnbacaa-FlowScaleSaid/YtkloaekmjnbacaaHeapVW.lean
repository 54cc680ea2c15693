/-
  The heap of muntin/flow.visit: two items exchanged. Conditions: both places lie in the row.
-/
import Derived.Test.YtkloaekmjnbacaaHeapLib
import Derived.Test.YtkloaekmjnbacaaHeapVA
import Derived.BigRegion
namespace Go.Proofs.Ytkloaekmjnbacaa.HV
open Go.RowKit Go.Proofs.Ytkloaekmjnbacaa.HeapM

theorem runSet_swap (l : List ((Int × Int × Int) × Int)) (i j : Nat) (hi : i < l.length) (hj : j < l.length) : runSet (runSet (l.flatMap enc) (i * 4) (enc (at_ l j))) (j * 4) (enc (at_ l i)) = (sw l i j).flatMap enc := by
  rw [flat_set enc enc_len l i hi, flat_set enc enc_len _ j (by simpa using hj)]
  rfl

set_option maxHeartbeats 2000000 in
set_option maxRecDepth 100000 in
theorem swap (T E p g n cap i j : Nat) (l : List ((Int × Int × Int) × Int)) (f : Value) (c : Int) (w : World) (h : HeapMem w T E 4 p f (.slice (some ⟨g, 0, none⟩) n cap) l.length (l.flatMap enc) c)
    (hn : n = l.length) (hs : l.length ≤ 1000000) (hi : i < l.length) (hj : j < l.length) (hij : i ≠ j) :
    Calls Try.prog 79 #[.pointer (some ⟨p, 0, none⟩), .int .i64 i, .int .i64 j] w fun e w' => e = .returned (.tuple #[]) ∧
      HeapMem w' T E 4 p f (.slice (some ⟨g, 0, none⟩) n cap) (sw l i j).length ((sw l i j).flatMap enc) c ∧ Out (fun b => b = g) w w' := by
  have H := Lib.hid h
  have hpg : g ≠ p := fun e => h.apart (by subst e; rfl)
  have h1 := h.c1
  have hA := Lib.hid (cells_at h hn i hi)
  have hB := Lib.hid (cells_at h hn j hj)
  have hF := Lib.hid (fun q => (show HeapMem w T E 4 p f (.slice (some ⟨g, 0, none⟩) l.length cap) l.length (l.flatMap enc) c from hn ▸ h).frz q)
  have hS := Lib.hid (runSet_swap l i j hi hj)
  have hi' : i < n := by omega
  have hj' : j < n := by omega
  have hn' : n ≤ 1000000 := by omega
  have HN := Lib.hid hn
  clear h hn hs hi hj
  generalize at_ l i = x at *
  generalize at_ l j = y at *
  have a0 : w.cell? ⟨g, i * 4, none⟩ = some (.int .i64 x.1.1) := hA.out 0 (by omega)
  have fa0 := hF.out (i * 4)
  have a1 : w.cell? ⟨g, i * 4 + 1, none⟩ = some (.int .i64 x.1.2.1) := hA.out 1 (by omega)
  have fa1 := hF.out (i * 4 + 1)
  have a2 : w.cell? ⟨g, i * 4 + 2, none⟩ = some (.int .i64 x.1.2.2) := hA.out 2 (by omega)
  have fa2 := hF.out (i * 4 + 2)
  have a3 : w.cell? ⟨g, i * 4 + 3, none⟩ = some (.int .i64 x.2) := hA.out 3 (by omega)
  have fa3 := hF.out (i * 4 + 3)
  have b0 : w.cell? ⟨g, j * 4, none⟩ = some (.int .i64 y.1.1) := hB.out 0 (by omega)
  have fb0 := hF.out (j * 4)
  have b1 : w.cell? ⟨g, j * 4 + 1, none⟩ = some (.int .i64 y.1.2.1) := hB.out 1 (by omega)
  have fb1 := hF.out (j * 4 + 1)
  have b2 : w.cell? ⟨g, j * 4 + 2, none⟩ = some (.int .i64 y.1.2.2) := hB.out 2 (by omega)
  have fb2 := hF.out (j * 4 + 2)
  have b3 : w.cell? ⟨g, j * 4 + 3, none⟩ = some (.int .i64 y.2) := hB.out 3 (by omega)
  have fb3 := hF.out (j * 4 + 3)
  clear hA hB hF
  go_enter Try.func79, Try.ntmps79
  go_region
  all_goals
    go_wp2
    go_end0
    refine ⟨rfl, ?_, ?_⟩
    · refine HeapMem.drew ?_
      rw [sw_length, ← hS.out]
      have hh : HeapMem w T E 4 p f (.slice (some ⟨g, 0, none⟩) l.length cap) l.length (l.flatMap enc) c := HN.out ▸ H.out
      obtain rfl := HN.out
      exact (((((((hh.stored _ _).stored _ _).stored _ _).stored _ _).stored _ _).stored _ _).stored _ _).stored _ _
    · repeat (first | with_reducible refine Out.drew ?_ | with_reducible refine Out.setIn ?_ _ _)
      with_reducible exact Out.refl _ _
end Go.Proofs.Ytkloaekmjnbacaa.HV
