/-
  The library's stable sort over a row of pairs: the row, an exchange, the comparison, the insertion sort. Conditions: keys from -1000 to 1000; the row lies in one block of the call's own.
-/
import Derived.Test.YtlhmlejkfgejiaaHeapWithout
import Derived.Test.YtlhmlejkfgejiaaStabM
import Derived.Lib.QuietBelow
import Derived.BigQuiet
import Derived.BigRegion
namespace Go.Proofs.Ytlhmlejkfgejiaa.Stab
open Go.RowKit Go.Proofs.Ytlhmlejkfgejiaa Go.Proofs.Ytlhmlejkfgejiaa.HeapM Go.Proofs.Ytlhmlejkfgejiaa.StabM
open Go.Sort (grow)

def Bd (L : List Pr) : Prop := ∀ x ∈ L, -1000 ≤ x.1 ∧ x.1 ≤ 1000
theorem Bd.at_ {L : List Pr} (h : Bd L) (i : Nat) : -1000 ≤ (g L i).1 ∧ (g L i).1 ≤ 1000 := by
  by_cases hi : i < L.length
  · refine h _ ?_
    unfold g
    rw [List.getD_eq_getElem?_getD, List.getElem?_eq_getElem hi]
    exact List.getElem_mem hi
  · unfold g
    rw [List.getD_eq_getElem?_getD, List.getElem?_eq_none (by omega)]
    exact ⟨by decide, by decide⟩
theorem Bd.perm {L L' : List Pr} (h : Bd L) (p : L'.Perm L) : Bd L' := fun x hx => h x (p.mem_iff.1 hx)

/-- What the sort's function tells. -/
structure CmpAt (fn : Nat) : Prop where
  eg : ∀ args w, (callFunc fn args).run Try.prog w = .ok (.enter fn args) w
  calls : ∀ (W : World) (x y : Pr), -1000 ≤ x.1 ∧ x.1 ≤ 1000 → -1000 ≤ y.1 ∧ y.1 ≤ 1000 →
    Calls Try.prog fn #[.agg #[.int .i64 x.1, .int .i64 x.2], .agg #[.int .i64 y.1, .int .i64 y.2]] W fun e W' => e = .returned (.int .i64 (x.1 - y.1)) ∧ Below W.heap.size W W'

structure RowL (w : World) (B gg n cap : Nat) (L : List Pr) : Prop where
  own : w.ownsRow B 26 2 (.slice (some ⟨gg, 0, none⟩) n cap) n (L.flatMap encL)
  len : n = L.length
theorem RowL.cell {w : World} {B gg n cap : Nat} {L : List Pr} (h : RowL w B gg n cap L) (i : Nat) (hi : i < n) (r : Nat) (hr : r < 2) : w.cell? ⟨gg, i * 2 + r, none⟩ = some ((encL (g L i)).getD r default) := cellsL h.own h.len i hi r hr
theorem RowL.c0 {w : World} {B gg n cap : Nat} {L : List Pr} (h : RowL w B gg n cap L) (i : Nat) (hi : i < n) : w.cell? ⟨gg, i * 2, none⟩ = some (.int .i64 (g L i).1) := h.cell i hi 0 (by omega)
theorem RowL.c1 {w : World} {B gg n cap : Nat} {L : List Pr} (h : RowL w B gg n cap L) (i : Nat) (hi : i < n) : w.cell? ⟨gg, i * 2 + 1, none⟩ = some (.int .i64 (g L i).2) := h.cell i hi 1 (by omega)
theorem RowL.fr {w : World} {B gg n cap : Nat} {L : List Pr} (h : RowL w B gg n cap L) (j : Nat) : w.frozen? ⟨gg, j, none⟩ = false := h.own.frozenAt j
theorem RowL.lt {w : World} {B gg n cap : Nat} {L : List Pr} (h : RowL w B gg n cap L) : gg < w.heap.size := (h.own.lt gg rfl).2
theorem RowL.out {w w' : World} {B gg n cap : Nat} {L : List Pr} {S : Nat → Prop} (h : RowL w B gg n cap L) (o : Out S w w') (hS : ¬ S gg) : RowL w' B gg n cap L :=
  ⟨ownsRow_out h.own o (fun b hb => by have e : gg = b := by simpa [Value.ownBlock] using hb
                                       subst e; exact hS), h.len⟩
theorem RowL.below {w w' : World} {B gg n cap : Nat} {L : List Pr} (h : RowL w B gg n cap L) (o : Below w.heap.size w w') : RowL w' B gg n cap L := h.out (S := fun _ => False) (Out.ofBelow o) (fun e => e)
/-- The four stores of an exchange. -/
theorem RowL.swap {w : World} {B gg n cap : Nat} {L : List Pr} (h : RowL w B gg n cap L) (i j : Nat) (hi : i < n) (hj : j < n) :
    RowL ((((w.setCell ⟨gg, i * 2, none⟩ (.int .i64 (g L j).1)).setCell ⟨gg, i * 2 + 1, none⟩ (.int .i64 (g L j).2)).setCell ⟨gg, j * 2, none⟩ (.int .i64 (g L i).1)).setCell ⟨gg, j * 2 + 1, none⟩ (.int .i64 (g L i).2)).drew B gg n cap (sw L i j) ∧
    Out (fun k => k = gg) w ((((w.setCell ⟨gg, i * 2, none⟩ (.int .i64 (g L j).1)).setCell ⟨gg, i * 2 + 1, none⟩ (.int .i64 (g L j).2)).setCell ⟨gg, j * 2, none⟩ (.int .i64 (g L i).1)).setCell ⟨gg, j * 2 + 1, none⟩ (.int .i64 (g L i).2)).drew := by
  refine ⟨⟨?_, by rw [sw_length]; exact h.len⟩, Out.drew (((((Out.refl _ _).setIn _ _).setIn _ _).setIn _ _).setIn _ _)⟩
  have hl := h.len
  have e : (sw L i j).flatMap encL = ((((L.flatMap encL).set (i * 2) (.int .i64 (g L j).1)).set (i * 2 + 1) (.int .i64 (g L j).2)).set (j * 2) (.int .i64 (g L i).1)).set (j * 2 + 1) (.int .i64 (g L i).2) := by
    unfold sw
    rw [← flat_set encL encL_len _ j (by simp; omega), ← flat_set encL encL_len L i (by omega)]
    rfl
  rw [e]
  exact (((((h.own.stored _ _).1.stored _ _).1.stored _ _).1.stored _ _).1).drew

/-- Where a function that works in [a, b) stands. -/
structure SS (w0 w : World) (B gg n cap a b : Nat) (L0 L : List Pr) : Prop where
  row : RowL w B gg n cap L
  mv : Mv a b L0 L
  c : C L
  bd : Bd L
  out : Out (fun k => k = gg) w0 w
theorem SS.below {w0 w w' : World} {B gg n cap a b : Nat} {L0 L : List Pr} (h : SS w0 w B gg n cap a b L0 L) (o : Below w.heap.size w w') : SS w0 w' B gg n cap a b L0 L :=
  ⟨h.row.below o, h.mv, h.c, h.bd, h.out.trans (Out.ofBelow (S := fun k => k = gg) o) (fun _ _ e => e)⟩
theorem SS.step {w0 w w' : World} {B gg n cap a b : Nat} {L0 L L' : List Pr} (h : SS w0 w B gg n cap a b L0 L) (r : RowL w' B gg n cap L') (o : Out (fun k => k = gg) w w') (m : Mv a b L L') (c : C L') : SS w0 w' B gg n cap a b L0 L' :=
  ⟨r, h.mv.trans m, c, h.bd.perm m.perm, h.out.trans o (fun _ _ e => e)⟩
def Sorted' (B gg n cap a b : Nat) (L : List Pr) (w : World) (e : Ending) (w' : World) : Prop :=
  e = .returned (.tuple #[]) ∧ ∃ L', SS w w' B gg n cap a b L L' ∧ Seg L' a b

def InsRel (B gg n cap a b : Nat) (L : List Pr) (w wr : World) (iv : Value) : Prop :=
  ∃ (i : Nat) (L' : List Pr), iv = .int .i64 i ∧ a + 1 ≤ i ∧ (i ≤ b ∨ i = a + 1) ∧ SS w wr B gg n cap a b L L' ∧ Seg L' a i
def InsRel2 (B gg n cap a b i : Nat) (L : List Pr) (w wr : World) (jv : Value) : Prop :=
  ∃ (j : Nat) (L' : List Pr), jv = .int .i64 j ∧ a ≤ j ∧ j ≤ i ∧ SS w wr B gg n cap a b L L' ∧ Ins L' a i j

set_option maxHeartbeats 4000000 in
set_option maxRecDepth 100000 in
theorem insertion {fn : Nat} (hC : CmpAt fn) (B gg n cap a b : Nat) (L : List Pr) (w : World) (h : SS w w B gg n cap a b L L) (hs : n ≤ 1000000) (hab : a ≤ b) (hb : b ≤ n) :
    Calls Try.prog 49 #[.slice (some ⟨gg, 0, none⟩) n cap, .int .i64 a, .int .i64 b, .func (.func fn) #[] #[]] w (Sorted' B gg n cap a b L w) := by
  have HC := Lib.hid hC.calls
  have eg := hC.eg
  have H := Lib.hid h
  clear hC h
  go_enter Try.func49, Try.ntmps49
  go_wp2
  go_loopw [8] (fun iv wr => InsRel B gg n cap a b L w wr iv) (fun iv _ => b - (intOf iv).toNat)
  case atStart => exact ⟨a + 1, L, by go_num, by omega, Or.inr rfl, H.out, fun p q h1 h2 h3 => by omega⟩
  case round =>
    obtain ⟨i, L', rfl, hi1, hi2, hS, hseg⟩ := hrel
    have S := Lib.hid hS
    have SG := Lib.hid hseg
    clear hS hseg
    by_cases hlt : i < b
    · obtain ⟨wo, hwo⟩ : ∃ wo : World, wo = wr := ⟨_, rfl⟩
      subst hwo
      go_wp2
      go_loopw [9] (fun jv wr => InsRel2 B gg n cap a b i L w wr jv) (fun jv _ => (intOf jv).toNat)
      case atStart => exact ⟨i, L', rfl, by omega, Nat.le_refl _, S.out, ins_start SG.out⟩
      case round =>
        clear S SG
        obtain ⟨j, L2, rfl, hj1, hj2, hS, hI⟩ := hrel
        rename_i wr
        have S := Lib.hid hS
        have I := Lib.hid hI
        have hg := hS.row.lt
        clear hS hI
        by_cases hja : a < j
        · obtain ⟨j', rfl⟩ : ∃ j', j = j' + 1 := ⟨j - 1, by omega⟩
          have a0 := S.out.row.c0 (j' + 1) (by omega)
          have a1 := S.out.row.c1 (j' + 1) (by omega)
          have b0 := S.out.row.c0 j' (by omega)
          have b1 := S.out.row.c1 j' (by omega)
          have bx := Lib.hid (S.out.bd.at_ (j' + 1))
          have bz := Lib.hid (S.out.bd.at_ j')
          generalize hx : g L2 (j' + 1) = x at *
          generalize hy : g L2 j' = y at *
          have HX := Lib.hid hx
          have HY := Lib.hid hy
          clear hx hy
          have hjz : (a : Int) < (j' : Int) + 1 := by omega
          have hnz : (j' : Int) + 1 < (n : Int) := by omega
          have hnz2 : (j' : Int) < (n : Int) := by omega
          have ca0 := fun d os => cell_regrown a0 d os
          have ca1 := fun d os => cell_regrown a1 d os
          have cb0 := fun d os => cell_regrown b0 d os
          have cb1 := fun d os => cell_regrown b1 d os
          have cQ := fun d os => Calls.regrown_of (HC.out (grow (redrawn wr d) os) x y bx.out bz.out)
          by_cases hxy : x.1 < y.1
          · go_wp2
            refine wp_region_quiet_below (by kernel_rfl) (by kernel_rfl) ?_
            repeat (first | go_big_quiet_step (exact cQ _ _) | quiet_step (exact cQ _ _))
            refine wpQuiet_nil ?_
            intro _ hw'
            obtain ⟨p, hw''⟩ := hw'
            subst hw''
            clear cQ ca0 ca1 cb0 cb1
            have B1 := below_regrown wr p.d p.os
            generalize grow (redrawn wr p.d) p.os = w1 at B1 ⊢
            have S1 := Lib.hid (S.out.below B1)
            have g0 := (B1.cell (p := ⟨gg, (j' + 1) * 2, none⟩) hg).trans a0
            have g1 := (B1.cell (p := ⟨gg, (j' + 1) * 2 + 1, none⟩) hg).trans a1
            have g2 := (B1.cell (p := ⟨gg, j' * 2, none⟩) hg).trans b0
            have g3 := (B1.cell (p := ⟨gg, j' * 2 + 1, none⟩) hg).trans b1
            have f0 := S1.out.row.fr ((j' + 1) * 2)
            have f1 := S1.out.row.fr ((j' + 1) * 2 + 1)
            have f2 := S1.out.row.fr (j' * 2)
            have f3 := S1.out.row.fr (j' * 2 + 1)
            have SW := Lib.hid (S1.out.row.swap (j' + 1) j' (by omega) (by omega))
            rw [HX.out, HY.out] at SW
            clear B1 a0 a1 b0 b1
            go_wp2
            go_region
            all_goals
              go_wp2
              go_roundw
              case rel => exact ⟨j', sw L2 (j' + 1) j', rfl, by omega, by omega, S1.out.step SW.out.1 SW.out.2 ((adj_down L2 j' (by have := S1.out.row.len; omega)).mv (by omega) (by omega)) ((adj_down L2 j' (by have := S1.out.row.len; omega)).c S1.out.c (by have := S1.out.row.len; omega) (by rw [HX.out, HY.out]; exact hxy)), ins_step I.out (by omega) hj2 (adj_down L2 j' (by have := S1.out.row.len; omega)) (by rw [HX.out, HY.out]; exact hxy)⟩
              case measure => simp [intOf]
          · go_wp2
            refine wp_region_quiet_below (by kernel_rfl) (by kernel_rfl) ?_
            repeat (first | go_big_quiet_step (exact cQ _ _) | quiet_step (exact cQ _ _))
            refine wpQuiet_nil ?_
            intro _ hw'
            obtain ⟨p, hw''⟩ := hw'
            subst hw''
            clear cQ ca0 ca1 cb0 cb1
            have B1 := below_regrown wr p.d p.os
            generalize grow (redrawn wr p.d) p.os = w1 at B1 ⊢
            have S1 := Lib.hid (S.out.below B1)
            clear B1 a0 a1 b0 b1
            go_wp2
            go_roundw
            case rel => exact ⟨i + 1, L2, by go_num, by omega, by omega, S1.out, ins_done I.out hj1 hj2 (fun _ => by rw [HX.out, show j' + 1 - 1 = j' from rfl, HY.out]; omega)⟩
            case measure => simp [intOf]; omega
        · obtain rfl : j = a := by omega
          go_wp2
          go_quiet (fail)
          go_wp2
          go_roundw
          case rel => exact ⟨i + 1, L2, by go_num, by omega, by omega, S.out.below (below_drewN (Below.refl _ _) _), ins_done I.out hj1 hj2 (fun h => absurd h (by omega))⟩
          case measure => simp [intOf]; omega
    · go_wp2
      go_end0
      exact ⟨rfl, L', S.out, SG.out.cut (Nat.le_refl _) (by omega)⟩
end Go.Proofs.Ytlhmlejkfgejiaa.Stab
