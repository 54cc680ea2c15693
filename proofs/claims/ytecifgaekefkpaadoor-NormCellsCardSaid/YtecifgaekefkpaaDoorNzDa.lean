/-
  A grid in memory: the block of its one field, the row of its cells. What Len, has, full and contrary answer. Conditions: none.
  A grid: a cell put behind the others; New. Conditions: at most 100000 cells; New: from 0 to 4096.
  A grid: two cells linked. Conditions: both are there; at most 100000 cells.
-/
import Derived.Test.YtecifgaekefkpaaDoorNzRa
import Derived.Test.YtecifgaekefkpaaDoorNzC
import Derived.BigRegion
namespace Go.Proofs.YtecifgaekefkpaaDoor
open Go.RowKit Go.Proofs.YtecifgaekefkpaaDoor.GrM

theorem heap_two (w : World) (a b : Obj) : ((w.alloc a).alloc b).heap[w.heap.size + 1]? = some b := by
  have h := heap_alloc_new (w.alloc a) b
  simpa using h
structure GrdAt (w : World) (p : Nat) (v : Value) (L : List Int) (n : Nat) : Prop where
  blk : w.heap[p]? = some (.cells #[v] 103 (0, 0))
  row : OwnG w 0 v L n
  apart : v.ownBlock ≠ some p
/-- Its blocks. -/
def FootG (p : Nat) (v : Value) (b : Nat) : Prop := b = p ∨ v.ownBlock = some b
section
variable {w w' : World} {p n : Nat} {v : Value} {L : List Int}
theorem GrdAt.lt (h : GrdAt w p v L n) : p < w.heap.size := (Array.getElem?_eq_some_iff.1 h.blk).1
theorem GrdAt.vlt (h : GrdAt w p v L n) {b : Nat} (hb : v.ownBlock = some b) : b < w.heap.size := (World.ownsRow.lt h.row b hb).2
theorem GrdAt.foot (h : GrdAt w p v L n) {b : Nat} (hb : FootG p v b) : b < w.heap.size := by
  rcases hb with rfl | hb
  · exact h.lt
  · exact h.vlt hb
theorem GrdAt.out {S : Nat → Prop} (h : GrdAt w p v L n) (o : Out S w w') (hS : ∀ b, FootG p v b → ¬ S b) : GrdAt w' p v L n :=
  ⟨by rw [o.block p h.lt (hS p (Or.inl rfl))]; exact h.blk, ownsRow_out h.row o (fun b hb => hS b (Or.inr hb)), h.apart⟩
theorem GrdAt.below (h : GrdAt w p v L n) (o : RowKit.Below w.heap.size w w') : GrdAt w' p v L n :=
  h.out (S := fun _ => False) (Out.ofBelow o) (fun _ _ e => e)
theorem GrdAt.drew (h : GrdAt w p v L n) : GrdAt w.drew p v L n := h.below ((Below.refl _ _).drew)
theorem GrdAt.c0 (h : GrdAt w p v L n) : w.cell? ⟨p, 0, none⟩ = some v := by simp [World.cell?, h.blk]
theorem GrdAt.fr (h : GrdAt w p v L n) (j : Nat) : w.frozen? ⟨p, j, none⟩ = false := by
  simp only [World.frozen?, h.blk]
  simp
theorem GrdAt.form (h : GrdAt w p v L n) : ∃ ao cap, v = .slice ao n cap := h.row.form
theorem GrdAt.len (h : GrdAt w p v L n) : L.length = n * 8 := h.row.len
theorem GrdAt.some_ (h : GrdAt w p v L n) (h0 : 0 < n) : ∃ g cap, v = .slice (some ⟨g, 0, none⟩) n cap ∧ g ≠ p ∧ g < w.heap.size := by
  obtain ⟨g, cap, hv, _, hg, _⟩ := ownsRow_form h.row h0
  exact ⟨g, cap, hv, fun e => h.apart (by rw [hv, e]; rfl), hg⟩
theorem GrdAt.cel (h : GrdAt w p v L n) : CelAt w v L n := h.row.cel
/-- A number set in its row. -/
theorem GrdAt.set {g cap : Nat} (h : GrdAt w p (.slice (some ⟨g, 0, none⟩) n cap) L n) (j : Nat) (x : Int) : GrdAt (w.setCell ⟨g, j, none⟩ (.int .i64 x)) p (.slice (some ⟨g, 0, none⟩) n cap) (L.set j x) n := by
  refine ⟨?_, h.row.set j x, h.apart⟩
  rw [Below.heap_setCell _ _ _ _ (fun e => h.apart (by subst e; rfl))]
  exact h.blk
/-- Another row. -/
theorem GrdAt.rowed {v' : Value} {n' : Nat} {L' : List Int} (hb : w.heap[p]? = some (.cells #[v] 103 (0, 0))) (hr : OwnG w 0 v' L' n') (ha : v'.ownBlock ≠ some p) : GrdAt (w.setCell ⟨p, 0, none⟩ v') p v' L' n' := by
  refine ⟨?_, ownsRow_setCell_other hr ha _, ha⟩
  rw [heap_setCell_at hb]; rfl
end

theorem lenY {w : World} {p n : Nat} {v : Value} {L : List Int} (h : GrdAt w p v L n) : Calls Tryd.prog 65 #[.pointer (some ⟨p, 0, none⟩)] w fun e w' => e = .returned (.int .i64 n) ∧ w = w' := by
  have h0 := h.c0
  obtain ⟨ao, cap, rfl⟩ := h.form
  clear h
  go_enter Tryd.func65, Tryd.ntmps65
  go_wp2
  go_ret
  exact ⟨rfl, rfl⟩
theorem lenN (w : World) : Calls Tryd.prog 65 #[.pointer none] w fun e w' => e = .returned (.int .i64 0) ∧ w = w' := by
  go_enter Tryd.func65, Tryd.ntmps65
  go_wp2
  go_ret
  exact ⟨rfl, rfl⟩
/-- Is it one of so many cells? -/
def hasB (n : Nat) (x : Int) : Bool := decide (0 ≤ x ∧ x < n)
theorem hasB_t {n : Nat} {x : Int} (h : 0 ≤ x ∧ x < n) : hasB n x = true := decide_eq_true h
theorem hasB_f {n : Nat} {x : Int} (h : ¬ (0 ≤ x ∧ x < n)) : hasB n x = false := decide_eq_false h
theorem hasY {w : World} {p n : Nat} {v : Value} {L : List Int} (x : Int) (h : GrdAt w p v L n) : Calls Tryd.prog 55 #[.pointer (some ⟨p, 0, none⟩), .int .i64 x] w fun e w' => e = .returned (.bool (hasB n x)) ∧ w = w' := by
  have L := Lib.hid (lenY h)
  clear h
  by_cases h0 : 0 ≤ x
  · have q0 : decide (0 ≤ x) = true := by rw [decide_eq_true_eq]; exact h0
    by_cases h1 : x < n
    · have q1 : decide (x < (n : Int)) = true := by rw [decide_eq_true_eq]; exact h1
      have e := hasB_t ⟨h0, h1⟩
      have E := Lib.hid e
      clear e
      go_enter Tryd.func55, Tryd.ntmps55
      go_wp2_with (go_at_call 65; refine L.out.mono ?_; rintro e w' ⟨rfl, rfl⟩)
      go_ret
      exact ⟨ret_bool E.out.symm, rfl⟩
    · have q1 : decide (x < (n : Int)) = false := by rw [decide_eq_false_iff_not]; exact h1
      have E := Lib.hid (hasB_f (n := n) (fun e => h1 e.2))
      go_enter Tryd.func55, Tryd.ntmps55
      go_wp2_with (go_at_call 65; refine L.out.mono ?_; rintro e w' ⟨rfl, rfl⟩)
      go_ret
      exact ⟨ret_bool E.out.symm, rfl⟩
  · have q0 : decide (0 ≤ x) = false := by rw [decide_eq_false_iff_not]; exact h0
    have E := Lib.hid (hasB_f (n := n) (fun e => h0 e.1))
    go_enter Tryd.func55, Tryd.ntmps55
    go_wp2_with (fail)
    go_ret
    exact ⟨ret_bool E.out.symm, rfl⟩
theorem hasN (x : Int) (w : World) : Calls Tryd.prog 55 #[.pointer none, .int .i64 x] w fun e w' => e = .returned (.bool false) ∧ w = w' := by
  have L := Lib.hid (lenN w)
  by_cases h0 : 0 ≤ x
  · have q0 : decide (0 ≤ x) = true := by rw [decide_eq_true_eq]; exact h0
    have q1 : decide (x < 0) = false := by rw [decide_eq_false_iff_not]; omega
    go_enter Tryd.func55, Tryd.ntmps55
    go_wp2_with (go_at_call 65; refine L.out.mono ?_; rintro e w' ⟨rfl, rfl⟩)
    go_ret
    exact ⟨rfl, rfl⟩
  · have q0 : decide (0 ≤ x) = false := by rw [decide_eq_false_iff_not]; exact h0
    go_enter Tryd.func55, Tryd.ntmps55
    go_wp2_with (fail)
    go_ret
    exact ⟨rfl, rfl⟩
def fullB (n : Nat) : Bool := decide (4096 ≤ n)

theorem contraryY (d : Nat) (w : World) (hd : d < 4) : Calls Tryd.prog 56 #[.int .i64 d] w fun e w' => e = .returned (.int .i64 (opp d)) ∧ w = w' := by
  have e : leftI d 2 = ((opp d : Nat) : Int) := by rw [leftI_t (by omega) (by omega)]; unfold opp; omega
  have h := left_any d 2 w
  rw [e] at h
  have L := Lib.hid (kept h)
  clear h e
  go_enter Tryd.func56, Tryd.ntmps56
  go_wp2_with (go_at_call 48; refine L.out.mono ?_; rintro e w' ⟨rfl, rfl⟩)
  go_ret
  exact ⟨rfl, rfl⟩
end Go.Proofs.YtecifgaekefkpaaDoor

namespace Go.Proofs.YtecifgaekefkpaaDoor
open Go.RowKit Go.Proofs.YtecifgaekefkpaaDoor.GrM

/-- What a turned grid is: its cells, what lies outside its old blocks as it was, its row where it was or new. -/
def Turned (p : Nat) (v : Value) (M : List Int) (m : Nat) (w w' : World) : Prop :=
  ∃ v', GrdAt w' p v' M m ∧ Out (FootG p v) w w' ∧ ∀ b, v'.ownBlock = some b → v.ownBlock = some b ∨ w.heap.size ≤ b
def PutP (p : Nat) (v : Value) (L : List Int) (n : Nat) (w : World) (e : Ending) (w' : World) : Prop :=
  e = .returned (.int .i64 n) ∧ Turned p v (L ++ freeC) (n + 1) w w'
theorem freeI : freeC.map intV = [(.int .i64 (-1) : Value), .int .i64 (-1), .int .i64 (-1), .int .i64 (-1), .int .i64 0, .int .i64 0, .int .i64 0, .int .i64 0] := rfl
set_option maxHeartbeats 4000000 in
theorem putY {w : World} {p n : Nat} {v : Value} {L : List Int} (h : GrdAt w p v L n) (hn : n ≤ 100000) :
    Calls Tryd.prog 50 #[.pointer (some ⟨p, 0, none⟩)] w (PutP p v L n w) := by
  obtain ⟨i0, hi, hz0, hz1, hz2⟩ := info_c8
  have H := Lib.hid h
  have hp := h.lt
  have h1 := h.c0
  obtain ⟨ao, co, rfl⟩ := h.form
  clear h
  go_enter Tryd.func50, Tryd.ntmps50
  go_wp2_with (at_builtin; refine wpList_append_fresh rfl (.tmp 7) (.tmp 10) 31 rfl 0 51 i0 (.agg #[.int .i64 0, .int .i64 0, .int .i64 0, .int .i64 0, .int .i64 0, .int .i64 0, .int .i64 0, .int .i64 0]) 8 64 Tryd.underlying31 hi hz0 hz1 hz2 rfl (by decide) (.slice ao n co) n (L.map intV) rfl (H.out.row.below ((Below.refl _ _).alloc (Nat.le_refl _) _) (Nat.le_refl _)) ⟨w.heap.size, 0, none⟩ 1 1 (freeC.map intV) rfl rfl (newsC _ _ _ _ _ _ _ _ _ _ _ rfl) (allI _) (by unfold maxLen; omega) (by omega) (Nat.zero_le _) ?_; intro v5 w5 hown hgrow hfr; have o5 := OwnG.more hown; obtain ⟨a5, c5, e5⟩ := o5.form; subst e5; have O5 := Lib.hid o5; have B5 : Hid (Out (FootG p (.slice ao n co)) w w5) := Lib.hid (((Out.refl _ w).alloc _).grown hgrow (fun k _ e => Or.inr e)); have F5 : Hid (∀ b, (Value.slice a5 (n + 1) c5).ownBlock = some b → (Value.slice ao n co).ownBlock = some b ∨ w.heap.size ≤ b) := Lib.hid (fun b hb => (hfr b hb).imp id (fun q => by simp at q; omega)); have b5 : w5.heap[p]? = some (.cells #[.slice ao n co] 103 (0, 0)) := (by rw [hgrow.block p (by simp; omega) (fun e => H.out.apart e.symm), Below.heap_alloc _ _ _ hp]; exact H.out.blk); have BB := Lib.hid b5; have g1 : w5.cell? ⟨p, 0, none⟩ = some (.slice ao n co) := (by simp [World.cell?, b5]); have g2 : w5.frozen? ⟨p, 0, none⟩ = false := (by simp only [World.frozen?, b5]; simp); clear hown hgrow hfr o5 b5)
  go_ret
  have ha : (Value.slice a5 (n + 1) c5).ownBlock ≠ some p := fun e => by
    rcases F5.out p e with h | h
    · exact H.out.apart h
    · omega
  refine ⟨ret_int (by omega), _, GrdAt.rowed BB.out O5.out ha, B5.out.setCell (fun _ => Or.inl rfl) _, F5.out⟩
/-- What makes a grid: the pointer to it; all of it is new. -/
def MadeG (M : List Int) (n : Nat) (w : World) (e : Ending) (w' : World) : Prop :=
  ∃ p v, e = .returned (.tuple #[.pointer (some ⟨p, 0, none⟩), .int .i64 0]) ∧ GrdAt w' p v M n ∧ (∀ b, FootG p v b → w.heap.size ≤ b) ∧ Below w.heap.size w w'
theorem newNeg (x : Int) (w : World) (hx : x < 0) : Calls Tryd.prog 38 #[.int .i64 x] w fun e w' => e = .returned (.tuple #[.pointer none, .int .i64 2]) ∧ w = w' := by
  have q0 : decide (x < 0) = true := by rw [decide_eq_true_eq]; exact hx
  clear hx
  go_enter Tryd.func38, Tryd.ntmps38
  go_wp2
  go_ret2
  exact ⟨rfl, rfl⟩
theorem newBig (x : Int) (w : World) (hx : 4096 < x) : Calls Tryd.prog 38 #[.int .i64 x] w fun e w' => e = .returned (.tuple #[.pointer none, .int .i64 6]) ∧ w = w' := by
  have q0 : decide (x < 0) = false := by rw [decide_eq_false_iff_not]; omega
  have q1 : decide (4096 < x) = true := by rw [decide_eq_true_eq]; exact hx
  clear hx
  go_enter Tryd.func38, Tryd.ntmps38
  go_wp2
  go_ret2
  exact ⟨rfl, rfl⟩
theorem mkCap (N : Nat) (hN : N ≤ 1000000) (w : World) : (Instr.makeSlice 31 (.int .i64 0) (.int .i64 (N : Int))).run Tryd.prog w = .ok (.slice (some ⟨w.heap.size, 0, none⟩) 0 N) (w.alloc (.cells (madeCells zeroC (N * 8)) 51)) := by
  obtain ⟨i, hi, hz, hs, hb⟩ := info_c8
  have h := run_make (P := Tryd.prog) w 31 51 i (.agg zeroC) Tryd.underlying31 hi hz .i64 .i64 0 (N : Int) (by omega) (by omega) (by rw [hb]; omega) (by omega)
  simp only [Int.toNat_natCast] at h
  rw [hs] at h
  exact h
theorem made_cap (N : Nat) (hN : N ≤ 1000000) (w : World) : OwnG (w.alloc (.cells (madeCells zeroC (N * 8)) 51)) w.heap.size (.slice (some ⟨w.heap.size, 0, none⟩) 0 N) [] 0 :=
  ownsRow_shorter (made_own N hN w) (Nat.zero_le _)
theorem made_cap2 (N : Nat) (hN : N ≤ 1000000) (w : World) (o : Obj) : OwnG ((w.alloc (.cells (madeCells zeroC (N * 8)) 51)).alloc o) 0 (.slice (some ⟨w.heap.size, 0, none⟩) 0 N) [] 0 :=
  ((made_cap N hN w).below ((Below.refl _ _).alloc (Nat.le_refl _) _) (Nat.le_refl _)).base (Nat.zero_le _)
def RgN (p n : Nat) (wb wr : World) (iv : Value) : Prop := ∃ k : Nat, iv = .int .i64 k ∧ k ≤ n ∧ ∃ v, GrdAt wr p v (newG k) k ∧ (∀ b, FootG p v b → wb.heap.size ≤ b) ∧ Below wb.heap.size wb wr
set_option maxHeartbeats 4000000 in
theorem newY (n : Nat) (w : World) (hn : n ≤ 4096) : Calls Tryd.prog 38 #[.int .i64 n] w (MadeG (newG n) n w) := by
  have hmk := mkCap n (by omega)
  have M0 := Lib.hid (made_cap2 n (by omega) w)
  have q0 : decide ((n : Int) < 0) = false := by rw [decide_eq_false_iff_not]; omega
  have q1 : decide ((4096 : Int) < n) = false := by rw [decide_eq_false_iff_not]; omega
  have q2 : decide (4096 < n) = false := by rw [decide_eq_false_iff_not]; omega
  go_enter Tryd.func38, Tryd.ntmps38
  go_wp2
  clear hmk
  go_loopw [14] (fun iv wr => RgN (w.heap.size + 1) n w wr iv) (fun iv _ => n - (intOf iv).toNat)
  case atStart =>
    refine ⟨0, rfl, Nat.zero_le _, _, ⟨heap_two w _ _, M0.out _, by simp [Value.ownBlock]⟩, ?_, ((Below.refl _ _).alloc (Nat.le_refl _) _).alloc (by simp) _⟩
    rintro b (rfl | hb)
    · omega
    · simp [Value.ownBlock] at hb; omega
  case round =>
    obtain ⟨k, rfl, hk, v, hG, hF, hB⟩ := hrel
    have G := Lib.hid hG
    have F := Lib.hid hF
    have B := Lib.hid hB
    clear hG hF hB
    by_cases hlt : k < n
    · have q3 : decide (k < n) = true := by rw [decide_eq_true_eq]; exact hlt
      go_wp2_with (go_at_call 50; refine (putY G.out (by omega)).mono ?_; rintro e w5 ⟨rfl, v', G', O', F'⟩; have G5 := Lib.hid G'; have O5 := Lib.hid O'; have F5 := Lib.hid F'; clear G' O' F')
      go_roundw
      case rel =>
        refine ⟨k + 1, by go_num, by omega, v', G5.out, ?_, B.out.trans (O5.out.below B.out.size (fun i _ hi => F.out i hi))⟩
        rintro b (rfl | hb)
        · exact F.out _ (Or.inl rfl)
        · rcases F5.out b hb with h | h
          · exact F.out b (Or.inr h)
          · exact Nat.le_trans B.out.size h
      case measure => (simp [intOf] <;> omega)
    · have hkn : k = n := by omega
      subst hkn
      go_wp2_with fail
      go_ret2
      exact ⟨_, v, rfl, G.out, F.out, B.out⟩
end Go.Proofs.YtecifgaekefkpaaDoor

namespace Go.Proofs.YtecifgaekefkpaaDoor
open Go.RowKit Go.Proofs.YtecifgaekefkpaaDoor.GrM

set_option maxHeartbeats 4000000 in
set_option maxRecDepth 100000 in
theorem linkY {w : World} {p n g cap : Nat} {L : List Int} (h : GrdAt w p (.slice (some ⟨g, 0, none⟩) n cap) L n) (a d x : Nat) (o : Int) (ha : a < n) (hx : x < n) (hd : d < 4) :
    Calls Tryd.prog 57 #[.pointer (some ⟨p, 0, none⟩), .int .i64 a, .int .i64 d, .int .i64 x, .int .i64 o] w fun e w' => e = .returned (.tuple #[]) ∧
      GrdAt w' p (.slice (some ⟨g, 0, none⟩) n cap) (joinG L a d x o) n ∧ Out (fun b => b = g) w w' := by
  have C := Lib.hid (contraryY d)
  have H := Lib.hid h
  have h1 := h.c0
  have hl := h.len
  obtain ⟨y1, k1⟩ : ∃ y, w.cell? ⟨g, a * 8 + d, none⟩ = some y := ⟨_, by rw [h.row.cellAt (a * 8 + d) (by omega), List.getElem?_eq_getElem (by simp; omega)]⟩
  obtain ⟨y2, k2⟩ : ∃ y, w.cell? ⟨g, a * 8 + 4 + d, none⟩ = some y := ⟨_, by rw [h.row.cellAt (a * 8 + 4 + d) (by omega), List.getElem?_eq_getElem (by simp; omega)]⟩
  have f1 := h.row.frozenAt (a * 8 + d)
  have f2 := h.row.frozenAt (a * 8 + 4 + d)
  have hlh := Lib.hid hl
  clear h hl
  go_enter Tryd.func57, Tryd.ntmps57
  go_upto_region 1 with (go_at_call 56; refine (C.out _ hd).mono ?_; rintro e w' ⟨rfl, rfl⟩)
  go_region
  have g2 : GrdAt (((w.setCell ⟨g, a * 8 + d, none⟩ (.int .i64 x)).setCell ⟨g, a * 8 + 4 + d, none⟩ (.int .i64 o)).drew) p (.slice (some ⟨g, 0, none⟩) n cap) (putG L a d x o) n := ((H.out.set _ _).set _ _).drew
  have u2 : Out (fun b => b = g) w (((w.setCell ⟨g, a * 8 + d, none⟩ (.int .i64 x)).setCell ⟨g, a * 8 + 4 + d, none⟩ (.int .i64 o)).drew) := (((Out.refl _ w).setIn _ _).setIn _ _).drew
  clear h1 k1 k2 f1 f2
  generalize (((w.setCell ⟨g, a * 8 + d, none⟩ (.int .i64 x)).setCell ⟨g, a * 8 + 4 + d, none⟩ (.int .i64 o)).drew) = w2 at *
  have G2 := Lib.hid g2
  have U2 := Lib.hid u2
  have h1 := g2.c0
  have ho4 := opp_lt d
  have hl2 := g2.len
  obtain ⟨y3, k1⟩ : ∃ y, w2.cell? ⟨g, x * 8 + opp d, none⟩ = some y := ⟨_, by rw [g2.row.cellAt (x * 8 + opp d) (by omega), List.getElem?_eq_getElem (by simp; omega)]⟩
  obtain ⟨y4, k2⟩ : ∃ y, w2.cell? ⟨g, x * 8 + 4 + opp d, none⟩ = some y := ⟨_, by rw [g2.row.cellAt (x * 8 + 4 + opp d) (by omega), List.getElem?_eq_getElem (by simp; omega)]⟩
  have f1 := g2.row.frozenAt (x * 8 + opp d)
  have f2 := g2.row.frozenAt (x * 8 + 4 + opp d)
  have GE : Hid (GrdAt (((w2.setCell ⟨g, x * 8 + opp d, none⟩ (.int .i64 a)).setCell ⟨g, x * 8 + 4 + opp d, none⟩ (.int .i64 o)).drew) p (.slice (some ⟨g, 0, none⟩) n cap) (joinG L a d x o) n) := Lib.hid ((g2.set _ _).set _ _).drew
  have UE : Hid (Out (fun b => b = g) w (((w2.setCell ⟨g, x * 8 + opp d, none⟩ (.int .i64 a)).setCell ⟨g, x * 8 + 4 + opp d, none⟩ (.int .i64 o)).drew)) := Lib.hid ((u2.setIn _ _).setIn _ _).drew
  clear g2 u2 hl2
  generalize opp d = d2 at *
  go_wp2_with fail
  go_region
  go_wp2_with fail
  go_end0
  exact ⟨rfl, GE.out, UE.out⟩
end Go.Proofs.YtecifgaekefkpaaDoor
