/-
  A row of bytes of the call's own, read as words; rows of words put in order, and compared. Conditions: at most 1000000.
-/
import Derived.Test.YtkgabklponjagaaDoorFcX
import Derived.Test.YtkgabklponjagaaDoorFcH
import Derived.Sort.OwnSorted
import Derived.Laws.BytesArg
import Derived.Lib.MinMaxS
namespace Go.Proofs.YtkgabklponjagaaDoor
open Go.RowKit Go.Sort Go.Proofs.YtkgabklponjagaaDoor.GrM Go.Proofs.YtkgabklponjagaaDoor.FcM

def btV (b : UInt8) : Value := .int .u8 (b.toNat : Int)
def wdS (l : List UInt8) : ByteArray := ⟨l.toArray⟩
def OwnB (w : World) (B : Nat) (v : Value) (L : List UInt8) (n : Nat) : Prop := w.ownsRow B 5 1 v n (L.map btV)
theorem OwnB.len {w : World} {B n : Nat} {v : Value} {l : List UInt8} (h : OwnB w B v l n) : l.length = n := by simpa using h.1
theorem OwnB.form {w : World} {B n : Nat} {v : Value} {l : List UInt8} (h : OwnB w B v l n) : ∃ ao cap, v = .slice ao n cap := row_form12 h
theorem OwnB.below {w w' : World} {B C n : Nat} {v : Value} {l : List UInt8} (h : OwnB w B v l n) (o : Below C w w') (hC : w.heap.size ≤ C) : OwnB w' B v l n := row_below12 h o hC
theorem OwnB.more {w : World} {B n : Nat} {v : Value} {l : List UInt8} {a : UInt8} {z : Int} (hz : z = (a.toNat : Int)) (h : w.ownsRow B 5 1 v (n + 1) (l.map btV ++ [.int .u8 z])) : OwnB w B v (l ++ [a]) (n + 1) := by
  subst hz
  unfold OwnB
  rw [List.map_append]
  exact h
theorem wdS_nums (L : List UInt8) : strOfNums (L.map fun b => (b.toNat : Int)) = wdS L := by
  unfold strOfNums wdS
  rw [List.map_map]
  congr 2
  conv => rhs; rw [← List.map_id L]
  exact List.map_congr_left fun b _ => by simp
theorem wdS_app (x y : List UInt8) : wdS x ++ wdS y = wdS (x ++ y) := by
  unfold wdS
  apply ByteArray.ext
  simp
theorem wdS_min (x y : List UInt8) : Lib.minS (wdS x) (wdS y) = wdS (minL x y) := by
  unfold Lib.minS minL wdS
  split <;> rfl
/-- Bytes from one to before another, read as a word. -/
theorem convB {w : World} {g o n c : Nat} {L : List UInt8} (hl : L.length = n) (hc : ∀ k, k < n → w.cell? ⟨g, o + k, none⟩ = some (.int .u8 ((L.getD k 0).toNat : Int))) : (convert 22 9 (.slice (some ⟨g, o, none⟩) n c)).run Tryd.prog w = .ok (.string (wdS L)) w := by
  rw [← wdS_nums]
  refine run_convert_bytes_arg w _ _ Tryd.underlying22 Tryd.underlying5 g o n c (L.map fun b => (b.toNat : Int)) (by rw [List.length_map, hl]) (fun i hi => ?_) _ Tryd.underlying9
  rw [hc i hi]
  have : i < L.length := by omega
  simp [List.getD_eq_getElem?_getD, this]
theorem OwnB.cells {w : World} {B g n cap : Nat} {L : List UInt8} (h : OwnB w B (.slice (some ⟨g, 0, none⟩) n cap) L n) : ∀ k, k < n → w.cell? ⟨g, k, none⟩ = some (.int .u8 ((L.getD k 0).toNat : Int)) := fun k hk => by
  have hl := h.len
  have := World.ownsRow.cellAt h k (by omega)
  rw [this]
  have : k < L.length := by omega
  simp [btV, List.getD_eq_getElem?_getD, this]
theorem convAll {w : World} {B n c : Nat} {ao : Option Addr} {L : List UInt8} (h : OwnB w B (.slice ao n c) L n) : (convert 22 9 (.slice ao n c)).run Tryd.prog w = .ok (.string (wdS L)) w := by
  have hl := h.len
  rcases h.2 with ⟨h1, h2⟩ | ⟨g, cap, cur, h1, _, hg, hc, hr⟩
  · simp only [Value.slice.injEq] at h1
    obtain ⟨rfl, _, rfl⟩ := h1
    have hl : L = [] := List.eq_nil_of_length_eq_zero (by omega)
    subst hl
    exact run_convert_bytes_nil w _ _ Tryd.underlying22 Tryd.underlying5 n 0 _ Tryd.underlying9
  · simp only [Value.slice.injEq, true_and] at h1
    obtain ⟨rfl, rfl⟩ := h1
    exact convB hl (fun k hk => by rw [Nat.zero_add]; exact h.cells k hk)
theorem convFrom {w : World} {B g n cap c : Nat} {L : List UInt8} (h : OwnB w B (.slice (some ⟨g, 0, none⟩) n cap) L n) {i m : Nat} (hi : i + m = n) : (convert 22 9 (.slice (some ⟨g, i, none⟩) m c)).run Tryd.prog w = .ok (.string (wdS (L.drop i))) w :=
  convB (by rw [List.length_drop, h.len]; omega) (fun k hk => by rw [h.cells (i + k) (by omega)]; simp [List.getD_eq_getElem?_getD])
theorem convTo {w : World} {B g n cap c : Nat} {L : List UInt8} (h : OwnB w B (.slice (some ⟨g, 0, none⟩) n cap) L n) {i : Nat} (hi : i ≤ n) : (convert 22 9 (.slice (some ⟨g, 0, none⟩) i c)).run Tryd.prog w = .ok (.string (wdS (L.take i))) w :=
  convB (by rw [List.length_take, h.len]; omega) (fun k hk => by rw [Nat.zero_add, h.cells k (by omega)]; simp [List.getD_eq_getElem?_getD, hk])
theorem infoU12 : (Tryd.prog.info? 5).map (fun i => (i.zero, i.size, i.bytes)) = some (some (.int .u8 0), 1, 1) := by kernel_rfl
theorem infoS12 : (Tryd.prog.info? 9).map (fun i => (i.zero, i.size, i.bytes)) = some (some (.string ByteArray.empty), 1, 16) := by kernel_rfl

/-! Words. -/
def OwnS (w : World) (B : Nat) (v : Value) (ss : List (List UInt8)) (n : Nat) : Prop := w.ownsRow B 9 1 v n (ss.map encStr)
theorem OwnS.len {w : World} {B n : Nat} {v : Value} {ss : List (List UInt8)} (h : OwnS w B v ss n) : ss.length = n := by simpa using h.1
theorem OwnS.form {w : World} {B n : Nat} {v : Value} {ss : List (List UInt8)} (h : OwnS w B v ss n) : ∃ ao cap, v = .slice ao n cap := row_form12 h
theorem OwnS.below {w w' : World} {B C n : Nat} {v : Value} {ss : List (List UInt8)} (h : OwnS w B v ss n) (o : Below C w w') (hC : w.heap.size ≤ C) : OwnS w' B v ss n := row_below12 h o hC
theorem OwnS.more {w : World} {B n : Nat} {v : Value} {ss : List (List UInt8)} {a : List UInt8} (h : w.ownsRow B 9 1 v (n + 1) (ss.map encStr ++ [.string (wdS a)])) : OwnS w B v (ss ++ [a]) (n + 1) := by
  unfold OwnS
  rw [List.map_append]
  exact h
theorem sortS (B : Nat) (v : Value) (ss : List (List UInt8)) (n : Nat) (w : World) (h : OwnS w B v ss n) (hs : n ≤ 1000000) :
    Calls Tryd.prog 37 #[v] w fun e w' => e = .returned (.tuple #[]) ∧ OwnS w' B v (ss.mergeSort fun x y => decide (x ≤ y)) n ∧ w.grownBy w' v.ownBlock := by
  obtain rfl := h.len
  by_cases h0 : ss.length = 0
  · obtain rfl : ss = [] := List.eq_nil_of_length_eq_zero h0
    obtain ⟨ao, cap, rfl⟩ := row_form12 h
    refine (Go.Proofs.Tryd.slices_Sort_string_none ao cap w).mono ?_
    rintro e w' ⟨rfl, rfl⟩
    exact ⟨rfl, by simpa using h, World.grownBy.refl _ _⟩
  · rcases h.2 with ⟨_, h2⟩ | ⟨gg, cap, cur, rfl, hbase, hb, h1, h2, h3, h4⟩
    · exact absurd h2 h0
    · refine (Go.Proofs.Tryd.slices_Sort_string gg 0 cap ss w (holds_of_block hb (by simpa using h4)) (Array.getElem?_eq_some_iff.1 hb).1 (by omega)).mono ?_
      rintro e w' ⟨rfl, n, os, rfl⟩
      refine ⟨rfl, ?_, grownBy_sorted _⟩
      have hl : (ss.mergeSort fun x y => decide (x ≤ y)).length = ss.length := by simp
      exact ownsRow_sorted hl hbase hb h1 h2 h3
theorem OwnS.cells {w : World} {B n g cap : Nat} {x : List (List UInt8)} (h : OwnS w B (.slice (some ⟨g, 0, none⟩) n cap) x n) : ∀ j, j < (x.map wdS).length → w.cell? ⟨g, 0 + j, none⟩ = some (.string ((x.map wdS).getD j ByteArray.empty)) := fun j hj => by
  have hl := h.len
  rw [List.length_map] at hj
  rw [Nat.zero_add, World.ownsRow.cellAt h j (by omega)]
  simp [List.getD_eq_getElem?_getD, hj, encStr, wdS]
theorem wdS_inj : ∀ {x y : List (List UInt8)}, x.map wdS = y.map wdS → x = y
  | [], [], _ => rfl
  | [], _ :: _, h => by simp at h
  | _ :: _, [], h => by simp at h
  | a :: x, b :: y, h => by
    simp only [List.map_cons, List.cons.injEq] at h
    have h1 := h.1
    unfold wdS at h1
    simp only [ByteArray.mk.injEq] at h1
    have h2 := congrArg Array.toList h1
    simp only at h2
    rw [h2, wdS_inj h.2]
theorem equalS (B C : Nat) (v u : Value) (x y : List (List UInt8)) (n m : Nat) (w : World) (hX : OwnS w B v x n) (hY : OwnS w C u y m) (hx : n ≤ 1000000) (hy : m ≤ 1000000) :
    Calls Tryd.prog 25 #[v, u] w fun e w' => e = .returned (.bool (decide (x = y))) ∧ Below w.heap.size w w' := by
  have hl := hX.len
  have hm := hY.len
  obtain ⟨A, c, rfl⟩ := hX.form
  obtain ⟨A', c', rfl⟩ := hY.form
  by_cases h0 : n = m
  · subst h0
    by_cases h1 : n = 0
    · subst h1
      obtain rfl := List.eq_nil_of_length_eq_zero hl
      obtain rfl := List.eq_nil_of_length_eq_zero hm
      refine (Go.Proofs.Tryd.slices_Equal_string_empty A A' c 0 c' w (by omega)).mono ?_
      rintro e w' ⟨rfl, rfl⟩
      exact ⟨rfl, Below.refl _ _⟩
    · rcases hX.2 with ⟨_, h2⟩ | ⟨b, k1, cur, e1, _⟩
      · exact absurd h2 h1
      · rcases hY.2 with ⟨_, h2⟩ | ⟨b', k2, cur', e2, _⟩
        · exact absurd h2 h1
        · simp only [Value.slice.injEq, true_and] at e1 e2
          obtain ⟨rfl, rfl⟩ := e1
          obtain ⟨rfl, rfl⟩ := e2
          refine (Go.Proofs.Tryd.slices_Equal_string b 0 n c b' 0 n c' (x.map wdS) (y.map wdS) w (by simp; omega) (by simp; omega) (by omega) (by omega) hX.cells hY.cells).mono ?_
          rintro e w' ⟨rfl, q, rfl⟩
          rw [List.take_of_length_le (by simp; omega), List.take_of_length_le (by simp; omega)]
          refine ⟨ret_bool ?_, drewN_bel12 w q⟩
          by_cases h : x = y
          · subst h; simp
          · rw [decide_eq_false h, decide_eq_false (fun e => h (wdS_inj e))]
  · refine (Go.Proofs.Tryd.slices_Equal_string_lens A A' n c m c' w h0).mono ?_
    rintro e w' ⟨rfl, rfl⟩
    refine ⟨ret_bool ?_, Below.refl _ _⟩
    rw [decide_eq_false (fun e => h0 (by rw [← hl, ← hm, e]))]
end Go.Proofs.YtkgabklponjagaaDoor
