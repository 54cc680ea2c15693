/-
  What the code's areBends, lefts, backBends answer; a row of bytes of the call's own. Conditions: texts of at most 2000000 bytes.
  What the code's Back answers. Conditions: bends of at most 2000000 letters.
  What the reference's Last and Back answer. Conditions: edges that may be, bends of at most 2000000 letters.
  What the reference's Check answers, at any shape. Conditions: at most 1000000 vertices, edges, letters of an edge.
-/
import Derived.Test.YtbdkkkpgjcfdgaaDoorNzPb
import Derived.Test.YtbdkkkpgjcfdgaaDoorNzPm
import Derived.Test.YtbdkkkpgjcfdgaaDoorAppend
import Derived.Laws.BytesArg
import Derived.Deep.RegionHeld3
import Derived.Deep.CutRange
namespace Go.Proofs.YtbdkkkpgjcfdgaaDoor
open Go.RowKit Go.Proofs.YtbdkkkpgjcfdgaaDoor.LexM Go.Proofs.YtbdkkkpgjcfdgaaDoor.ParM

/-- A row of bytes of the call's own. -/
def bytV (b : UInt8) : Value := .int .u8 (b.toNat : Int)
def OwnU (w : World) (B : Nat) (v : Value) (L : List UInt8) : Prop := w.ownsRow B 5 1 v L.length (L.map bytV)
theorem OwnU.form {w : World} {B : Nat} {v : Value} {l : List UInt8} (h : OwnU w B v l) : ∃ ao cap, v = .slice ao l.length cap := by
  rcases h.2 with ⟨h1, h2⟩ | ⟨_, _, _, h, _⟩
  · exact ⟨none, 0, by rw [h2]; exact h1⟩
  · exact ⟨_, _, h⟩
theorem OwnU.below {w w' : World} {B C : Nat} {v : Value} {l : List UInt8} (h : OwnU w B v l) (o : Below C w w') (hC : w.heap.size ≤ C) : OwnU w' B v l := ownsRow_out (S := fun _ => False) h (Out.ofBelow (o.mono hC)) (fun _ _ e => e)
theorem OwnU.at_ {w : World} {B n : Nat} {v : Value} {l : List UInt8} (h : OwnU w B v l) (e : l.length = n) : w.ownsRow B 5 1 v n (l.map bytV) := by subst e; exact h
theorem OwnU.snocAt {w : World} {B n : Nat} {v : Value} {l : List UInt8} {a : UInt8} {z : Int} (hz : z = (a.toNat : Int)) (e : l.length = n) (h : w.ownsRow B 5 1 v (n + 1) (l.map bytV ++ [.int .u8 z])) : OwnU w B v (l ++ [a]) := by
  subst e hz
  unfold OwnU
  rw [List.length_append, List.map_append]
  exact h
theorem newsU (w : World) (t : TypeId) (x : Int) (b : Nat) (hb : w.heap.size = b) : ∀ j z, [Value.int .u8 x][j]? = some z → (w.alloc (.cells #[.int .u8 x] t)).cell? ((⟨b, 0, none⟩ : Addr).add j) = some z := by
  intro j z hz
  have hj : j = 0 := by have := List.getElem?_eq_some_iff.1 hz; simp at this; omega
  subst hj hb
  simp at hz
  subst hz
  go_simp
theorem oneU (x : Int) : ∀ z ∈ [Value.int .u8 x], z.oneCell' = true := by
  intro z hz
  simp at hz
  subst hz
  rfl
theorem infoU8 : (Tryd.prog.info? 5).map (fun i => (i.zero, i.size, i.bytes)) = some (some (.int .u8 0), 1, 1) := by kernel_rfl
theorem mkByt (N : Nat) (hN : N ≤ 4000000) (w : World) : (Instr.makeSlice 22 (.int .i64 0) (.int .i64 (N : Int))).run Tryd.prog w = .ok (.slice (some ⟨w.heap.size, 0, none⟩) 0 N) (w.alloc (.cells (madeCells #[.int .u8 0] N) 5)) := by
  obtain ⟨i, hi, hz, hs, hb⟩ := info_of infoU8
  have h := run_make (P := Tryd.prog) w 22 5 i (.int .u8 0) Tryd.underlying22 hi hz .i64 .i64 0 (N : Int) (by decide) (by omega) (by rw [hb]; omega) (by omega)
  rw [hs, Nat.mul_one] at h
  simp only [Int.toNat_zero, Int.toNat_natCast] at h
  exact h
theorem ownU_made (w : World) (N : Nat) (hN : N ≤ 4000000) : OwnU (w.alloc (.cells (madeCells #[.int .u8 0] N) 5)) w.heap.size (.slice (some ⟨w.heap.size, 0, none⟩) 0 N) [] :=
  World.ownsRow_made (base := w.heap.size) (e := 5) (size := 1) w (madeCells #[.int .u8 0] N) N (Nat.le_refl _) (by unfold maxLen; omega) (by rw [Nat.mul_one]; exact size_madeCells _ _)
theorem strOf_bytes (L : List UInt8) : strOfNums (L.map fun b => (b.toNat : Int)) = bs L := by
  unfold strOfNums bs
  rw [List.map_map]
  congr 2
  conv => rhs; rw [← List.map_id L]
  exact List.map_congr_left fun b _ => by simp
theorem convU (w : World) (B : Nat) (v : Value) (L : List UInt8) (n : Nat) (ao : Option Addr) (c : Nat) (h : OwnU w B v L) (hv : v = .slice ao n c) (hn : L.length = n) : (convert 22 9 (.slice ao n c)).run Tryd.prog w = .ok (.string (bs L)) w := by
  rcases h.2 with ⟨h1, h2⟩ | ⟨g, cap, cur, h1, _, hg, hc, hr⟩
  · rw [h1] at hv
    simp only [Value.slice.injEq] at hv
    obtain ⟨rfl, rfl, rfl⟩ := hv
    have hl : L = [] := List.eq_nil_of_length_eq_zero h2
    subst hl
    exact run_convert_bytes_nil w _ _ Tryd.underlying22 Tryd.underlying5 0 0 _ Tryd.underlying9
  · rw [h1] at hv
    simp only [Value.slice.injEq] at hv
    obtain ⟨rfl, rfl, rfl⟩ := hv
    have h' := h
    rw [h1] at h'
    rw [← strOf_bytes]
    refine run_convert_bytes_arg w _ _ Tryd.underlying22 Tryd.underlying5 g 0 _ cap (L.map fun b => (b.toNat : Int)) (by rw [List.length_map]) (fun i hi => ?_) _ Tryd.underlying9
    rw [Nat.zero_add, World.ownsRow.cellAt h' i (by simpa using hi)]
    rw [List.getElem?_map, List.getElem?_eq_getElem hi]
    simp [bytV, List.getD_eq_getElem?_getD, hi]

/-! The small calls. -/
theorem txt_more {l : List UInt8} {x : UInt8} (h : isTurns l = true) (hx : x = 76 ∨ x = 82) : isTurns (l ++ [x]) = true := by
  unfold isTurns at h ⊢
  rw [List.all_append, h]
  rcases hx with rfl | rfl <;> rfl
theorem txt_not {l : List UInt8} {b : UInt8} (hb : b ∈ l) (h1 : b ≠ 76) (h2 : b ≠ 82) : isTurns l = false := by
  rw [Bool.eq_false_iff]
  intro hc
  have := List.all_eq_true.1 hc b hb
  simp [h1, h2] at this
def TaRel (l : List UInt8) (w wr : World) (iv : Value) : Prop := ∃ k : Nat, iv = .int .i64 k ∧ k ≤ l.length ∧ isTurns (l.take k) = true ∧ wr = w

def TlRel (l : List UInt8) (w wr : World) (nv iv : Value) : Prop := ∃ (k : Nat) (z : Int), iv = .int .i64 k ∧ nv = .int .i64 z ∧ z = sumC (l.take k) ∧ k ≤ l.length ∧ wr = w

def TkRel (l : List UInt8) (w wr : World) (bv iv : Value) : Prop := ∃ (k : Nat) (z : Int), iv = .int .i64 z ∧ z = (k : Int) - 1 ∧ k ≤ l.length ∧ OwnU wr w.heap.size bv (bkT l k) ∧ Below w.heap.size w wr

end Go.Proofs.YtbdkkkpgjcfdgaaDoor

namespace Go.Proofs.YtbdkkkpgjcfdgaaDoor
open Go.RowKit Go.Proofs.YtbdkkkpgjcfdgaaDoor.LexM Go.Proofs.YtbdkkkpgjcfdgaaDoor.ParM

/-- The edge's box, and the result's that is still empty. -/
structure BkSt (w wk : World) (y1 y2 y3 : Int) (sb : ByteArray) : Prop where
  below : Below w.heap.size w wk
  arg : wk.heap[w.heap.size]? = some (.cells #[.int .i64 y1, .int .i64 y2, .int .i64 y3, .string sb] 75 (0, 0))
  res : wk.heap[w.heap.size + 1]? = some (.cells #[.int .i64 0, .int .i64 0, .int .i64 0, .string ByteArray.empty] 75 (0, 0))
section
variable {w wk wl : World} {y1 y2 y3 : Int} {sb : ByteArray}
theorem BkSt.step (h : BkSt w wk y1 y2 y3 sb) (b : Below wk.heap.size wk wl) : BkSt w wl y1 y2 y3 sb :=
  ⟨h.below.trans (b.mono h.below.size), by rw [b.block _ (Array.getElem?_eq_some_iff.1 h.arg).1]; exact h.arg, by rw [b.block _ (Array.getElem?_eq_some_iff.1 h.res).1]; exact h.res⟩
theorem BkSt.cs (h : BkSt w wk y1 y2 y3 sb) : wk.cell? ⟨w.heap.size, 0, none⟩ = some (.int .i64 y1) ∧ wk.cell? ⟨w.heap.size, 1, none⟩ = some (.int .i64 y2) ∧ wk.cell? ⟨w.heap.size, 2, none⟩ = some (.int .i64 y3) ∧ wk.cell? ⟨w.heap.size, 3, none⟩ = some (.string sb) ∧ w.heap.size < wk.heap.size := by
  have h1 := h.arg
  exact ⟨by simp [World.cell?, h1], by simp [World.cell?, h1], by simp [World.cell?, h1], by simp [World.cell?, h1], (Array.getElem?_eq_some_iff.1 h1).1⟩
theorem BkSt.rs (h : BkSt w wk y1 y2 y3 sb) : wk.cell? ⟨w.heap.size + 1, 0, none⟩ = some (.int .i64 0) ∧ wk.cell? ⟨w.heap.size + 1, 1, none⟩ = some (.int .i64 0) ∧ wk.cell? ⟨w.heap.size + 1, 2, none⟩ = some (.int .i64 0) ∧ wk.cell? ⟨w.heap.size + 1, 3, none⟩ = some (.string ByteArray.empty) ∧ w.heap.size + 1 < wk.heap.size := by
  have h1 := h.res
  exact ⟨by simp [World.cell?, h1], by simp [World.cell?, h1], by simp [World.cell?, h1], by simp [World.cell?, h1], (Array.getElem?_eq_some_iff.1 h1).1⟩
theorem BkSt.fr (h : BkSt w wk y1 y2 y3 sb) (j : Nat) : wk.frozen? ⟨w.heap.size + 1, j, none⟩ = false := by
  have h := h.res
  simp only [World.frozen?, h]; simp
theorem BkSt.filled (h : BkSt w wk y1 y2 y3 sb) (v0 v1 v2 v3 : Value) {w6 : World}
    (e : ((((wk.setCell ⟨w.heap.size + 1, 0, none⟩ v0).setCell ⟨w.heap.size + 1, 1, none⟩ v1).setCell ⟨w.heap.size + 1, 2, none⟩ v2).setCell ⟨w.heap.size + 1, 3, none⟩ v3) = w6) :
    w6.cell? ⟨w.heap.size + 1, 0, none⟩ = some v0 ∧ w6.cell? ⟨w.heap.size + 1, 1, none⟩ = some v1 ∧ w6.cell? ⟨w.heap.size + 1, 2, none⟩ = some v2 ∧ w6.cell? ⟨w.heap.size + 1, 3, none⟩ = some v3 ∧ Below w.heap.size w w6 := by
  subst e
  have hc := heap_setCell_at (heap_setCell_at (heap_setCell_at (heap_setCell_at h.res 0 v0) 1 v1) 2 v2) 3 v3
  have ho : Out (fun x => x = w.heap.size + 1) wk ((((wk.setCell ⟨w.heap.size + 1, 0, none⟩ v0).setCell ⟨w.heap.size + 1, 1, none⟩ v1).setCell ⟨w.heap.size + 1, 2, none⟩ v2).setCell ⟨w.heap.size + 1, 3, none⟩ v3) := ((((Out.refl _ wk).setIn _ _).setIn _ _).setIn _ _).setIn _ _
  have hx : ∀ j v, ((((#[Value.int .i64 0, .int .i64 0, .int .i64 0, .string ByteArray.empty].setIfInBounds 0 v0).setIfInBounds 1 v1).setIfInBounds 2 v2).setIfInBounds 3 v3)[j]? = some v → ((((wk.setCell ⟨w.heap.size + 1, 0, none⟩ v0).setCell ⟨w.heap.size + 1, 1, none⟩ v1).setCell ⟨w.heap.size + 1, 2, none⟩ v2).setCell ⟨w.heap.size + 1, 3, none⟩ v3).cell? ⟨w.heap.size + 1, j, none⟩ = some v := fun j v hv => by
    simp only [World.cell?, hc]
    exact hv
  exact ⟨hx 0 v0 rfl, hx 1 v1 rfl, hx 2 v2 rfl, hx 3 v3 rfl, h.below.trans (ho.below h.below.size (fun i _ e => by omega))⟩
end
theorem BkSt.start (w : World) (y1 y2 y3 : Int) (sb : ByteArray) : BkSt w ((w.alloc (.cells #[.int .i64 y1, .int .i64 y2, .int .i64 y3, .string sb] 75)).alloc (.cells #[.int .i64 0, .int .i64 0, .int .i64 0, .string ByteArray.empty] 75)) y1 y2 y3 sb :=
  ⟨((Below.refl _ _).alloc (Nat.le_refl _) _).alloc (by simp) _, by rw [Below.heap_alloc _ _ _ (by simp)]; exact heap_alloc_new w _, heap_second w _ _⟩


end Go.Proofs.YtbdkkkpgjcfdgaaDoor

namespace Go.Proofs.YtbdkkkpgjcfdgaaDoor
open Go.RowKit Go.Proofs.YtbdkkkpgjcfdgaaDoor.LexM Go.Proofs.YtbdkkkpgjcfdgaaDoor.ParM

theorem addT_l : addT 76 = 1 := rfl
theorem addT_r {b : UInt8} (h : b ≠ 76) : addT b = 3 := by unfold addT; rw [if_neg h]
def RlstRel (d : Int) (l : List UInt8) (wb wr : World) (dv iv : Value) : Prop := ∃ (k z : Nat), iv = .int .i64 k ∧ dv = .int .i64 z ∧ (z : Int) = lastT d (l.take k) ∧ k ≤ l.length ∧ wr = wb
set_option maxHeartbeats 4000000 in
set_option maxRecDepth 100000 in
theorem refLast (y1 y2 y3 : Int) (y4 : List UInt8) (w : World) (hz : y4.length ≤ 2000000) (h0 : 0 ≤ y3) (h3 : y3 ≤ 3) :
    Calls Tryd.prog 49 #[.agg #[.int .i64 y1, .int .i64 y2, .int .i64 y3, .string (bs y4)]] w fun r w' => r = .returned (.int .i64 (lastT y3 y4)) ∧ Below w.heap.size w w' := by
  have hzb : (bs y4).size ≤ 2000000 := by rw [bs_size]; exact hz
  have HZ := Lib.hid (bs_size y4)
  obtain ⟨sb, hsb⟩ : ∃ s, bs y4 = s := ⟨_, rfl⟩
  have DA : Hid (sb.data.toList = y4) := Lib.hid (by rw [← hsb, bs_data])
  have L0 := Lib.hid (lastT_nil h0 h3)
  obtain ⟨d0, hd0⟩ : ∃ d : Nat, (d : Int) = y3 := ⟨y3.toNat, by omega⟩
  rw [← hd0] at L0 ⊢
  rw [hsb] at HZ hzb ⊢
  clear hz hsb h0 h3 hd0
  go_enter Tryd.func49, Tryd.ntmps49
  go_upto_region 1 with (fail)
  generalize hwb : World.alloc w _ = wb
  have hk : wb.heap[w.heap.size]? = some (.cells #[.int .i64 y1, .int .i64 y2, .int .i64 d0, .string sb] 75 (0, 0)) := by rw [← hwb]; exact heap_alloc_new w _
  have B0 : Hid (Below w.heap.size w wb) := Lib.hid (by rw [← hwb]; exact (Below.refl _ _).alloc (Nat.le_refl _) _)
  have x2 : wb.cell? ⟨w.heap.size, 2, none⟩ = some (.int .i64 d0) := by simp [World.cell?, hk]
  have x3 : wb.cell? ⟨w.heap.size, 3, none⟩ = some (.string sb) := by simp [World.cell?, hk]
  have xl := (Array.getElem?_eq_some_iff.1 hk).1
  clear hwb hk
  go_wp2
  go_loopw [3, 4] (fun dv iv wr => RlstRel d0 y4 wb wr dv iv) (fun _ iv _ => sb.size - (intOf iv).toNat)
  case atStart => exact ⟨0, d0, rfl, rfl, L0.out.symm, Nat.zero_le _, rfl⟩
  case round =>
    obtain ⟨k, z, rfl, rfl, hz, hk, rfl⟩ := hrel
    have hks : k ≤ sb.size := by rw [HZ.out]; exact hk
    have hr := lastT_range d0 (y4.take k)
    rw [← hz] at hr
    have hz3 : z ≤ 3 := by omega
    have Z := Lib.hid hz
    clear hz hk hr
    by_cases hlt : k < sb.size
    · have hb := byte_at sb k hlt
      obtain ⟨b, hbe⟩ : ∃ b, sb[k]'hlt = b := ⟨_, rfl⟩
      rw [hbe, DA.out] at hb
      have TS := Lib.hid (take_snoc _ _ _ hb)
      clear hb
      by_cases h1 : b = 76
      · obtain ⟨y, hy⟩ : ∃ y : Nat, ((z : Int) + 1) % 4 = (y : Int) := ⟨(((z : Int) + 1) % 4).toNat, by omega⟩
        have N : Hid ((y : Int) = lastT d0 (y4.take (k + 1))) := Lib.hid (by rw [TS.out, last_snoc, h1, addT_l, ← Z.out, hy])
        have hy2 : ((z : Int) + 1).tmod 4 = (y : Int) := by rw [Int.tmod_eq_emod_of_nonneg (by omega)]; exact hy
        subst h1
        have q1 : (((76 : UInt8).toNat : Int) == 76) = true := rfl
        go_wp2
        go_roundw
        case rel => exact ⟨k + 1, y, by go_num, by first | rfl | (simp [hy]) | (rw [hy]), N.out, by rw [← HZ.out]; omega, rfl⟩
        case measure => (simp [intOf] <;> omega)
      · obtain ⟨y, hy⟩ : ∃ y : Nat, ((z : Int) + 3) % 4 = (y : Int) := ⟨(((z : Int) + 3) % 4).toNat, by omega⟩
        have N : Hid ((y : Int) = lastT d0 (y4.take (k + 1))) := Lib.hid (by rw [TS.out, last_snoc, addT_r h1, ← Z.out, hy])
        have hy2 : ((z : Int) + 3).tmod 4 = (y : Int) := by rw [Int.tmod_eq_emod_of_nonneg (by omega)]; exact hy
        have q1 : ((b.toNat : Int) == 76) = false := by rw [byte_test b 76 76 rfl]; simpa using h1
        clear h1
        go_wp2
        go_roundw
        case rel => exact ⟨k + 1, y, by go_num, by first | rfl | (simp [hy]) | (rw [hy]), N.out, by rw [← HZ.out]; omega, rfl⟩
        case measure => (simp [intOf] <;> omega)
    · obtain rfl : k = sb.size := by omega
      have hz := Z.out
      rw [HZ.out, List.take_length] at hz
      have Z2 := Lib.hid hz
      clear hz
      go_wp2
      go_ret
      exact ⟨ret_int Z2.out, B0.out⟩
def RbkRel (l : List UInt8) (wb wr : World) (bv iv : Value) : Prop := ∃ (k : Nat) (z : Int) (t : ByteArray), iv = .int .i64 z ∧ bv = .string t ∧ z = (k : Int) - 1 ∧ k ≤ l.length ∧ t = bs (bkT l k) ∧ wr = wb
theorem bs_put (l : List UInt8) (x : UInt8) : bs l ++ ⟨#[x]⟩ = bs (l ++ [x]) := by
  rw [← bs_list (bs l ++ ⟨#[x]⟩)]
  congr 1

end Go.Proofs.YtbdkkkpgjcfdgaaDoor

namespace Go.Proofs.YtbdkkkpgjcfdgaaDoor
open Go.RowKit Go.Proofs.YtbdkkkpgjcfdgaaDoor.LexM Go.Proofs.YtbdkkkpgjcfdgaaDoor.ParM

theorem manyS_many {B : List Bool} {E : List Edg} : manyS B E = (decide (4096 < B.length) || decide (4096 < E.length) || decide (4096 < bendsOf E)) := rfl
theorem bends_bound {E : List Edg} (hz : ∀ e ∈ E, e.2.2.2.length ≤ 1000000) : ∀ k, bendsOf (E.take k) ≤ 1000000 * E.length := by
  intro k
  refine Nat.le_trans (bends_le E k) ?_
  induction E with
  | nil => simp [bendsOf]
  | cons e E ih =>
    have h1 := ih (fun x hx => hz x (by simp [hx]))
    have h2 := hz e (by simp)
    have hbe : bendsOf (e :: E) = e.2.2.2.length + bendsOf E := by simp [bendsOf]
    rw [hbe, List.length_cons]; omega
def RcsRel (E : List Edg) (wb wr : World) (nv iv : Value) : Prop := ∃ (k z : Nat), iv = .int .i64 k ∧ nv = .int .i64 z ∧ z = bendsOf (E.take k) ∧ k ≤ E.length ∧ Below wb.heap.size wb wr
def RceRel (n : Nat) (E : List Edg) (wb wr : World) (iv : Value) : Prop := ∃ k : Nat, iv = .int .i64 k ∧ k ≤ E.length ∧ chkL n (E.drop k) = chkL n E ∧ Below wb.heap.size wb wr
set_option maxHeartbeats 16000000 in
set_option maxRecDepth 100000 in
theorem refCheck (bv ev : Value) (B : List Bool) (E : List Edg) (w : World) (hB : BlsAt w bv B) (hE : EdsAt w ev E) (hl : E.length ≤ 1000000) (hBl : B.length ≤ 1000000) (hz : ∀ e ∈ E, e.2.2.2.length ≤ 1000000) :
    Calls Tryd.prog 26 #[.agg #[bv, ev]] w fun r w' => r = .returned (.int .i64 (chkS B E)) ∧ Below w.heap.size w w' := by
  have HE := Lib.hid hE
  have ZE := Lib.hid hz
  have BO := Lib.hid (bends_bound hz)
  obtain ⟨nB, hnB⟩ : ∃ n, B.length = n := ⟨_, rfl⟩
  obtain ⟨nE, hnE⟩ : ∃ n, E.length = n := ⟨_, rfl⟩
  obtain ⟨A, c, e⟩ := hB.form
  rw [hnB] at e hBl
  subst e
  obtain ⟨A2, c2, e⟩ := hE.form
  rw [hnE] at e hl
  subst e
  have LE := Lib.hid hnE
  have MS : Hid (manyS B E = (decide (4096 < nB) || decide (4096 < nE) || decide (4096 < bendsOf E))) := Lib.hid (by unfold manyS; rw [hnB, hnE])
  have LB := Lib.hid hnB
  clear hB hE hz hnB hnE
  go_enter Tryd.func26, Tryd.ntmps26
  go_upto_region 1 with (fail)
  generalize hwb : World.alloc w _ = wb
  have b0 : Below w.heap.size w wb := by rw [← hwb]; exact (Below.refl _ _).alloc (Nat.le_refl _) _
  have hk0 : wb.heap[w.heap.size]? = some (.cells #[.slice A nB c, .slice A2 nE c2] 36 (0, 0)) := by rw [← hwb]; exact heap_alloc_new w _
  have B0 := Lib.hid b0
  have hlt0 : w.heap.size < wb.heap.size := (Array.getElem?_eq_some_iff.1 hk0).1
  have xx : ∀ wr, Below wb.heap.size wb wr → wr.cell? ⟨w.heap.size, 0, none⟩ = some (.slice A nB c) ∧ wr.cell? ⟨w.heap.size, 1, none⟩ = some (.slice A2 nE c2) ∧ w.heap.size < wr.heap.size := by
    intro wr b
    have h1 := b.block _ hlt0
    rw [hk0] at h1
    exact ⟨by simp [World.cell?, h1], by simp [World.cell?, h1], Nat.lt_of_lt_of_le hlt0 b.size⟩
  have XX := Lib.hid xx
  have EB := Lib.hid (HE.out.below b0 (Nat.le_refl _))
  clear hwb b0 hk0 xx
  go_wp2_with (fail)
  go_loopw [3, 4] (fun nv iv wr => RcsRel E wb wr nv iv) (fun _ iv _ => nE - (intOf iv).toNat)
  case atStart => exact ⟨0, 0, rfl, rfl, by simp [bendsOf], Nat.zero_le _, Below.refl _ _⟩
  case round =>
    obtain ⟨k, z, rfl, rfl, hz, hk, hBW⟩ := hrel
    rw [LE.out] at hk
    have BW := Lib.hid hBW
    have Z := Lib.hid hz
    have hzl : z ≤ 1000000000000 := by rw [hz]; have := BO.out k; rw [LE.out] at this; omega
    obtain ⟨x0, x1, xl⟩ := XX.out wr hBW
    clear hBW hz
    by_cases hlt : k < nE
    · have hkE : k < E.length := by rw [LE.out]; exact hlt
      obtain ⟨b, o, c', e, hb, d0, d1, d2, d3⟩ := EB.out.nth hkE
      rw [LE.out] at e
      simp only [Value.slice.injEq, true_and] at e
      obtain ⟨rfl, rfl⟩ := e
      have f3 := (BW.out.cell (p := ⟨b, o + k * 4 + 3, none⟩) hb).trans d3
      have z1 := Nat.lt_of_lt_of_le hb BW.out.size
      have TK := bends_take E k hkE
      have hze := ZE.out E[k] (List.getElem_mem hkE)
      obtain ⟨x, hx⟩ : ∃ x, E[k] = x := ⟨_, rfl⟩
      rw [hx] at f3 TK hze
      clear d0 d1 d2 d3 hx
      obtain ⟨y1, y2, y3, y4⟩ := x
      simp only at f3 TK hze
      have hs := bs_size y4
      rw [← hs] at TK hze
      have N : Hid (z + (bs y4).size = bendsOf (E.take (k + 1))) := Lib.hid (by rw [TK, Z.out])
      clear TK hs
      generalize bs y4 = sb at *
      go_wp2
      go_roundw
      case rel => exact ⟨k + 1, z + sb.size, by go_num, by go_num, N.out, by rw [LE.out]; omega, by first | exact BW.out | exact BW.out.trans ((Below.refl _ _).drew.mono BW.out.size)⟩
      case measure => (simp [intOf] <;> omega)
    · obtain rfl : k = nE := by omega
      have ZF : Hid (z = bendsOf E) := Lib.hid (by rw [Z.out, List.take_of_length_le (by rw [LE.out]; exact Nat.le_refl _)])
      obtain ⟨wo, hwo⟩ : ∃ W, W = wr := ⟨_, rfl⟩
      subst hwo
      clear Z
      by_cases h1 : 4096 < nB
      · have M : Hid (chkS B E = 6) := Lib.hid (by unfold chkS; rw [MS.out, decide_eq_true h1]; rfl)
        have q1 : decide ((4096 : Int) < nB) = true := by rw [decide_eq_true_eq]; omega
        have q2 : decide (4096 < nB) = true := by rw [decide_eq_true_eq]; omega
        go_wp2
        go_ret
        exact ⟨ret_int M.out.symm, B0.out.trans (BW.out.mono B0.out.size)⟩
      · have q1 : decide ((4096 : Int) < nB) = false := by rw [decide_eq_false_iff_not]; omega
        have q1' : decide (4096 < nB) = false := by rw [decide_eq_false_iff_not]; omega
        by_cases h2 : 4096 < k
        · have M : Hid (chkS B E = 6) := Lib.hid (by unfold chkS; rw [MS.out, decide_eq_true h2, Bool.or_true]; rfl)
          have q2 : decide ((4096 : Int) < k) = true := by rw [decide_eq_true_eq]; omega
          have q2' : decide (4096 < k) = true := by rw [decide_eq_true_eq]; omega
          go_wp2
          go_ret
          exact ⟨ret_int M.out.symm, B0.out.trans (BW.out.mono B0.out.size)⟩
        · have q2 : decide ((4096 : Int) < k) = false := by rw [decide_eq_false_iff_not]; omega
          have q2' : decide (4096 < k) = false := by rw [decide_eq_false_iff_not]; omega
          by_cases h3 : 4096 < z
          · have M : Hid (chkS B E = 6) := Lib.hid (by unfold chkS; rw [MS.out, ← ZF.out, decide_eq_true h3, Bool.or_true]; rfl)
            have q3 : decide ((4096 : Int) < z) = true := by rw [decide_eq_true_eq]; omega
            have q3' : decide (4096 < z) = true := by rw [decide_eq_true_eq]; omega
            go_wp2
            go_ret
            exact ⟨ret_int M.out.symm, B0.out.trans (BW.out.mono B0.out.size)⟩
          · have q3 : decide ((4096 : Int) < z) = false := by rw [decide_eq_false_iff_not]; omega
            have q3' : decide (4096 < z) = false := by rw [decide_eq_false_iff_not]; omega
            have C : Hid (chkS B E = chkL nB E) := Lib.hid (by unfold chkS; rw [MS.out, ← ZF.out, decide_eq_false h1, decide_eq_false h2, decide_eq_false h3, LB.out]; rfl)
            clear h1 h2 h3 ZF MS BO
            go_wp2
            go_loopw [5] (fun iv wr => RceRel nB E wb wr iv) (fun iv _ => k - (intOf iv).toNat)
            case atStart => exact ⟨0, rfl, Nat.zero_le _, rfl, BW.out⟩
            case round =>
              clear x0 x1 xl
              obtain ⟨j, rfl, hj, hcj, hBW⟩ := hrel
              rw [LE.out] at hj
              have BV := Lib.hid hBW
              have CJ := Lib.hid hcj
              obtain ⟨x0, x1, xl⟩ := XX.out wr hBW
              have hwz := hBW.size
              clear hBW hcj
              by_cases hlt2 : j < k
              · have hjE : j < E.length := by rw [LE.out]; exact hlt2
                obtain ⟨b, o, c', e, hb, d0, d1, d2, d3⟩ := EB.out.nth hjE
                rw [LE.out] at e
                simp only [Value.slice.injEq, true_and] at e
                obtain ⟨rfl, rfl⟩ := e
                have f0 := (BV.out.cell (p := ⟨b, o + j * 4, none⟩) hb).trans d0
                have f1 := (BV.out.cell (p := ⟨b, o + j * 4 + 1, none⟩) hb).trans d1
                have f2 := (BV.out.cell (p := ⟨b, o + j * 4 + 2, none⟩) hb).trans d2
                have f3 := (BV.out.cell (p := ⟨b, o + j * 4 + 3, none⟩) hb).trans d3
                have z1 := Nat.lt_of_lt_of_le hb BV.out.size
                have hcj := CJ.out
                rw [List.drop_eq_getElem_cons hjE, chkL] at hcj
                have hze := ZE.out E[j] (List.getElem_mem hjE)
                obtain ⟨x, hx⟩ : ∃ x, E[j] = x := ⟨_, rfl⟩
                rw [hx] at f0 f1 f2 f3 hcj hze
                clear d0 d1 d2 d3 hx
                obtain ⟨y1, y2, y3, y4⟩ := x
                simp only at f0 f1 f2 f3 hze
                have T0 := fun w => refTurns (bs y4) w (by rw [bs_size]; omega)
                rw [bs_data] at T0
                generalize bs y4 = sb at *
                have CV : Hid (chkE nB (y1, y2, y3, y4) = (if (decide (0 ≤ y1) && decide (y1 < nB)) = false then 3 else if (decide (0 ≤ y2) && decide (y2 < nB)) = false then 3 else if goodB y3 = false then 2 else if isTurns y4 = false then 2 else 0)) := Lib.hid rfl
                obtain ⟨q, hq⟩ : ∃ q, chkE nB (y1, y2, y3, y4) = q := ⟨_, rfl⟩
                rw [hq] at hcj CV
                have HC := Lib.hid hcj
                have T := Lib.hid T0
                clear hq hcj T0 hze
                go_upto_region 12 with (fail)
                generalize hwa : World.alloc wr _ = wa
                have ba : Below wr.heap.size wr wa := by rw [← hwa]; exact (Below.refl _ _).alloc (Nat.le_refl _) _
                have hka : wa.heap[wr.heap.size]? = some (.cells #[.int .i64 y1, .int .i64 y2, .int .i64 y3, .string sb] 75 (0, 0)) := by rw [← hwa]; exact heap_alloc_new wr _
                have BA : Hid (Below wb.heap.size wb wa) := Lib.hid (BV.out.trans (ba.mono BV.out.size))
                have a0 : wa.cell? ⟨wr.heap.size, 0, none⟩ = some (.int .i64 y1) := by simp [World.cell?, hka]
                have a1 : wa.cell? ⟨wr.heap.size, 1, none⟩ = some (.int .i64 y2) := by simp [World.cell?, hka]
                have a2 : wa.cell? ⟨wr.heap.size, 2, none⟩ = some (.int .i64 y3) := by simp [World.cell?, hka]
                have a3 : wa.cell? ⟨wr.heap.size, 3, none⟩ = some (.string sb) := by simp [World.cell?, hka]
                have al : wr.heap.size < wa.heap.size := (Array.getElem?_eq_some_iff.1 hka).1
                clear x0 x1 xl f0 f1 f2 f3 z1
                obtain ⟨x0, x1, xl⟩ := XX.out wa BA.out
                have R3 : Hid (q = 3 → chkS B E = 3) := Lib.hid (fun h => by rw [C.out, ← HC.out, h]; rfl)
                have R2 : Hid (q = 2 → chkS B E = 2) := Lib.hid (fun h => by rw [C.out, ← HC.out, h]; rfl)
                have R0 : Hid (q = 0 → chkL nB (E.drop (j + 1)) = chkL nB E) := Lib.hid (fun h => by rw [← HC.out, h]; rfl)
                clear hwa ba hka
                by_cases g1 : 0 ≤ y1
                · have t1 : decide (y1 < 0) = false := by rw [decide_eq_false_iff_not]; omega
                  by_cases g2 : y1 < nB
                  · have t2 : decide ((nB : Int) ≤ y1) = false := by rw [decide_eq_false_iff_not]; omega
                    by_cases g3 : 0 ≤ y2
                    · have t3 : decide (y2 < 0) = false := by rw [decide_eq_false_iff_not]; omega
                      by_cases g4 : y2 < nB
                      · have t4 : decide ((nB : Int) ≤ y2) = false := by rw [decide_eq_false_iff_not]; omega
                        by_cases g5 : 0 ≤ y3
                        · have t5 : decide (y3 < 0) = false := by rw [decide_eq_false_iff_not]; omega
                          by_cases g6 : y3 ≤ 3
                          · have t6 : decide (3 < y3) = false := by rw [decide_eq_false_iff_not]; omega
                            cases hT : isTurns y4
                            · have Q : Hid (q = 2) := Lib.hid (by rw [CV.out, decide_eq_true g1, decide_eq_true g2, decide_eq_true g3, decide_eq_true g4, goodB_t g5 (by omega), hT]; rfl)
                              have T2 := T.out
                              rw [hT] at T2
                              clear hT T CV g1 g2 g3 g4 g5 g6
                              go_wp2_with (go_at_call 40; refine (T2 _).mono ?_; rintro e w1 ⟨rfl, rfl⟩)
                              go_ret
                              exact ⟨ret_int (R2.out Q.out).symm, B0.out.trans (BA.out.mono B0.out.size)⟩
                            · have Q : Hid (q = 0) := Lib.hid (by rw [CV.out, decide_eq_true g1, decide_eq_true g2, decide_eq_true g3, decide_eq_true g4, goodB_t g5 (by omega), hT]; rfl)
                              have T2 := T.out
                              rw [hT] at T2
                              clear hT T CV g1 g2 g3 g4 g5 g6
                              go_wp2_with (go_at_call 40; refine (T2 _).mono ?_; rintro e w1 ⟨rfl, rfl⟩)
                              go_roundw
                              case rel => exact ⟨j + 1, by go_num, by rw [LE.out]; omega, R0.out Q.out, BA.out⟩
                              case measure => (simp [intOf] <;> omega)
                          · have t6 : decide (3 < y3) = true := by rw [decide_eq_true_eq]; omega
                            have Q : Hid (q = 2) := Lib.hid (by rw [CV.out, decide_eq_true g1, decide_eq_true g2, decide_eq_true g3, decide_eq_true g4, goodB_f (by omega)]; rfl)
                            have T2 := T.out
                            obtain ⟨tt, htt⟩ : ∃ tt, isTurns y4 = tt := ⟨_, rfl⟩
                            rw [htt] at T2
                            clear htt T CV g1 g2 g3 g4 g5 g6
                            go_wp2_with (go_at_call 40; refine (T2 _).mono ?_; rintro e w1 ⟨rfl, rfl⟩)
                            go_ret
                            exact ⟨ret_int (R2.out Q.out).symm, B0.out.trans (BA.out.mono B0.out.size)⟩
                        · have t5 : decide (y3 < 0) = true := by rw [decide_eq_true_eq]; omega
                          have Q : Hid (q = 2) := Lib.hid (by rw [CV.out, decide_eq_true g1, decide_eq_true g2, decide_eq_true g3, decide_eq_true g4, goodB_f (by omega)]; rfl)
                          have T2 := T.out
                          obtain ⟨tt, htt⟩ : ∃ tt, isTurns y4 = tt := ⟨_, rfl⟩
                          rw [htt] at T2
                          clear htt T CV g1 g2 g3 g4 g5
                          go_wp2_with (go_at_call 40; refine (T2 _).mono ?_; rintro e w1 ⟨rfl, rfl⟩)
                          go_ret
                          exact ⟨ret_int (R2.out Q.out).symm, B0.out.trans (BA.out.mono B0.out.size)⟩
                      · have t4 : decide ((nB : Int) ≤ y2) = true := by rw [decide_eq_true_eq]; omega
                        have Q : Hid (q = 3) := Lib.hid (by rw [CV.out, decide_eq_true g1, decide_eq_true g2, decide_eq_true g3, decide_eq_false g4]; rfl)
                        clear CV T g1 g2 g3 g4
                        go_wp2
                        go_ret
                        exact ⟨ret_int (R3.out Q.out).symm, B0.out.trans (BA.out.mono B0.out.size)⟩
                    · have t3 : decide (y2 < 0) = true := by rw [decide_eq_true_eq]; omega
                      have Q : Hid (q = 3) := Lib.hid (by rw [CV.out, decide_eq_true g1, decide_eq_true g2, decide_eq_false g3]; rfl)
                      clear CV T g1 g2 g3
                      go_wp2
                      go_ret
                      exact ⟨ret_int (R3.out Q.out).symm, B0.out.trans (BA.out.mono B0.out.size)⟩
                  · have t2 : decide ((nB : Int) ≤ y1) = true := by rw [decide_eq_true_eq]; omega
                    have Q : Hid (q = 3) := Lib.hid (by rw [CV.out, decide_eq_true g1, decide_eq_false g2]; rfl)
                    clear CV T g1 g2
                    go_wp2
                    go_ret
                    exact ⟨ret_int (R3.out Q.out).symm, B0.out.trans (BA.out.mono B0.out.size)⟩
                · have t1 : decide (y1 < 0) = true := by rw [decide_eq_true_eq]; omega
                  have Q : Hid (q = 3) := Lib.hid (by rw [CV.out, decide_eq_false g1]; rfl)
                  clear CV T g1
                  go_wp2
                  go_ret
                  exact ⟨ret_int (R3.out Q.out).symm, B0.out.trans (BA.out.mono B0.out.size)⟩
              · obtain rfl : j = k := by omega
                have hcj := CJ.out
                rw [List.drop_eq_nil_of_le (by rw [LE.out]; exact Nat.le_refl _), chkL] at hcj
                have CR : Hid (chkS B E = 0) := Lib.hid (by rw [C.out, ← hcj])
                clear hcj
                go_wp2
                go_ret
                exact ⟨ret_int CR.out.symm, B0.out.trans (BV.out.mono B0.out.size)⟩
end Go.Proofs.YtbdkkkpgjcfdgaaDoor
