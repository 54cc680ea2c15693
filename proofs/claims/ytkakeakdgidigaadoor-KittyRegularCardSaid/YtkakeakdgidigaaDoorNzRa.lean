/-
  Rows of cells in memory: to be read, and of the call's own. Conditions: none.
  What the reference's New, with and Same answer. Conditions: at most 1000000 cells.
  What the reference's with answers: cells with an edge laid over, or a copy. Conditions: at most 100000 cells.
  What the reference's Same answers. Conditions: at most 100000 cells.
-/
import Derived.Test.YtkakeakdgidigaaDoorNzRm
import Derived.Test.YtkakeakdgidigaaDoorNzH
import Derived.Test.YtkakeakdgidigaaDoorAppendRows
import Derived.IntWalk
import Derived.Deep.RegionHeld3
import Derived.Deep.CutRange
import Derived.Deep.CutBlock
import Derived.Laws.StructEq
namespace Go.Proofs.YtkakeakdgidigaaDoor
open Go.RowKit Go.Proofs.YtkakeakdgidigaaDoor.GrM

def intV (x : Int) : Value := .int .i64 x
/-- Cells, to be read: n of them, eight numbers each. -/
def CelAt (w : World) (v : Value) (L : List Int) (n : Nat) : Prop :=
  L.length = n * 8 ∧ ∃ A cap, v = .slice A n cap ∧ (n ≤ cap ∧ (A = none → cap = 0)) ∧ (0 < n → ∃ b o, A = some ⟨b, o, none⟩ ∧ b < w.heap.size ∧ ∀ j, j < n * 8 → w.cell? ⟨b, o + j, none⟩ = some (.int .i64 (L.getD j 0)))
theorem CelAt.form {w : World} {v : Value} {L : List Int} {n : Nat} (h : CelAt w v L n) : ∃ A cap, v = .slice A n cap := by
  obtain ⟨_, A, cap, e, _⟩ := h; exact ⟨A, cap, e⟩
theorem CelAt.below {C : Nat} {w w' : World} {v : Value} {L : List Int} {n : Nat} (h : CelAt w v L n) (hb : Below C w w') (hC : w.heap.size ≤ C) : CelAt w' v L n := by
  obtain ⟨hl, A, cap, rfl, hc, hA⟩ := h
  refine ⟨hl, A, cap, rfl, hc, fun h0 => ?_⟩
  obtain ⟨b, o, e, hlt, h⟩ := hA h0
  refine ⟨b, o, e, Nat.lt_of_lt_of_le hlt hb.size, fun j hj => ?_⟩
  rw [hb.cell (p := ⟨b, o + j, none⟩) (Nat.lt_of_lt_of_le hlt hC)]
  exact h j hj
theorem CelAt.nil (w : World) : CelAt w (.slice none 0 0) [] 0 := ⟨rfl, none, 0, rfl, ⟨Nat.le_refl _, fun _ => rfl⟩, fun h => absurd h (by simp)⟩
/-- A cell's eight numbers. -/
theorem CelAt.nth {w : World} {v : Value} {L : List Int} {n : Nat} (h : CelAt w v L n) {i : Nat} (hi : i < n) : ∃ b o cap, v = .slice (some ⟨b, o, none⟩) n cap ∧ b < w.heap.size ∧
    (∀ d, d < 4 → w.cell? ⟨b, o + i * 8 + d, none⟩ = some (.int .i64 (nxG L i d))) ∧ (∀ d, d < 4 → w.cell? ⟨b, o + i * 8 + 4 + d, none⟩ = some (.int .i64 (owG L i d))) := by
  obtain ⟨hl, A, cap, rfl, _, hA⟩ := h
  obtain ⟨b, o, rfl, hb, hc⟩ := hA (by omega)
  refine ⟨b, o, cap, rfl, hb, fun d hd => ?_, fun d hd => ?_⟩
  · have := hc (i * 8 + d) (by omega)
    rw [← Nat.add_assoc] at this
    exact this
  · have := hc (i * 8 + 4 + d) (by omega)
    rw [← Nat.add_assoc, ← Nat.add_assoc] at this
    exact this
/-- In a row of the call's own. -/
def OwnG (w : World) (B : Nat) (v : Value) (L : List Int) (n : Nat) : Prop := w.ownsRow B 73 8 v n (L.map intV)
theorem OwnG.len {w : World} {B : Nat} {v : Value} {L : List Int} {n : Nat} (h : OwnG w B v L n) : L.length = n * 8 := by simpa using h.1
theorem OwnG.form {w : World} {B : Nat} {v : Value} {L : List Int} {n : Nat} (h : OwnG w B v L n) : ∃ ao cap, v = .slice ao n cap := by
  rcases h.2 with ⟨h1, h2⟩ | ⟨_, _, _, h, _⟩
  · exact ⟨none, 0, by rw [h2]; exact h1⟩
  · exact ⟨_, _, h⟩
theorem OwnG.below {w w' : World} {B C : Nat} {v : Value} {L : List Int} {n : Nat} (h : OwnG w B v L n) (o : Below C w w') (hC : w.heap.size ≤ C) : OwnG w' B v L n := ownsRow_out (S := fun _ => False) h (Out.ofBelow (o.mono hC)) (fun _ _ e => e)
theorem OwnG.cel {w : World} {B : Nat} {v : Value} {L : List Int} {n : Nat} (h : OwnG w B v L n) : CelAt w v L n := by
  have h' := h
  have hl := h.len
  rcases h.2 with ⟨rfl, h2⟩ | ⟨g, cap, cur, rfl, _, hg, hn, hr⟩
  · exact ⟨hl, none, 0, by rw [h2], ⟨by omega, fun _ => rfl⟩, fun h => absurd h (by omega)⟩
  · refine ⟨hl, _, cap, rfl, ⟨hn, fun e => by cases e⟩, fun _ => ⟨g, 0, rfl, (Array.getElem?_eq_some_iff.1 hg).1, fun j hj => ?_⟩⟩
    rw [Nat.zero_add, h'.cellAt j hj]
    have : j < L.length := by omega
    simp [this, intV, List.getD_eq_getElem?_getD]
theorem OwnG.nil (w : World) (B : Nat) : OwnG w B (.slice none 0 0) [] 0 := World.ownsRow_nil _ _ _ _
theorem OwnG.base {w : World} {B C : Nat} {v : Value} {L : List Int} {n : Nat} (h : OwnG w B v L n) (hC : C ≤ B) : OwnG w C v L n := by
  refine ⟨h.1, ?_⟩
  rcases h.2 with q | ⟨g, cap, cur, hv, hg, r⟩
  · exact Or.inl q
  · exact Or.inr ⟨g, cap, cur, hv, by omega, r⟩
/-- A cell more. -/
theorem OwnG.more {w : World} {B n : Nat} {v : Value} {L K : List Int} (h : w.ownsRow B 73 8 v (n + 1) (L.map intV ++ K.map intV)) : OwnG w B v (L ++ K) (n + 1) := by
  unfold OwnG
  rw [List.map_append]
  exact h
theorem allI (L : List Int) : ∀ u ∈ L.map intV, u.oneCell' = true := fun u hu => by
  obtain ⟨x, _, rfl⟩ := List.mem_map.1 hu; rfl
/-- A number set in place. -/
theorem OwnG.set {w : World} {B n g cap : Nat} {L : List Int} (h : OwnG w B (.slice (some ⟨g, 0, none⟩) n cap) L n) (j : Nat) (x : Int) : OwnG (w.setCell ⟨g, j, none⟩ (.int .i64 x)) B (.slice (some ⟨g, 0, none⟩) n cap) (L.set j x) n := by
  have := (World.ownsRow.stored h j (.int .i64 x)).1
  unfold OwnG
  rw [List.map_set]
  exact this
theorem infoC8 : (Tryd.prog.info? 73).map (fun i => (i.zero, i.size, i.bytes)) = some (some (.agg #[.int .i64 0, .int .i64 0, .int .i64 0, .int .i64 0, .int .i64 0, .int .i64 0, .int .i64 0, .int .i64 0]), 8, 64) := by kernel_rfl
end Go.Proofs.YtkakeakdgidigaaDoor

namespace Go.Proofs.YtkakeakdgidigaaDoor
open Go.RowKit Go.Proofs.YtkakeakdgidigaaDoor.GrM

theorem info_c8 : ∃ i, Tryd.prog.info? 73 = some i ∧ i.zero = some (.agg #[.int .i64 0, .int .i64 0, .int .i64 0, .int .i64 0, .int .i64 0, .int .i64 0, .int .i64 0, .int .i64 0]) ∧ i.size = 8 ∧ i.bytes = 64 := by
  have h := infoC8
  cases e : Tryd.prog.info? 73 with
  | none => rw [e] at h; cases h
  | some i =>
    rw [e] at h
    simp only [Option.map_some, Option.some.injEq, Prod.mk.injEq] at h
    exact ⟨i, rfl, h.1, h.2.1, h.2.2⟩
def zeroC : Array Value := #[.int .i64 0, .int .i64 0, .int .i64 0, .int .i64 0, .int .i64 0, .int .i64 0, .int .i64 0, .int .i64 0]
theorem zero_at : ∀ k, k < 8 → zeroC[k]! = .int .i64 0 := by
  intro k hk
  match k, hk with
  | 0, _ => rfl
  | 1, _ => rfl
  | 2, _ => rfl
  | 3, _ => rfl
  | 4, _ => rfl
  | 5, _ => rfl
  | 6, _ => rfl
  | 7, _ => rfl
  | k + 8, h => omega
theorem made_zero (N : Nat) : (madeCells zeroC (N * 8)).toList = (zeroG N).map intV := by
  unfold zeroG madeCells
  apply List.ext_getElem
  · simp
  · intro i h1 h2
    have hz : zeroC.size = 8 := rfl
    simp [hz, intV]
    exact zero_at _ (Nat.mod_lt _ (by decide))
theorem mkCel (N : Nat) (hN : N ≤ 1000000) (w : World) : (Instr.makeSlice 26 (.int .i64 (N : Int)) (.int .i64 (N : Int))).run Tryd.prog w = .ok (.slice (some ⟨w.heap.size, 0, none⟩) N N) (w.alloc (.cells (madeCells zeroC (N * 8)) 73)) := by
  obtain ⟨i, hi, hz, hs, hb⟩ := info_c8
  have h := run_make (P := Tryd.prog) w 26 73 i (.agg zeroC) Tryd.underlying26 hi hz .i64 .i64 (N : Int) (N : Int) (by omega) (by omega) (by rw [hb]; omega) (by omega)
  simp only [Int.toNat_natCast] at h
  rw [hs] at h
  exact h
theorem made_own (N : Nat) (hN : N ≤ 1000000) (w : World) : OwnG (w.alloc (.cells (madeCells zeroC (N * 8)) 73)) w.heap.size (.slice (some ⟨w.heap.size, 0, none⟩) N N) (zeroG N) N := by
  have h1 : (madeCells zeroC (N * 8)).size = N * 8 := by
    rw [← Array.length_toList, made_zero, List.length_map, zero_len]
  have h := World.ownsRow_lit (base := w.heap.size) (e := 73) (size := 8) w (madeCells zeroC (N * 8)) N (Nat.le_refl _) (by unfold maxLen; omega) h1
  rw [made_zero] at h
  exact h
def RnA (n : Nat) (wb wr : World) (g : Nat) (iv : Value) : Prop := ∃ k : Nat, iv = .int .i64 k ∧ k ≤ n ∧ OwnG wr g (.slice (some ⟨g, 0, none⟩) n n) (newG k ++ zeroG (n - k)) n ∧ Below wb.heap.size wb wr
def RnB (n k : Nat) (wb wr : World) (g : Nat) (iv : Value) : Prop := ∃ d : Nat, iv = .int .i64 d ∧ d ≤ 4 ∧ OwnG wr g (.slice (some ⟨g, 0, none⟩) n n) (newG k ++ (partC d ++ zeroG (n - (k + 1)))) n ∧ Below wb.heap.size wb wr
set_option maxHeartbeats 4000000 in
set_option maxRecDepth 100000 in
theorem refNew (n : Nat) (w : World) (hn : n ≤ 1000000) : Calls Tryd.prog 11 #[.int .i64 n] w fun r w' => (∃ g, r = .returned (.slice (some ⟨g, 0, none⟩) n n) ∧ OwnG w' w.heap.size (.slice (some ⟨g, 0, none⟩) n n) (newG n) n) ∧ Below w.heap.size w w' := by
  have hmk := mkCel n hn
  have M0 := Lib.hid (made_own n hn w)
  go_enter Tryd.func11, Tryd.ntmps11
  go_wp2
  clear hmk
  go_loopw [4] (fun iv wr => RnA n w wr w.heap.size iv) (fun iv _ => n - (intOf iv).toNat)
  case atStart => exact ⟨0, rfl, Nat.zero_le _, M0.out, (Below.refl _ _).alloc (Nat.le_refl _) _⟩
  case round =>
    obtain ⟨k, rfl, hk, hO, hB⟩ := hrel
    have O := Lib.hid hO
    have B := Lib.hid hB
    clear hO hB
    by_cases hlt : k < n
    · have q1 : decide (k < n) = true := by rw [decide_eq_true_eq]; exact hlt
      obtain ⟨wo, hwo⟩ : ∃ W, W = wr := ⟨_, rfl⟩
      subst hwo
      go_wp2_with (fail)
      go_loopw [5] (fun iv wr => RnB n k w wr w.heap.size iv) (fun iv _ => 4 - (intOf iv).toNat)
      case atStart => exact ⟨0, rfl, by omega, by have h := O.out; rw [show n - k = n - (k + 1) + 1 by omega, zero_more] at h; exact h, B.out⟩
      case round =>
        obtain ⟨d, rfl, hd, hO, hB⟩ := hrel
        have O2 := Lib.hid hO
        have B2 := Lib.hid hB
        have hgl : w.heap.size < wr.heap.size := (World.ownsRow.lt hO _ rfl).2
        by_cases hd4 : d < 4
        · have c0 : wr.cell? ⟨w.heap.size, k * 8 + d, none⟩ = some (.int .i64 ((newG k ++ (partC d ++ zeroG (n - (k + 1)))).getD (k * 8 + d) 0)) := by
            have h1 := World.ownsRow.cellAt hO (k * 8 + d) (by omega)
            have h2 := hO.len
            rw [h1, List.getElem?_map, List.getElem?_eq_getElem (by omega), List.getD_eq_getElem?_getD, List.getElem?_eq_getElem (by omega)]; rfl
          have c1 : wr.frozen? ⟨w.heap.size, k * 8 + d, none⟩ = false := World.ownsRow.frozenAt hO _
          have q2 : decide (d < 4) = true := by rw [decide_eq_true_eq]; exact hd4
          have q3 : decide ((d : Int) < 4) = true := by rw [decide_eq_true_eq]; omega
          have S := Lib.hid (hO.set (k * 8 + d) (-1))
          have SB : Hid (Below w.heap.size w (wr.setCell ⟨w.heap.size, k * 8 + d, none⟩ (.int .i64 (-1)))) := Lib.hid (hB.trans ((((Out.refl (fun x => x = w.heap.size) wr).setIn _ _).below hB.size (fun i _ e => by omega))))
          generalize (newG k ++ (partC d ++ zeroG (n - (k + 1)))).getD (k * 8 + d) 0 = old at c0
          clear hO hB
          go_wp2
          go_roundw
          case rel => exact ⟨d + 1, by go_num, by omega, by rw [← new_set hd4]; exact S.out, SB.out⟩
          case measure => (simp [intOf] <;> omega)
        · have q2 : decide (d < 4) = false := by rw [decide_eq_false_iff_not]; exact hd4
          have q3 : decide ((d : Int) < 4) = false := by rw [decide_eq_false_iff_not]; omega
          have hd5 : d = 4 := by omega
          clear hO hB
          go_wp2
          go_roundw
          case rel => exact ⟨k + 1, by go_num, by omega, by have h := O2.out; rw [hd5, new_next] at h; exact h, B2.out⟩
          case measure => (simp [intOf] <;> omega)
    · have hkn : k = n := by omega
      have q1 : decide (k < n) = false := by rw [decide_eq_false_iff_not]; exact hlt
      go_wp2
      go_ret
      refine ⟨⟨_, rfl, ?_⟩, B.out⟩
      have h := O.out
      rw [hkn, Nat.sub_self] at h
      have e : newG n ++ zeroG 0 = newG n := by simp [zeroG]
      rw [e] at h
      exact h
end Go.Proofs.YtkakeakdgidigaaDoor

namespace Go.Proofs.YtkakeakdgidigaaDoor
open Go.RowKit Go.Proofs.YtkakeakdgidigaaDoor.GrM

def RwG (M : List Int) (n : Nat) (w wr : World) (lv iv : Value) : Prop := ∃ k : Nat, iv = .int .i64 k ∧ k ≤ n ∧ OwnG wr w.heap.size lv (M.take (k * 8)) k ∧ Below w.heap.size w wr
theorem newsC (w : World) (t : TypeId) (c0 c1 c2 c3 c4 c5 c6 c7 : Int) (b : Nat) (hb : w.heap.size = b) : ∀ j z, ([c0, c1, c2, c3, c4, c5, c6, c7].map intV)[j]? = some z → (w.alloc (.cells #[.int .i64 c0, .int .i64 c1, .int .i64 c2, .int .i64 c3, .int .i64 c4, .int .i64 c5, .int .i64 c6, .int .i64 c7] t)).cell? ((⟨b, 0, none⟩ : Addr).add j) = some z := by
  intro j z hz
  subst hb
  have e : (⟨w.heap.size, 0, none⟩ : Addr).add j = ⟨w.heap.size, j, none⟩ := by unfold Addr.add; split <;> simp_all
  rw [e]
  simp only [World.cell?, heap_alloc_new]
  match j, hz with
  | 0, hz => simpa [intV] using hz
  | 1, hz => simpa [intV] using hz
  | 2, hz => simpa [intV] using hz
  | 3, hz => simpa [intV] using hz
  | 4, hz => simpa [intV] using hz
  | 5, hz => simpa [intV] using hz
  | 6, hz => simpa [intV] using hz
  | 7, hz => simpa [intV] using hz
  | j + 8, hz => simp at hz
set_option maxHeartbeats 16000000 in
set_option maxRecDepth 100000 in
theorem refWith (lv : Value) (L M : List Int) (n d : Nat) (v x o : Int) (w : World) (hL : CelAt w lv L n) (hn : n ≤ 100000) (hd : d < 4) (hM : Laid L M n v d x o) :
    Calls Tryd.prog 14 #[lv, .int .i64 v, .int .i64 d, .int .i64 x, .int .i64 o] w fun r w' => (∃ A c, r = .returned (.slice A n c) ∧ OwnG w' w.heap.size (.slice A n c) M n) ∧ Below w.heap.size w w' := by
  have HL := Lib.hid hL
  have HM := Lib.hid hM
  obtain ⟨A0, c0, e⟩ := hL.form
  subst e
  obtain ⟨i0, hi, hz0, hz1, hz2⟩ := info_c8
  clear hL hM
  have hdc : d = 0 ∨ d = 1 ∨ d = 2 ∨ d = 3 := by omega
  clear hd
  rcases hdc with rfl | rfl | rfl | rfl
  · show Calls Tryd.prog 14 #[.slice A0 n c0, .int .i64 v, .int .i64 (0 : Int), .int .i64 x, .int .i64 o] w _
    go_enter Tryd.func14, Tryd.ntmps14
    go_wp2_with (fail)
    go_loopw [11, 12] (fun lv iv wr => RwG M n w wr lv iv) (fun _ iv _ => n - (intOf iv).toNat)
    case atStart => exact ⟨0, rfl, Nat.zero_le _, OwnG.nil _ _, Below.refl _ _⟩
    case round =>
      obtain ⟨k, rfl, hk, hO, hB⟩ := hrel
      have O := Lib.hid hO
      have B := Lib.hid hB
      obtain ⟨ao, co, e⟩ := hO.form
      subst e
      have hwz := hB.size
      clear hO hB
      by_cases hlt : k < n
      · obtain ⟨b, o9, c', e, hb, hx, hy⟩ := HL.out.nth hlt
        simp only [Value.slice.injEq, true_and] at e
        obtain ⟨rfl, rfl⟩ := e
        have f0 : wr.cell? ⟨b, o9 + k * 8, none⟩ = some (.int .i64 (nxG L k 0)) := (B.out.cell (p := ⟨b, o9 + k * 8 + 0, none⟩) hb).trans (hx 0 (by decide))
        have f1 : wr.cell? ⟨b, o9 + k * 8 + 1, none⟩ = some (.int .i64 (nxG L k 1)) := (B.out.cell (p := ⟨b, o9 + k * 8 + 1, none⟩) hb).trans (hx 1 (by decide))
        have f2 : wr.cell? ⟨b, o9 + k * 8 + 2, none⟩ = some (.int .i64 (nxG L k 2)) := (B.out.cell (p := ⟨b, o9 + k * 8 + 2, none⟩) hb).trans (hx 2 (by decide))
        have f3 : wr.cell? ⟨b, o9 + k * 8 + 3, none⟩ = some (.int .i64 (nxG L k 3)) := (B.out.cell (p := ⟨b, o9 + k * 8 + 3, none⟩) hb).trans (hx 3 (by decide))
        have f4 : wr.cell? ⟨b, o9 + k * 8 + 4, none⟩ = some (.int .i64 (owG L k 0)) := (B.out.cell (p := ⟨b, o9 + k * 8 + 4 + 0, none⟩) hb).trans (hy 0 (by decide))
        have f5 : wr.cell? ⟨b, o9 + k * 8 + 5, none⟩ = some (.int .i64 (owG L k 1)) := (B.out.cell (p := ⟨b, o9 + k * 8 + 4 + 1, none⟩) hb).trans (hy 1 (by decide))
        have f6 : wr.cell? ⟨b, o9 + k * 8 + 6, none⟩ = some (.int .i64 (owG L k 2)) := (B.out.cell (p := ⟨b, o9 + k * 8 + 4 + 2, none⟩) hb).trans (hy 2 (by decide))
        have f7 : wr.cell? ⟨b, o9 + k * 8 + 7, none⟩ = some (.int .i64 (owG L k 3)) := (B.out.cell (p := ⟨b, o9 + k * 8 + 4 + 3, none⟩) hb).trans (hy 3 (by decide))
        have z1 := Nat.lt_of_lt_of_le hb B.out.size
        have hm := fun e (he : e < 4) => HM.out.2 k e hlt he
        have TK := Lib.hid (take_cell HM.out.1 hlt)
        have CV : celL M k = [nxG M k 0, nxG M k 1, nxG M k 2, nxG M k 3, owG M k 0, owG M k 1, owG M k 2, owG M k 3] := rfl
        rw [(hm 0 (by decide)).1, (hm 1 (by decide)).1, (hm 2 (by decide)).1, (hm 3 (by decide)).1, (hm 0 (by decide)).2, (hm 1 (by decide)).2, (hm 2 (by decide)).2, (hm 3 (by decide)).2] at CV
        generalize nxG L k 0 = y0 at *
        generalize nxG L k 1 = y1 at *
        generalize nxG L k 2 = y2 at *
        generalize nxG L k 3 = y3 at *
        generalize owG L k 0 = y4 at *
        generalize owG L k 1 = y5 at *
        generalize owG L k 2 = y6 at *
        generalize owG L k 3 = y7 at *
        clear hx hy hm
        by_cases h1 : (k : Int) = v
        · by_cases h2 : (k : Int) = x
          · have e1 : ((k : Int) = v) = True := eq_true h1
            have e2 : ((k : Int) = x) = True := eq_true h2
            have q1 : ((k : Int) == v) = true := by rw [beq_iff_eq]; exact h1
            have q2 : ((k : Int) == x) = true := by rw [beq_iff_eq]; exact h2
            simp [e1, e2, opp] at CV
            have CE : Hid (celL M k = [x, y1, v, y3, o, y5, o, y7]) := Lib.hid CV
            clear CV e1 e2 h1 h2
            go_wp2_with (at_builtin; refine wpList_append_fresh rfl (.tmp 50) (.tmp 52) 26 rfl w.heap.size 73 i0 (.agg #[.int .i64 0, .int .i64 0, .int .i64 0, .int .i64 0, .int .i64 0, .int .i64 0, .int .i64 0, .int .i64 0]) 8 64 Tryd.underlying26 hi hz0 hz1 hz2 rfl (by decide) (.slice ao k co) k ((M.take (k * 8)).map intV) rfl (O.out.below (((Below.refl _ _).alloc (Nat.le_refl _) _).alloc (by simp) _) (Nat.le_refl _)) ⟨wr.heap.size + 1, 0, none⟩ 1 1 ([x, y1, v, y3, o, y5, o, y7].map intV) rfl rfl (newsC _ _ _ _ _ _ _ _ _ _ _ (by simp)) (allI _) (by unfold maxLen; omega) (by omega) (by simp; omega) ?_; intro v5 w5 hown hgrow hfr; have o5 := OwnG.more hown; rw [← CE.out, ← TK.out] at o5; have O5 := Lib.hid o5; have B5 : Hid (Below w.heap.size w w5) := Lib.hid ((B.out.trans ((((Below.refl _ _).alloc (Nat.le_refl _) _).alloc (by simp) _).mono hwz)).grown hgrow (by simp; omega) (fun q hq => (World.ownsRow.lt O.out q hq).1)); clear hown hgrow hfr o5)
            go_roundw
            case rel => exact ⟨k + 1, by go_num, by omega, O5.out, B5.out⟩
            case measure => (simp [intOf] <;> omega)
          · have e1 : ((k : Int) = v) = True := eq_true h1
            have e2 : ((k : Int) = x) = False := eq_false h2
            have q1 : ((k : Int) == v) = true := by rw [beq_iff_eq]; exact h1
            have q2 : ((k : Int) == x) = false := by rw [beq_eq_false_iff_ne]; exact h2
            simp [e1, e2, opp] at CV
            have CE : Hid (celL M k = [x, y1, y2, y3, o, y5, y6, y7]) := Lib.hid CV
            clear CV e1 e2 h1 h2
            go_wp2_with (at_builtin; refine wpList_append_fresh rfl (.tmp 50) (.tmp 52) 26 rfl w.heap.size 73 i0 (.agg #[.int .i64 0, .int .i64 0, .int .i64 0, .int .i64 0, .int .i64 0, .int .i64 0, .int .i64 0, .int .i64 0]) 8 64 Tryd.underlying26 hi hz0 hz1 hz2 rfl (by decide) (.slice ao k co) k ((M.take (k * 8)).map intV) rfl (O.out.below (((Below.refl _ _).alloc (Nat.le_refl _) _).alloc (by simp) _) (Nat.le_refl _)) ⟨wr.heap.size + 1, 0, none⟩ 1 1 ([x, y1, y2, y3, o, y5, y6, y7].map intV) rfl rfl (newsC _ _ _ _ _ _ _ _ _ _ _ (by simp)) (allI _) (by unfold maxLen; omega) (by omega) (by simp; omega) ?_; intro v5 w5 hown hgrow hfr; have o5 := OwnG.more hown; rw [← CE.out, ← TK.out] at o5; have O5 := Lib.hid o5; have B5 : Hid (Below w.heap.size w w5) := Lib.hid ((B.out.trans ((((Below.refl _ _).alloc (Nat.le_refl _) _).alloc (by simp) _).mono hwz)).grown hgrow (by simp; omega) (fun q hq => (World.ownsRow.lt O.out q hq).1)); clear hown hgrow hfr o5)
            go_roundw
            case rel => exact ⟨k + 1, by go_num, by omega, O5.out, B5.out⟩
            case measure => (simp [intOf] <;> omega)
        · by_cases h2 : (k : Int) = x
          · have e1 : ((k : Int) = v) = False := eq_false h1
            have e2 : ((k : Int) = x) = True := eq_true h2
            have q1 : ((k : Int) == v) = false := by rw [beq_eq_false_iff_ne]; exact h1
            have q2 : ((k : Int) == x) = true := by rw [beq_iff_eq]; exact h2
            simp [e1, e2, opp] at CV
            have CE : Hid (celL M k = [y0, y1, v, y3, y4, y5, o, y7]) := Lib.hid CV
            clear CV e1 e2 h1 h2
            go_wp2_with (at_builtin; refine wpList_append_fresh rfl (.tmp 50) (.tmp 52) 26 rfl w.heap.size 73 i0 (.agg #[.int .i64 0, .int .i64 0, .int .i64 0, .int .i64 0, .int .i64 0, .int .i64 0, .int .i64 0, .int .i64 0]) 8 64 Tryd.underlying26 hi hz0 hz1 hz2 rfl (by decide) (.slice ao k co) k ((M.take (k * 8)).map intV) rfl (O.out.below (((Below.refl _ _).alloc (Nat.le_refl _) _).alloc (by simp) _) (Nat.le_refl _)) ⟨wr.heap.size + 1, 0, none⟩ 1 1 ([y0, y1, v, y3, y4, y5, o, y7].map intV) rfl rfl (newsC _ _ _ _ _ _ _ _ _ _ _ (by simp)) (allI _) (by unfold maxLen; omega) (by omega) (by simp; omega) ?_; intro v5 w5 hown hgrow hfr; have o5 := OwnG.more hown; rw [← CE.out, ← TK.out] at o5; have O5 := Lib.hid o5; have B5 : Hid (Below w.heap.size w w5) := Lib.hid ((B.out.trans ((((Below.refl _ _).alloc (Nat.le_refl _) _).alloc (by simp) _).mono hwz)).grown hgrow (by simp; omega) (fun q hq => (World.ownsRow.lt O.out q hq).1)); clear hown hgrow hfr o5)
            go_roundw
            case rel => exact ⟨k + 1, by go_num, by omega, O5.out, B5.out⟩
            case measure => (simp [intOf] <;> omega)
          · have e1 : ((k : Int) = v) = False := eq_false h1
            have e2 : ((k : Int) = x) = False := eq_false h2
            have q1 : ((k : Int) == v) = false := by rw [beq_eq_false_iff_ne]; exact h1
            have q2 : ((k : Int) == x) = false := by rw [beq_eq_false_iff_ne]; exact h2
            simp [e1, e2, opp] at CV
            have CE : Hid (celL M k = [y0, y1, y2, y3, y4, y5, y6, y7]) := Lib.hid CV
            clear CV e1 e2 h1 h2
            go_wp2_with (at_builtin; refine wpList_append_fresh rfl (.tmp 50) (.tmp 52) 26 rfl w.heap.size 73 i0 (.agg #[.int .i64 0, .int .i64 0, .int .i64 0, .int .i64 0, .int .i64 0, .int .i64 0, .int .i64 0, .int .i64 0]) 8 64 Tryd.underlying26 hi hz0 hz1 hz2 rfl (by decide) (.slice ao k co) k ((M.take (k * 8)).map intV) rfl (O.out.below (((Below.refl _ _).alloc (Nat.le_refl _) _).alloc (by simp) _) (Nat.le_refl _)) ⟨wr.heap.size + 1, 0, none⟩ 1 1 ([y0, y1, y2, y3, y4, y5, y6, y7].map intV) rfl rfl (newsC _ _ _ _ _ _ _ _ _ _ _ (by simp)) (allI _) (by unfold maxLen; omega) (by omega) (by simp; omega) ?_; intro v5 w5 hown hgrow hfr; have o5 := OwnG.more hown; rw [← CE.out, ← TK.out] at o5; have O5 := Lib.hid o5; have B5 : Hid (Below w.heap.size w w5) := Lib.hid ((B.out.trans ((((Below.refl _ _).alloc (Nat.le_refl _) _).alloc (by simp) _).mono hwz)).grown hgrow (by simp; omega) (fun q hq => (World.ownsRow.lt O.out q hq).1)); clear hown hgrow hfr o5)
            go_roundw
            case rel => exact ⟨k + 1, by go_num, by omega, O5.out, B5.out⟩
            case measure => (simp [intOf] <;> omega)
      · have hkn : k = n := by omega
        subst hkn
        have TL : Hid (M.take (k * 8) = M) := Lib.hid (by rw [← HM.out.1, List.take_length])
        go_wp2
        go_ret
        exact ⟨⟨_, _, rfl, by have h := O.out; rw [TL.out] at h; exact h⟩, B.out⟩
  · show Calls Tryd.prog 14 #[.slice A0 n c0, .int .i64 v, .int .i64 (1 : Int), .int .i64 x, .int .i64 o] w _
    go_enter Tryd.func14, Tryd.ntmps14
    go_wp2_with (fail)
    go_loopw [11, 12] (fun lv iv wr => RwG M n w wr lv iv) (fun _ iv _ => n - (intOf iv).toNat)
    case atStart => exact ⟨0, rfl, Nat.zero_le _, OwnG.nil _ _, Below.refl _ _⟩
    case round =>
      obtain ⟨k, rfl, hk, hO, hB⟩ := hrel
      have O := Lib.hid hO
      have B := Lib.hid hB
      obtain ⟨ao, co, e⟩ := hO.form
      subst e
      have hwz := hB.size
      clear hO hB
      by_cases hlt : k < n
      · obtain ⟨b, o9, c', e, hb, hx, hy⟩ := HL.out.nth hlt
        simp only [Value.slice.injEq, true_and] at e
        obtain ⟨rfl, rfl⟩ := e
        have f0 : wr.cell? ⟨b, o9 + k * 8, none⟩ = some (.int .i64 (nxG L k 0)) := (B.out.cell (p := ⟨b, o9 + k * 8 + 0, none⟩) hb).trans (hx 0 (by decide))
        have f1 : wr.cell? ⟨b, o9 + k * 8 + 1, none⟩ = some (.int .i64 (nxG L k 1)) := (B.out.cell (p := ⟨b, o9 + k * 8 + 1, none⟩) hb).trans (hx 1 (by decide))
        have f2 : wr.cell? ⟨b, o9 + k * 8 + 2, none⟩ = some (.int .i64 (nxG L k 2)) := (B.out.cell (p := ⟨b, o9 + k * 8 + 2, none⟩) hb).trans (hx 2 (by decide))
        have f3 : wr.cell? ⟨b, o9 + k * 8 + 3, none⟩ = some (.int .i64 (nxG L k 3)) := (B.out.cell (p := ⟨b, o9 + k * 8 + 3, none⟩) hb).trans (hx 3 (by decide))
        have f4 : wr.cell? ⟨b, o9 + k * 8 + 4, none⟩ = some (.int .i64 (owG L k 0)) := (B.out.cell (p := ⟨b, o9 + k * 8 + 4 + 0, none⟩) hb).trans (hy 0 (by decide))
        have f5 : wr.cell? ⟨b, o9 + k * 8 + 5, none⟩ = some (.int .i64 (owG L k 1)) := (B.out.cell (p := ⟨b, o9 + k * 8 + 4 + 1, none⟩) hb).trans (hy 1 (by decide))
        have f6 : wr.cell? ⟨b, o9 + k * 8 + 6, none⟩ = some (.int .i64 (owG L k 2)) := (B.out.cell (p := ⟨b, o9 + k * 8 + 4 + 2, none⟩) hb).trans (hy 2 (by decide))
        have f7 : wr.cell? ⟨b, o9 + k * 8 + 7, none⟩ = some (.int .i64 (owG L k 3)) := (B.out.cell (p := ⟨b, o9 + k * 8 + 4 + 3, none⟩) hb).trans (hy 3 (by decide))
        have z1 := Nat.lt_of_lt_of_le hb B.out.size
        have hm := fun e (he : e < 4) => HM.out.2 k e hlt he
        have TK := Lib.hid (take_cell HM.out.1 hlt)
        have CV : celL M k = [nxG M k 0, nxG M k 1, nxG M k 2, nxG M k 3, owG M k 0, owG M k 1, owG M k 2, owG M k 3] := rfl
        rw [(hm 0 (by decide)).1, (hm 1 (by decide)).1, (hm 2 (by decide)).1, (hm 3 (by decide)).1, (hm 0 (by decide)).2, (hm 1 (by decide)).2, (hm 2 (by decide)).2, (hm 3 (by decide)).2] at CV
        generalize nxG L k 0 = y0 at *
        generalize nxG L k 1 = y1 at *
        generalize nxG L k 2 = y2 at *
        generalize nxG L k 3 = y3 at *
        generalize owG L k 0 = y4 at *
        generalize owG L k 1 = y5 at *
        generalize owG L k 2 = y6 at *
        generalize owG L k 3 = y7 at *
        clear hx hy hm
        by_cases h1 : (k : Int) = v
        · by_cases h2 : (k : Int) = x
          · have e1 : ((k : Int) = v) = True := eq_true h1
            have e2 : ((k : Int) = x) = True := eq_true h2
            have q1 : ((k : Int) == v) = true := by rw [beq_iff_eq]; exact h1
            have q2 : ((k : Int) == x) = true := by rw [beq_iff_eq]; exact h2
            simp [e1, e2, opp] at CV
            have CE : Hid (celL M k = [y0, x, y2, v, y4, o, y6, o]) := Lib.hid CV
            clear CV e1 e2 h1 h2
            go_wp2_with (at_builtin; refine wpList_append_fresh rfl (.tmp 50) (.tmp 52) 26 rfl w.heap.size 73 i0 (.agg #[.int .i64 0, .int .i64 0, .int .i64 0, .int .i64 0, .int .i64 0, .int .i64 0, .int .i64 0, .int .i64 0]) 8 64 Tryd.underlying26 hi hz0 hz1 hz2 rfl (by decide) (.slice ao k co) k ((M.take (k * 8)).map intV) rfl (O.out.below (((Below.refl _ _).alloc (Nat.le_refl _) _).alloc (by simp) _) (Nat.le_refl _)) ⟨wr.heap.size + 1, 0, none⟩ 1 1 ([y0, x, y2, v, y4, o, y6, o].map intV) rfl rfl (newsC _ _ _ _ _ _ _ _ _ _ _ (by simp)) (allI _) (by unfold maxLen; omega) (by omega) (by simp; omega) ?_; intro v5 w5 hown hgrow hfr; have o5 := OwnG.more hown; rw [← CE.out, ← TK.out] at o5; have O5 := Lib.hid o5; have B5 : Hid (Below w.heap.size w w5) := Lib.hid ((B.out.trans ((((Below.refl _ _).alloc (Nat.le_refl _) _).alloc (by simp) _).mono hwz)).grown hgrow (by simp; omega) (fun q hq => (World.ownsRow.lt O.out q hq).1)); clear hown hgrow hfr o5)
            go_roundw
            case rel => exact ⟨k + 1, by go_num, by omega, O5.out, B5.out⟩
            case measure => (simp [intOf] <;> omega)
          · have e1 : ((k : Int) = v) = True := eq_true h1
            have e2 : ((k : Int) = x) = False := eq_false h2
            have q1 : ((k : Int) == v) = true := by rw [beq_iff_eq]; exact h1
            have q2 : ((k : Int) == x) = false := by rw [beq_eq_false_iff_ne]; exact h2
            simp [e1, e2, opp] at CV
            have CE : Hid (celL M k = [y0, x, y2, y3, y4, o, y6, y7]) := Lib.hid CV
            clear CV e1 e2 h1 h2
            go_wp2_with (at_builtin; refine wpList_append_fresh rfl (.tmp 50) (.tmp 52) 26 rfl w.heap.size 73 i0 (.agg #[.int .i64 0, .int .i64 0, .int .i64 0, .int .i64 0, .int .i64 0, .int .i64 0, .int .i64 0, .int .i64 0]) 8 64 Tryd.underlying26 hi hz0 hz1 hz2 rfl (by decide) (.slice ao k co) k ((M.take (k * 8)).map intV) rfl (O.out.below (((Below.refl _ _).alloc (Nat.le_refl _) _).alloc (by simp) _) (Nat.le_refl _)) ⟨wr.heap.size + 1, 0, none⟩ 1 1 ([y0, x, y2, y3, y4, o, y6, y7].map intV) rfl rfl (newsC _ _ _ _ _ _ _ _ _ _ _ (by simp)) (allI _) (by unfold maxLen; omega) (by omega) (by simp; omega) ?_; intro v5 w5 hown hgrow hfr; have o5 := OwnG.more hown; rw [← CE.out, ← TK.out] at o5; have O5 := Lib.hid o5; have B5 : Hid (Below w.heap.size w w5) := Lib.hid ((B.out.trans ((((Below.refl _ _).alloc (Nat.le_refl _) _).alloc (by simp) _).mono hwz)).grown hgrow (by simp; omega) (fun q hq => (World.ownsRow.lt O.out q hq).1)); clear hown hgrow hfr o5)
            go_roundw
            case rel => exact ⟨k + 1, by go_num, by omega, O5.out, B5.out⟩
            case measure => (simp [intOf] <;> omega)
        · by_cases h2 : (k : Int) = x
          · have e1 : ((k : Int) = v) = False := eq_false h1
            have e2 : ((k : Int) = x) = True := eq_true h2
            have q1 : ((k : Int) == v) = false := by rw [beq_eq_false_iff_ne]; exact h1
            have q2 : ((k : Int) == x) = true := by rw [beq_iff_eq]; exact h2
            simp [e1, e2, opp] at CV
            have CE : Hid (celL M k = [y0, y1, y2, v, y4, y5, y6, o]) := Lib.hid CV
            clear CV e1 e2 h1 h2
            go_wp2_with (at_builtin; refine wpList_append_fresh rfl (.tmp 50) (.tmp 52) 26 rfl w.heap.size 73 i0 (.agg #[.int .i64 0, .int .i64 0, .int .i64 0, .int .i64 0, .int .i64 0, .int .i64 0, .int .i64 0, .int .i64 0]) 8 64 Tryd.underlying26 hi hz0 hz1 hz2 rfl (by decide) (.slice ao k co) k ((M.take (k * 8)).map intV) rfl (O.out.below (((Below.refl _ _).alloc (Nat.le_refl _) _).alloc (by simp) _) (Nat.le_refl _)) ⟨wr.heap.size + 1, 0, none⟩ 1 1 ([y0, y1, y2, v, y4, y5, y6, o].map intV) rfl rfl (newsC _ _ _ _ _ _ _ _ _ _ _ (by simp)) (allI _) (by unfold maxLen; omega) (by omega) (by simp; omega) ?_; intro v5 w5 hown hgrow hfr; have o5 := OwnG.more hown; rw [← CE.out, ← TK.out] at o5; have O5 := Lib.hid o5; have B5 : Hid (Below w.heap.size w w5) := Lib.hid ((B.out.trans ((((Below.refl _ _).alloc (Nat.le_refl _) _).alloc (by simp) _).mono hwz)).grown hgrow (by simp; omega) (fun q hq => (World.ownsRow.lt O.out q hq).1)); clear hown hgrow hfr o5)
            go_roundw
            case rel => exact ⟨k + 1, by go_num, by omega, O5.out, B5.out⟩
            case measure => (simp [intOf] <;> omega)
          · have e1 : ((k : Int) = v) = False := eq_false h1
            have e2 : ((k : Int) = x) = False := eq_false h2
            have q1 : ((k : Int) == v) = false := by rw [beq_eq_false_iff_ne]; exact h1
            have q2 : ((k : Int) == x) = false := by rw [beq_eq_false_iff_ne]; exact h2
            simp [e1, e2, opp] at CV
            have CE : Hid (celL M k = [y0, y1, y2, y3, y4, y5, y6, y7]) := Lib.hid CV
            clear CV e1 e2 h1 h2
            go_wp2_with (at_builtin; refine wpList_append_fresh rfl (.tmp 50) (.tmp 52) 26 rfl w.heap.size 73 i0 (.agg #[.int .i64 0, .int .i64 0, .int .i64 0, .int .i64 0, .int .i64 0, .int .i64 0, .int .i64 0, .int .i64 0]) 8 64 Tryd.underlying26 hi hz0 hz1 hz2 rfl (by decide) (.slice ao k co) k ((M.take (k * 8)).map intV) rfl (O.out.below (((Below.refl _ _).alloc (Nat.le_refl _) _).alloc (by simp) _) (Nat.le_refl _)) ⟨wr.heap.size + 1, 0, none⟩ 1 1 ([y0, y1, y2, y3, y4, y5, y6, y7].map intV) rfl rfl (newsC _ _ _ _ _ _ _ _ _ _ _ (by simp)) (allI _) (by unfold maxLen; omega) (by omega) (by simp; omega) ?_; intro v5 w5 hown hgrow hfr; have o5 := OwnG.more hown; rw [← CE.out, ← TK.out] at o5; have O5 := Lib.hid o5; have B5 : Hid (Below w.heap.size w w5) := Lib.hid ((B.out.trans ((((Below.refl _ _).alloc (Nat.le_refl _) _).alloc (by simp) _).mono hwz)).grown hgrow (by simp; omega) (fun q hq => (World.ownsRow.lt O.out q hq).1)); clear hown hgrow hfr o5)
            go_roundw
            case rel => exact ⟨k + 1, by go_num, by omega, O5.out, B5.out⟩
            case measure => (simp [intOf] <;> omega)
      · have hkn : k = n := by omega
        subst hkn
        have TL : Hid (M.take (k * 8) = M) := Lib.hid (by rw [← HM.out.1, List.take_length])
        go_wp2
        go_ret
        exact ⟨⟨_, _, rfl, by have h := O.out; rw [TL.out] at h; exact h⟩, B.out⟩
  · show Calls Tryd.prog 14 #[.slice A0 n c0, .int .i64 v, .int .i64 (2 : Int), .int .i64 x, .int .i64 o] w _
    go_enter Tryd.func14, Tryd.ntmps14
    go_wp2_with (fail)
    go_loopw [11, 12] (fun lv iv wr => RwG M n w wr lv iv) (fun _ iv _ => n - (intOf iv).toNat)
    case atStart => exact ⟨0, rfl, Nat.zero_le _, OwnG.nil _ _, Below.refl _ _⟩
    case round =>
      obtain ⟨k, rfl, hk, hO, hB⟩ := hrel
      have O := Lib.hid hO
      have B := Lib.hid hB
      obtain ⟨ao, co, e⟩ := hO.form
      subst e
      have hwz := hB.size
      clear hO hB
      by_cases hlt : k < n
      · obtain ⟨b, o9, c', e, hb, hx, hy⟩ := HL.out.nth hlt
        simp only [Value.slice.injEq, true_and] at e
        obtain ⟨rfl, rfl⟩ := e
        have f0 : wr.cell? ⟨b, o9 + k * 8, none⟩ = some (.int .i64 (nxG L k 0)) := (B.out.cell (p := ⟨b, o9 + k * 8 + 0, none⟩) hb).trans (hx 0 (by decide))
        have f1 : wr.cell? ⟨b, o9 + k * 8 + 1, none⟩ = some (.int .i64 (nxG L k 1)) := (B.out.cell (p := ⟨b, o9 + k * 8 + 1, none⟩) hb).trans (hx 1 (by decide))
        have f2 : wr.cell? ⟨b, o9 + k * 8 + 2, none⟩ = some (.int .i64 (nxG L k 2)) := (B.out.cell (p := ⟨b, o9 + k * 8 + 2, none⟩) hb).trans (hx 2 (by decide))
        have f3 : wr.cell? ⟨b, o9 + k * 8 + 3, none⟩ = some (.int .i64 (nxG L k 3)) := (B.out.cell (p := ⟨b, o9 + k * 8 + 3, none⟩) hb).trans (hx 3 (by decide))
        have f4 : wr.cell? ⟨b, o9 + k * 8 + 4, none⟩ = some (.int .i64 (owG L k 0)) := (B.out.cell (p := ⟨b, o9 + k * 8 + 4 + 0, none⟩) hb).trans (hy 0 (by decide))
        have f5 : wr.cell? ⟨b, o9 + k * 8 + 5, none⟩ = some (.int .i64 (owG L k 1)) := (B.out.cell (p := ⟨b, o9 + k * 8 + 4 + 1, none⟩) hb).trans (hy 1 (by decide))
        have f6 : wr.cell? ⟨b, o9 + k * 8 + 6, none⟩ = some (.int .i64 (owG L k 2)) := (B.out.cell (p := ⟨b, o9 + k * 8 + 4 + 2, none⟩) hb).trans (hy 2 (by decide))
        have f7 : wr.cell? ⟨b, o9 + k * 8 + 7, none⟩ = some (.int .i64 (owG L k 3)) := (B.out.cell (p := ⟨b, o9 + k * 8 + 4 + 3, none⟩) hb).trans (hy 3 (by decide))
        have z1 := Nat.lt_of_lt_of_le hb B.out.size
        have hm := fun e (he : e < 4) => HM.out.2 k e hlt he
        have TK := Lib.hid (take_cell HM.out.1 hlt)
        have CV : celL M k = [nxG M k 0, nxG M k 1, nxG M k 2, nxG M k 3, owG M k 0, owG M k 1, owG M k 2, owG M k 3] := rfl
        rw [(hm 0 (by decide)).1, (hm 1 (by decide)).1, (hm 2 (by decide)).1, (hm 3 (by decide)).1, (hm 0 (by decide)).2, (hm 1 (by decide)).2, (hm 2 (by decide)).2, (hm 3 (by decide)).2] at CV
        generalize nxG L k 0 = y0 at *
        generalize nxG L k 1 = y1 at *
        generalize nxG L k 2 = y2 at *
        generalize nxG L k 3 = y3 at *
        generalize owG L k 0 = y4 at *
        generalize owG L k 1 = y5 at *
        generalize owG L k 2 = y6 at *
        generalize owG L k 3 = y7 at *
        clear hx hy hm
        by_cases h1 : (k : Int) = v
        · by_cases h2 : (k : Int) = x
          · have e1 : ((k : Int) = v) = True := eq_true h1
            have e2 : ((k : Int) = x) = True := eq_true h2
            have q1 : ((k : Int) == v) = true := by rw [beq_iff_eq]; exact h1
            have q2 : ((k : Int) == x) = true := by rw [beq_iff_eq]; exact h2
            simp [e1, e2, opp] at CV
            have CE : Hid (celL M k = [v, y1, x, y3, o, y5, o, y7]) := Lib.hid CV
            clear CV e1 e2 h1 h2
            go_wp2_with (at_builtin; refine wpList_append_fresh rfl (.tmp 50) (.tmp 52) 26 rfl w.heap.size 73 i0 (.agg #[.int .i64 0, .int .i64 0, .int .i64 0, .int .i64 0, .int .i64 0, .int .i64 0, .int .i64 0, .int .i64 0]) 8 64 Tryd.underlying26 hi hz0 hz1 hz2 rfl (by decide) (.slice ao k co) k ((M.take (k * 8)).map intV) rfl (O.out.below (((Below.refl _ _).alloc (Nat.le_refl _) _).alloc (by simp) _) (Nat.le_refl _)) ⟨wr.heap.size + 1, 0, none⟩ 1 1 ([v, y1, x, y3, o, y5, o, y7].map intV) rfl rfl (newsC _ _ _ _ _ _ _ _ _ _ _ (by simp)) (allI _) (by unfold maxLen; omega) (by omega) (by simp; omega) ?_; intro v5 w5 hown hgrow hfr; have o5 := OwnG.more hown; rw [← CE.out, ← TK.out] at o5; have O5 := Lib.hid o5; have B5 : Hid (Below w.heap.size w w5) := Lib.hid ((B.out.trans ((((Below.refl _ _).alloc (Nat.le_refl _) _).alloc (by simp) _).mono hwz)).grown hgrow (by simp; omega) (fun q hq => (World.ownsRow.lt O.out q hq).1)); clear hown hgrow hfr o5)
            go_roundw
            case rel => exact ⟨k + 1, by go_num, by omega, O5.out, B5.out⟩
            case measure => (simp [intOf] <;> omega)
          · have e1 : ((k : Int) = v) = True := eq_true h1
            have e2 : ((k : Int) = x) = False := eq_false h2
            have q1 : ((k : Int) == v) = true := by rw [beq_iff_eq]; exact h1
            have q2 : ((k : Int) == x) = false := by rw [beq_eq_false_iff_ne]; exact h2
            simp [e1, e2, opp] at CV
            have CE : Hid (celL M k = [y0, y1, x, y3, y4, y5, o, y7]) := Lib.hid CV
            clear CV e1 e2 h1 h2
            go_wp2_with (at_builtin; refine wpList_append_fresh rfl (.tmp 50) (.tmp 52) 26 rfl w.heap.size 73 i0 (.agg #[.int .i64 0, .int .i64 0, .int .i64 0, .int .i64 0, .int .i64 0, .int .i64 0, .int .i64 0, .int .i64 0]) 8 64 Tryd.underlying26 hi hz0 hz1 hz2 rfl (by decide) (.slice ao k co) k ((M.take (k * 8)).map intV) rfl (O.out.below (((Below.refl _ _).alloc (Nat.le_refl _) _).alloc (by simp) _) (Nat.le_refl _)) ⟨wr.heap.size + 1, 0, none⟩ 1 1 ([y0, y1, x, y3, y4, y5, o, y7].map intV) rfl rfl (newsC _ _ _ _ _ _ _ _ _ _ _ (by simp)) (allI _) (by unfold maxLen; omega) (by omega) (by simp; omega) ?_; intro v5 w5 hown hgrow hfr; have o5 := OwnG.more hown; rw [← CE.out, ← TK.out] at o5; have O5 := Lib.hid o5; have B5 : Hid (Below w.heap.size w w5) := Lib.hid ((B.out.trans ((((Below.refl _ _).alloc (Nat.le_refl _) _).alloc (by simp) _).mono hwz)).grown hgrow (by simp; omega) (fun q hq => (World.ownsRow.lt O.out q hq).1)); clear hown hgrow hfr o5)
            go_roundw
            case rel => exact ⟨k + 1, by go_num, by omega, O5.out, B5.out⟩
            case measure => (simp [intOf] <;> omega)
        · by_cases h2 : (k : Int) = x
          · have e1 : ((k : Int) = v) = False := eq_false h1
            have e2 : ((k : Int) = x) = True := eq_true h2
            have q1 : ((k : Int) == v) = false := by rw [beq_eq_false_iff_ne]; exact h1
            have q2 : ((k : Int) == x) = true := by rw [beq_iff_eq]; exact h2
            simp [e1, e2, opp] at CV
            have CE : Hid (celL M k = [v, y1, y2, y3, o, y5, y6, y7]) := Lib.hid CV
            clear CV e1 e2 h1 h2
            go_wp2_with (at_builtin; refine wpList_append_fresh rfl (.tmp 50) (.tmp 52) 26 rfl w.heap.size 73 i0 (.agg #[.int .i64 0, .int .i64 0, .int .i64 0, .int .i64 0, .int .i64 0, .int .i64 0, .int .i64 0, .int .i64 0]) 8 64 Tryd.underlying26 hi hz0 hz1 hz2 rfl (by decide) (.slice ao k co) k ((M.take (k * 8)).map intV) rfl (O.out.below (((Below.refl _ _).alloc (Nat.le_refl _) _).alloc (by simp) _) (Nat.le_refl _)) ⟨wr.heap.size + 1, 0, none⟩ 1 1 ([v, y1, y2, y3, o, y5, y6, y7].map intV) rfl rfl (newsC _ _ _ _ _ _ _ _ _ _ _ (by simp)) (allI _) (by unfold maxLen; omega) (by omega) (by simp; omega) ?_; intro v5 w5 hown hgrow hfr; have o5 := OwnG.more hown; rw [← CE.out, ← TK.out] at o5; have O5 := Lib.hid o5; have B5 : Hid (Below w.heap.size w w5) := Lib.hid ((B.out.trans ((((Below.refl _ _).alloc (Nat.le_refl _) _).alloc (by simp) _).mono hwz)).grown hgrow (by simp; omega) (fun q hq => (World.ownsRow.lt O.out q hq).1)); clear hown hgrow hfr o5)
            go_roundw
            case rel => exact ⟨k + 1, by go_num, by omega, O5.out, B5.out⟩
            case measure => (simp [intOf] <;> omega)
          · have e1 : ((k : Int) = v) = False := eq_false h1
            have e2 : ((k : Int) = x) = False := eq_false h2
            have q1 : ((k : Int) == v) = false := by rw [beq_eq_false_iff_ne]; exact h1
            have q2 : ((k : Int) == x) = false := by rw [beq_eq_false_iff_ne]; exact h2
            simp [e1, e2, opp] at CV
            have CE : Hid (celL M k = [y0, y1, y2, y3, y4, y5, y6, y7]) := Lib.hid CV
            clear CV e1 e2 h1 h2
            go_wp2_with (at_builtin; refine wpList_append_fresh rfl (.tmp 50) (.tmp 52) 26 rfl w.heap.size 73 i0 (.agg #[.int .i64 0, .int .i64 0, .int .i64 0, .int .i64 0, .int .i64 0, .int .i64 0, .int .i64 0, .int .i64 0]) 8 64 Tryd.underlying26 hi hz0 hz1 hz2 rfl (by decide) (.slice ao k co) k ((M.take (k * 8)).map intV) rfl (O.out.below (((Below.refl _ _).alloc (Nat.le_refl _) _).alloc (by simp) _) (Nat.le_refl _)) ⟨wr.heap.size + 1, 0, none⟩ 1 1 ([y0, y1, y2, y3, y4, y5, y6, y7].map intV) rfl rfl (newsC _ _ _ _ _ _ _ _ _ _ _ (by simp)) (allI _) (by unfold maxLen; omega) (by omega) (by simp; omega) ?_; intro v5 w5 hown hgrow hfr; have o5 := OwnG.more hown; rw [← CE.out, ← TK.out] at o5; have O5 := Lib.hid o5; have B5 : Hid (Below w.heap.size w w5) := Lib.hid ((B.out.trans ((((Below.refl _ _).alloc (Nat.le_refl _) _).alloc (by simp) _).mono hwz)).grown hgrow (by simp; omega) (fun q hq => (World.ownsRow.lt O.out q hq).1)); clear hown hgrow hfr o5)
            go_roundw
            case rel => exact ⟨k + 1, by go_num, by omega, O5.out, B5.out⟩
            case measure => (simp [intOf] <;> omega)
      · have hkn : k = n := by omega
        subst hkn
        have TL : Hid (M.take (k * 8) = M) := Lib.hid (by rw [← HM.out.1, List.take_length])
        go_wp2
        go_ret
        exact ⟨⟨_, _, rfl, by have h := O.out; rw [TL.out] at h; exact h⟩, B.out⟩
  · show Calls Tryd.prog 14 #[.slice A0 n c0, .int .i64 v, .int .i64 (3 : Int), .int .i64 x, .int .i64 o] w _
    go_enter Tryd.func14, Tryd.ntmps14
    go_wp2_with (fail)
    go_loopw [11, 12] (fun lv iv wr => RwG M n w wr lv iv) (fun _ iv _ => n - (intOf iv).toNat)
    case atStart => exact ⟨0, rfl, Nat.zero_le _, OwnG.nil _ _, Below.refl _ _⟩
    case round =>
      obtain ⟨k, rfl, hk, hO, hB⟩ := hrel
      have O := Lib.hid hO
      have B := Lib.hid hB
      obtain ⟨ao, co, e⟩ := hO.form
      subst e
      have hwz := hB.size
      clear hO hB
      by_cases hlt : k < n
      · obtain ⟨b, o9, c', e, hb, hx, hy⟩ := HL.out.nth hlt
        simp only [Value.slice.injEq, true_and] at e
        obtain ⟨rfl, rfl⟩ := e
        have f0 : wr.cell? ⟨b, o9 + k * 8, none⟩ = some (.int .i64 (nxG L k 0)) := (B.out.cell (p := ⟨b, o9 + k * 8 + 0, none⟩) hb).trans (hx 0 (by decide))
        have f1 : wr.cell? ⟨b, o9 + k * 8 + 1, none⟩ = some (.int .i64 (nxG L k 1)) := (B.out.cell (p := ⟨b, o9 + k * 8 + 1, none⟩) hb).trans (hx 1 (by decide))
        have f2 : wr.cell? ⟨b, o9 + k * 8 + 2, none⟩ = some (.int .i64 (nxG L k 2)) := (B.out.cell (p := ⟨b, o9 + k * 8 + 2, none⟩) hb).trans (hx 2 (by decide))
        have f3 : wr.cell? ⟨b, o9 + k * 8 + 3, none⟩ = some (.int .i64 (nxG L k 3)) := (B.out.cell (p := ⟨b, o9 + k * 8 + 3, none⟩) hb).trans (hx 3 (by decide))
        have f4 : wr.cell? ⟨b, o9 + k * 8 + 4, none⟩ = some (.int .i64 (owG L k 0)) := (B.out.cell (p := ⟨b, o9 + k * 8 + 4 + 0, none⟩) hb).trans (hy 0 (by decide))
        have f5 : wr.cell? ⟨b, o9 + k * 8 + 5, none⟩ = some (.int .i64 (owG L k 1)) := (B.out.cell (p := ⟨b, o9 + k * 8 + 4 + 1, none⟩) hb).trans (hy 1 (by decide))
        have f6 : wr.cell? ⟨b, o9 + k * 8 + 6, none⟩ = some (.int .i64 (owG L k 2)) := (B.out.cell (p := ⟨b, o9 + k * 8 + 4 + 2, none⟩) hb).trans (hy 2 (by decide))
        have f7 : wr.cell? ⟨b, o9 + k * 8 + 7, none⟩ = some (.int .i64 (owG L k 3)) := (B.out.cell (p := ⟨b, o9 + k * 8 + 4 + 3, none⟩) hb).trans (hy 3 (by decide))
        have z1 := Nat.lt_of_lt_of_le hb B.out.size
        have hm := fun e (he : e < 4) => HM.out.2 k e hlt he
        have TK := Lib.hid (take_cell HM.out.1 hlt)
        have CV : celL M k = [nxG M k 0, nxG M k 1, nxG M k 2, nxG M k 3, owG M k 0, owG M k 1, owG M k 2, owG M k 3] := rfl
        rw [(hm 0 (by decide)).1, (hm 1 (by decide)).1, (hm 2 (by decide)).1, (hm 3 (by decide)).1, (hm 0 (by decide)).2, (hm 1 (by decide)).2, (hm 2 (by decide)).2, (hm 3 (by decide)).2] at CV
        generalize nxG L k 0 = y0 at *
        generalize nxG L k 1 = y1 at *
        generalize nxG L k 2 = y2 at *
        generalize nxG L k 3 = y3 at *
        generalize owG L k 0 = y4 at *
        generalize owG L k 1 = y5 at *
        generalize owG L k 2 = y6 at *
        generalize owG L k 3 = y7 at *
        clear hx hy hm
        by_cases h1 : (k : Int) = v
        · by_cases h2 : (k : Int) = x
          · have e1 : ((k : Int) = v) = True := eq_true h1
            have e2 : ((k : Int) = x) = True := eq_true h2
            have q1 : ((k : Int) == v) = true := by rw [beq_iff_eq]; exact h1
            have q2 : ((k : Int) == x) = true := by rw [beq_iff_eq]; exact h2
            simp [e1, e2, opp] at CV
            have CE : Hid (celL M k = [y0, v, y2, x, y4, o, y6, o]) := Lib.hid CV
            clear CV e1 e2 h1 h2
            go_wp2_with (at_builtin; refine wpList_append_fresh rfl (.tmp 50) (.tmp 52) 26 rfl w.heap.size 73 i0 (.agg #[.int .i64 0, .int .i64 0, .int .i64 0, .int .i64 0, .int .i64 0, .int .i64 0, .int .i64 0, .int .i64 0]) 8 64 Tryd.underlying26 hi hz0 hz1 hz2 rfl (by decide) (.slice ao k co) k ((M.take (k * 8)).map intV) rfl (O.out.below (((Below.refl _ _).alloc (Nat.le_refl _) _).alloc (by simp) _) (Nat.le_refl _)) ⟨wr.heap.size + 1, 0, none⟩ 1 1 ([y0, v, y2, x, y4, o, y6, o].map intV) rfl rfl (newsC _ _ _ _ _ _ _ _ _ _ _ (by simp)) (allI _) (by unfold maxLen; omega) (by omega) (by simp; omega) ?_; intro v5 w5 hown hgrow hfr; have o5 := OwnG.more hown; rw [← CE.out, ← TK.out] at o5; have O5 := Lib.hid o5; have B5 : Hid (Below w.heap.size w w5) := Lib.hid ((B.out.trans ((((Below.refl _ _).alloc (Nat.le_refl _) _).alloc (by simp) _).mono hwz)).grown hgrow (by simp; omega) (fun q hq => (World.ownsRow.lt O.out q hq).1)); clear hown hgrow hfr o5)
            go_roundw
            case rel => exact ⟨k + 1, by go_num, by omega, O5.out, B5.out⟩
            case measure => (simp [intOf] <;> omega)
          · have e1 : ((k : Int) = v) = True := eq_true h1
            have e2 : ((k : Int) = x) = False := eq_false h2
            have q1 : ((k : Int) == v) = true := by rw [beq_iff_eq]; exact h1
            have q2 : ((k : Int) == x) = false := by rw [beq_eq_false_iff_ne]; exact h2
            simp [e1, e2, opp] at CV
            have CE : Hid (celL M k = [y0, y1, y2, x, y4, y5, y6, o]) := Lib.hid CV
            clear CV e1 e2 h1 h2
            go_wp2_with (at_builtin; refine wpList_append_fresh rfl (.tmp 50) (.tmp 52) 26 rfl w.heap.size 73 i0 (.agg #[.int .i64 0, .int .i64 0, .int .i64 0, .int .i64 0, .int .i64 0, .int .i64 0, .int .i64 0, .int .i64 0]) 8 64 Tryd.underlying26 hi hz0 hz1 hz2 rfl (by decide) (.slice ao k co) k ((M.take (k * 8)).map intV) rfl (O.out.below (((Below.refl _ _).alloc (Nat.le_refl _) _).alloc (by simp) _) (Nat.le_refl _)) ⟨wr.heap.size + 1, 0, none⟩ 1 1 ([y0, y1, y2, x, y4, y5, y6, o].map intV) rfl rfl (newsC _ _ _ _ _ _ _ _ _ _ _ (by simp)) (allI _) (by unfold maxLen; omega) (by omega) (by simp; omega) ?_; intro v5 w5 hown hgrow hfr; have o5 := OwnG.more hown; rw [← CE.out, ← TK.out] at o5; have O5 := Lib.hid o5; have B5 : Hid (Below w.heap.size w w5) := Lib.hid ((B.out.trans ((((Below.refl _ _).alloc (Nat.le_refl _) _).alloc (by simp) _).mono hwz)).grown hgrow (by simp; omega) (fun q hq => (World.ownsRow.lt O.out q hq).1)); clear hown hgrow hfr o5)
            go_roundw
            case rel => exact ⟨k + 1, by go_num, by omega, O5.out, B5.out⟩
            case measure => (simp [intOf] <;> omega)
        · by_cases h2 : (k : Int) = x
          · have e1 : ((k : Int) = v) = False := eq_false h1
            have e2 : ((k : Int) = x) = True := eq_true h2
            have q1 : ((k : Int) == v) = false := by rw [beq_eq_false_iff_ne]; exact h1
            have q2 : ((k : Int) == x) = true := by rw [beq_iff_eq]; exact h2
            simp [e1, e2, opp] at CV
            have CE : Hid (celL M k = [y0, v, y2, y3, y4, o, y6, y7]) := Lib.hid CV
            clear CV e1 e2 h1 h2
            go_wp2_with (at_builtin; refine wpList_append_fresh rfl (.tmp 50) (.tmp 52) 26 rfl w.heap.size 73 i0 (.agg #[.int .i64 0, .int .i64 0, .int .i64 0, .int .i64 0, .int .i64 0, .int .i64 0, .int .i64 0, .int .i64 0]) 8 64 Tryd.underlying26 hi hz0 hz1 hz2 rfl (by decide) (.slice ao k co) k ((M.take (k * 8)).map intV) rfl (O.out.below (((Below.refl _ _).alloc (Nat.le_refl _) _).alloc (by simp) _) (Nat.le_refl _)) ⟨wr.heap.size + 1, 0, none⟩ 1 1 ([y0, v, y2, y3, y4, o, y6, y7].map intV) rfl rfl (newsC _ _ _ _ _ _ _ _ _ _ _ (by simp)) (allI _) (by unfold maxLen; omega) (by omega) (by simp; omega) ?_; intro v5 w5 hown hgrow hfr; have o5 := OwnG.more hown; rw [← CE.out, ← TK.out] at o5; have O5 := Lib.hid o5; have B5 : Hid (Below w.heap.size w w5) := Lib.hid ((B.out.trans ((((Below.refl _ _).alloc (Nat.le_refl _) _).alloc (by simp) _).mono hwz)).grown hgrow (by simp; omega) (fun q hq => (World.ownsRow.lt O.out q hq).1)); clear hown hgrow hfr o5)
            go_roundw
            case rel => exact ⟨k + 1, by go_num, by omega, O5.out, B5.out⟩
            case measure => (simp [intOf] <;> omega)
          · have e1 : ((k : Int) = v) = False := eq_false h1
            have e2 : ((k : Int) = x) = False := eq_false h2
            have q1 : ((k : Int) == v) = false := by rw [beq_eq_false_iff_ne]; exact h1
            have q2 : ((k : Int) == x) = false := by rw [beq_eq_false_iff_ne]; exact h2
            simp [e1, e2, opp] at CV
            have CE : Hid (celL M k = [y0, y1, y2, y3, y4, y5, y6, y7]) := Lib.hid CV
            clear CV e1 e2 h1 h2
            go_wp2_with (at_builtin; refine wpList_append_fresh rfl (.tmp 50) (.tmp 52) 26 rfl w.heap.size 73 i0 (.agg #[.int .i64 0, .int .i64 0, .int .i64 0, .int .i64 0, .int .i64 0, .int .i64 0, .int .i64 0, .int .i64 0]) 8 64 Tryd.underlying26 hi hz0 hz1 hz2 rfl (by decide) (.slice ao k co) k ((M.take (k * 8)).map intV) rfl (O.out.below (((Below.refl _ _).alloc (Nat.le_refl _) _).alloc (by simp) _) (Nat.le_refl _)) ⟨wr.heap.size + 1, 0, none⟩ 1 1 ([y0, y1, y2, y3, y4, y5, y6, y7].map intV) rfl rfl (newsC _ _ _ _ _ _ _ _ _ _ _ (by simp)) (allI _) (by unfold maxLen; omega) (by omega) (by simp; omega) ?_; intro v5 w5 hown hgrow hfr; have o5 := OwnG.more hown; rw [← CE.out, ← TK.out] at o5; have O5 := Lib.hid o5; have B5 : Hid (Below w.heap.size w w5) := Lib.hid ((B.out.trans ((((Below.refl _ _).alloc (Nat.le_refl _) _).alloc (by simp) _).mono hwz)).grown hgrow (by simp; omega) (fun q hq => (World.ownsRow.lt O.out q hq).1)); clear hown hgrow hfr o5)
            go_roundw
            case rel => exact ⟨k + 1, by go_num, by omega, O5.out, B5.out⟩
            case measure => (simp [intOf] <;> omega)
      · have hkn : k = n := by omega
        subst hkn
        have TL : Hid (M.take (k * 8) = M) := Lib.hid (by rw [← HM.out.1, List.take_length])
        go_wp2
        go_ret
        exact ⟨⟨_, _, rfl, by have h := O.out; rw [TL.out] at h; exact h⟩, B.out⟩
end Go.Proofs.YtkakeakdgidigaaDoor

namespace Go.Proofs.YtkakeakdgidigaaDoor
open Go.RowKit Go.Proofs.YtkakeakdgidigaaDoor.GrM

theorem heldC : Tryd.prog.stoodInHeld 73 = false := by kernel_rfl
theorem eqA4 (w : World) (a0 a1 a2 a3 b0 b1 b2 b3 : Int) : (Op.equalIn 9999 71 (.agg #[.int .i64 a0, .int .i64 a1, .int .i64 a2, .int .i64 a3]) (.agg #[.int .i64 b0, .int .i64 b1, .int .i64 b2, .int .i64 b3])).run Tryd.prog w = .ok (a0 == b0 && (a1 == b1 && (a2 == b2 && a3 == b3))) w := by
  have ha := Tryd.underlying71
  have hi := Tryd.underlying3
  have hc : Tryd.prog.cellsOf 3 = 1 := by kernel_rfl
  obtain ⟨i, hinf⟩ : ∃ i, Tryd.prog.info? 3 = some i := by
    cases e : Tryd.prog.info? 3 with
    | none => exact absurd e (by decide +kernel)
    | some i => exact ⟨i, rfl⟩
  have h := run_equalIn_array (P := Tryd.prog) w 9998 #[.int .i64 a0, .int .i64 a1, .int .i64 a2, .int .i64 a3] #[.int .i64 b0, .int .i64 b1, .int .i64 b2, .int .i64 b3] ha hinf
  rw [h, hc]
  have e4 : List.range 4 = [0, 1, 2, 3] := rfl
  rw [e4]
  simp [Op.eqItems, go_sem]
  by_cases h0 : a0 = b0
  · by_cases h1 : a1 = b1
    · by_cases h2 : a2 = b2
      · by_cases h3 : a3 = b3
        · simp [h0, h1, h2, h3]
        · simp [h0, h1, h2, h3]
      · simp [h0, h1, h2]
    · simp [h0, h1]
  · simp [h0]
theorem neqC (w : World) (a0 a1 a2 a3 a4 a5 a6 a7 b0 b1 b2 b3 b4 b5 b6 b7 : Int) (r : Bool) (hr : decide ([a0, a1, a2, a3, a4, a5, a6, a7] = [b0, b1, b2, b3, b4, b5, b6, b7]) = !r) :
    (binOp .neq 73 (.agg #[.int .i64 a0, .int .i64 a1, .int .i64 a2, .int .i64 a3, .int .i64 a4, .int .i64 a5, .int .i64 a6, .int .i64 a7]) (.agg #[.int .i64 b0, .int .i64 b1, .int .i64 b2, .int .i64 b3, .int .i64 b4, .int .i64 b5, .int .i64 b6, .int .i64 b7])).run Tryd.prog w = .ok (.bool r) w := by
  have hu := Tryd.underlying73
  have ha := Tryd.underlying71
  have hi := Tryd.underlying3
  rw [run_neq_struct]
  have h := run_equalIn_agg (P := Tryd.prog) w 9999 73 #[.int .i64 a0, .int .i64 a1, .int .i64 a2, .int .i64 a3, .int .i64 a4, .int .i64 a5, .int .i64 a6, .int .i64 a7] #[.int .i64 b0, .int .i64 b1, .int .i64 b2, .int .i64 b3, .int .i64 b4, .int .i64 b5, .int .i64 b6, .int .i64 b7] (by kernel_rfl) heldC
  rw [h]
  unfold Program.fieldsOf
  rw [hu]
  have e1 : ((a0 == b0 && (a1 == b1 && (a2 == b2 && a3 == b3))) && (a4 == b4 && (a5 == b5 && (a6 == b6 && a7 == b7)))) = !r := by
    rw [← hr, Bool.eq_iff_iff]
    simp [and_assoc]
  simp [Op.eqFields, go_sem, eqA4]
  have hr2 : r = !((a0 == b0 && (a1 == b1 && (a2 == b2 && a3 == b3))) && (a4 == b4 && (a5 == b5 && (a6 == b6 && a7 == b7)))) := by rw [e1]; simp
  subst hr2
  clear hr e1 h
  by_cases h0 : a0 = b0
  · by_cases h1 : a1 = b1
    · by_cases h2 : a2 = b2
      · by_cases h3 : a3 = b3
        · by_cases h4 : a4 = b4
          · by_cases h5 : a5 = b5
            · by_cases h6 : a6 = b6
              · by_cases h7 : a7 = b7
                · simp [h0, h1, h2, h3, h4, h5, h6, h7]
                · simp [h0, h1, h2, h3, h4, h5, h6, h7]
              · simp [h0, h1, h2, h3, h4, h5, h6]
            · simp [h0, h1, h2, h3, h4, h5]
          · simp [h0, h1, h2, h3, h4]
        · simp [h0, h1, h2, h3]
      · simp [h0, h1, h2]
    · simp [h0, h1]
  · simp [h0]
def RsRel (L M : List Int) (n : Nat) (w wr : World) (iv : Value) : Prop := ∃ k : Nat, iv = .int .i64 k ∧ k ≤ n ∧ (∀ i, i < k → celL L i = celL M i) ∧ Below w.heap.size w wr

end Go.Proofs.YtkakeakdgidigaaDoor
