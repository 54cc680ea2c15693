/-
  What the reference's New, with and Same answer. Conditions: at most 1000000 cells.
-/
import Derived.Test.YtkgknbjcllcndaaGrA
import Derived.Test.YtkgknbjcllcndaaGrW
import Derived.Laws.StructEq
namespace Go.Proofs.Ytkgknbjcllcndaa
open Go.RowKit Go.Proofs.Ytkgknbjcllcndaa.GrM

theorem info_c8 : ∃ i, Try.prog.info? 40 = some i ∧ i.zero = some (.agg #[.int .i64 0, .int .i64 0, .int .i64 0, .int .i64 0, .int .i64 0, .int .i64 0, .int .i64 0, .int .i64 0]) ∧ i.size = 8 ∧ i.bytes = 64 := by
  have h := infoC8
  cases e : Try.prog.info? 40 with
  | none => rw [e] at h; cases h
  | some i =>
    rw [e] at h
    simp only [Option.map_some, Option.some.injEq, Prod.mk.injEq] at h
    exact ⟨i, rfl, h.1, h.2.1, h.2.2⟩
def zeroC : Array Value := #[.int .i64 0, .int .i64 0, .int .i64 0, .int .i64 0, .int .i64 0, .int .i64 0, .int .i64 0, .int .i64 0]
theorem zero_at : ∀ k, k < 8 → zeroC[k]! = .int .i64 0 := by
  intro k hk
  match k, hk with
  | 0, _ => rfl
  | 1, _ => rfl
  | 2, _ => rfl
  | 3, _ => rfl
  | 4, _ => rfl
  | 5, _ => rfl
  | 6, _ => rfl
  | 7, _ => rfl
  | k + 8, h => omega
theorem made_zero (N : Nat) : (madeCells zeroC (N * 8)).toList = (zeroG N).map intV := by
  unfold zeroG madeCells
  apply List.ext_getElem
  · simp
  · intro i h1 h2
    have hz : zeroC.size = 8 := rfl
    simp [hz, intV]
    exact zero_at _ (Nat.mod_lt _ (by decide))
theorem mkCel (N : Nat) (hN : N ≤ 1000000) (w : World) : (Instr.makeSlice 27 (.int .i64 (N : Int)) (.int .i64 (N : Int))).run Try.prog w = .ok (.slice (some ⟨w.heap.size, 0, none⟩) N N) (w.alloc (.cells (madeCells zeroC (N * 8)) 40)) := by
  obtain ⟨i, hi, hz, hs, hb⟩ := info_c8
  have h := run_make (P := Try.prog) w 27 40 i (.agg zeroC) Try.underlying27 hi hz .i64 .i64 (N : Int) (N : Int) (by omega) (by omega) (by rw [hb]; omega) (by omega)
  simp only [Int.toNat_natCast] at h
  rw [hs] at h
  exact h
theorem made_own (N : Nat) (hN : N ≤ 1000000) (w : World) : OwnG (w.alloc (.cells (madeCells zeroC (N * 8)) 40)) w.heap.size (.slice (some ⟨w.heap.size, 0, none⟩) N N) (zeroG N) N := by
  have h1 : (madeCells zeroC (N * 8)).size = N * 8 := by
    rw [← Array.length_toList, made_zero, List.length_map, zero_len]
  have h := World.ownsRow_lit (base := w.heap.size) (e := 40) (size := 8) w (madeCells zeroC (N * 8)) N (Nat.le_refl _) (by unfold maxLen; omega) h1
  rw [made_zero] at h
  exact h
def RnA (n : Nat) (wb wr : World) (g : Nat) (iv : Value) : Prop := ∃ k : Nat, iv = .int .i64 k ∧ k ≤ n ∧ OwnG wr g (.slice (some ⟨g, 0, none⟩) n n) (newG k ++ zeroG (n - k)) n ∧ Below wb.heap.size wb wr
def RnB (n k : Nat) (wb wr : World) (g : Nat) (iv : Value) : Prop := ∃ d : Nat, iv = .int .i64 d ∧ d ≤ 4 ∧ OwnG wr g (.slice (some ⟨g, 0, none⟩) n n) (newG k ++ (partC d ++ zeroG (n - (k + 1)))) n ∧ Below wb.heap.size wb wr
set_option maxHeartbeats 4000000 in
set_option maxRecDepth 100000 in
theorem refNew (n : Nat) (w : World) (hn : n ≤ 1000000) : Calls Try.prog 9 #[.int .i64 n] w fun r w' => (∃ g, r = .returned (.slice (some ⟨g, 0, none⟩) n n) ∧ OwnG w' w.heap.size (.slice (some ⟨g, 0, none⟩) n n) (newG n) n) ∧ Below w.heap.size w w' := by
  have hmk := mkCel n hn
  have M0 := Lib.hid (made_own n hn w)
  go_enter Try.func9, Try.ntmps9
  go_wp2
  clear hmk
  go_loopw [4] (fun iv wr => RnA n w wr w.heap.size iv) (fun iv _ => n - (intOf iv).toNat)
  case atStart => exact ⟨0, rfl, Nat.zero_le _, M0.out, (Below.refl _ _).alloc (Nat.le_refl _) _⟩
  case round =>
    obtain ⟨k, rfl, hk, hO, hB⟩ := hrel
    have O := Lib.hid hO
    have B := Lib.hid hB
    clear hO hB
    by_cases hlt : k < n
    · have q1 : decide (k < n) = true := by rw [decide_eq_true_eq]; exact hlt
      obtain ⟨wo, hwo⟩ : ∃ W, W = wr := ⟨_, rfl⟩
      subst hwo
      go_wp2_with (fail)
      go_loopw [5] (fun iv wr => RnB n k w wr w.heap.size iv) (fun iv _ => 4 - (intOf iv).toNat)
      case atStart => exact ⟨0, rfl, by omega, by have h := O.out; rw [show n - k = n - (k + 1) + 1 by omega, zero_more] at h; exact h, B.out⟩
      case round =>
        obtain ⟨d, rfl, hd, hO, hB⟩ := hrel
        have O2 := Lib.hid hO
        have B2 := Lib.hid hB
        have hgl : w.heap.size < wr.heap.size := (World.ownsRow.lt hO _ rfl).2
        by_cases hd4 : d < 4
        · have c0 : wr.cell? ⟨w.heap.size, k * 8 + d, none⟩ = some (.int .i64 ((newG k ++ (partC d ++ zeroG (n - (k + 1)))).getD (k * 8 + d) 0)) := by
            have h1 := World.ownsRow.cellAt hO (k * 8 + d) (by omega)
            have h2 := hO.len
            rw [h1, List.getElem?_map, List.getElem?_eq_getElem (by omega), List.getD_eq_getElem?_getD, List.getElem?_eq_getElem (by omega)]; rfl
          have c1 : wr.frozen? ⟨w.heap.size, k * 8 + d, none⟩ = false := World.ownsRow.frozenAt hO _
          have q2 : decide (d < 4) = true := by rw [decide_eq_true_eq]; exact hd4
          have q3 : decide ((d : Int) < 4) = true := by rw [decide_eq_true_eq]; omega
          have S := Lib.hid (hO.set (k * 8 + d) (-1))
          have SB : Hid (Below w.heap.size w (wr.setCell ⟨w.heap.size, k * 8 + d, none⟩ (.int .i64 (-1)))) := Lib.hid (hB.trans ((((Out.refl (fun x => x = w.heap.size) wr).setIn _ _).below hB.size (fun i _ e => by omega))))
          generalize (newG k ++ (partC d ++ zeroG (n - (k + 1)))).getD (k * 8 + d) 0 = old at c0
          clear hO hB
          go_wp2
          go_roundw
          case rel => exact ⟨d + 1, by go_num, by omega, by rw [← new_set hd4]; exact S.out, SB.out⟩
          case measure => (simp [intOf] <;> omega)
        · have q2 : decide (d < 4) = false := by rw [decide_eq_false_iff_not]; exact hd4
          have q3 : decide ((d : Int) < 4) = false := by rw [decide_eq_false_iff_not]; omega
          have hd5 : d = 4 := by omega
          clear hO hB
          go_wp2
          go_roundw
          case rel => exact ⟨k + 1, by go_num, by omega, by have h := O2.out; rw [hd5, new_next] at h; exact h, B2.out⟩
          case measure => (simp [intOf] <;> omega)
    · have hkn : k = n := by omega
      have q1 : decide (k < n) = false := by rw [decide_eq_false_iff_not]; exact hlt
      go_wp2
      go_ret
      refine ⟨⟨_, rfl, ?_⟩, B.out⟩
      have h := O.out
      rw [hkn, Nat.sub_self] at h
      have e : newG n ++ zeroG 0 = newG n := by simp [zeroG]
      rw [e] at h
      exact h
end Go.Proofs.Ytkgknbjcllcndaa
