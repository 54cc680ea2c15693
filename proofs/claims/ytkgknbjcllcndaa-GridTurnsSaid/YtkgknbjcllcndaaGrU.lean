/-
  What the reference's Turned answers. Conditions: at most 100000 cells.
-/
import Derived.Test.YtkgknbjcllcndaaGrC
import Derived.LoopN
namespace Go.Proofs.Ytkgknbjcllcndaa
open Go.RowKit Go.Proofs.Ytkgknbjcllcndaa.GrM

theorem turn_cell (L : List Int) (k : Nat) : turnG L (k + 1) = turnG L k ++ [nxG L k 3, nxG L k 0, nxG L k 1, nxG L k 2, owG L k 3, owG L k 0, owG L k 1, owG L k 2] := rfl
def RtG (L : List Int) (n : Nat) (w wr : World) (lv iv : Value) : Prop := ∃ k : Nat, iv = .int .i64 k ∧ k ≤ n ∧ OwnG wr w.heap.size lv (turnG L k) k ∧ Below w.heap.size w wr
set_option maxHeartbeats 16000000 in
set_option maxRecDepth 100000 in
theorem refTurned (lv : Value) (L : List Int) (n : Nat) (w : World) (hL : CelAt w lv L n) (hn : n ≤ 100000) :
    Calls Try.prog 25 #[lv] w fun r w' => (∃ A c, r = .returned (.slice A n c) ∧ OwnG w' w.heap.size (.slice A n c) (turnG L n) n) ∧ Below w.heap.size w w' := by
  have HL := Lib.hid hL
  obtain ⟨A0, c0, e⟩ := hL.form
  subst e
  obtain ⟨i0, hi, hz0, hz1, hz2⟩ := info_c8
  clear hL
  go_enter Try.func25, Try.ntmps25
  go_wp2_with (fail)
  go_loopw [3, 4] (fun lv iv wr => RtG L n w wr lv iv) (fun _ iv _ => n - (intOf iv).toNat)
  case atStart => exact ⟨0, rfl, Nat.zero_le _, OwnG.nil _ _, Below.refl _ _⟩
  case round =>
    obtain ⟨k, rfl, hk, hO, hB⟩ := hrel
    have O := Lib.hid hO
    have B := Lib.hid hB
    obtain ⟨ao, co, e⟩ := hO.form
    subst e
    have hwz := hB.size
    clear hO hB
    by_cases hlt : k < n
    · obtain ⟨b, o9, c', e, hb, hx, hy⟩ := HL.out.nth hlt
      simp only [Value.slice.injEq, true_and] at e
      obtain ⟨rfl, rfl⟩ := e
      have f0 : wr.cell? ⟨b, o9 + k * 8, none⟩ = some (.int .i64 (nxG L k 0)) := (B.out.cell (p := ⟨b, o9 + k * 8 + 0, none⟩) hb).trans (hx 0 (by decide))
      have f1 : wr.cell? ⟨b, o9 + k * 8 + 1, none⟩ = some (.int .i64 (nxG L k 1)) := (B.out.cell (p := ⟨b, o9 + k * 8 + 1, none⟩) hb).trans (hx 1 (by decide))
      have f2 : wr.cell? ⟨b, o9 + k * 8 + 2, none⟩ = some (.int .i64 (nxG L k 2)) := (B.out.cell (p := ⟨b, o9 + k * 8 + 2, none⟩) hb).trans (hx 2 (by decide))
      have f3 : wr.cell? ⟨b, o9 + k * 8 + 3, none⟩ = some (.int .i64 (nxG L k 3)) := (B.out.cell (p := ⟨b, o9 + k * 8 + 3, none⟩) hb).trans (hx 3 (by decide))
      have f4 : wr.cell? ⟨b, o9 + k * 8 + 4, none⟩ = some (.int .i64 (owG L k 0)) := (B.out.cell (p := ⟨b, o9 + k * 8 + 4 + 0, none⟩) hb).trans (hy 0 (by decide))
      have f5 : wr.cell? ⟨b, o9 + k * 8 + 5, none⟩ = some (.int .i64 (owG L k 1)) := (B.out.cell (p := ⟨b, o9 + k * 8 + 4 + 1, none⟩) hb).trans (hy 1 (by decide))
      have f6 : wr.cell? ⟨b, o9 + k * 8 + 6, none⟩ = some (.int .i64 (owG L k 2)) := (B.out.cell (p := ⟨b, o9 + k * 8 + 4 + 2, none⟩) hb).trans (hy 2 (by decide))
      have f7 : wr.cell? ⟨b, o9 + k * 8 + 7, none⟩ = some (.int .i64 (owG L k 3)) := (B.out.cell (p := ⟨b, o9 + k * 8 + 4 + 3, none⟩) hb).trans (hy 3 (by decide))
      have z1 := Nat.lt_of_lt_of_le hb B.out.size
      have TC := Lib.hid (turn_cell L k)
      generalize nxG L k 0 = y0 at *
      generalize nxG L k 1 = y1 at *
      generalize nxG L k 2 = y2 at *
      generalize nxG L k 3 = y3 at *
      generalize owG L k 0 = y4 at *
      generalize owG L k 1 = y5 at *
      generalize owG L k 2 = y6 at *
      generalize owG L k 3 = y7 at *
      clear hx hy
      go_wp2_with (fail)
      refine wp_loop_rounds 5 ?_
      rw [rounds_succ]
      go_wp2_with (fail)
      rw [rounds_succ]
      go_wp2_with (fail)
      rw [rounds_succ]
      go_wp2_with (fail)
      rw [rounds_succ]
      go_wp2_with (fail)
      rw [rounds_succ]
      go_wp2_with (at_builtin; refine wpList_append_fresh rfl (.tmp 45) (.tmp 47) 27 rfl w.heap.size 40 i0 (.agg #[.int .i64 0, .int .i64 0, .int .i64 0, .int .i64 0, .int .i64 0, .int .i64 0, .int .i64 0, .int .i64 0]) 8 64 Try.underlying27 hi hz0 hz1 hz2 rfl (by decide) (.slice ao k co) k ((turnG L k).map intV) rfl (O.out.below (((Below.refl _ _).alloc (Nat.le_refl _) _).alloc (by simp) _) (Nat.le_refl _)) ⟨wr.heap.size + 1, 0, none⟩ 1 1 ([y3, y0, y1, y2, y7, y4, y5, y6].map intV) rfl rfl (newsC _ _ _ _ _ _ _ _ _ _ _ (by simp)) (allI _) (by unfold maxLen; omega) (by omega) (by simp; omega) ?_; intro v5 w5 hown hgrow hfr; have o5 := OwnG.more hown; rw [← TC.out] at o5; have O5 := Lib.hid o5; have B5 : Hid (Below w.heap.size w w5) := Lib.hid ((B.out.trans ((((Below.refl _ _).alloc (Nat.le_refl _) _).alloc (by simp) _).mono hwz)).grown hgrow (by simp; omega) (fun q hq => (World.ownsRow.lt O.out q hq).1)); clear hown hgrow hfr o5)
      go_roundw
      case rel => exact ⟨k + 1, by go_num, by omega, O5.out, B5.out⟩
      case measure => (simp [intOf] <;> omega)
    · have hkn : k = n := by omega
      subst hkn
      go_wp2
      go_ret
      exact ⟨⟨_, _, rfl, O.out⟩, B.out⟩
end Go.Proofs.Ytkgknbjcllcndaa
