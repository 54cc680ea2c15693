/-
  A grid: a cell put behind the others; New. Conditions: at most 100000 cells; New: from 0 to 4096.
-/
import Derived.Test.YtkgknbjcllcndaaGdA
namespace Go.Proofs.Ytkgknbjcllcndaa
open Go.RowKit Go.Proofs.Ytkgknbjcllcndaa.GrM

/-- What a turned grid is: its cells, what lies outside its old blocks as it was, its row where it was or new. -/
def Turned (p : Nat) (v : Value) (M : List Int) (m : Nat) (w w' : World) : Prop :=
  ∃ v', GrdAt w' p v' M m ∧ Out (FootG p v) w w' ∧ ∀ b, v'.ownBlock = some b → v.ownBlock = some b ∨ w.heap.size ≤ b
def PutP (p : Nat) (v : Value) (L : List Int) (n : Nat) (w : World) (e : Ending) (w' : World) : Prop :=
  e = .returned (.int .i64 n) ∧ Turned p v (L ++ freeC) (n + 1) w w'
theorem freeI : freeC.map intV = [(.int .i64 (-1) : Value), .int .i64 (-1), .int .i64 (-1), .int .i64 (-1), .int .i64 0, .int .i64 0, .int .i64 0, .int .i64 0] := rfl
set_option maxHeartbeats 4000000 in
theorem putY {w : World} {p n : Nat} {v : Value} {L : List Int} (h : GrdAt w p v L n) (hn : n ≤ 100000) :
    Calls Try.prog 26 #[.pointer (some ⟨p, 0, none⟩)] w (PutP p v L n w) := by
  obtain ⟨i0, hi, hz0, hz1, hz2⟩ := info_c8
  have H := Lib.hid h
  have hp := h.lt
  have h1 := h.c0
  obtain ⟨ao, co, rfl⟩ := h.form
  clear h
  go_enter Try.func26, Try.ntmps26
  go_wp2_with (at_builtin; refine wpList_append_fresh rfl (.tmp 7) (.tmp 10) 27 rfl 0 40 i0 (.agg #[.int .i64 0, .int .i64 0, .int .i64 0, .int .i64 0, .int .i64 0, .int .i64 0, .int .i64 0, .int .i64 0]) 8 64 Try.underlying27 hi hz0 hz1 hz2 rfl (by decide) (.slice ao n co) n (L.map intV) rfl (H.out.row.below ((Below.refl _ _).alloc (Nat.le_refl _) _) (Nat.le_refl _)) ⟨w.heap.size, 0, none⟩ 1 1 (freeC.map intV) rfl rfl (newsC _ _ _ _ _ _ _ _ _ _ _ rfl) (allI _) (by unfold maxLen; omega) (by omega) (Nat.zero_le _) ?_; intro v5 w5 hown hgrow hfr; have o5 := OwnG.more hown; obtain ⟨a5, c5, e5⟩ := o5.form; subst e5; have O5 := Lib.hid o5; have B5 : Hid (Out (FootG p (.slice ao n co)) w w5) := Lib.hid (((Out.refl _ w).alloc _).grown hgrow (fun k _ e => Or.inr e)); have F5 : Hid (∀ b, (Value.slice a5 (n + 1) c5).ownBlock = some b → (Value.slice ao n co).ownBlock = some b ∨ w.heap.size ≤ b) := Lib.hid (fun b hb => (hfr b hb).imp id (fun q => by simp at q; omega)); have b5 : w5.heap[p]? = some (.cells #[.slice ao n co] 69 (0, 0)) := (by rw [hgrow.block p (by simp; omega) (fun e => H.out.apart e.symm), Below.heap_alloc _ _ _ hp]; exact H.out.blk); have BB := Lib.hid b5; have g1 : w5.cell? ⟨p, 0, none⟩ = some (.slice ao n co) := (by simp [World.cell?, b5]); have g2 : w5.frozen? ⟨p, 0, none⟩ = false := (by simp only [World.frozen?, b5]; simp); clear hown hgrow hfr o5 b5)
  go_ret
  have ha : (Value.slice a5 (n + 1) c5).ownBlock ≠ some p := fun e => by
    rcases F5.out p e with h | h
    · exact H.out.apart h
    · omega
  refine ⟨ret_int (by omega), _, GrdAt.rowed BB.out O5.out ha, B5.out.setCell (fun _ => Or.inl rfl) _, F5.out⟩
/-- What makes a grid: the pointer to it; all of it is new. -/
def MadeG (M : List Int) (n : Nat) (w : World) (e : Ending) (w' : World) : Prop :=
  ∃ p v, e = .returned (.tuple #[.pointer (some ⟨p, 0, none⟩), .int .i64 0]) ∧ GrdAt w' p v M n ∧ (∀ b, FootG p v b → w.heap.size ≤ b) ∧ Below w.heap.size w w'
theorem newNeg (x : Int) (w : World) (hx : x < 0) : Calls Try.prog 8 #[.int .i64 x] w fun e w' => e = .returned (.tuple #[.pointer none, .int .i64 2]) ∧ w = w' := by
  have q0 : decide (x < 0) = true := by rw [decide_eq_true_eq]; exact hx
  clear hx
  go_enter Try.func8, Try.ntmps8
  go_wp2
  go_ret2
  exact ⟨rfl, rfl⟩
theorem newBig (x : Int) (w : World) (hx : 4096 < x) : Calls Try.prog 8 #[.int .i64 x] w fun e w' => e = .returned (.tuple #[.pointer none, .int .i64 6]) ∧ w = w' := by
  have q0 : decide (x < 0) = false := by rw [decide_eq_false_iff_not]; omega
  have q1 : decide (4096 < x) = true := by rw [decide_eq_true_eq]; exact hx
  clear hx
  go_enter Try.func8, Try.ntmps8
  go_wp2
  go_ret2
  exact ⟨rfl, rfl⟩
theorem mkCap (N : Nat) (hN : N ≤ 1000000) (w : World) : (Instr.makeSlice 27 (.int .i64 0) (.int .i64 (N : Int))).run Try.prog w = .ok (.slice (some ⟨w.heap.size, 0, none⟩) 0 N) (w.alloc (.cells (madeCells zeroC (N * 8)) 40)) := by
  obtain ⟨i, hi, hz, hs, hb⟩ := info_c8
  have h := run_make (P := Try.prog) w 27 40 i (.agg zeroC) Try.underlying27 hi hz .i64 .i64 0 (N : Int) (by omega) (by omega) (by rw [hb]; omega) (by omega)
  simp only [Int.toNat_natCast] at h
  rw [hs] at h
  exact h
theorem made_cap (N : Nat) (hN : N ≤ 1000000) (w : World) : OwnG (w.alloc (.cells (madeCells zeroC (N * 8)) 40)) w.heap.size (.slice (some ⟨w.heap.size, 0, none⟩) 0 N) [] 0 :=
  ownsRow_shorter (made_own N hN w) (Nat.zero_le _)
theorem made_cap2 (N : Nat) (hN : N ≤ 1000000) (w : World) (o : Obj) : OwnG ((w.alloc (.cells (madeCells zeroC (N * 8)) 40)).alloc o) 0 (.slice (some ⟨w.heap.size, 0, none⟩) 0 N) [] 0 :=
  ((made_cap N hN w).below ((Below.refl _ _).alloc (Nat.le_refl _) _) (Nat.le_refl _)).base (Nat.zero_le _)
def RgN (p n : Nat) (wb wr : World) (iv : Value) : Prop := ∃ k : Nat, iv = .int .i64 k ∧ k ≤ n ∧ ∃ v, GrdAt wr p v (newG k) k ∧ (∀ b, FootG p v b → wb.heap.size ≤ b) ∧ Below wb.heap.size wb wr
set_option maxHeartbeats 4000000 in
theorem newY (n : Nat) (w : World) (hn : n ≤ 4096) : Calls Try.prog 8 #[.int .i64 n] w (MadeG (newG n) n w) := by
  have hmk := mkCap n (by omega)
  have M0 := Lib.hid (made_cap2 n (by omega) w)
  have q0 : decide ((n : Int) < 0) = false := by rw [decide_eq_false_iff_not]; omega
  have q1 : decide ((4096 : Int) < n) = false := by rw [decide_eq_false_iff_not]; omega
  have q2 : decide (4096 < n) = false := by rw [decide_eq_false_iff_not]; omega
  go_enter Try.func8, Try.ntmps8
  go_wp2
  clear hmk
  go_loopw [14] (fun iv wr => RgN (w.heap.size + 1) n w wr iv) (fun iv _ => n - (intOf iv).toNat)
  case atStart =>
    refine ⟨0, rfl, Nat.zero_le _, _, ⟨heap_two w _ _, M0.out _, by simp [Value.ownBlock]⟩, ?_, ((Below.refl _ _).alloc (Nat.le_refl _) _).alloc (by simp) _⟩
    rintro b (rfl | hb)
    · omega
    · simp [Value.ownBlock] at hb; omega
  case round =>
    obtain ⟨k, rfl, hk, v, hG, hF, hB⟩ := hrel
    have G := Lib.hid hG
    have F := Lib.hid hF
    have B := Lib.hid hB
    clear hG hF hB
    by_cases hlt : k < n
    · have q3 : decide (k < n) = true := by rw [decide_eq_true_eq]; exact hlt
      go_wp2_with (go_at_call 26; refine (putY G.out (by omega)).mono ?_; rintro e w5 ⟨rfl, v', G', O', F'⟩; have G5 := Lib.hid G'; have O5 := Lib.hid O'; have F5 := Lib.hid F'; clear G' O' F')
      go_roundw
      case rel =>
        refine ⟨k + 1, by go_num, by omega, v', G5.out, ?_, B.out.trans (O5.out.below B.out.size (fun i _ hi => F.out i hi))⟩
        rintro b (rfl | hb)
        · exact F.out _ (Or.inl rfl)
        · rcases F5.out b hb with h | h
          · exact F.out b (Or.inr h)
          · exact Nat.le_trans B.out.size h
      case measure => (simp [intOf] <;> omega)
    · have hkn : k = n := by omega
      subst hkn
      go_wp2_with fail
      go_ret2
      exact ⟨_, v, rfl, G.out, F.out, B.out⟩
end Go.Proofs.Ytkgknbjcllcndaa
