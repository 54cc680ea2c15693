/-
  GridNil: the walk: at all numbers the call answers true and turns nothing that was there. Conditions: none.
-/
import Derived.Test.YtkgknbjcllcndaaGdK
namespace Go.Proofs.Ytkgknbjcllcndaa
open Go.RowKit Go.Proofs.Ytkgknbjcllcndaa.GrM

theorem mk_many : ∃ obj, (∀ w : World, (Instr.makeSlice 27 (.int .i64 4097) (.int .i64 4097)).run Try.prog w = .ok (.slice (some ⟨w.heap.size, 0, none⟩) 4097 4097) (w.alloc obj)) ∧
    ∀ w : World, CelAt (w.alloc obj) (.slice (some ⟨w.heap.size, 0, none⟩) 4097 4097) (zeroG 4097) 4097 :=
  ⟨_, fun w => mkCel 4097 (by decide) w, fun w => (made_own 4097 (by decide) w).cel⟩
def RnilR (p f k : Nat) (wb wr : World) (iv : Value) : Prop := ∃ j : Nat, iv = .int .i64 j ∧ j ≤ k ∧ ∃ v, GrdAt wr p v (newG (f + j)) (f + j) ∧ (∀ b, FootG p v b → wb.heap.size ≤ b) ∧ Below wb.heap.size wb wr
theorem nil_more {w w' wb : World} {p f j : Nat} {v : Value} (h : Turned p v (newG (f + j) ++ freeC) (f + j + 1) w w') (hF : ∀ b, FootG p v b → wb.heap.size ≤ b) (hB : Below wb.heap.size wb w) :
    ∃ v, GrdAt w' p v (newG (f + (j + 1))) (f + (j + 1)) ∧ (∀ b, FootG p v b → wb.heap.size ≤ b) ∧ Below wb.heap.size wb w' := by
  obtain ⟨v', G, F, B⟩ := wk_of wb.heap.size h hF hB.size
  exact ⟨v', G, F, hB.trans B⟩
set_option maxHeartbeats 8000000 in
set_option maxRecDepth 100000 in
theorem nil_law (x d n : Int) (w : World) : Calls Try.prog 6 #[.int .i64 x, .int .i64 d, .int .i64 n] w fun e w' => e = .returned (.bool true) ∧ Below w.heap.size w w' := by
  obtain ⟨m, hm⟩ : ∃ m : Nat, (if 0 < n then n else 0) = (m : Int) := ⟨n.toNat, by split <;> omega⟩
  obtain ⟨k, hk⟩ : ∃ k : Nat, (m : Int) % 4 = (k : Int) := ⟨m % 4, by omega⟩
  have hk4 : k < 4 := by omega
  obtain ⟨f, hf⟩ : ∃ f : Nat, (4096 : Int) - (k : Int) = (f : Int) := ⟨4096 - k, by omega⟩
  obtain ⟨q, hq⟩ : ∃ q : Nat, (m : Int) % 9 = (q : Int) := ⟨m % 9, by omega⟩
  have hq9 : q < 9 := by omega
  have hfk : f + k ≤ 4096 := by omega
  have hfk2 : 4096 ≤ f + k := by omega
  have hf4 : f ≤ 4096 := by omega
  obtain ⟨obj, hmk, hcel⟩ := mk_many
  have HC := Lib.hid hcel
  have CB : Hid (chkG (zeroG 4097) 4097 = 6) := Lib.hid (by unfold chkG; rw [if_pos (by decide)])
  have HNN := Lib.hid (fun w => nextN x d w)
  have HAN := Lib.hid (fun w => addN w)
  have HSN := Lib.hid (fun w => splitN x d w)
  have HJN := Lib.hid (fun w => joinN x d n 0 w)
  have HLN := Lib.hid (fun w => lenN w)
  have HCN := Lib.hid (fun w => cellsN w)
  have HNB : Hid (∀ w, Calls Try.prog 8 #[.int .i64 (4097 + (q : Int))] w fun e w' => e = .returned (.tuple #[.pointer none, .int .i64 6]) ∧ w = w') := Lib.hid (fun w => newBig _ w (by omega))
  have HWK := Lib.hid (fun w => wakes10 w)
  have HNY := Lib.hid (fun w => newY f w hf4)
  clear hcel hk4 hq9
  go_enter Try.func6, Try.ntmps6
  go_wp2_with (first
    | (go_at_call 17; ((with_reducible refine (HNN.out _).mono ?_); rintro e w5 ⟨rfl, rfl⟩))
    | (go_at_call 13; ((with_reducible refine (HAN.out _).mono ?_); rintro e w5 ⟨rfl, rfl⟩))
    | (go_at_call 11; ((with_reducible refine (HSN.out _).mono ?_); rintro e w5 ⟨rfl, rfl⟩))
    | (go_at_call 8; ((with_reducible refine (HNY.out _).mono ?_); rintro e w1 ⟨p, v1, rfl, g1, f1, b1⟩); have G1 := Lib.hid g1; have F1 := Lib.hid f1; have B1 := Lib.hid b1; clear g1 f1 b1))
  go_loopw [55] (fun iv wr => RnilR p f k w wr iv) (fun iv _ => k - (intOf iv).toNat)
  case atStart => exact ⟨0, rfl, Nat.zero_le _, v1, G1.out, F1.out, B1.out⟩
  case round =>
    obtain ⟨j, rfl, hj, v, hG, hF, hB⟩ := hrel
    have G := Lib.hid hG
    have F := Lib.hid hF
    have B := Lib.hid hB
    clear hG hF hB G1 F1 B1
    by_cases hlt : j < k
    · have q3 : decide (j < k) = true := by rw [decide_eq_true_eq]; exact hlt
      go_wp2_with (go_at_call 13; refine (addY G.out (by omega)).mono ?_; rintro e w5 ⟨rfl, t5⟩; have M5 := Lib.hid (nil_more t5 F.out B.out); clear t5)
      go_roundw
      case rel => exact ⟨j + 1, by go_num, by omega, M5.out⟩
      case measure => (simp [intOf] <;> omega)
    · have q3 : decide (j < k) = false := by rw [decide_eq_false_iff_not]; exact hlt
      have hN1 : f + j ≤ 4096 := by omega
      have hN2 : 4096 ≤ f + j := by omega
      obtain ⟨N, hN⟩ : ∃ N, N = f + j := ⟨_, rfl⟩
      rw [← hN] at G hN1 hN2
      have n1 : nxG (newG N) 0 0 = -1 := nx_new (by omega) (by decide)
      have n2 : nxG (newG N) 1 (opp 0) = -1 := nx_new (by omega) (opp_lt 0)
      have n3 : nxG (joinG (newG N) 0 0 1 3) 0 0 = ((1 : Nat) : Int) := by
        rw [nx_join 3 (new_len N) (by omega) (by omega) (by decide) (by decide), if_neg (by simp), if_pos ⟨rfl, rfl⟩]
      have HAF := Lib.hid (addFull G.out hN2)
      have HJ : Hid (Calls Try.prog 15 #[.pointer (some ⟨p, 0, none⟩), .int .i64 0, .int .i64 0, .int .i64 1, .int .i64 3] wr (JoiP p v (joinG (newG N) 0 0 1 3) N wr)) := Lib.hid (joinYes G.out 0 0 1 3 (by omega) (by omega) (by decide) (by decide) (by decide) n1 n2)
      have HS : Hid (∀ w v, GrdAt w p v (joinG (newG N) 0 0 1 3) N → Calls Try.prog 11 #[.pointer (some ⟨p, 0, none⟩), .int .i64 0, .int .i64 0] w fun e w' => e = .returned (.tuple #[.int .i64 0, .int .i64 6]) ∧ RowKit.Below w.heap.size w w') := Lib.hid (fun w v h => splitFull h 0 0 1 (by omega) (by decide) n3 hN2)
      clear n1 n2 n3 hN
      generalize joinG (newG N) 0 0 1 3 = L3 at *
      go_wp2_with (first
        | (go_at_call 24; refine (checkY _ _ _ _ (HC.out _) (by decide)).mono ?_; rintro e w6 ⟨rfl, b6⟩; rw [CB.out]; have B6 := Lib.hid b6; clear b6)
        | (go_at_call 20; ((with_reducible refine (HCN.out _).mono ?_); rintro e w5 ⟨rfl, rfl⟩))
        | (go_at_call 18; ((with_reducible refine (HLN.out _).mono ?_); rintro e w5 ⟨rfl, rfl⟩))
        | (go_at_call 15; ((with_reducible refine (HJN.out _).mono ?_); rintro e w5 ⟨rfl, rfl⟩))
        | (go_at_call 10; refine (HWK.out _).mono ?_; rintro e w5 ⟨rfl, b5⟩; have B5 := Lib.hid b5; clear b5)
        | (go_at_call 11; refine (HS.out _ _ G2.out).mono ?_; rintro e w4 ⟨rfl, b4⟩; have B4 := Lib.hid b4; clear b4)
        | (go_at_call 15; ((with_reducible refine HJ.out.mono ?_); rintro e w2 ⟨rfl, t2⟩); obtain ⟨v2, g2, f2, b2⟩ := wk_of w.heap.size t2 F.out B.out.size; have G2 := Lib.hid g2; have B2 := Lib.hid b2; clear t2 g2 f2 b2)
        | (go_at_call 8; ((with_reducible refine (HNB.out _).mono ?_); rintro e w5 ⟨rfl, rfl⟩))
        | (go_at_call 13; ((with_reducible refine HAF.out.mono ?_); rintro e w5 ⟨rfl, rfl⟩)))
      go_ret
      have h2 := B.out.trans B2.out
      have h4 := h2.trans (B4.out.mono h2.size)
      have h5 := h4.trans (B5.out.mono h4.size)
      exact ⟨rfl, (h5.alloc h5.size _).trans (B6.out.mono (by have := h5.size; simp; omega))⟩
end Go.Proofs.Ytkgknbjcllcndaa
