/-
  What the reference's with answers: cells with an edge laid over, or a copy. Conditions: at most 100000 cells.
-/
import Derived.Test.YtkgknbjcllcndaaGrB
namespace Go.Proofs.Ytkgknbjcllcndaa
open Go.RowKit Go.Proofs.Ytkgknbjcllcndaa.GrM

def RwG (M : List Int) (n : Nat) (w wr : World) (lv iv : Value) : Prop := ∃ k : Nat, iv = .int .i64 k ∧ k ≤ n ∧ OwnG wr w.heap.size lv (M.take (k * 8)) k ∧ Below w.heap.size w wr
theorem newsC (w : World) (t : TypeId) (c0 c1 c2 c3 c4 c5 c6 c7 : Int) (b : Nat) (hb : w.heap.size = b) : ∀ j z, ([c0, c1, c2, c3, c4, c5, c6, c7].map intV)[j]? = some z → (w.alloc (.cells #[.int .i64 c0, .int .i64 c1, .int .i64 c2, .int .i64 c3, .int .i64 c4, .int .i64 c5, .int .i64 c6, .int .i64 c7] t)).cell? ((⟨b, 0, none⟩ : Addr).add j) = some z := by
  intro j z hz
  subst hb
  have e : (⟨w.heap.size, 0, none⟩ : Addr).add j = ⟨w.heap.size, j, none⟩ := by unfold Addr.add; split <;> simp_all
  rw [e]
  simp only [World.cell?, heap_alloc_new]
  match j, hz with
  | 0, hz => simpa [intV] using hz
  | 1, hz => simpa [intV] using hz
  | 2, hz => simpa [intV] using hz
  | 3, hz => simpa [intV] using hz
  | 4, hz => simpa [intV] using hz
  | 5, hz => simpa [intV] using hz
  | 6, hz => simpa [intV] using hz
  | 7, hz => simpa [intV] using hz
  | j + 8, hz => simp at hz
set_option maxHeartbeats 16000000 in
set_option maxRecDepth 100000 in
theorem refWith (lv : Value) (L M : List Int) (n d : Nat) (v x o : Int) (w : World) (hL : CelAt w lv L n) (hn : n ≤ 100000) (hd : d < 4) (hM : Laid L M n v d x o) :
    Calls Try.prog 31 #[lv, .int .i64 v, .int .i64 d, .int .i64 x, .int .i64 o] w fun r w' => (∃ A c, r = .returned (.slice A n c) ∧ OwnG w' w.heap.size (.slice A n c) M n) ∧ Below w.heap.size w w' := by
  have HL := Lib.hid hL
  have HM := Lib.hid hM
  obtain ⟨A0, c0, e⟩ := hL.form
  subst e
  obtain ⟨i0, hi, hz0, hz1, hz2⟩ := info_c8
  clear hL hM
  have hdc : d = 0 ∨ d = 1 ∨ d = 2 ∨ d = 3 := by omega
  clear hd
  rcases hdc with rfl | rfl | rfl | rfl
  · show Calls Try.prog 31 #[.slice A0 n c0, .int .i64 v, .int .i64 (0 : Int), .int .i64 x, .int .i64 o] w _
    go_enter Try.func31, Try.ntmps31
    go_wp2_with (fail)
    go_loopw [11, 12] (fun lv iv wr => RwG M n w wr lv iv) (fun _ iv _ => n - (intOf iv).toNat)
    case atStart => exact ⟨0, rfl, Nat.zero_le _, OwnG.nil _ _, Below.refl _ _⟩
    case round =>
      obtain ⟨k, rfl, hk, hO, hB⟩ := hrel
      have O := Lib.hid hO
      have B := Lib.hid hB
      obtain ⟨ao, co, e⟩ := hO.form
      subst e
      have hwz := hB.size
      clear hO hB
      by_cases hlt : k < n
      · obtain ⟨b, o9, c', e, hb, hx, hy⟩ := HL.out.nth hlt
        simp only [Value.slice.injEq, true_and] at e
        obtain ⟨rfl, rfl⟩ := e
        have f0 : wr.cell? ⟨b, o9 + k * 8, none⟩ = some (.int .i64 (nxG L k 0)) := (B.out.cell (p := ⟨b, o9 + k * 8 + 0, none⟩) hb).trans (hx 0 (by decide))
        have f1 : wr.cell? ⟨b, o9 + k * 8 + 1, none⟩ = some (.int .i64 (nxG L k 1)) := (B.out.cell (p := ⟨b, o9 + k * 8 + 1, none⟩) hb).trans (hx 1 (by decide))
        have f2 : wr.cell? ⟨b, o9 + k * 8 + 2, none⟩ = some (.int .i64 (nxG L k 2)) := (B.out.cell (p := ⟨b, o9 + k * 8 + 2, none⟩) hb).trans (hx 2 (by decide))
        have f3 : wr.cell? ⟨b, o9 + k * 8 + 3, none⟩ = some (.int .i64 (nxG L k 3)) := (B.out.cell (p := ⟨b, o9 + k * 8 + 3, none⟩) hb).trans (hx 3 (by decide))
        have f4 : wr.cell? ⟨b, o9 + k * 8 + 4, none⟩ = some (.int .i64 (owG L k 0)) := (B.out.cell (p := ⟨b, o9 + k * 8 + 4 + 0, none⟩) hb).trans (hy 0 (by decide))
        have f5 : wr.cell? ⟨b, o9 + k * 8 + 5, none⟩ = some (.int .i64 (owG L k 1)) := (B.out.cell (p := ⟨b, o9 + k * 8 + 4 + 1, none⟩) hb).trans (hy 1 (by decide))
        have f6 : wr.cell? ⟨b, o9 + k * 8 + 6, none⟩ = some (.int .i64 (owG L k 2)) := (B.out.cell (p := ⟨b, o9 + k * 8 + 4 + 2, none⟩) hb).trans (hy 2 (by decide))
        have f7 : wr.cell? ⟨b, o9 + k * 8 + 7, none⟩ = some (.int .i64 (owG L k 3)) := (B.out.cell (p := ⟨b, o9 + k * 8 + 4 + 3, none⟩) hb).trans (hy 3 (by decide))
        have z1 := Nat.lt_of_lt_of_le hb B.out.size
        have hm := fun e (he : e < 4) => HM.out.2 k e hlt he
        have TK := Lib.hid (take_cell HM.out.1 hlt)
        have CV : celL M k = [nxG M k 0, nxG M k 1, nxG M k 2, nxG M k 3, owG M k 0, owG M k 1, owG M k 2, owG M k 3] := rfl
        rw [(hm 0 (by decide)).1, (hm 1 (by decide)).1, (hm 2 (by decide)).1, (hm 3 (by decide)).1, (hm 0 (by decide)).2, (hm 1 (by decide)).2, (hm 2 (by decide)).2, (hm 3 (by decide)).2] at CV
        generalize nxG L k 0 = y0 at *
        generalize nxG L k 1 = y1 at *
        generalize nxG L k 2 = y2 at *
        generalize nxG L k 3 = y3 at *
        generalize owG L k 0 = y4 at *
        generalize owG L k 1 = y5 at *
        generalize owG L k 2 = y6 at *
        generalize owG L k 3 = y7 at *
        clear hx hy hm
        by_cases h1 : (k : Int) = v
        · by_cases h2 : (k : Int) = x
          · have e1 : ((k : Int) = v) = True := eq_true h1
            have e2 : ((k : Int) = x) = True := eq_true h2
            have q1 : ((k : Int) == v) = true := by rw [beq_iff_eq]; exact h1
            have q2 : ((k : Int) == x) = true := by rw [beq_iff_eq]; exact h2
            simp [e1, e2, opp] at CV
            have CE : Hid (celL M k = [x, y1, v, y3, o, y5, o, y7]) := Lib.hid CV
            clear CV e1 e2 h1 h2
            go_wp2_with (at_builtin; refine wpList_append_fresh rfl (.tmp 50) (.tmp 52) 27 rfl w.heap.size 40 i0 (.agg #[.int .i64 0, .int .i64 0, .int .i64 0, .int .i64 0, .int .i64 0, .int .i64 0, .int .i64 0, .int .i64 0]) 8 64 Try.underlying27 hi hz0 hz1 hz2 rfl (by decide) (.slice ao k co) k ((M.take (k * 8)).map intV) rfl (O.out.below (((Below.refl _ _).alloc (Nat.le_refl _) _).alloc (by simp) _) (Nat.le_refl _)) ⟨wr.heap.size + 1, 0, none⟩ 1 1 ([x, y1, v, y3, o, y5, o, y7].map intV) rfl rfl (newsC _ _ _ _ _ _ _ _ _ _ _ (by simp)) (allI _) (by unfold maxLen; omega) (by omega) (by simp; omega) ?_; intro v5 w5 hown hgrow hfr; have o5 := OwnG.more hown; rw [← CE.out, ← TK.out] at o5; have O5 := Lib.hid o5; have B5 : Hid (Below w.heap.size w w5) := Lib.hid ((B.out.trans ((((Below.refl _ _).alloc (Nat.le_refl _) _).alloc (by simp) _).mono hwz)).grown hgrow (by simp; omega) (fun q hq => (World.ownsRow.lt O.out q hq).1)); clear hown hgrow hfr o5)
            go_roundw
            case rel => exact ⟨k + 1, by go_num, by omega, O5.out, B5.out⟩
            case measure => (simp [intOf] <;> omega)
          · have e1 : ((k : Int) = v) = True := eq_true h1
            have e2 : ((k : Int) = x) = False := eq_false h2
            have q1 : ((k : Int) == v) = true := by rw [beq_iff_eq]; exact h1
            have q2 : ((k : Int) == x) = false := by rw [beq_eq_false_iff_ne]; exact h2
            simp [e1, e2, opp] at CV
            have CE : Hid (celL M k = [x, y1, y2, y3, o, y5, y6, y7]) := Lib.hid CV
            clear CV e1 e2 h1 h2
            go_wp2_with (at_builtin; refine wpList_append_fresh rfl (.tmp 50) (.tmp 52) 27 rfl w.heap.size 40 i0 (.agg #[.int .i64 0, .int .i64 0, .int .i64 0, .int .i64 0, .int .i64 0, .int .i64 0, .int .i64 0, .int .i64 0]) 8 64 Try.underlying27 hi hz0 hz1 hz2 rfl (by decide) (.slice ao k co) k ((M.take (k * 8)).map intV) rfl (O.out.below (((Below.refl _ _).alloc (Nat.le_refl _) _).alloc (by simp) _) (Nat.le_refl _)) ⟨wr.heap.size + 1, 0, none⟩ 1 1 ([x, y1, y2, y3, o, y5, y6, y7].map intV) rfl rfl (newsC _ _ _ _ _ _ _ _ _ _ _ (by simp)) (allI _) (by unfold maxLen; omega) (by omega) (by simp; omega) ?_; intro v5 w5 hown hgrow hfr; have o5 := OwnG.more hown; rw [← CE.out, ← TK.out] at o5; have O5 := Lib.hid o5; have B5 : Hid (Below w.heap.size w w5) := Lib.hid ((B.out.trans ((((Below.refl _ _).alloc (Nat.le_refl _) _).alloc (by simp) _).mono hwz)).grown hgrow (by simp; omega) (fun q hq => (World.ownsRow.lt O.out q hq).1)); clear hown hgrow hfr o5)
            go_roundw
            case rel => exact ⟨k + 1, by go_num, by omega, O5.out, B5.out⟩
            case measure => (simp [intOf] <;> omega)
        · by_cases h2 : (k : Int) = x
          · have e1 : ((k : Int) = v) = False := eq_false h1
            have e2 : ((k : Int) = x) = True := eq_true h2
            have q1 : ((k : Int) == v) = false := by rw [beq_eq_false_iff_ne]; exact h1
            have q2 : ((k : Int) == x) = true := by rw [beq_iff_eq]; exact h2
            simp [e1, e2, opp] at CV
            have CE : Hid (celL M k = [y0, y1, v, y3, y4, y5, o, y7]) := Lib.hid CV
            clear CV e1 e2 h1 h2
            go_wp2_with (at_builtin; refine wpList_append_fresh rfl (.tmp 50) (.tmp 52) 27 rfl w.heap.size 40 i0 (.agg #[.int .i64 0, .int .i64 0, .int .i64 0, .int .i64 0, .int .i64 0, .int .i64 0, .int .i64 0, .int .i64 0]) 8 64 Try.underlying27 hi hz0 hz1 hz2 rfl (by decide) (.slice ao k co) k ((M.take (k * 8)).map intV) rfl (O.out.below (((Below.refl _ _).alloc (Nat.le_refl _) _).alloc (by simp) _) (Nat.le_refl _)) ⟨wr.heap.size + 1, 0, none⟩ 1 1 ([y0, y1, v, y3, y4, y5, o, y7].map intV) rfl rfl (newsC _ _ _ _ _ _ _ _ _ _ _ (by simp)) (allI _) (by unfold maxLen; omega) (by omega) (by simp; omega) ?_; intro v5 w5 hown hgrow hfr; have o5 := OwnG.more hown; rw [← CE.out, ← TK.out] at o5; have O5 := Lib.hid o5; have B5 : Hid (Below w.heap.size w w5) := Lib.hid ((B.out.trans ((((Below.refl _ _).alloc (Nat.le_refl _) _).alloc (by simp) _).mono hwz)).grown hgrow (by simp; omega) (fun q hq => (World.ownsRow.lt O.out q hq).1)); clear hown hgrow hfr o5)
            go_roundw
            case rel => exact ⟨k + 1, by go_num, by omega, O5.out, B5.out⟩
            case measure => (simp [intOf] <;> omega)
          · have e1 : ((k : Int) = v) = False := eq_false h1
            have e2 : ((k : Int) = x) = False := eq_false h2
            have q1 : ((k : Int) == v) = false := by rw [beq_eq_false_iff_ne]; exact h1
            have q2 : ((k : Int) == x) = false := by rw [beq_eq_false_iff_ne]; exact h2
            simp [e1, e2, opp] at CV
            have CE : Hid (celL M k = [y0, y1, y2, y3, y4, y5, y6, y7]) := Lib.hid CV
            clear CV e1 e2 h1 h2
            go_wp2_with (at_builtin; refine wpList_append_fresh rfl (.tmp 50) (.tmp 52) 27 rfl w.heap.size 40 i0 (.agg #[.int .i64 0, .int .i64 0, .int .i64 0, .int .i64 0, .int .i64 0, .int .i64 0, .int .i64 0, .int .i64 0]) 8 64 Try.underlying27 hi hz0 hz1 hz2 rfl (by decide) (.slice ao k co) k ((M.take (k * 8)).map intV) rfl (O.out.below (((Below.refl _ _).alloc (Nat.le_refl _) _).alloc (by simp) _) (Nat.le_refl _)) ⟨wr.heap.size + 1, 0, none⟩ 1 1 ([y0, y1, y2, y3, y4, y5, y6, y7].map intV) rfl rfl (newsC _ _ _ _ _ _ _ _ _ _ _ (by simp)) (allI _) (by unfold maxLen; omega) (by omega) (by simp; omega) ?_; intro v5 w5 hown hgrow hfr; have o5 := OwnG.more hown; rw [← CE.out, ← TK.out] at o5; have O5 := Lib.hid o5; have B5 : Hid (Below w.heap.size w w5) := Lib.hid ((B.out.trans ((((Below.refl _ _).alloc (Nat.le_refl _) _).alloc (by simp) _).mono hwz)).grown hgrow (by simp; omega) (fun q hq => (World.ownsRow.lt O.out q hq).1)); clear hown hgrow hfr o5)
            go_roundw
            case rel => exact ⟨k + 1, by go_num, by omega, O5.out, B5.out⟩
            case measure => (simp [intOf] <;> omega)
      · have hkn : k = n := by omega
        subst hkn
        have TL : Hid (M.take (k * 8) = M) := Lib.hid (by rw [← HM.out.1, List.take_length])
        go_wp2
        go_ret
        exact ⟨⟨_, _, rfl, by have h := O.out; rw [TL.out] at h; exact h⟩, B.out⟩
  · show Calls Try.prog 31 #[.slice A0 n c0, .int .i64 v, .int .i64 (1 : Int), .int .i64 x, .int .i64 o] w _
    go_enter Try.func31, Try.ntmps31
    go_wp2_with (fail)
    go_loopw [11, 12] (fun lv iv wr => RwG M n w wr lv iv) (fun _ iv _ => n - (intOf iv).toNat)
    case atStart => exact ⟨0, rfl, Nat.zero_le _, OwnG.nil _ _, Below.refl _ _⟩
    case round =>
      obtain ⟨k, rfl, hk, hO, hB⟩ := hrel
      have O := Lib.hid hO
      have B := Lib.hid hB
      obtain ⟨ao, co, e⟩ := hO.form
      subst e
      have hwz := hB.size
      clear hO hB
      by_cases hlt : k < n
      · obtain ⟨b, o9, c', e, hb, hx, hy⟩ := HL.out.nth hlt
        simp only [Value.slice.injEq, true_and] at e
        obtain ⟨rfl, rfl⟩ := e
        have f0 : wr.cell? ⟨b, o9 + k * 8, none⟩ = some (.int .i64 (nxG L k 0)) := (B.out.cell (p := ⟨b, o9 + k * 8 + 0, none⟩) hb).trans (hx 0 (by decide))
        have f1 : wr.cell? ⟨b, o9 + k * 8 + 1, none⟩ = some (.int .i64 (nxG L k 1)) := (B.out.cell (p := ⟨b, o9 + k * 8 + 1, none⟩) hb).trans (hx 1 (by decide))
        have f2 : wr.cell? ⟨b, o9 + k * 8 + 2, none⟩ = some (.int .i64 (nxG L k 2)) := (B.out.cell (p := ⟨b, o9 + k * 8 + 2, none⟩) hb).trans (hx 2 (by decide))
        have f3 : wr.cell? ⟨b, o9 + k * 8 + 3, none⟩ = some (.int .i64 (nxG L k 3)) := (B.out.cell (p := ⟨b, o9 + k * 8 + 3, none⟩) hb).trans (hx 3 (by decide))
        have f4 : wr.cell? ⟨b, o9 + k * 8 + 4, none⟩ = some (.int .i64 (owG L k 0)) := (B.out.cell (p := ⟨b, o9 + k * 8 + 4 + 0, none⟩) hb).trans (hy 0 (by decide))
        have f5 : wr.cell? ⟨b, o9 + k * 8 + 5, none⟩ = some (.int .i64 (owG L k 1)) := (B.out.cell (p := ⟨b, o9 + k * 8 + 4 + 1, none⟩) hb).trans (hy 1 (by decide))
        have f6 : wr.cell? ⟨b, o9 + k * 8 + 6, none⟩ = some (.int .i64 (owG L k 2)) := (B.out.cell (p := ⟨b, o9 + k * 8 + 4 + 2, none⟩) hb).trans (hy 2 (by decide))
        have f7 : wr.cell? ⟨b, o9 + k * 8 + 7, none⟩ = some (.int .i64 (owG L k 3)) := (B.out.cell (p := ⟨b, o9 + k * 8 + 4 + 3, none⟩) hb).trans (hy 3 (by decide))
        have z1 := Nat.lt_of_lt_of_le hb B.out.size
        have hm := fun e (he : e < 4) => HM.out.2 k e hlt he
        have TK := Lib.hid (take_cell HM.out.1 hlt)
        have CV : celL M k = [nxG M k 0, nxG M k 1, nxG M k 2, nxG M k 3, owG M k 0, owG M k 1, owG M k 2, owG M k 3] := rfl
        rw [(hm 0 (by decide)).1, (hm 1 (by decide)).1, (hm 2 (by decide)).1, (hm 3 (by decide)).1, (hm 0 (by decide)).2, (hm 1 (by decide)).2, (hm 2 (by decide)).2, (hm 3 (by decide)).2] at CV
        generalize nxG L k 0 = y0 at *
        generalize nxG L k 1 = y1 at *
        generalize nxG L k 2 = y2 at *
        generalize nxG L k 3 = y3 at *
        generalize owG L k 0 = y4 at *
        generalize owG L k 1 = y5 at *
        generalize owG L k 2 = y6 at *
        generalize owG L k 3 = y7 at *
        clear hx hy hm
        by_cases h1 : (k : Int) = v
        · by_cases h2 : (k : Int) = x
          · have e1 : ((k : Int) = v) = True := eq_true h1
            have e2 : ((k : Int) = x) = True := eq_true h2
            have q1 : ((k : Int) == v) = true := by rw [beq_iff_eq]; exact h1
            have q2 : ((k : Int) == x) = true := by rw [beq_iff_eq]; exact h2
            simp [e1, e2, opp] at CV
            have CE : Hid (celL M k = [y0, x, y2, v, y4, o, y6, o]) := Lib.hid CV
            clear CV e1 e2 h1 h2
            go_wp2_with (at_builtin; refine wpList_append_fresh rfl (.tmp 50) (.tmp 52) 27 rfl w.heap.size 40 i0 (.agg #[.int .i64 0, .int .i64 0, .int .i64 0, .int .i64 0, .int .i64 0, .int .i64 0, .int .i64 0, .int .i64 0]) 8 64 Try.underlying27 hi hz0 hz1 hz2 rfl (by decide) (.slice ao k co) k ((M.take (k * 8)).map intV) rfl (O.out.below (((Below.refl _ _).alloc (Nat.le_refl _) _).alloc (by simp) _) (Nat.le_refl _)) ⟨wr.heap.size + 1, 0, none⟩ 1 1 ([y0, x, y2, v, y4, o, y6, o].map intV) rfl rfl (newsC _ _ _ _ _ _ _ _ _ _ _ (by simp)) (allI _) (by unfold maxLen; omega) (by omega) (by simp; omega) ?_; intro v5 w5 hown hgrow hfr; have o5 := OwnG.more hown; rw [← CE.out, ← TK.out] at o5; have O5 := Lib.hid o5; have B5 : Hid (Below w.heap.size w w5) := Lib.hid ((B.out.trans ((((Below.refl _ _).alloc (Nat.le_refl _) _).alloc (by simp) _).mono hwz)).grown hgrow (by simp; omega) (fun q hq => (World.ownsRow.lt O.out q hq).1)); clear hown hgrow hfr o5)
            go_roundw
            case rel => exact ⟨k + 1, by go_num, by omega, O5.out, B5.out⟩
            case measure => (simp [intOf] <;> omega)
          · have e1 : ((k : Int) = v) = True := eq_true h1
            have e2 : ((k : Int) = x) = False := eq_false h2
            have q1 : ((k : Int) == v) = true := by rw [beq_iff_eq]; exact h1
            have q2 : ((k : Int) == x) = false := by rw [beq_eq_false_iff_ne]; exact h2
            simp [e1, e2, opp] at CV
            have CE : Hid (celL M k = [y0, x, y2, y3, y4, o, y6, y7]) := Lib.hid CV
            clear CV e1 e2 h1 h2
            go_wp2_with (at_builtin; refine wpList_append_fresh rfl (.tmp 50) (.tmp 52) 27 rfl w.heap.size 40 i0 (.agg #[.int .i64 0, .int .i64 0, .int .i64 0, .int .i64 0, .int .i64 0, .int .i64 0, .int .i64 0, .int .i64 0]) 8 64 Try.underlying27 hi hz0 hz1 hz2 rfl (by decide) (.slice ao k co) k ((M.take (k * 8)).map intV) rfl (O.out.below (((Below.refl _ _).alloc (Nat.le_refl _) _).alloc (by simp) _) (Nat.le_refl _)) ⟨wr.heap.size + 1, 0, none⟩ 1 1 ([y0, x, y2, y3, y4, o, y6, y7].map intV) rfl rfl (newsC _ _ _ _ _ _ _ _ _ _ _ (by simp)) (allI _) (by unfold maxLen; omega) (by omega) (by simp; omega) ?_; intro v5 w5 hown hgrow hfr; have o5 := OwnG.more hown; rw [← CE.out, ← TK.out] at o5; have O5 := Lib.hid o5; have B5 : Hid (Below w.heap.size w w5) := Lib.hid ((B.out.trans ((((Below.refl _ _).alloc (Nat.le_refl _) _).alloc (by simp) _).mono hwz)).grown hgrow (by simp; omega) (fun q hq => (World.ownsRow.lt O.out q hq).1)); clear hown hgrow hfr o5)
            go_roundw
            case rel => exact ⟨k + 1, by go_num, by omega, O5.out, B5.out⟩
            case measure => (simp [intOf] <;> omega)
        · by_cases h2 : (k : Int) = x
          · have e1 : ((k : Int) = v) = False := eq_false h1
            have e2 : ((k : Int) = x) = True := eq_true h2
            have q1 : ((k : Int) == v) = false := by rw [beq_eq_false_iff_ne]; exact h1
            have q2 : ((k : Int) == x) = true := by rw [beq_iff_eq]; exact h2
            simp [e1, e2, opp] at CV
            have CE : Hid (celL M k = [y0, y1, y2, v, y4, y5, y6, o]) := Lib.hid CV
            clear CV e1 e2 h1 h2
            go_wp2_with (at_builtin; refine wpList_append_fresh rfl (.tmp 50) (.tmp 52) 27 rfl w.heap.size 40 i0 (.agg #[.int .i64 0, .int .i64 0, .int .i64 0, .int .i64 0, .int .i64 0, .int .i64 0, .int .i64 0, .int .i64 0]) 8 64 Try.underlying27 hi hz0 hz1 hz2 rfl (by decide) (.slice ao k co) k ((M.take (k * 8)).map intV) rfl (O.out.below (((Below.refl _ _).alloc (Nat.le_refl _) _).alloc (by simp) _) (Nat.le_refl _)) ⟨wr.heap.size + 1, 0, none⟩ 1 1 ([y0, y1, y2, v, y4, y5, y6, o].map intV) rfl rfl (newsC _ _ _ _ _ _ _ _ _ _ _ (by simp)) (allI _) (by unfold maxLen; omega) (by omega) (by simp; omega) ?_; intro v5 w5 hown hgrow hfr; have o5 := OwnG.more hown; rw [← CE.out, ← TK.out] at o5; have O5 := Lib.hid o5; have B5 : Hid (Below w.heap.size w w5) := Lib.hid ((B.out.trans ((((Below.refl _ _).alloc (Nat.le_refl _) _).alloc (by simp) _).mono hwz)).grown hgrow (by simp; omega) (fun q hq => (World.ownsRow.lt O.out q hq).1)); clear hown hgrow hfr o5)
            go_roundw
            case rel => exact ⟨k + 1, by go_num, by omega, O5.out, B5.out⟩
            case measure => (simp [intOf] <;> omega)
          · have e1 : ((k : Int) = v) = False := eq_false h1
            have e2 : ((k : Int) = x) = False := eq_false h2
            have q1 : ((k : Int) == v) = false := by rw [beq_eq_false_iff_ne]; exact h1
            have q2 : ((k : Int) == x) = false := by rw [beq_eq_false_iff_ne]; exact h2
            simp [e1, e2, opp] at CV
            have CE : Hid (celL M k = [y0, y1, y2, y3, y4, y5, y6, y7]) := Lib.hid CV
            clear CV e1 e2 h1 h2
            go_wp2_with (at_builtin; refine wpList_append_fresh rfl (.tmp 50) (.tmp 52) 27 rfl w.heap.size 40 i0 (.agg #[.int .i64 0, .int .i64 0, .int .i64 0, .int .i64 0, .int .i64 0, .int .i64 0, .int .i64 0, .int .i64 0]) 8 64 Try.underlying27 hi hz0 hz1 hz2 rfl (by decide) (.slice ao k co) k ((M.take (k * 8)).map intV) rfl (O.out.below (((Below.refl _ _).alloc (Nat.le_refl _) _).alloc (by simp) _) (Nat.le_refl _)) ⟨wr.heap.size + 1, 0, none⟩ 1 1 ([y0, y1, y2, y3, y4, y5, y6, y7].map intV) rfl rfl (newsC _ _ _ _ _ _ _ _ _ _ _ (by simp)) (allI _) (by unfold maxLen; omega) (by omega) (by simp; omega) ?_; intro v5 w5 hown hgrow hfr; have o5 := OwnG.more hown; rw [← CE.out, ← TK.out] at o5; have O5 := Lib.hid o5; have B5 : Hid (Below w.heap.size w w5) := Lib.hid ((B.out.trans ((((Below.refl _ _).alloc (Nat.le_refl _) _).alloc (by simp) _).mono hwz)).grown hgrow (by simp; omega) (fun q hq => (World.ownsRow.lt O.out q hq).1)); clear hown hgrow hfr o5)
            go_roundw
            case rel => exact ⟨k + 1, by go_num, by omega, O5.out, B5.out⟩
            case measure => (simp [intOf] <;> omega)
      · have hkn : k = n := by omega
        subst hkn
        have TL : Hid (M.take (k * 8) = M) := Lib.hid (by rw [← HM.out.1, List.take_length])
        go_wp2
        go_ret
        exact ⟨⟨_, _, rfl, by have h := O.out; rw [TL.out] at h; exact h⟩, B.out⟩
  · show Calls Try.prog 31 #[.slice A0 n c0, .int .i64 v, .int .i64 (2 : Int), .int .i64 x, .int .i64 o] w _
    go_enter Try.func31, Try.ntmps31
    go_wp2_with (fail)
    go_loopw [11, 12] (fun lv iv wr => RwG M n w wr lv iv) (fun _ iv _ => n - (intOf iv).toNat)
    case atStart => exact ⟨0, rfl, Nat.zero_le _, OwnG.nil _ _, Below.refl _ _⟩
    case round =>
      obtain ⟨k, rfl, hk, hO, hB⟩ := hrel
      have O := Lib.hid hO
      have B := Lib.hid hB
      obtain ⟨ao, co, e⟩ := hO.form
      subst e
      have hwz := hB.size
      clear hO hB
      by_cases hlt : k < n
      · obtain ⟨b, o9, c', e, hb, hx, hy⟩ := HL.out.nth hlt
        simp only [Value.slice.injEq, true_and] at e
        obtain ⟨rfl, rfl⟩ := e
        have f0 : wr.cell? ⟨b, o9 + k * 8, none⟩ = some (.int .i64 (nxG L k 0)) := (B.out.cell (p := ⟨b, o9 + k * 8 + 0, none⟩) hb).trans (hx 0 (by decide))
        have f1 : wr.cell? ⟨b, o9 + k * 8 + 1, none⟩ = some (.int .i64 (nxG L k 1)) := (B.out.cell (p := ⟨b, o9 + k * 8 + 1, none⟩) hb).trans (hx 1 (by decide))
        have f2 : wr.cell? ⟨b, o9 + k * 8 + 2, none⟩ = some (.int .i64 (nxG L k 2)) := (B.out.cell (p := ⟨b, o9 + k * 8 + 2, none⟩) hb).trans (hx 2 (by decide))
        have f3 : wr.cell? ⟨b, o9 + k * 8 + 3, none⟩ = some (.int .i64 (nxG L k 3)) := (B.out.cell (p := ⟨b, o9 + k * 8 + 3, none⟩) hb).trans (hx 3 (by decide))
        have f4 : wr.cell? ⟨b, o9 + k * 8 + 4, none⟩ = some (.int .i64 (owG L k 0)) := (B.out.cell (p := ⟨b, o9 + k * 8 + 4 + 0, none⟩) hb).trans (hy 0 (by decide))
        have f5 : wr.cell? ⟨b, o9 + k * 8 + 5, none⟩ = some (.int .i64 (owG L k 1)) := (B.out.cell (p := ⟨b, o9 + k * 8 + 4 + 1, none⟩) hb).trans (hy 1 (by decide))
        have f6 : wr.cell? ⟨b, o9 + k * 8 + 6, none⟩ = some (.int .i64 (owG L k 2)) := (B.out.cell (p := ⟨b, o9 + k * 8 + 4 + 2, none⟩) hb).trans (hy 2 (by decide))
        have f7 : wr.cell? ⟨b, o9 + k * 8 + 7, none⟩ = some (.int .i64 (owG L k 3)) := (B.out.cell (p := ⟨b, o9 + k * 8 + 4 + 3, none⟩) hb).trans (hy 3 (by decide))
        have z1 := Nat.lt_of_lt_of_le hb B.out.size
        have hm := fun e (he : e < 4) => HM.out.2 k e hlt he
        have TK := Lib.hid (take_cell HM.out.1 hlt)
        have CV : celL M k = [nxG M k 0, nxG M k 1, nxG M k 2, nxG M k 3, owG M k 0, owG M k 1, owG M k 2, owG M k 3] := rfl
        rw [(hm 0 (by decide)).1, (hm 1 (by decide)).1, (hm 2 (by decide)).1, (hm 3 (by decide)).1, (hm 0 (by decide)).2, (hm 1 (by decide)).2, (hm 2 (by decide)).2, (hm 3 (by decide)).2] at CV
        generalize nxG L k 0 = y0 at *
        generalize nxG L k 1 = y1 at *
        generalize nxG L k 2 = y2 at *
        generalize nxG L k 3 = y3 at *
        generalize owG L k 0 = y4 at *
        generalize owG L k 1 = y5 at *
        generalize owG L k 2 = y6 at *
        generalize owG L k 3 = y7 at *
        clear hx hy hm
        by_cases h1 : (k : Int) = v
        · by_cases h2 : (k : Int) = x
          · have e1 : ((k : Int) = v) = True := eq_true h1
            have e2 : ((k : Int) = x) = True := eq_true h2
            have q1 : ((k : Int) == v) = true := by rw [beq_iff_eq]; exact h1
            have q2 : ((k : Int) == x) = true := by rw [beq_iff_eq]; exact h2
            simp [e1, e2, opp] at CV
            have CE : Hid (celL M k = [v, y1, x, y3, o, y5, o, y7]) := Lib.hid CV
            clear CV e1 e2 h1 h2
            go_wp2_with (at_builtin; refine wpList_append_fresh rfl (.tmp 50) (.tmp 52) 27 rfl w.heap.size 40 i0 (.agg #[.int .i64 0, .int .i64 0, .int .i64 0, .int .i64 0, .int .i64 0, .int .i64 0, .int .i64 0, .int .i64 0]) 8 64 Try.underlying27 hi hz0 hz1 hz2 rfl (by decide) (.slice ao k co) k ((M.take (k * 8)).map intV) rfl (O.out.below (((Below.refl _ _).alloc (Nat.le_refl _) _).alloc (by simp) _) (Nat.le_refl _)) ⟨wr.heap.size + 1, 0, none⟩ 1 1 ([v, y1, x, y3, o, y5, o, y7].map intV) rfl rfl (newsC _ _ _ _ _ _ _ _ _ _ _ (by simp)) (allI _) (by unfold maxLen; omega) (by omega) (by simp; omega) ?_; intro v5 w5 hown hgrow hfr; have o5 := OwnG.more hown; rw [← CE.out, ← TK.out] at o5; have O5 := Lib.hid o5; have B5 : Hid (Below w.heap.size w w5) := Lib.hid ((B.out.trans ((((Below.refl _ _).alloc (Nat.le_refl _) _).alloc (by simp) _).mono hwz)).grown hgrow (by simp; omega) (fun q hq => (World.ownsRow.lt O.out q hq).1)); clear hown hgrow hfr o5)
            go_roundw
            case rel => exact ⟨k + 1, by go_num, by omega, O5.out, B5.out⟩
            case measure => (simp [intOf] <;> omega)
          · have e1 : ((k : Int) = v) = True := eq_true h1
            have e2 : ((k : Int) = x) = False := eq_false h2
            have q1 : ((k : Int) == v) = true := by rw [beq_iff_eq]; exact h1
            have q2 : ((k : Int) == x) = false := by rw [beq_eq_false_iff_ne]; exact h2
            simp [e1, e2, opp] at CV
            have CE : Hid (celL M k = [y0, y1, x, y3, y4, y5, o, y7]) := Lib.hid CV
            clear CV e1 e2 h1 h2
            go_wp2_with (at_builtin; refine wpList_append_fresh rfl (.tmp 50) (.tmp 52) 27 rfl w.heap.size 40 i0 (.agg #[.int .i64 0, .int .i64 0, .int .i64 0, .int .i64 0, .int .i64 0, .int .i64 0, .int .i64 0, .int .i64 0]) 8 64 Try.underlying27 hi hz0 hz1 hz2 rfl (by decide) (.slice ao k co) k ((M.take (k * 8)).map intV) rfl (O.out.below (((Below.refl _ _).alloc (Nat.le_refl _) _).alloc (by simp) _) (Nat.le_refl _)) ⟨wr.heap.size + 1, 0, none⟩ 1 1 ([y0, y1, x, y3, y4, y5, o, y7].map intV) rfl rfl (newsC _ _ _ _ _ _ _ _ _ _ _ (by simp)) (allI _) (by unfold maxLen; omega) (by omega) (by simp; omega) ?_; intro v5 w5 hown hgrow hfr; have o5 := OwnG.more hown; rw [← CE.out, ← TK.out] at o5; have O5 := Lib.hid o5; have B5 : Hid (Below w.heap.size w w5) := Lib.hid ((B.out.trans ((((Below.refl _ _).alloc (Nat.le_refl _) _).alloc (by simp) _).mono hwz)).grown hgrow (by simp; omega) (fun q hq => (World.ownsRow.lt O.out q hq).1)); clear hown hgrow hfr o5)
            go_roundw
            case rel => exact ⟨k + 1, by go_num, by omega, O5.out, B5.out⟩
            case measure => (simp [intOf] <;> omega)
        · by_cases h2 : (k : Int) = x
          · have e1 : ((k : Int) = v) = False := eq_false h1
            have e2 : ((k : Int) = x) = True := eq_true h2
            have q1 : ((k : Int) == v) = false := by rw [beq_eq_false_iff_ne]; exact h1
            have q2 : ((k : Int) == x) = true := by rw [beq_iff_eq]; exact h2
            simp [e1, e2, opp] at CV
            have CE : Hid (celL M k = [v, y1, y2, y3, o, y5, y6, y7]) := Lib.hid CV
            clear CV e1 e2 h1 h2
            go_wp2_with (at_builtin; refine wpList_append_fresh rfl (.tmp 50) (.tmp 52) 27 rfl w.heap.size 40 i0 (.agg #[.int .i64 0, .int .i64 0, .int .i64 0, .int .i64 0, .int .i64 0, .int .i64 0, .int .i64 0, .int .i64 0]) 8 64 Try.underlying27 hi hz0 hz1 hz2 rfl (by decide) (.slice ao k co) k ((M.take (k * 8)).map intV) rfl (O.out.below (((Below.refl _ _).alloc (Nat.le_refl _) _).alloc (by simp) _) (Nat.le_refl _)) ⟨wr.heap.size + 1, 0, none⟩ 1 1 ([v, y1, y2, y3, o, y5, y6, y7].map intV) rfl rfl (newsC _ _ _ _ _ _ _ _ _ _ _ (by simp)) (allI _) (by unfold maxLen; omega) (by omega) (by simp; omega) ?_; intro v5 w5 hown hgrow hfr; have o5 := OwnG.more hown; rw [← CE.out, ← TK.out] at o5; have O5 := Lib.hid o5; have B5 : Hid (Below w.heap.size w w5) := Lib.hid ((B.out.trans ((((Below.refl _ _).alloc (Nat.le_refl _) _).alloc (by simp) _).mono hwz)).grown hgrow (by simp; omega) (fun q hq => (World.ownsRow.lt O.out q hq).1)); clear hown hgrow hfr o5)
            go_roundw
            case rel => exact ⟨k + 1, by go_num, by omega, O5.out, B5.out⟩
            case measure => (simp [intOf] <;> omega)
          · have e1 : ((k : Int) = v) = False := eq_false h1
            have e2 : ((k : Int) = x) = False := eq_false h2
            have q1 : ((k : Int) == v) = false := by rw [beq_eq_false_iff_ne]; exact h1
            have q2 : ((k : Int) == x) = false := by rw [beq_eq_false_iff_ne]; exact h2
            simp [e1, e2, opp] at CV
            have CE : Hid (celL M k = [y0, y1, y2, y3, y4, y5, y6, y7]) := Lib.hid CV
            clear CV e1 e2 h1 h2
            go_wp2_with (at_builtin; refine wpList_append_fresh rfl (.tmp 50) (.tmp 52) 27 rfl w.heap.size 40 i0 (.agg #[.int .i64 0, .int .i64 0, .int .i64 0, .int .i64 0, .int .i64 0, .int .i64 0, .int .i64 0, .int .i64 0]) 8 64 Try.underlying27 hi hz0 hz1 hz2 rfl (by decide) (.slice ao k co) k ((M.take (k * 8)).map intV) rfl (O.out.below (((Below.refl _ _).alloc (Nat.le_refl _) _).alloc (by simp) _) (Nat.le_refl _)) ⟨wr.heap.size + 1, 0, none⟩ 1 1 ([y0, y1, y2, y3, y4, y5, y6, y7].map intV) rfl rfl (newsC _ _ _ _ _ _ _ _ _ _ _ (by simp)) (allI _) (by unfold maxLen; omega) (by omega) (by simp; omega) ?_; intro v5 w5 hown hgrow hfr; have o5 := OwnG.more hown; rw [← CE.out, ← TK.out] at o5; have O5 := Lib.hid o5; have B5 : Hid (Below w.heap.size w w5) := Lib.hid ((B.out.trans ((((Below.refl _ _).alloc (Nat.le_refl _) _).alloc (by simp) _).mono hwz)).grown hgrow (by simp; omega) (fun q hq => (World.ownsRow.lt O.out q hq).1)); clear hown hgrow hfr o5)
            go_roundw
            case rel => exact ⟨k + 1, by go_num, by omega, O5.out, B5.out⟩
            case measure => (simp [intOf] <;> omega)
      · have hkn : k = n := by omega
        subst hkn
        have TL : Hid (M.take (k * 8) = M) := Lib.hid (by rw [← HM.out.1, List.take_length])
        go_wp2
        go_ret
        exact ⟨⟨_, _, rfl, by have h := O.out; rw [TL.out] at h; exact h⟩, B.out⟩
  · show Calls Try.prog 31 #[.slice A0 n c0, .int .i64 v, .int .i64 (3 : Int), .int .i64 x, .int .i64 o] w _
    go_enter Try.func31, Try.ntmps31
    go_wp2_with (fail)
    go_loopw [11, 12] (fun lv iv wr => RwG M n w wr lv iv) (fun _ iv _ => n - (intOf iv).toNat)
    case atStart => exact ⟨0, rfl, Nat.zero_le _, OwnG.nil _ _, Below.refl _ _⟩
    case round =>
      obtain ⟨k, rfl, hk, hO, hB⟩ := hrel
      have O := Lib.hid hO
      have B := Lib.hid hB
      obtain ⟨ao, co, e⟩ := hO.form
      subst e
      have hwz := hB.size
      clear hO hB
      by_cases hlt : k < n
      · obtain ⟨b, o9, c', e, hb, hx, hy⟩ := HL.out.nth hlt
        simp only [Value.slice.injEq, true_and] at e
        obtain ⟨rfl, rfl⟩ := e
        have f0 : wr.cell? ⟨b, o9 + k * 8, none⟩ = some (.int .i64 (nxG L k 0)) := (B.out.cell (p := ⟨b, o9 + k * 8 + 0, none⟩) hb).trans (hx 0 (by decide))
        have f1 : wr.cell? ⟨b, o9 + k * 8 + 1, none⟩ = some (.int .i64 (nxG L k 1)) := (B.out.cell (p := ⟨b, o9 + k * 8 + 1, none⟩) hb).trans (hx 1 (by decide))
        have f2 : wr.cell? ⟨b, o9 + k * 8 + 2, none⟩ = some (.int .i64 (nxG L k 2)) := (B.out.cell (p := ⟨b, o9 + k * 8 + 2, none⟩) hb).trans (hx 2 (by decide))
        have f3 : wr.cell? ⟨b, o9 + k * 8 + 3, none⟩ = some (.int .i64 (nxG L k 3)) := (B.out.cell (p := ⟨b, o9 + k * 8 + 3, none⟩) hb).trans (hx 3 (by decide))
        have f4 : wr.cell? ⟨b, o9 + k * 8 + 4, none⟩ = some (.int .i64 (owG L k 0)) := (B.out.cell (p := ⟨b, o9 + k * 8 + 4 + 0, none⟩) hb).trans (hy 0 (by decide))
        have f5 : wr.cell? ⟨b, o9 + k * 8 + 5, none⟩ = some (.int .i64 (owG L k 1)) := (B.out.cell (p := ⟨b, o9 + k * 8 + 4 + 1, none⟩) hb).trans (hy 1 (by decide))
        have f6 : wr.cell? ⟨b, o9 + k * 8 + 6, none⟩ = some (.int .i64 (owG L k 2)) := (B.out.cell (p := ⟨b, o9 + k * 8 + 4 + 2, none⟩) hb).trans (hy 2 (by decide))
        have f7 : wr.cell? ⟨b, o9 + k * 8 + 7, none⟩ = some (.int .i64 (owG L k 3)) := (B.out.cell (p := ⟨b, o9 + k * 8 + 4 + 3, none⟩) hb).trans (hy 3 (by decide))
        have z1 := Nat.lt_of_lt_of_le hb B.out.size
        have hm := fun e (he : e < 4) => HM.out.2 k e hlt he
        have TK := Lib.hid (take_cell HM.out.1 hlt)
        have CV : celL M k = [nxG M k 0, nxG M k 1, nxG M k 2, nxG M k 3, owG M k 0, owG M k 1, owG M k 2, owG M k 3] := rfl
        rw [(hm 0 (by decide)).1, (hm 1 (by decide)).1, (hm 2 (by decide)).1, (hm 3 (by decide)).1, (hm 0 (by decide)).2, (hm 1 (by decide)).2, (hm 2 (by decide)).2, (hm 3 (by decide)).2] at CV
        generalize nxG L k 0 = y0 at *
        generalize nxG L k 1 = y1 at *
        generalize nxG L k 2 = y2 at *
        generalize nxG L k 3 = y3 at *
        generalize owG L k 0 = y4 at *
        generalize owG L k 1 = y5 at *
        generalize owG L k 2 = y6 at *
        generalize owG L k 3 = y7 at *
        clear hx hy hm
        by_cases h1 : (k : Int) = v
        · by_cases h2 : (k : Int) = x
          · have e1 : ((k : Int) = v) = True := eq_true h1
            have e2 : ((k : Int) = x) = True := eq_true h2
            have q1 : ((k : Int) == v) = true := by rw [beq_iff_eq]; exact h1
            have q2 : ((k : Int) == x) = true := by rw [beq_iff_eq]; exact h2
            simp [e1, e2, opp] at CV
            have CE : Hid (celL M k = [y0, v, y2, x, y4, o, y6, o]) := Lib.hid CV
            clear CV e1 e2 h1 h2
            go_wp2_with (at_builtin; refine wpList_append_fresh rfl (.tmp 50) (.tmp 52) 27 rfl w.heap.size 40 i0 (.agg #[.int .i64 0, .int .i64 0, .int .i64 0, .int .i64 0, .int .i64 0, .int .i64 0, .int .i64 0, .int .i64 0]) 8 64 Try.underlying27 hi hz0 hz1 hz2 rfl (by decide) (.slice ao k co) k ((M.take (k * 8)).map intV) rfl (O.out.below (((Below.refl _ _).alloc (Nat.le_refl _) _).alloc (by simp) _) (Nat.le_refl _)) ⟨wr.heap.size + 1, 0, none⟩ 1 1 ([y0, v, y2, x, y4, o, y6, o].map intV) rfl rfl (newsC _ _ _ _ _ _ _ _ _ _ _ (by simp)) (allI _) (by unfold maxLen; omega) (by omega) (by simp; omega) ?_; intro v5 w5 hown hgrow hfr; have o5 := OwnG.more hown; rw [← CE.out, ← TK.out] at o5; have O5 := Lib.hid o5; have B5 : Hid (Below w.heap.size w w5) := Lib.hid ((B.out.trans ((((Below.refl _ _).alloc (Nat.le_refl _) _).alloc (by simp) _).mono hwz)).grown hgrow (by simp; omega) (fun q hq => (World.ownsRow.lt O.out q hq).1)); clear hown hgrow hfr o5)
            go_roundw
            case rel => exact ⟨k + 1, by go_num, by omega, O5.out, B5.out⟩
            case measure => (simp [intOf] <;> omega)
          · have e1 : ((k : Int) = v) = True := eq_true h1
            have e2 : ((k : Int) = x) = False := eq_false h2
            have q1 : ((k : Int) == v) = true := by rw [beq_iff_eq]; exact h1
            have q2 : ((k : Int) == x) = false := by rw [beq_eq_false_iff_ne]; exact h2
            simp [e1, e2, opp] at CV
            have CE : Hid (celL M k = [y0, y1, y2, x, y4, y5, y6, o]) := Lib.hid CV
            clear CV e1 e2 h1 h2
            go_wp2_with (at_builtin; refine wpList_append_fresh rfl (.tmp 50) (.tmp 52) 27 rfl w.heap.size 40 i0 (.agg #[.int .i64 0, .int .i64 0, .int .i64 0, .int .i64 0, .int .i64 0, .int .i64 0, .int .i64 0, .int .i64 0]) 8 64 Try.underlying27 hi hz0 hz1 hz2 rfl (by decide) (.slice ao k co) k ((M.take (k * 8)).map intV) rfl (O.out.below (((Below.refl _ _).alloc (Nat.le_refl _) _).alloc (by simp) _) (Nat.le_refl _)) ⟨wr.heap.size + 1, 0, none⟩ 1 1 ([y0, y1, y2, x, y4, y5, y6, o].map intV) rfl rfl (newsC _ _ _ _ _ _ _ _ _ _ _ (by simp)) (allI _) (by unfold maxLen; omega) (by omega) (by simp; omega) ?_; intro v5 w5 hown hgrow hfr; have o5 := OwnG.more hown; rw [← CE.out, ← TK.out] at o5; have O5 := Lib.hid o5; have B5 : Hid (Below w.heap.size w w5) := Lib.hid ((B.out.trans ((((Below.refl _ _).alloc (Nat.le_refl _) _).alloc (by simp) _).mono hwz)).grown hgrow (by simp; omega) (fun q hq => (World.ownsRow.lt O.out q hq).1)); clear hown hgrow hfr o5)
            go_roundw
            case rel => exact ⟨k + 1, by go_num, by omega, O5.out, B5.out⟩
            case measure => (simp [intOf] <;> omega)
        · by_cases h2 : (k : Int) = x
          · have e1 : ((k : Int) = v) = False := eq_false h1
            have e2 : ((k : Int) = x) = True := eq_true h2
            have q1 : ((k : Int) == v) = false := by rw [beq_eq_false_iff_ne]; exact h1
            have q2 : ((k : Int) == x) = true := by rw [beq_iff_eq]; exact h2
            simp [e1, e2, opp] at CV
            have CE : Hid (celL M k = [y0, v, y2, y3, y4, o, y6, y7]) := Lib.hid CV
            clear CV e1 e2 h1 h2
            go_wp2_with (at_builtin; refine wpList_append_fresh rfl (.tmp 50) (.tmp 52) 27 rfl w.heap.size 40 i0 (.agg #[.int .i64 0, .int .i64 0, .int .i64 0, .int .i64 0, .int .i64 0, .int .i64 0, .int .i64 0, .int .i64 0]) 8 64 Try.underlying27 hi hz0 hz1 hz2 rfl (by decide) (.slice ao k co) k ((M.take (k * 8)).map intV) rfl (O.out.below (((Below.refl _ _).alloc (Nat.le_refl _) _).alloc (by simp) _) (Nat.le_refl _)) ⟨wr.heap.size + 1, 0, none⟩ 1 1 ([y0, v, y2, y3, y4, o, y6, y7].map intV) rfl rfl (newsC _ _ _ _ _ _ _ _ _ _ _ (by simp)) (allI _) (by unfold maxLen; omega) (by omega) (by simp; omega) ?_; intro v5 w5 hown hgrow hfr; have o5 := OwnG.more hown; rw [← CE.out, ← TK.out] at o5; have O5 := Lib.hid o5; have B5 : Hid (Below w.heap.size w w5) := Lib.hid ((B.out.trans ((((Below.refl _ _).alloc (Nat.le_refl _) _).alloc (by simp) _).mono hwz)).grown hgrow (by simp; omega) (fun q hq => (World.ownsRow.lt O.out q hq).1)); clear hown hgrow hfr o5)
            go_roundw
            case rel => exact ⟨k + 1, by go_num, by omega, O5.out, B5.out⟩
            case measure => (simp [intOf] <;> omega)
          · have e1 : ((k : Int) = v) = False := eq_false h1
            have e2 : ((k : Int) = x) = False := eq_false h2
            have q1 : ((k : Int) == v) = false := by rw [beq_eq_false_iff_ne]; exact h1
            have q2 : ((k : Int) == x) = false := by rw [beq_eq_false_iff_ne]; exact h2
            simp [e1, e2, opp] at CV
            have CE : Hid (celL M k = [y0, y1, y2, y3, y4, y5, y6, y7]) := Lib.hid CV
            clear CV e1 e2 h1 h2
            go_wp2_with (at_builtin; refine wpList_append_fresh rfl (.tmp 50) (.tmp 52) 27 rfl w.heap.size 40 i0 (.agg #[.int .i64 0, .int .i64 0, .int .i64 0, .int .i64 0, .int .i64 0, .int .i64 0, .int .i64 0, .int .i64 0]) 8 64 Try.underlying27 hi hz0 hz1 hz2 rfl (by decide) (.slice ao k co) k ((M.take (k * 8)).map intV) rfl (O.out.below (((Below.refl _ _).alloc (Nat.le_refl _) _).alloc (by simp) _) (Nat.le_refl _)) ⟨wr.heap.size + 1, 0, none⟩ 1 1 ([y0, y1, y2, y3, y4, y5, y6, y7].map intV) rfl rfl (newsC _ _ _ _ _ _ _ _ _ _ _ (by simp)) (allI _) (by unfold maxLen; omega) (by omega) (by simp; omega) ?_; intro v5 w5 hown hgrow hfr; have o5 := OwnG.more hown; rw [← CE.out, ← TK.out] at o5; have O5 := Lib.hid o5; have B5 : Hid (Below w.heap.size w w5) := Lib.hid ((B.out.trans ((((Below.refl _ _).alloc (Nat.le_refl _) _).alloc (by simp) _).mono hwz)).grown hgrow (by simp; omega) (fun q hq => (World.ownsRow.lt O.out q hq).1)); clear hown hgrow hfr o5)
            go_roundw
            case rel => exact ⟨k + 1, by go_num, by omega, O5.out, B5.out⟩
            case measure => (simp [intOf] <;> omega)
      · have hkn : k = n := by omega
        subst hkn
        have TL : Hid (M.take (k * 8) = M) := Lib.hid (by rw [← HM.out.1, List.take_length])
        go_wp2
        go_ret
        exact ⟨⟨_, _, rfl, by have h := O.out; rw [TL.out] at h; exact h⟩, B.out⟩
end Go.Proofs.Ytkgknbjcllcndaa
