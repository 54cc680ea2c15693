/-
  GridSplits: the walk: at all places and bytes the call answers true and turns nothing that was there. Conditions: none.
-/
import Derived.Test.YtkgknbjcllcndaaGdM
import Derived.BigRegion
namespace Go.Proofs.Ytkgknbjcllcndaa
open Go.RowKit Go.Proofs.Ytkgknbjcllcndaa.GrM

/-- Cells read off a shorter slice of a row. -/
theorem cel_shorter {w : World} {b o n c m : Nat} {L : List Int} (h : CelAt w (.slice (some ⟨b, o, none⟩) n c) L n) (hm : m ≤ n) : CelAt w (.slice (some ⟨b, o, none⟩) m c) (L.take (m * 8)) m := by
  obtain ⟨hl, A, cap, e, hc, hA⟩ := h
  obtain ⟨rfl, rfl⟩ : some ⟨b, o, none⟩ = A ∧ c = cap := by simpa using e
  refine ⟨by rw [List.length_take, hl]; omega, _, c, rfl, ⟨by have := hc.1; omega, fun e => by cases e⟩, fun h0 => ?_⟩
  obtain ⟨b', o', e2, hlt, hcell⟩ := hA (by omega)
  refine ⟨b', o', e2, hlt, fun j hj => ?_⟩
  rw [hcell j (by omega), List.getD_eq_getElem?_getD, List.getD_eq_getElem?_getD, List.getElem?_take, if_pos hj]
set_option maxHeartbeats 16000000 in
set_option maxRecDepth 100000 in
theorem splits10 {A1 A2 A3 : Option Addr} {n1 n2 n3 : Nat} (c1 c2 c3 : Nat) {D1 D2 D3 : Nat → Int} (u0 u1 : Int) (w : World) (h : Plane w A1 A2 A3 n1 n2 n3 D1 D2 D3) (h0 : 0 ≤ u0 ∧ u0 ≤ 255) (h1 : 0 ≤ u1 ∧ u1 ≤ 255) :
    Calls Try.prog 5 #[.agg #[.slice A1 n1 c1, .slice A2 n2 c2, .slice A3 n3 c3], .agg #[.int .u8 u0, .int .u8 u1]] w fun e w' => e = .returned (.bool true) ∧ Below w.heap.size w w' := by
  have HP := Lib.hid h
  have WK := Lib.hid (fun w => wakes10 w)
  have hu := Lib.hid (And.intro h0 h1)
  clear h h0 h1
  go_enter Try.func5, Try.ntmps5
  go_upto_region 1 with (fail)
  obtain ⟨wb, hwb⟩ : ∃ W, W = ((w.alloc (.cells #[.slice A1 n1 c1, .slice A2 n2 c2, .slice A3 n3 c3] 53)).alloc (.cells #[.int .u8 u0, .int .u8 u1] 54)) := ⟨_, rfl⟩
  have BB : Hid (Below w.heap.size w wb) := Lib.hid (by rw [hwb]; exact ((Below.refl _ _).alloc (Nat.le_refl _) _).alloc (by simp) _)
  have x0 : wb.cell? ⟨w.heap.size, 0, none⟩ = some (.slice A1 n1 c1) := by rw [hwb]; go_simp
  have x1 : wb.cell? ⟨w.heap.size, 1, none⟩ = some (.slice A2 n2 c2) := by rw [hwb]; go_simp
  have x2 : wb.cell? ⟨w.heap.size, 2, none⟩ = some (.slice A3 n3 c3) := by rw [hwb]; go_simp
  have k0 : wb.cell? ⟨w.heap.size + 1, 0, none⟩ = some (.int .u8 u0) := by rw [hwb]; go_simp
  have k1 : wb.cell? ⟨w.heap.size + 1, 1, none⟩ = some (.int .u8 u1) := by rw [hwb]; go_simp
  have hgb : w.heap.size + 1 < wb.heap.size := by rw [hwb]; simp
  have KK := Lib.hid (fun wr (b : Below wb.heap.size wb wr) => And.intro ((b.cell (p := ⟨w.heap.size + 1, 0, none⟩) hgb).trans k0) ((b.cell (p := ⟨w.heap.size + 1, 1, none⟩) hgb).trans k1))
  have MK := Lib.hid (make12 c1 c2 c3 (HP.out.below BB.out))
  rw [← hwb]
  clear hwb k0 k1
  go_upto_region 5 with (first
    | (go_at_call 10; refine (WK.out _).mono ?_; rintro e w3 ⟨rfl, b3⟩; have B3 := Lib.hid b3; clear b3)
    | (go_at_call 23; refine (ofY _ L N _ O1.out.cel (by omega) (good_chk HG.out (by omega))).mono ?_; rintro e w2 ⟨p, v, rfl, g2, f2, b2⟩; have G2 := Lib.hid g2; have F2 := Lib.hid f2; have B2 := Lib.hid b2; clear g2 f2 b2)
    | (go_at_call 21; refine MK.out.mono ?_; rintro e w1 ⟨N, L, A, c, pv, rfl, o1, hg, hN, b1⟩; have O1 := Lib.hid o1; have HG := Lib.hid hg; have B1 := Lib.hid b1; clear o1 hg b1))
  · rename_i w3' B3' h'
    go_ret
    have h2 := BB.out.trans (B1.out.mono BB.out.size)
    have h3 := h2.trans (B2.out.mono h2.size)
    have h4 := h3.trans (B3'.out.mono h3.size)
    exact ⟨rfl, h4.trans (B3.out.mono h4.size)⟩
  · have h' : ((N : Int) == 0) = false := by assumption
    rw [beq_eq_false_iff_ne] at h'
    have hN0 : 0 < N := by omega
    clear h'
    have h2 := B1.out.trans (B2.out.mono B1.out.size)
    obtain ⟨k0, k1⟩ := KK.out w3 (h2.trans (B3.out.mono h2.size))
    have BL : Hid (Below w1.heap.size w1 w3) := Lib.hid (B2.out.trans (B3.out.mono B2.out.size))
    have G3 := Lib.hid (G2.out.below B3.out)
    have BW1 : Hid (Below w.heap.size w w1) := Lib.hid (BB.out.trans (B1.out.mono BB.out.size))
    obtain ⟨⟨r0, r1⟩, r2, r3⟩ := hu.out
    obtain ⟨a, ha⟩ : ∃ a : Nat, u0 % (N : Int) = (a : Int) := ⟨(u0 % (N : Int)).toNat, by rw [Int.toNat_of_nonneg (Int.emod_nonneg _ (by omega))]⟩
    have haN : a < N := by have := Int.emod_lt_of_pos u0 (show (0 : Int) < N by omega); omega
    obtain ⟨d, hd⟩ : ∃ d : Nat, u1 % 4 = (d : Int) := ⟨(u1 % 4).toNat, by omega⟩
    have hd4 : d < 4 := by omega
    have ha' : u0.tmod (N : Int) = (a : Int) := by rw [Int.tmod_eq_emod_of_nonneg r0]; exact ha
    have hd' : u1.tmod 4 = (d : Int) := by rw [Int.tmod_eq_emod_of_nonneg r2]; exact hd
    have cx1 : IntKind.i64.wrap u0 = u0 := IntWalk.i64_in _ (by omega)
    have cx2 : IntKind.i64.wrap u1 = u1 := IntWalk.i64_in _ (by omega)
    have hgw : w.heap.size + 1 < w3.heap.size := Nat.lt_of_lt_of_le hgb (h2.trans (B3.out.mono h2.size)).size
    clear h2 KK hu x0 x1 x2 hgb B1 B2 B3 G2 BB
    go_quiet (fail)
    clear ha ha' hd hd' cx1 cx2 k0 k1 r0 r1 r2 r3 hgw
    obtain ⟨w4, hw4⟩ : ∃ W, W = w3.drewN nq := ⟨_, rfl⟩
    rw [← hw4]
    have b34 : Below w3.heap.size w3 w4 := by rw [hw4]; exact drewN_below (Below.refl _ _) _
    have G4 := Lib.hid (G3.out.below b34)
    have BL4 : Hid (Below w1.heap.size w1 w4) := Lib.hid (BL.out.trans (b34.mono BL.out.size))
    clear hw4 b34 G3 BL
    have nx := nextY G4.out (a : Int) (d : Int)
    by_cases hx1 : nxG L a d = -1
    · obtain ⟨s1, s2⟩ := step_no (step_free (n := N) hx1)
      rw [s1, s2, step_free hx1] at nx
      have NX := Lib.hid nx
      have SP := Lib.hid (fun w5 (b : Below w4.heap.size w4 w5) => splitNo (G4.out.below b) a d haN hd4 hx1)
      clear nx s1 s2 hx1
      go_wp2_with (first
        | (go_at_call 19; refine (refSameC _ _ L L N N _ O7.out (OwnG.cel (O1.out.below (BL6.out.trans (B7.out.mono BL6.out.size)) (Nat.le_refl _))) (by omega) (by omega)).mono ?_; rintro e w8 ⟨rfl, b8⟩; rw [decide_eq_true (rfl : L = L)]; have B8 := Lib.hid b8; clear b8)
        | (go_at_call 20; refine (cellsY G6.out (by omega)).mono ?_; rintro e w7 ⟨A7, c7, rfl, o7, b7⟩; have O7 := Lib.hid (OwnG.cel o7); have B7 := Lib.hid b7; clear o7 b7)
        | (go_at_call 11; refine (SP.out _ B5.out).mono ?_; rintro e w6 ⟨rfl, b6⟩; have b46 := B5.out.trans (b6.mono B5.out.size); have G6 := Lib.hid (G4.out.below b46); have BL6 : Hid (Below w1.heap.size w1 w6) := Lib.hid (BL4.out.trans (b46.mono BL4.out.size)); clear b6 b46)
        | (go_at_call 17; refine NX.out.mono ?_; rintro e w5 ⟨rfl, b5⟩; have B5 := Lib.hid b5; clear b5))
      go_ret
      have h6 := BW1.out.trans (BL6.out.mono BW1.out.size)
      have h7 := h6.trans (B7.out.mono h6.size)
      exact ⟨rfl, h7.trans (B8.out.mono h7.size)⟩
    · have hs := HG.out.side haN hd4
      obtain ⟨x, hx⟩ : ∃ x : Nat, nxG L a d = (x : Int) := ⟨(nxG L a d).toNat, by omega⟩
      have hxN : x < N := by omega
      have hL := O1.out.len
      obtain ⟨s0, s1, s2⟩ := step_yes haN hd4 hx1
      rw [s1, s2, s0, hx] at nx
      have nx0 := hx
      obtain ⟨q, hq⟩ : ∃ q, owG L a d = q := ⟨_, rfl⟩
      rw [hq] at nx
      have NX := Lib.hid nx
      have sp := fun w5 (b : Below w4.heap.size w4 w5) => splitYes (G4.out.below b) a d x haN hd4 hxN hx (by omega)
      rw [hq] at sp
      have m1 : nxG (splitG L N a d x q) a d = ((N : Nat) : Int) := by
        rw [nx_split hL haN hxN hd4 haN hd4]
        split
        · rfl
        · rw [if_pos ⟨rfl, rfl⟩]
      have m2 : owG (splitG L N a d x q) a d = q := by
        rw [ow_split hL haN hxN hd4 haN hd4]
        split
        · rfl
        · rw [if_pos ⟨rfl, rfl⟩]
      have m3 : nxG (splitG L N a d x q) N d = ((x : Nat) : Int) := by rw [nx_split_new hL haN hxN hd4 hd4, if_pos rfl]
      have m4 : owG (splitG L N a d x q) N d = q := by rw [ow_split_new hL haN hxN hd4 hd4, if_pos rfl]
      have mg := split_good hL HG.out haN hxN hd4 hx hq
      have mu := unsplit hL HG.out haN hxN hd4 hx hq
      have ml := split_len (L := L) (n := N) hL a d x q
      obtain ⟨N1, hN1⟩ : ∃ N1, N1 = N + 1 := ⟨_, rfl⟩
      rw [← hN1] at mg ml
      unfold SplP at sp
      obtain ⟨M, hM⟩ : ∃ M, splitG L N a d x q = M := ⟨_, rfl⟩
      rw [hM] at m1 m2 m3 m4 mg mu ml sp
      rw [← hN1] at sp
      have SP := Lib.hid sp
      have X1 : Hid (∀ w v, GrdAt w p v M N1 → Calls Try.prog 17 #[.pointer (some ⟨p, 0, none⟩), .int .i64 a, .int .i64 d] w fun e w' => e = .returned (.tuple #[.int .i64 N, .int .i64 q, .bool true]) ∧ RowKit.Below w.heap.size w w') := Lib.hid (fun w v h => by
        have h1 := nextY h (a : Int) (d : Int)
        obtain ⟨y0, y1, y2⟩ := step_yes (L := M) (n := N1) (a := a) (e := d) (by omega) hd4 (by omega)
        rw [y1, y2, y0, m1, m2] at h1
        exact h1)
      have X2 : Hid (∀ w v, GrdAt w p v M N1 → Calls Try.prog 17 #[.pointer (some ⟨p, 0, none⟩), .int .i64 N, .int .i64 d] w fun e w' => e = .returned (.tuple #[.int .i64 x, .int .i64 q, .bool true]) ∧ RowKit.Below w.heap.size w w') := Lib.hid (fun w v h => by
        have h1 := nextY h (N : Int) (d : Int)
        obtain ⟨y0, y1, y2⟩ := step_yes (L := M) (n := N1) (a := N) (e := d) (by omega) hd4 (by omega)
        rw [y1, y2, y0, m3, m4] at h1
        exact h1)
      have MC : Hid (chkG M N1 = 0) := Lib.hid (good_chk mg (by omega))
      have MU := Lib.hid mu
      have ML := Lib.hid ml
      have hN1' : (N : Int) + 1 = (N1 : Int) := by omega
      have hN1a : N1 ≤ 13 := by omega
      have hN1b : N < N1 := by omega
      have hNn : a < N1 := by omega
      have hNx : x < N1 := by omega
      have hop : ((d : Int) + 2) % 4 = ((opp d : Nat) : Int) := by unfold opp; omega
      have hop4 := opp_lt d
      have HN : Hid (N1 = N + 1) := Lib.hid hN1
      clear nx s0 s1 s2 hx hx1 nx0 hq m1 m2 m3 m4 mg mu ml hM hN1 hs hL sp
      generalize opp d = d2 at *
      go_upto_region 16 with (first
        | (go_at_call 24; refine (checkY _ M N1 _ O9.out.cel (by omega)).mono ?_; rintro e w10 ⟨rfl, b10⟩; rw [MC.out]; have B10 := Lib.hid b10; clear b10)
        | (go_at_call 20; refine (cellsY G8.out (by omega)).mono ?_; rintro e w9 ⟨A9, c9, rfl, o9, b9⟩; have O9 := Lib.hid o9; have B9 := Lib.hid b9; clear o9 b9)
        | (have _z := G7; go_at_call 17; ((with_reducible refine (X2.out _ _ G7.out).mono ?_); rintro e w8 ⟨rfl, b8⟩); have G8 := Lib.hid (G7.out.below b8); have BL8 : Hid (Below w1.heap.size w1 w8) := Lib.hid (BL7.out.trans (b8.mono BL7.out.size)); clear b8)
        | (have _z := G6; go_at_call 17; ((with_reducible refine (X1.out _ _ G6.out).mono ?_); rintro e w7 ⟨rfl, b7⟩); have G7 := Lib.hid (G6.out.below b7); have BL7 : Hid (Below w1.heap.size w1 w7) := Lib.hid (BL6.out.trans (b7.mono BL6.out.size)); clear b7)
        | (go_at_call 11; refine (SP.out _ B5.out).mono ?_; rintro e w6 ⟨rfl, t6⟩; have b15 := BL4.out.trans (B5.out.mono BL4.out.size); obtain ⟨v6, g6, f6, b6⟩ := wk_of w1.heap.size t6 F2.out b15.size; have G6 := Lib.hid g6; have BL6 : Hid (Below w1.heap.size w1 w6) := Lib.hid (b15.trans b6); clear t6 g6 f6 b6 b15)
        | (go_at_call 17; ((with_reducible refine NX.out.mono ?_); rintro e w5 ⟨rfl, b5⟩); have B5 := Lib.hid b5; clear b5))
      obtain ⟨g9, rfl⟩ := own_at O9.out (by omega)
      have OT := O9.out.below B10.out (Nat.le_refl _)
      have hc9 := cel_cap OT.cel
      have hl9 := OT.len
      obtain ⟨y1, j1⟩ : ∃ y, w10.cell? ⟨g9, a * 8 + d, none⟩ = some y := ⟨_, by rw [World.ownsRow.cellAt OT (a * 8 + d) (by omega), List.getElem?_eq_getElem (by simp; omega)]⟩
      obtain ⟨y2, j2⟩ : ∃ y, w10.cell? ⟨g9, x * 8 + d2, none⟩ = some y := ⟨_, by rw [World.ownsRow.cellAt OT (x * 8 + d2) (by omega), List.getElem?_eq_getElem (by simp; omega)]⟩
      have j3 := World.ownsRow.frozenAt OT (a * 8 + d)
      have j4 := World.ownsRow.frozenAt OT (x * 8 + d2)
      have z9 := (World.ownsRow.lt O9.out g9 rfl).1
      have OS := (OT.set (a * 8 + d) (x : Int)).set (x * 8 + d2) (a : Int)
      have h9 := BL8.out.trans (B9.out.mono BL8.out.size)
      have h10 := h9.trans (B10.out.mono h9.size)
      have hs8 := BL8.out.size
      have BE : Hid (Below w1.heap.size w1 (((w10.setCell ⟨g9, a * 8 + d, none⟩ (.int .i64 x)).setCell ⟨g9, x * 8 + d2, none⟩ (.int .i64 a)).drew)) := Lib.hid ((((h10.setCell (p := ⟨g9, a * 8 + d, none⟩) (show w1.heap.size ≤ g9 by omega) _).setCell (p := ⟨g9, x * 8 + d2, none⟩) (show w1.heap.size ≤ g9 by omega) _)).drew)
      have CE := Lib.hid (cel_shorter (m := N) ((OS.below (C := ((w10.setCell ⟨g9, a * 8 + d, none⟩ (.int .i64 x)).setCell ⟨g9, x * 8 + d2, none⟩ (.int .i64 a)).heap.size) (Below.refl _ _).drew (Nat.le_refl _)).cel) (Nat.le_of_lt hN1b))
      clear OT hl9 z9 OS h9 h10 hs8
      go_region
      obtain ⟨we, hwe⟩ : ∃ W, W = (((w10.setCell ⟨g9, a * 8 + d, none⟩ (.int .i64 x)).setCell ⟨g9, x * 8 + d2, none⟩ (.int .i64 a)).drew) := ⟨_, rfl⟩
      rw [← hwe]
      have BE2 : Hid (Below w1.heap.size w1 we) := Lib.hid (by rw [hwe]; exact BE.out)
      have CE2 : Hid (CelAt we (.slice (some ⟨g9, 0, none⟩) N c9) L N) := Lib.hid (by
        have h := CE.out
        rw [MU.out, ← hwe] at h
        exact h)
      have hNc : N ≤ c9 := by omega
      clear hwe BE CE j1 j2 j3 j4
      go_wp2_with (go_at_call 19; refine (refSameC _ _ L L N N _ CE2.out (OwnG.cel (O1.out.below BE2.out (Nat.le_refl _))) (by omega) (by omega)).mono ?_; rintro e w12 ⟨rfl, b12⟩; rw [decide_eq_true (rfl : L = L)]; have B12 := Lib.hid b12; clear b12)
      go_ret
      have h6 := BW1.out.trans (BE2.out.mono BW1.out.size)
      exact ⟨rfl, h6.trans (B12.out.mono h6.size)⟩
end Go.Proofs.Ytkgknbjcllcndaa
