/-
  TextTurns: the walk: at every edge the call answers true and turns nothing that was there. Conditions: the library's tables are laid.
-/
import Derived.Test.YtgedcalplfnjmaaDoorTxtK
import Derived.Test.YtgedcalplfnjmaaDoorTxtR
import Derived.Test.YtgedcalplfnjmaaDoorTxtC
namespace Go.Proofs.YtgedcalplfnjmaaDoor
open Go.RowKit Go.Proofs.YtgedcalplfnjmaaDoor.LexM Go.Proofs.YtgedcalplfnjmaaDoor.ParM

theorem chk_one (d : Int) (bb : List UInt8) (hb : bb.length ≤ 4096) : chkS [false] [(0, 0, d, bb)] = if goodB d = false then 2 else if isTurns bb = false then 2 else 0 := by
  have h : bendsOf [(0, 0, d, bb)] = bb.length := by simp [bendsOf]
  have hm : manyS [false] [(0, 0, d, bb)] = false := by
    unfold manyS
    rw [h, decide_eq_false (by simp), decide_eq_false (by simp), decide_eq_false (by omega)]; rfl
  unfold chkS
  rw [hm]
  simp only [chkL, chkE, vtxB]
  cases goodB d with
  | false => simp
  | true =>
    cases isTurns bb with
    | false => simp
    | true => simp
theorem four_of {w : World} {x : Nat} {v0 v1 v2 v3 : Value} {T : TypeId} (h1 : w.heap[x]? = some (.cells #[v0, v1, v2, v3] T (0, 0))) : w.cell? ⟨x, 0, none⟩ = some v0 ∧ w.cell? ⟨x, 1, none⟩ = some v1 ∧ w.cell? ⟨x, 2, none⟩ = some v2 ∧ w.cell? ⟨x, 3, none⟩ = some v3 ∧ x < w.heap.size :=
  ⟨by simp [World.cell?, h1], by simp [World.cell?, h1], by simp [World.cell?, h1], by simp [World.cell?, h1], (Array.getElem?_eq_some_iff.1 h1).1⟩
set_option maxHeartbeats 16000000 in
set_option maxRecDepth 100000 in
theorem turns_core (y1 y2 y3 : Int) (s : ByteArray) (bl : List UInt8) (w : World) (hT : TabL w) (hl : bl.length ≤ 50) (hs : s.extract 0 (min (s.size : Int) 50).toNat = bs bl) :
    Calls Tryd.prog 3 #[.agg #[.int .i64 y1, .int .i64 y2, .int .i64 y3, .string s]] w fun r w' => r = .returned (.bool true) ∧ Below w.heap.size w w' := by
  have HT := Lib.hid hT
  have ck := chk_one y3 bl (by omega)
  have CK0 : ∀ bv ev w, BlsAt w bv [false] → EdsAt w ev [(0, 0, y3, bl)] → Calls Tryd.prog 6 #[.agg #[bv, ev]] w fun r w' => r = .returned (.int .i64 (chkS [false] [(0, 0, y3, bl)])) ∧ Below w.heap.size w w' := fun bv ev w h1 h2 =>
    refCheck bv ev _ _ w h1 h2 (by simp) (by simp) (fun e he => by obtain rfl := List.mem_singleton.1 he; show bl.length ≤ 1000000; omega)
  rw [ck] at CK0
  have WK := Lib.hid wakes9
  by_cases hg : goodB y3 = true ∧ isTurns bl = true
  · obtain ⟨hg1, hg2⟩ := hg
    rw [hg1, hg2, if_neg (by simp), if_neg (by simp)] at CK0
    have CK := Lib.hid CK0
    have h0 : 0 ≤ y3 := (of_decide_eq_true hg1).1
    have h3 : y3 ≤ 3 := by have := (of_decide_eq_true hg1).2; omega
    have b1 := fun w => backYes (y1, y2, y3, bl) w (by show bl.length ≤ 2000000; omega) h0 h3 hg2
    have hr := lastT_range y3 bl
    have b2 := fun w => backYes (backE (y1, y2, y3, bl)) w (by show (backT bl).length ≤ 2000000; rw [backT_len]; omega) (by show 0 ≤ (lastT y3 bl + 2) % 4; omega) (by show (lastT y3 bl + 2) % 4 ≤ 3; omega) (backT_turns bl)
    rw [back_back (e := (y1, y2, y3, bl)) h0 h3 hg2] at b2
    have rb := fun w => refBack y1 y2 y3 bl w (by omega) h0 h3
    have BK1 : Hid (∀ w, Calls Tryd.prog 5 #[.agg #[.int .i64 y1, .int .i64 y2, .int .i64 y3, .string (bs bl)]] w fun r w' => r = .returned (.tuple #[.agg #[.int .i64 y2, .int .i64 y1, .int .i64 ((lastT y3 bl + 2) % 4), .string (bs (backT bl))], .int .i64 0]) ∧ Below w.heap.size w w') := Lib.hid b1
    have BK2 : Hid (∀ w, Calls Tryd.prog 5 #[.agg #[.int .i64 y2, .int .i64 y1, .int .i64 ((lastT y3 bl + 2) % 4), .string (bs (backT bl))]] w fun r w' => r = .returned (.tuple #[.agg #[.int .i64 y1, .int .i64 y2, .int .i64 y3, .string (bs bl)], .int .i64 0]) ∧ Below w.heap.size w w') := Lib.hid b2
    have RB := Lib.hid rb
    clear b1 b2 rb CK0 ck hg1 hg2 h0 h3 hr
    generalize (lastT y3 bl + 2) % 4 = c at *
    generalize bs (backT bl) = s2 at *
    have EDS : Hid (∀ w g T, w.heap[g]? = some (.cells #[.int .i64 0, .int .i64 0, .int .i64 y3, .string (bs bl)] T (0, 0)) → EdsAt w (.slice (some ⟨g, 0, none⟩) 1 1) [(0, 0, y3, bl)]) := Lib.hid (fun w g T h => edsOne w g 0 0 y3 bl T h)
    have hsz : (bs bl).size ≤ 50 := by rw [bs_size]; exact hl
    generalize bs bl = sb at *
    have hq1 := fun W => eqlE_same W y2 y1 c s2
    have hq2 := fun W => eqlE_same W y1 y2 y3 sb
    obtain ⟨h, hh⟩ : ∃ h : Nat, min (s.size : Int) 50 = (h : Int) := ⟨(min (s.size : Int) 50).toNat, by omega⟩
    have hh2 : h ≤ s.size := by omega
    rw [hh, Int.toNat_natCast] at hs
    clear hT hl
    go_enter Tryd.func3, Tryd.ntmps3
    go_upto_region 2 with (fail)
    generalize hwb : World.alloc w _ = wb
    have B0 : Hid (Below w.heap.size w wb) := Lib.hid (by rw [← hwb]; exact (Below.refl _ _).alloc (Nat.le_refl _) _)
    have hkb : wb.heap[w.heap.size]? = some (.cells #[.int .i64 y1, .int .i64 y2, .int .i64 y3, .string sb] 23 (0, 0)) := by rw [← hwb]; exact heap_alloc_new w _
    have XX := Lib.hid (fun wr (b : Below wb.heap.size wb wr) => four_of ((b.block _ (Array.getElem?_eq_some_iff.1 hkb).1).trans hkb))
    obtain ⟨x0, x1, x2, x3, xl⟩ := XX.out wb (Below.refl _ _)
    clear hwb hkb
    go_upto_region 3 with (go_at_call 5; refine (BK1.out _).mono ?_; rintro e w1 ⟨rfl, b1⟩; have B1 : Hid (Below wb.heap.size wb w1) := Lib.hid b1; clear b1)
    generalize hw2 : World.alloc w1 _ = w2
    have B2 : Hid (Below wb.heap.size wb w2) := Lib.hid (by rw [← hw2]; exact B1.out.alloc B1.out.size _)
    have hk2 : w2.heap[w1.heap.size]? = some (.cells #[.int .i64 y2, .int .i64 y1, .int .i64 c, .string s2] 23 (0, 0)) := by rw [← hw2]; exact heap_alloc_new w1 _
    have AA := Lib.hid (fun wr (b : Below w2.heap.size w2 wr) => four_of ((b.block _ (Array.getElem?_eq_some_iff.1 hk2).1).trans hk2))
    clear hw2 hk2 x0 x1 x2 x3 xl
    obtain ⟨x0, x1, x2, x3, xl⟩ := XX.out w2 B2.out
    go_wp2_with (fail)
    generalize hw3 : World.alloc (World.alloc w2 _) _ = w3
    have b3 : Below w2.heap.size w2 w3 := by rw [← hw3]; exact ((Below.refl _ _).alloc (Nat.le_refl _) _).alloc (by simp) _
    have HB : BlsAt w3 (.slice (some ⟨w2.heap.size, 0, none⟩) 1 1) [false] := blsNew _ _ _ _ rfl _ (by rw [← hw3, Below.heap_alloc _ _ _ (by simp)]; exact heap_alloc_new w2 _)
    have HE : EdsAt w3 (.slice (some ⟨w2.heap.size + 1, 0, none⟩) 1 1) [(0, 0, y3, bl)] := EDS.out _ _ _ (by rw [← hw3]; exact heap_second w2 _ _)
    refine (CK.out _ _ w3 HB HE).mono ?_
    rintro e w4 ⟨rfl, b4⟩
    have b24 : Below w2.heap.size w2 w4 := b3.trans (b4.mono b3.size)
    have B4 : Hid (Below wb.heap.size wb w4) := Lib.hid (B2.out.trans (b24.mono B2.out.size))
    have A4 := Lib.hid b24
    clear hw3 HB HE b3 b4 b24 x0 x1 x2 x3 xl
    obtain ⟨x0, x1, x2, x3, xl⟩ := XX.out w4 B4.out
    obtain ⟨a0, a1, a2, a3, al⟩ := AA.out w4 A4.out
    go_upto_region 6 with (go_at_call 5; refine (BK2.out _).mono ?_; rintro e w5 ⟨rfl, b5⟩; have B5 : Hid (Below wb.heap.size wb w5) := Lib.hid (B4.out.trans (b5.mono B4.out.size)); have A5 : Hid (Below w2.heap.size w2 w5) := Lib.hid (A4.out.trans (b5.mono A4.out.size)); clear b5)
    generalize hw6 : World.alloc w5 _ = w6
    have B6 : Hid (Below wb.heap.size wb w6) := Lib.hid (by rw [← hw6]; exact B5.out.alloc B5.out.size _)
    have A6 : Hid (Below w2.heap.size w2 w6) := Lib.hid (by rw [← hw6]; exact A5.out.alloc A5.out.size _)
    have hk6 : w6.heap[w5.heap.size]? = some (.cells #[.int .i64 y1, .int .i64 y2, .int .i64 y3, .string sb] 23 (0, 0)) := by rw [← hw6]; exact heap_alloc_new w5 _
    clear x0 x1 x2 x3 xl a0 a1 a2 a3 al
    obtain ⟨x0, x1, x2, x3, xl⟩ := XX.out w6 B6.out
    obtain ⟨a0, a1, a2, a3, al⟩ := AA.out w6 A6.out
    obtain ⟨e0, e1, e2, e3, el⟩ := four_of hk6
    have BW : Hid (Below w.heap.size w w6) := Lib.hid (B0.out.trans (B6.out.mono B0.out.size))
    clear hw6 hk6
    go_region_held3 (fun w' => w'.cell? ⟨w1.heap.size, 0, none⟩ = some (.int .i64 y2) ∧ w'.cell? ⟨w1.heap.size, 1, none⟩ = some (.int .i64 y1) ∧ w'.cell? ⟨w1.heap.size, 2, none⟩ = some (.int .i64 c) ∧ w'.cell? ⟨w1.heap.size, 3, none⟩ = some (.string s2) ∧ w'.cell? ⟨w.heap.size, 0, none⟩ = some (.int .i64 y1) ∧ w'.cell? ⟨w.heap.size, 1, none⟩ = some (.int .i64 y2) ∧ w'.cell? ⟨w.heap.size, 2, none⟩ = some (.int .i64 y3) ∧ w'.cell? ⟨w.heap.size, 3, none⟩ = some (.string sb) ∧ w'.cell? ⟨w5.heap.size, 0, none⟩ = some (.int .i64 y1) ∧ w'.cell? ⟨w5.heap.size, 1, none⟩ = some (.int .i64 y2) ∧ w'.cell? ⟨w5.heap.size, 2, none⟩ = some (.int .i64 y3) ∧ w'.cell? ⟨w5.heap.size, 3, none⟩ = some (.string sb))
      (first
        | go_keep
        | (go_split_ands
           refine ⟨?_, ?_, ?_, ?_, ?_, ?_, ?_, ?_, ?_, ?_, ?_, ?_⟩
           · (first | (rw [Q2.out.cell (p := ⟨w1.heap.size, 0, none⟩) al]; exact a0) | (rw [Q1.out.cell (p := ⟨w1.heap.size, 0, none⟩) al]; exact a0))
           · (first | (rw [Q2.out.cell (p := ⟨w1.heap.size, 1, none⟩) al]; exact a1) | (rw [Q1.out.cell (p := ⟨w1.heap.size, 1, none⟩) al]; exact a1))
           · (first | (rw [Q2.out.cell (p := ⟨w1.heap.size, 2, none⟩) al]; exact a2) | (rw [Q1.out.cell (p := ⟨w1.heap.size, 2, none⟩) al]; exact a2))
           · (first | (rw [Q2.out.cell (p := ⟨w1.heap.size, 3, none⟩) al]; exact a3) | (rw [Q1.out.cell (p := ⟨w1.heap.size, 3, none⟩) al]; exact a3))
           · (first | (rw [Q2.out.cell (p := ⟨w.heap.size, 0, none⟩) xl]; exact x0) | (rw [Q1.out.cell (p := ⟨w.heap.size, 0, none⟩) xl]; exact x0))
           · (first | (rw [Q2.out.cell (p := ⟨w.heap.size, 1, none⟩) xl]; exact x1) | (rw [Q1.out.cell (p := ⟨w.heap.size, 1, none⟩) xl]; exact x1))
           · (first | (rw [Q2.out.cell (p := ⟨w.heap.size, 2, none⟩) xl]; exact x2) | (rw [Q1.out.cell (p := ⟨w.heap.size, 2, none⟩) xl]; exact x2))
           · (first | (rw [Q2.out.cell (p := ⟨w.heap.size, 3, none⟩) xl]; exact x3) | (rw [Q1.out.cell (p := ⟨w.heap.size, 3, none⟩) xl]; exact x3))
           · (first | (rw [Q2.out.cell (p := ⟨w5.heap.size, 0, none⟩) el]; exact e0) | (rw [Q1.out.cell (p := ⟨w5.heap.size, 0, none⟩) el]; exact e0))
           · (first | (rw [Q2.out.cell (p := ⟨w5.heap.size, 1, none⟩) el]; exact e1) | (rw [Q1.out.cell (p := ⟨w5.heap.size, 1, none⟩) el]; exact e1))
           · (first | (rw [Q2.out.cell (p := ⟨w5.heap.size, 2, none⟩) el]; exact e2) | (rw [Q1.out.cell (p := ⟨w5.heap.size, 2, none⟩) el]; exact e2))
           · (first | (rw [Q2.out.cell (p := ⟨w5.heap.size, 3, none⟩) el]; exact e3) | (rw [Q1.out.cell (p := ⟨w5.heap.size, 3, none⟩) el]; exact e3))))
      ((first
        | (go_at_call 8; refine (RB.out _).mono ?_; rintro e w8 ⟨rfl, hb⟩; have Q2 : Hid (Below w6.heap.size w6 w8) := Lib.hid (Q1.out.trans (hb.mono Q1.out.size)); clear hb)
        | (go_at_call 7; refine (WK.out _ (HT.out.below (BW.out.trans ((Below.refl w6.heap.size w6).drew.mono BW.out.size)) (Nat.le_refl _))).mono ?_; rintro e w7 ⟨rfl, hb⟩; have Q1 : Hid (Below w6.heap.size w6 w7) := Lib.hid ((Below.refl w6.heap.size w6).drew.trans hb); clear hb)))
    all_goals
      clear x0 x1 x2 x3 xl a0 a1 a2 a3 al e0 e1 e2 e3 el
      go_wp2
      go_ret
      exact ⟨rfl, BW.out.trans (Q2.out.mono BW.out.size)⟩
  · have hb : goodB y3 = false ∨ isTurns bl = false := by
      cases h1 : goodB y3 with
      | false => exact Or.inl rfl
      | true =>
        cases h2 : isTurns bl with
        | false => exact Or.inr rfl
        | true => exact absurd ⟨h1, h2⟩ hg
    have hc : (if goodB y3 = false then (2 : Int) else if isTurns bl = false then 2 else 0) = 2 := by
      rcases hb with h | h
      · rw [if_pos h]
      · rw [if_pos h]; split <;> rfl
    rw [hc] at CK0
    have CK := Lib.hid CK0
    have b1 := fun w => backNo (y1, y2, y3, bl) w (by show bl.length ≤ 2000000; omega) hb
    have BK1 : Hid (∀ w, Calls Tryd.prog 5 #[.agg #[.int .i64 y1, .int .i64 y2, .int .i64 y3, .string (bs bl)]] w fun r w' => r = .returned (.tuple #[.agg #[.int .i64 0, .int .i64 0, .int .i64 0, .string ⟨#[]⟩], .int .i64 2]) ∧ Below w.heap.size w w') := Lib.hid b1
    have EDS : Hid (∀ w g T, w.heap[g]? = some (.cells #[.int .i64 0, .int .i64 0, .int .i64 y3, .string (bs bl)] T (0, 0)) → EdsAt w (.slice (some ⟨g, 0, none⟩) 1 1) [(0, 0, y3, bl)]) := Lib.hid (fun w g T h => edsOne w g 0 0 y3 bl T h)
    have hsz : (bs bl).size ≤ 50 := by rw [bs_size]; exact hl
    clear b1 CK0 ck hb hc hg
    generalize bs bl = sb at *
    have hq1 := fun W => eqlE_same W 0 0 0 ⟨#[]⟩
    obtain ⟨h, hh⟩ : ∃ h : Nat, min (s.size : Int) 50 = (h : Int) := ⟨(min (s.size : Int) 50).toNat, by omega⟩
    have hh2 : h ≤ s.size := by omega
    rw [hh, Int.toNat_natCast] at hs
    clear hT hl
    go_enter Tryd.func3, Tryd.ntmps3
    go_upto_region 2 with (fail)
    generalize hwb : World.alloc w _ = wb
    have B0 : Hid (Below w.heap.size w wb) := Lib.hid (by rw [← hwb]; exact (Below.refl _ _).alloc (Nat.le_refl _) _)
    have hkb : wb.heap[w.heap.size]? = some (.cells #[.int .i64 y1, .int .i64 y2, .int .i64 y3, .string sb] 23 (0, 0)) := by rw [← hwb]; exact heap_alloc_new w _
    have XX := Lib.hid (fun wr (b : Below wb.heap.size wb wr) => four_of ((b.block _ (Array.getElem?_eq_some_iff.1 hkb).1).trans hkb))
    obtain ⟨x0, x1, x2, x3, xl⟩ := XX.out wb (Below.refl _ _)
    clear hwb hkb
    go_upto_region 3 with (go_at_call 5; refine (BK1.out _).mono ?_; rintro e w1 ⟨rfl, b1⟩; have B1 : Hid (Below wb.heap.size wb w1) := Lib.hid b1; clear b1)
    generalize hw2 : World.alloc w1 _ = w2
    have B2 : Hid (Below wb.heap.size wb w2) := Lib.hid (by rw [← hw2]; exact B1.out.alloc B1.out.size _)
    have hk2 : w2.heap[w1.heap.size]? = some (.cells #[.int .i64 0, .int .i64 0, .int .i64 0, .string ⟨#[]⟩] 23 (0, 0)) := by rw [← hw2]; exact heap_alloc_new w1 _
    have AA := Lib.hid (fun wr (b : Below w2.heap.size w2 wr) => four_of ((b.block _ (Array.getElem?_eq_some_iff.1 hk2).1).trans hk2))
    clear hw2 hk2 x0 x1 x2 x3 xl
    obtain ⟨x0, x1, x2, x3, xl⟩ := XX.out w2 B2.out
    go_wp2_with (fail)
    generalize hw3 : World.alloc (World.alloc w2 _) _ = w3
    have b3 : Below w2.heap.size w2 w3 := by rw [← hw3]; exact ((Below.refl _ _).alloc (Nat.le_refl _) _).alloc (by simp) _
    have HB : BlsAt w3 (.slice (some ⟨w2.heap.size, 0, none⟩) 1 1) [false] := blsNew _ _ _ _ rfl _ (by rw [← hw3, Below.heap_alloc _ _ _ (by simp)]; exact heap_alloc_new w2 _)
    have HE : EdsAt w3 (.slice (some ⟨w2.heap.size + 1, 0, none⟩) 1 1) [(0, 0, y3, bl)] := EDS.out _ _ _ (by rw [← hw3]; exact heap_second w2 _ _)
    refine (CK.out _ _ w3 HB HE).mono ?_
    rintro e w4 ⟨rfl, b4⟩
    have b24 : Below w2.heap.size w2 w4 := b3.trans (b4.mono b3.size)
    have B4 : Hid (Below w.heap.size w w4) := Lib.hid (B0.out.trans ((B2.out.trans (b24.mono B2.out.size)).mono B0.out.size))
    have A4 := Lib.hid b24
    clear hw3 HB HE b3 b4 b24 x0 x1 x2 x3 xl
    go_wp2_with (go_at_call 7; refine (WK.out _ (HT.out.below B4.out (Nat.le_refl _))).mono ?_; rintro e w7 ⟨rfl, hb⟩; have B7 : Hid (Below w.heap.size w w7) := Lib.hid (B4.out.trans (hb.mono B4.out.size)); obtain ⟨a0, a1, a2, a3, al⟩ := AA.out w7 (A4.out.trans (hb.mono A4.out.size)); clear hb)
    go_ret
    exact ⟨rfl, B7.out⟩
theorem cut_text9 (s : ByteArray) (n : Nat) : (s.extract 0 (min (s.size : Int) n).toNat).size ≤ n := by
  rw [ByteArray.size_extract]; omega
theorem turns9 (y1 y2 y3 : Int) (s : ByteArray) (w : World) (hT : TabL w) :
    Calls Tryd.prog 3 #[.agg #[.int .i64 y1, .int .i64 y2, .int .i64 y3, .string s]] w fun r w' => r = .returned (.bool true) ∧ Below w.heap.size w w' :=
  turns_core y1 y2 y3 s (s.extract 0 (min (s.size : Int) 50).toNat).data.toList w hT (by rw [← size_list]; exact cut_text9 s 50) (bs_list _).symm
end Go.Proofs.YtgedcalplfnjmaaDoor
