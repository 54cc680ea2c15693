/-
  ParseRight: the walk: at every text the call answers true and turns nothing that was there. Conditions: the library's tables are laid.
-/
import Derived.Test.YtgchmoabhblmcaaDoorParY
namespace Go.Proofs.YtgchmoabhblmcaaDoor
open Go.RowKit Go.Proofs.YtgchmoabhblmcaaDoor.LexM Go.Proofs.YtgchmoabhblmcaaDoor.ParM

theorem countLf (p : ByteArray) (w : World) :
    Calls Tryd.prog 10 #[.string p, .string ⟨#[10]⟩] w fun e w' => e = .returned (.int .i64 ((p.data.toList.count 10 : Nat) : Int)) ∧ w = w' := by
  refine (Go.Proofs.Tryd.strings_Count_one p 10 w).mono ?_
  rintro e w' ⟨rfl, rfl⟩
  exact ⟨rfl, rfl⟩
theorem par_small {l : List UInt8} (h : (par l).1 = 0) : (par l).2.2.1.length ≤ 4096 ∧ (par l).2.2.2.length ≤ 4096 ∧ ∀ e ∈ (par l).2.2.2, e.2.2.2.length ≤ 1000000 := by
  have hM := par_may h
  refine ⟨hM.vs, hM.es, fun e he => ?_⟩
  have hb := hM.bs
  obtain ⟨a, b, hab⟩ := List.append_of_mem he
  rw [hab] at hb
  unfold bendsOf at hb
  rw [List.map_append, List.sum_append, List.map_cons, List.sum_cons] at hb
  omega
set_option maxHeartbeats 8000000 in
set_option maxRecDepth 100000 in
theorem right_core (s : ByteArray) (w : World) (hT : TabL w) (t : ByteArray) (ht : t.size ≤ 1000) (hs : s.extract 0 (min (s.size : Int) 1000).toNat = t) :
    Calls Tryd.prog 4 #[.string s] w fun r w' => r = .returned (.bool true) ∧ Below w.heap.size w w' := by
  have HT := Lib.hid hT
  have P := Lib.hid (fun w hT => parse t w hT)
  have CN := Lib.hid (countLf t)
  have L := Lib.hid (par_line t.data.toList)
  have hcl := List.count_le_length (a := (10 : UInt8)) (l := t.data.toList)
  have hz := size_list t
  have hc1 : t.data.toList.count 10 ≤ 1000 := by omega
  have NO := Lib.hid (par_none (s := t.data.toList))
  have SM := Lib.hid (par_small (l := t.data.toList))
  have MY := Lib.hid (par_may (s := t.data.toList))
  clear hT hcl hz
  generalize t.data.toList.count 10 = cn at *
  obtain ⟨z, hze⟩ : ∃ z, (par t.data.toList).1 = z := ⟨_, rfl⟩
  obtain ⟨n, hne⟩ : ∃ n, (par t.data.toList).2.1 = n := ⟨_, rfl⟩
  have PQ : Hid (∀ w, TabL w → Calls Tryd.prog 5 #[.string t] w fun e w' => ∃ bv ev, e = .returned (.tuple #[.agg #[bv, ev], .int .i64 n, .int .i64 z]) ∧ BlsAt w' bv (par t.data.toList).2.2.1 ∧ EdsAt w' ev (par t.data.toList).2.2.2 ∧ Below w.heap.size w w') := Lib.hid (fun w hT => by
    have h := P.out w hT; unfold ParP at h; rw [hze, hne] at h; exact h)
  have L2 := L.out
  rw [hze, hne] at L2
  have hn0 := L2.2.1
  have hn1 := L2.2.2
  by_cases hz0 : z = 0
  · have hnz : n = 0 := L2.1 hz0
    have hp0 : (par t.data.toList).1 = 0 := hze.trans hz0
    have C0 := Lib.hid (chk_ok (MY.out hp0))
    have S0 := Lib.hid (SM.out hp0)
    obtain ⟨B, hB⟩ : ∃ B, (par t.data.toList).2.2.1 = B := ⟨_, rfl⟩
    obtain ⟨E, hE⟩ : ∃ E, (par t.data.toList).2.2.2 = E := ⟨_, rfl⟩
    have c0 := C0.out
    have s0 := S0.out
    have PR := PQ.out
    rw [hB, hE] at c0 s0 PR
    have PS := Lib.hid PR
    have CS : Hid (∀ bv ev w, BlsAt w bv B → EdsAt w ev E → Calls Tryd.prog 11 #[.agg #[bv, ev]] w fun r w' => r = .returned (.int .i64 0) ∧ Below w.heap.size w w') := Lib.hid (fun bv ev w h1 h2 => by
      rw [← c0]; exact checkS bv ev B E w h1 h2 (by omega) (by omega) s0.2.2)
    subst hnz hz0
    clear P L L2 NO SM MY hp0 C0 S0 c0 s0 PQ PR hze hne hB hE
    go_enter Tryd.func4, Tryd.ntmps4
    go_wp2_with (fail)
    refine (PS.out _ HT.out).mono ?_
    rintro e w1 ⟨bv, ev, rfl, hb, he, hw⟩
    obtain ⟨A1, c1, e⟩ := hb.form
    obtain ⟨A2, c2, e'⟩ := he.form
    generalize B.length = nB at e
    generalize E.length = nE at e'
    subst e e'
    have HB := Lib.hid hb
    have HE := Lib.hid he
    have B1 := Lib.hid hw
    clear hb he hw
    go_upto_region 3 with (fail)
    generalize hwa : World.alloc w1 _ = wa
    have ba : Below w1.heap.size w1 wa := by rw [← hwa]; exact (Below.refl _ _).alloc (Nat.le_refl _) _
    have hk : wa.heap[w1.heap.size]? = some (.cells #[.slice A1 nB c1, .slice A2 nE c2] 25 (0, 0)) := by rw [← hwa]; exact heap_alloc_new w1 _
    have K := Lib.hid hk
    have hlk : w1.heap.size < wa.heap.size := (Array.getElem?_eq_some_iff.1 hk).1
    have BA : Hid (Below w.heap.size w wa) := Lib.hid (B1.out.trans (ba.mono B1.out.size))
    have BX := Lib.hid ba
    clear hwa hk ba
    go_wp2_with (first
      | (go_at_call 7; refine (wakes8 _ (HT.out.below BA.out (Nat.le_refl _))).mono ?_; rintro e w2 ⟨rfl, b2⟩; have BB := Lib.hid (BX.out.trans (b2.mono BX.out.size)); have B2 := Lib.hid (BA.out.trans (b2.mono BA.out.size)); have y0 : w2.cell? ⟨w1.heap.size, 0, none⟩ = some (.slice A1 nB c1) := (by have h := b2.block _ hlk; rw [K.out] at h; simp [World.cell?, h]); have y1 : w2.cell? ⟨w1.heap.size, 1, none⟩ = some (.slice A2 nE c2) := (by have h := b2.block _ hlk; rw [K.out] at h; simp [World.cell?, h]); have yl := Nat.lt_of_lt_of_le hlk b2.size; clear b2)
      | (go_at_call 11; refine (CS.out _ _ _ (HB.out.below BB.out (Nat.le_refl _)) (HE.out.below BB.out (Nat.le_refl _))).mono ?_; rintro e w3 ⟨rfl, b3⟩; have B3 := Lib.hid (B2.out.trans (b3.mono B2.out.size)); clear b3))
    go_ret
    exact ⟨rfl, B3.out⟩
  · have hN := NO.out (by rw [hze]; exact hz0)
    have PR := PQ.out
    rw [hN.1, hN.2] at PR
    have PS : Hid (∀ w, TabL w → Calls Tryd.prog 5 #[.string t] w fun e w' => ∃ A1 c1 A2 c2, e = .returned (.tuple #[.agg #[.slice A1 0 c1, .slice A2 0 c2], .int .i64 n, .int .i64 z]) ∧ Below w.heap.size w w') := Lib.hid (fun w hT => by
      refine (PR w hT).mono ?_
      rintro e w' ⟨bv, ev, rfl, hb, he, hw⟩
      obtain ⟨A1, c1, rfl⟩ := hb.form
      obtain ⟨A2, c2, rfl⟩ := he.form
      exact ⟨A1, c1, A2, c2, rfl, hw⟩)
    have EQ : Hid (∀ A1 c1 A2 c2 w, Calls Tryd.prog 9 #[.agg #[.slice A1 0 c1, .slice A2 0 c2], .agg #[.slice none 0 0, .slice none 0 0]] w fun r w' => r = .returned (.bool true) ∧ Below w.heap.size w w') := Lib.hid (fun A1 c1 A2 c2 w =>
      equalShape _ _ _ _ [] [] [] [] w ⟨A1, c1, rfl, by simp, fun h => absurd h (by simp)⟩ ⟨A2, c2, rfl, by simp, fun h => absurd h (by simp)⟩ (BlsAt.nil w) (EdsAt.nil w) (by simp) (by simp) (by simp) (by simp))
    have q1 : (z == 0) = false := by simpa using hz0
    have q2 : (z != 0) = true := by simpa using hz0
    have hw1 : wrap64 ((cn : Int) + 1) = cn + 1 := by unfold wrap64; omega
    clear P L L2 NO SM MY PQ PR hze hne hN hz0
    go_enter Tryd.func4, Tryd.ntmps4
    go_wp2_with (fail)
    refine (PS.out _ HT.out).mono ?_
    rintro e w1 ⟨A1, c1, A2, c2, rfl, hw⟩
    have B1 := Lib.hid hw
    clear hw
    go_upto_region 3 with (fail)
    generalize hwa : World.alloc w1 _ = wa
    have ba : Below w1.heap.size w1 wa := by rw [← hwa]; exact (Below.refl _ _).alloc (Nat.le_refl _) _
    have hk : wa.heap[w1.heap.size]? = some (.cells #[.slice A1 0 c1, .slice A2 0 c2] 25 (0, 0)) := by rw [← hwa]; exact heap_alloc_new w1 _
    have K := Lib.hid hk
    have hlk : w1.heap.size < wa.heap.size := (Array.getElem?_eq_some_iff.1 hk).1
    have BA : Hid (Below w.heap.size w wa) := Lib.hid (B1.out.trans (ba.mono B1.out.size))
    clear hwa hk ba
    go_wp2_with (first
      | (go_at_call 7; refine (wakes8 _ (HT.out.below BA.out (Nat.le_refl _))).mono ?_; rintro e w2 ⟨rfl, b2⟩; have B2 := Lib.hid (BA.out.trans (b2.mono BA.out.size)); have y0 : w2.cell? ⟨w1.heap.size, 0, none⟩ = some (.slice A1 0 c1) := (by have h := b2.block _ hlk; rw [K.out] at h; simp [World.cell?, h]); have y1 : w2.cell? ⟨w1.heap.size, 1, none⟩ = some (.slice A2 0 c2) := (by have h := b2.block _ hlk; rw [K.out] at h; simp [World.cell?, h]); have yl := Nat.lt_of_lt_of_le hlk b2.size; clear b2)
      | (go_at_call 9; refine (EQ.out _ _ _ _ _).mono ?_; rintro e w3 ⟨rfl, b3⟩; have B3 := Lib.hid (B2.out.trans (b3.mono B2.out.size)); clear b3)
      | (go_at_call 10; refine (CN.out _).mono ?_; rintro e w4 ⟨rfl, rfl⟩))
    go_ret
    exact ⟨ret_bool (by simp <;> omega), B3.out⟩
theorem cut_text8 (s : ByteArray) (n : Nat) : (s.extract 0 (min (s.size : Int) n).toNat).size ≤ n := by
  rw [ByteArray.size_extract]; omega
theorem right8 (s : ByteArray) (w : World) (hT : TabL w) :
    Calls Tryd.prog 4 #[.string s] w fun r w' => r = .returned (.bool true) ∧ Below w.heap.size w w' :=
  right_core s w hT _ (cut_text8 s 1000) rfl
end Go.Proofs.YtgchmoabhblmcaaDoor
