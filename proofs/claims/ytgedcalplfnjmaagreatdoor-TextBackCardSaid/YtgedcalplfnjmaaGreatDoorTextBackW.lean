/-
  TextBack: the walk: at every text the call answers true and turns nothing that was there. Conditions: the library's tables are laid.
-/
import Derived.Test.YtgedcalplfnjmaaGreatDoorTxtK
import Derived.Test.YtgedcalplfnjmaaGreatDoorParH
namespace Go.Proofs.YtgedcalplfnjmaaGreatDoor
open Go.RowKit Go.Proofs.YtgedcalplfnjmaaGreatDoor.LexM Go.Proofs.YtgedcalplfnjmaaGreatDoor.ParM

set_option maxHeartbeats 8000000 in
set_option maxRecDepth 100000 in
theorem back_core (s : ByteArray) (w : World) (hT : TabL w) (t : ByteArray) (hs : s.extract 0 (min (s.size : Int) 1000).toNat = t) :
    Calls Tryz.prog 3 #[.string s] w fun r w' => r = .returned (.bool true) ∧ Below w.heap.size w w' := by
  have HT := Lib.hid hT
  have WK := Lib.hid wakes9
  obtain ⟨z, hze⟩ : ∃ z, (par t.data.toList).1 = z := ⟨_, rfl⟩
  obtain ⟨n, hne⟩ : ∃ n, (par t.data.toList).2.1 = n := ⟨_, rfl⟩
  have PQ0 : ∀ w, TabL w → Calls Tryz.prog 4 #[.string t] w fun e w' => ∃ bv ev, e = .returned (.tuple #[.agg #[bv, ev], .int .i64 n, .int .i64 z]) ∧ BlsAt w' bv (par t.data.toList).2.2.1 ∧ EdsAt w' ev (par t.data.toList).2.2.2 ∧ Below w.heap.size w w' := fun w hT => by
    have h := parse t w hT; unfold ParP at h; rw [hze, hne] at h; exact h
  obtain ⟨B, hB⟩ : ∃ B, (par t.data.toList).2.2.1 = B := ⟨_, rfl⟩
  obtain ⟨E, hE⟩ : ∃ E, (par t.data.toList).2.2.2 = E := ⟨_, rfl⟩
  have hPM := par_may (s := t.data.toList)
  have hPP := print_par (s := t.data.toList)
  rw [hB, hE] at PQ0 hPM hPP
  rw [hze] at hPM hPP
  have PQ := Lib.hid PQ0
  obtain ⟨h, hh⟩ : ∃ h : Nat, min (s.size : Int) 1000 = (h : Int) := ⟨(min (s.size : Int) 1000).toNat, by omega⟩
  have hh2 : h ≤ s.size := by omega
  rw [hh, Int.toNat_natCast] at hs
  by_cases hz0 : z = 0
  · have hp := hPP hz0
    have hM := hPM hz0
    have PT0 : ∀ bv ev w, BlsAt w bv B → EdsAt w ev E → TabL w → Calls Tryz.prog 6 #[.agg #[bv, ev]] w fun r w' => r = .returned (.tuple #[.string t, .int .i64 0]) ∧ Below w.heap.size w w' := fun bv ev w h1 h2 h3 => by
      have h := printT bv ev B E w h1 h2 hM h3
      rw [hp, bs_list] at h
      exact h
    have PT := Lib.hid PT0
    subst hz0
    clear hp hM hPP hPM PT0 PQ0 hze hne hT
    go_enter Tryz.func3, Tryz.ntmps3
    go_wp2_with (fail)
    refine (PQ.out _ HT.out).mono ?_
    rintro e w1 ⟨bv, ev, rfl, hb, he, hw⟩
    obtain ⟨A1, c1, e⟩ := hb.form
    obtain ⟨A2, c2, e'⟩ := he.form
    generalize B.length = nB at e
    generalize E.length = nE at e'
    subst e e'
    have HB := Lib.hid hb
    have HE := Lib.hid he
    have B1 := Lib.hid hw
    clear hb he hw hB hE
    go_upto_region 3 with (fail)
    generalize hwa : World.alloc w1 _ = wa
    have ba : Below w1.heap.size w1 wa := by rw [← hwa]; exact (Below.refl _ _).alloc (Nat.le_refl _) _
    have hk : wa.heap[w1.heap.size]? = some (.cells #[.slice A1 nB c1, .slice A2 nE c2] 25 (0, 0)) := by rw [← hwa]; exact heap_alloc_new w1 _
    have x0 : wa.cell? ⟨w1.heap.size, 0, none⟩ = some (.slice A1 nB c1) := by simp [World.cell?, hk]
    have x1 : wa.cell? ⟨w1.heap.size, 1, none⟩ = some (.slice A2 nE c2) := by simp [World.cell?, hk]
    have xl : w1.heap.size < wa.heap.size := (Array.getElem?_eq_some_iff.1 hk).1
    have BA : Hid (Below w.heap.size w wa) := Lib.hid (B1.out.trans (ba.mono B1.out.size))
    have BX := Lib.hid ba
    clear hwa hk ba
    go_wp2_with (first
      | (go_at_call 5; refine (WK.out _ (HT.out.below B2.out (Nat.le_refl _))).mono ?_; rintro e w3 ⟨rfl, b3⟩; have B3 : Hid (Below w.heap.size w w3) := Lib.hid (B2.out.trans (b3.mono B2.out.size)); clear b3)
      | (go_at_call 6; refine (PT.out _ _ _ (HB.out.below BX.out (Nat.le_refl _)) (HE.out.below BX.out (Nat.le_refl _)) (HT.out.below BA.out (Nat.le_refl _))).mono ?_; rintro e w2 ⟨rfl, b2⟩; have B2 : Hid (Below w.heap.size w w2) := Lib.hid (BA.out.trans (b2.mono BA.out.size)); clear b2))
    go_ret
    exact ⟨rfl, B3.out⟩
  · have q1 : (z == 0) = false := by simpa using hz0
    have q2 : (z != 0) = true := by simpa using hz0
    clear hPP hPM PQ0 hze hne hT hz0
    go_enter Tryz.func3, Tryz.ntmps3
    go_wp2_with (fail)
    refine (PQ.out _ HT.out).mono ?_
    rintro e w1 ⟨bv, ev, rfl, hb, he, hw⟩
    obtain ⟨A1, c1, e⟩ := hb.form
    obtain ⟨A2, c2, e'⟩ := he.form
    generalize B.length = nB at e
    generalize E.length = nE at e'
    subst e e'
    have B1 := Lib.hid hw
    clear hb he hw hB hE
    go_wp2_with (go_at_call 5; refine (WK.out _ (HT.out.below (B1.out.alloc B1.out.size _) (Nat.le_refl _))).mono ?_; rintro e w3 ⟨rfl, b3⟩; have B3 : Hid (Below w.heap.size w w3) := Lib.hid ((B1.out.alloc B1.out.size _).trans (b3.mono (B1.out.alloc B1.out.size _).size)); clear b3)
    go_ret
    exact ⟨rfl, B3.out⟩
theorem back9_law (s : ByteArray) (w : World) (hT : TabL w) :
    Calls Tryz.prog 3 #[.string s] w fun r w' => r = .returned (.bool true) ∧ Below w.heap.size w w' :=
  back_core s w hT _ rfl
end Go.Proofs.YtgedcalplfnjmaaGreatDoor
