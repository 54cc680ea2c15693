/-
  CompassLetters: the walk: at every int and every text the call answers true and turns nothing that was there. Conditions: the world holds the two tables.
-/
import Derived.Test.YtnfaebcbcmodmaaDoorCompassC
namespace Go.Proofs.YtnfaebcbcmodmaaDoor
open Go.RowKit

theorem of_letter_t (x : Int) (w : World) (h : 0 ≤ x ∧ x < 4) : Calls Tryd.prog 16 #[.string (letterS x)] w fun e w' => e = .returned (.tuple #[.int .i64 x, .bool true]) ∧ w' = w := by
  have hk : x = 0 ∨ x = 1 ∨ x = 2 ∨ x = 3 := by omega
  rcases hk with rfl | rfl | rfl | rfl
  · exact of_one 69 w
  · exact of_one 78 w
  · exact of_one 87 w
  · exact of_one 83 w
theorem of_letter_f (x : Int) (w : World) (h : ¬ (0 ≤ x ∧ x < 4)) : Calls Tryd.prog 16 #[.string (letterS x)] w fun e w' => e = .returned (.tuple #[.int .i64 0, .bool false]) ∧ w' = w := by
  rw [letterS_f h]; exact of_long _ w (by rfl)
theorem btw_step_t (x : Int) (h : 0 ≤ x ∧ x < 4) : btwI 0 0 (stepX x) (stepY x) = x := by
  have hk : x = 0 ∨ x = 1 ∨ x = 2 ∨ x = 3 := by omega
  rcases hk with rfl | rfl | rfl | rfl <;> rfl
theorem btw_step_f (x : Int) (h : ¬ (0 ≤ x ∧ x < 4)) : btwI 0 0 (stepX x) (stepY x) = -1 := by
  have e1 : stepX x = 0 := by unfold stepX; rw [if_neg (by omega), if_neg (by omega)]
  have e2 : stepY x = 0 := by unfold stepY; rw [if_neg (by omega), if_neg (by omega)]
  rw [e1, e2]; rfl
theorem dirD_t (x : Int) (h : 0 ≤ x ∧ x < 4) : dirD x = x := by unfold dirD; rw [if_neg (by omega)]
theorem dirB_t (x : Int) (h : 0 ≤ x ∧ x < 4) : dirB x = true := by unfold dirB; rw [if_neg (by omega)]

/-- The loop's relation: the list of two numbers lies in block B, and below B nothing has turned. -/
def LettersRel (B : Nat) (w wr : World) (i : Value) : Prop :=
  ∃ (k : Nat) (a b : Int), k ≤ 2 ∧ i = .int .i64 k ∧ Below B w wr ∧ B < wr.heap.size ∧ wr.cell? ⟨B, 0, none⟩ = some (.int .i64 a) ∧ wr.cell? ⟨B, 1, none⟩ = some (.int .i64 b)

/-- What the law's text is: a direction's letter, or none's. -/
def Text (s : ByteArray) (e : Int) (o : Bool) : Prop :=
  (o = false ∧ e = 0 ∧ (s.toList == [69]) = false ∧ (s.toList == [78]) = false ∧ (s.toList == [87]) = false ∧ (s.toList == [83]) = false) ∨ (o = true ∧ s.toList = [69] ∧ (letterS e).toList = [69]) ∨ (o = true ∧ s.toList = [78] ∧ (letterS e).toList = [78]) ∨
  (o = true ∧ s.toList = [87] ∧ (letterS e).toList = [87]) ∨ (o = true ∧ s.toList = [83] ∧ (letterS e).toList = [83])

set_option maxHeartbeats 2000000 in
theorem letters_core (d : Int) (s : ByteArray) (w : World) (hT : Tabs w) (e1 : Int) (o : Bool) (hof : ∀ w, Calls Tryd.prog 16 #[.string s] w fun e w' => e = .returned (.tuple #[.int .i64 e1, .bool o]) ∧ w' = w) (htext : Text s e1 o) :
    Calls Tryd.prog 4 #[.int .i64 d, .string s] w fun r w' => r = .returned (.bool true) ∧ Below w.heap.size w w' := by
  have hr2 := hT.room
  have HT := Lib.hid hT
  have HX := Lib.hid htext
  have HO := Lib.hid hof
  clear hT htext hof
  go_enter Tryd.func4, Tryd.ntmps4
  go_wp2
  all_goals
    go_loopw [21] (fun i wr => LettersRel w.heap.size w wr i) (fun i _ => 2 - (intOf i).toNat)
    case atStart => exact ⟨0, _, _, by omega, rfl, (Below.refl _ _).alloc (Nat.le_refl _) _, by simp, by go_simp; rfl, by go_simp; rfl⟩
    case round =>
      obtain ⟨k, a, b, hk, rfl, hb, hs, c0, c1⟩ := hrel
      have HB := Lib.hid hb
      have T := Lib.hid (HT.out.below hb hr2)
      clear hb
      by_cases h0 : k = 0
      · subst h0
        by_cases hg : 0 ≤ a ∧ a < 4
        · have hgd := goodB_t hg.1 hg.2
          have G := Lib.hid hg
          clear hg
          go_wp2_with (first
            | (go_at_call 15; refine (kept (letter_any _ _)).mono ?_; rintro e w' ⟨rfl, rfl⟩)
            | (go_at_call 16; refine (kept (of_letter_t _ _ G.out)).mono ?_; rintro e w' ⟨rfl, rfl⟩)
            | (go_at_call 17; refine (rletter_any _ _).mono ?_; rintro e w1 ⟨rfl, hb1⟩; obtain ⟨hc1, hf1⟩ := bcell hb1; have T1 := Lib.hid (T.out.below hb1 (by have := T.out.room; omega)); have Q1 := Lib.hid hb1; clear hb1)
            | (go_at_call 9; refine (kept (rgood_any _ _)).mono ?_; rintro e w' ⟨rfl, rfl⟩)
            | (go_at_call 19; refine (step_any _ _ T1.out).mono ?_; rintro e w2 ⟨rfl, hb2⟩; obtain ⟨hc2, hf2⟩ := bcell hb2; have Q2 := Lib.hid (Q1.out.trans (hb2.mono (by omega))); clear hb2)
            | (go_at_call 18; refine (between_k _ _ _ _ _ _ _ _ (btw_step_t _ G.out) (dirD_t _ G.out) (dirB_t _ G.out)).mono ?_; rintro e w3 ⟨rfl, hb3⟩; obtain ⟨hc3, hf3⟩ := bcell hb3; have Q3 := Lib.hid (Q2.out.trans (hb3.mono (by omega))); clear hb3))
          have z3 : w.heap.size < w3.heap.size := by omega
          go_roundw
          case rel => exact ⟨1, a, b, by omega, by go_num, HB.out.trans (Q3.out.mono (by omega)), z3, (Q3.out.cell (p := ⟨w.heap.size, 0, none⟩) hs).trans c0, (Q3.out.cell (p := ⟨w.heap.size, 1, none⟩) hs).trans c1⟩
          case measure => simp [intOf]
        · have hgd := goodB_f hg
          have G := Lib.hid hg
          clear hg
          go_wp2_with (first
            | (go_at_call 15; refine (kept (letter_any _ _)).mono ?_; rintro e w' ⟨rfl, rfl⟩)
            | (go_at_call 16; refine (kept (of_letter_f _ _ G.out)).mono ?_; rintro e w' ⟨rfl, rfl⟩)
            | (go_at_call 17; refine (rletter_any _ _).mono ?_; rintro e w1 ⟨rfl, hb1⟩; obtain ⟨hc1, hf1⟩ := bcell hb1; have T1 := Lib.hid (T.out.below hb1 (by have := T.out.room; omega)); have Q1 := Lib.hid hb1; clear hb1)
            | (go_at_call 9; refine (kept (rgood_any _ _)).mono ?_; rintro e w' ⟨rfl, rfl⟩)
            | (go_at_call 19; refine (step_any _ _ T1.out).mono ?_; rintro e w2 ⟨rfl, hb2⟩; obtain ⟨hc2, hf2⟩ := bcell hb2; have Q2 := Lib.hid (Q1.out.trans (hb2.mono (by omega))); clear hb2)
            | (go_at_call 18; refine (between_k _ _ _ _ _ _ _ _ (btw_step_f _ G.out) rfl rfl).mono ?_; rintro e w3 ⟨rfl, hb3⟩; obtain ⟨hc3, hf3⟩ := bcell hb3; have Q3 := Lib.hid (Q2.out.trans (hb3.mono (by omega))); clear hb3))
          have z3 : w.heap.size < w3.heap.size := by omega
          go_roundw
          case rel => exact ⟨1, a, b, by omega, by go_num, HB.out.trans (Q3.out.mono (by omega)), z3, (Q3.out.cell (p := ⟨w.heap.size, 0, none⟩) hs).trans c0, (Q3.out.cell (p := ⟨w.heap.size, 1, none⟩) hs).trans c1⟩
          case measure => simp [intOf]
      by_cases h1 : k = 1
      · subst h1
        by_cases hg : 0 ≤ b ∧ b < 4
        · have hgd := goodB_t hg.1 hg.2
          have G := Lib.hid hg
          clear hg
          go_wp2_with (first
            | (go_at_call 15; refine (kept (letter_any _ _)).mono ?_; rintro e w' ⟨rfl, rfl⟩)
            | (go_at_call 16; refine (kept (of_letter_t _ _ G.out)).mono ?_; rintro e w' ⟨rfl, rfl⟩)
            | (go_at_call 17; refine (rletter_any _ _).mono ?_; rintro e w1 ⟨rfl, hb1⟩; obtain ⟨hc1, hf1⟩ := bcell hb1; have T1 := Lib.hid (T.out.below hb1 (by have := T.out.room; omega)); have Q1 := Lib.hid hb1; clear hb1)
            | (go_at_call 9; refine (kept (rgood_any _ _)).mono ?_; rintro e w' ⟨rfl, rfl⟩)
            | (go_at_call 19; refine (step_any _ _ T1.out).mono ?_; rintro e w2 ⟨rfl, hb2⟩; obtain ⟨hc2, hf2⟩ := bcell hb2; have Q2 := Lib.hid (Q1.out.trans (hb2.mono (by omega))); clear hb2)
            | (go_at_call 18; refine (between_k _ _ _ _ _ _ _ _ (btw_step_t _ G.out) (dirD_t _ G.out) (dirB_t _ G.out)).mono ?_; rintro e w3 ⟨rfl, hb3⟩; obtain ⟨hc3, hf3⟩ := bcell hb3; have Q3 := Lib.hid (Q2.out.trans (hb3.mono (by omega))); clear hb3))
          have z3 : w.heap.size < w3.heap.size := by omega
          go_roundw
          case rel => exact ⟨2, a, b, by omega, by go_num, HB.out.trans (Q3.out.mono (by omega)), z3, (Q3.out.cell (p := ⟨w.heap.size, 0, none⟩) hs).trans c0, (Q3.out.cell (p := ⟨w.heap.size, 1, none⟩) hs).trans c1⟩
          case measure => simp [intOf]
        · have hgd := goodB_f hg
          have G := Lib.hid hg
          clear hg
          go_wp2_with (first
            | (go_at_call 15; refine (kept (letter_any _ _)).mono ?_; rintro e w' ⟨rfl, rfl⟩)
            | (go_at_call 16; refine (kept (of_letter_f _ _ G.out)).mono ?_; rintro e w' ⟨rfl, rfl⟩)
            | (go_at_call 17; refine (rletter_any _ _).mono ?_; rintro e w1 ⟨rfl, hb1⟩; obtain ⟨hc1, hf1⟩ := bcell hb1; have T1 := Lib.hid (T.out.below hb1 (by have := T.out.room; omega)); have Q1 := Lib.hid hb1; clear hb1)
            | (go_at_call 9; refine (kept (rgood_any _ _)).mono ?_; rintro e w' ⟨rfl, rfl⟩)
            | (go_at_call 19; refine (step_any _ _ T1.out).mono ?_; rintro e w2 ⟨rfl, hb2⟩; obtain ⟨hc2, hf2⟩ := bcell hb2; have Q2 := Lib.hid (Q1.out.trans (hb2.mono (by omega))); clear hb2)
            | (go_at_call 18; refine (between_k _ _ _ _ _ _ _ _ (btw_step_f _ G.out) rfl rfl).mono ?_; rintro e w3 ⟨rfl, hb3⟩; obtain ⟨hc3, hf3⟩ := bcell hb3; have Q3 := Lib.hid (Q2.out.trans (hb3.mono (by omega))); clear hb3))
          have z3 : w.heap.size < w3.heap.size := by omega
          go_roundw
          case rel => exact ⟨2, a, b, by omega, by go_num, HB.out.trans (Q3.out.mono (by omega)), z3, (Q3.out.cell (p := ⟨w.heap.size, 0, none⟩) hs).trans c0, (Q3.out.cell (p := ⟨w.heap.size, 1, none⟩) hs).trans c1⟩
          case measure => simp [intOf]
      obtain rfl : k = 2 := by omega
      have X := HX.out
      unfold Text at X
      rcases X with ⟨rfl, rfl, t1, t2, t3, t4⟩ | ⟨rfl, t1, t2⟩ | ⟨rfl, t1, t2⟩ | ⟨rfl, t1, t2⟩ | ⟨rfl, t1, t2⟩
      all_goals
        go_wp2_with (first
          | (go_at_call 16; refine (kept (HO.out _)).mono ?_; rintro e w' ⟨rfl, rfl⟩)
          | (go_at_call 14; refine (wakes_any _ T.out).mono ?_; rintro e w2 ⟨rfl, hb2⟩; have Q := Lib.hid (HB.out.trans (hb2.mono (by omega))); have z2 : w.heap.size < w2.heap.size := (by have := hb2.size; omega); clear hb2)
          | (go_at_call 17; refine (rletter_any _ _).mono ?_; rintro e w3 ⟨rfl, hb3⟩; have Q' := Lib.hid (Q.out.trans (hb3.mono (by omega))); clear hb3))
        go_ret
        first | exact ⟨rfl, Q'.out⟩ | exact ⟨rfl, Q.out⟩

theorem toList_one (c : UInt8) : (ByteArray.mk #[c]).toList = [c] := by rw [Lib.toList_data]
theorem letter_list (s : ByteArray) (c : UInt8) (h : s = ⟨#[c]⟩) : s.toList = [c] := by rw [h, toList_one]

theorem letters_any (d : Int) (s : ByteArray) (w : World) (hT : Tabs w) : Calls Tryd.prog 4 #[.int .i64 d, .string s] w fun r w' => r = .returned (.bool true) ∧ Below w.heap.size w w' := by
  by_cases hs : s.size = 1
  · obtain ⟨c, rfl⟩ : ∃ c, s = ⟨#[c]⟩ := by
      obtain ⟨⟨l⟩⟩ := s
      match l, hs with
      | [c], _ => exact ⟨c, rfl⟩
    by_cases h0 : c = 69
    · subst h0; exact letters_core d _ w hT 0 true (fun w => of_one 69 w) (Or.inr (Or.inl ⟨rfl, toList_one _, letter_list _ _ rfl⟩))
    by_cases h1 : c = 78
    · subst h1; exact letters_core d _ w hT 1 true (fun w => of_one 78 w) (Or.inr (Or.inr (Or.inl ⟨rfl, toList_one _, letter_list _ _ rfl⟩)))
    by_cases h2 : c = 87
    · subst h2; exact letters_core d _ w hT 2 true (fun w => of_one 87 w) (Or.inr (Or.inr (Or.inr (Or.inl ⟨rfl, toList_one _, letter_list _ _ rfl⟩))))
    by_cases h3 : c = 83
    · subst h3; exact letters_core d _ w hT 3 true (fun w => of_one 83 w) (Or.inr (Or.inr (Or.inr (Or.inr ⟨rfl, toList_one _, letter_list _ _ rfl⟩))))
    have e : ofC c = -1 := by unfold ofC; rw [if_neg h0, if_neg h1, if_neg h2, if_neg h3]
    refine letters_core d _ w hT 0 false (fun w => ?_) (Or.inl ⟨rfl, rfl, ?_, ?_, ?_, ?_⟩)
    · have := of_one c w
      rw [e] at this
      exact this
    all_goals
      rw [toList_one]
      simpa
  · refine letters_core d s w hT 0 false (fun w => of_long s w (by simp; omega)) (Or.inl ⟨rfl, rfl, ?_, ?_, ?_, ?_⟩)
    all_goals
      rw [Lib.toList_data]
      apply beq_false_of_ne
      intro h
      apply hs
      have := congrArg List.length h
      simpa using this
end Go.Proofs.YtnfaebcbcmodmaaDoor
