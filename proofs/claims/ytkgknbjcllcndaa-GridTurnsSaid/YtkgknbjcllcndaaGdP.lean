/-
  What the code's and the reference's Split and Join answer and leave, at any arguments, in one function each. Conditions: fewer than 4096 cells, that may be.
-/
import Derived.Test.YtkgknbjcllcndaaGdK
import Derived.Test.YtkgknbjcllcndaaGrK
import Derived.Test.YtkgknbjcllcndaaGrS
namespace Go.Proofs.Ytkgknbjcllcndaa
open Go.RowKit Go.Proofs.Ytkgknbjcllcndaa.GrM

structure SpR where
  u : Int
  e : Int
  L : List Int
  n : Nat
/-- What a split is: the new cell, the error, the cells then. -/
noncomputable def splO (L : List Int) (n : Nat) (x d : Int) : SpR := open Classical in
  if badS n x d then ⟨0, 2, L, n⟩ else if nxG L x.toNat d.toNat = -1 then ⟨0, 9, L, n⟩
  else ⟨n, 0, splitG L n x.toNat d.toNat (nxG L x.toNat d.toNat).toNat (owG L x.toNat d.toNat), n + 1⟩
/-- What a join is: the error, the cells then. -/
noncomputable def joiO (L : List Int) (n : Nat) (x d y o : Int) : Int × List Int := open Classical in
  if badJ n x d y o then (2, L) else if nxG L x.toNat d.toNat ≠ -1 ∨ nxG L y.toNat (opp d.toNat) ≠ -1 then (9, L) else (0, joinG L x.toNat d.toNat y.toNat o)
theorem spl_good {L : List Int} {n : Nat} {x d : Int} (hl : L.length = n * 8) (hg : GoodG L n) : GoodG (splO L n x d).L (splO L n x d).n ∧ (splO L n x d).n ≤ n + 1 ∧ n ≤ (splO L n x d).n := by
  unfold splO
  by_cases hb : badS n x d
  · rw [if_pos hb]; exact ⟨hg, Nat.le_succ _, Nat.le_refl _⟩
  · rw [if_neg hb]
    by_cases h1 : nxG L x.toNat d.toNat = -1
    · rw [if_pos h1]; exact ⟨hg, Nat.le_succ _, Nat.le_refl _⟩
    · rw [if_neg h1]
      unfold badS at hb
      have hs := hg.side (v := x.toNat) (d := d.toNat) (by omega) (by omega)
      rcases hs with hs | hs
      · exact absurd hs.1 h1
      · exact ⟨split_good hl hg (by omega) (by omega) (by omega) (by omega) rfl, Nat.le_refl _, Nat.le_succ _⟩
theorem joi_good {L : List Int} {n : Nat} {x d y o : Int} (hl : L.length = n * 8) (hg : GoodG L n) : GoodG (joiO L n x d y o).2 n := by
  unfold joiO
  by_cases hb : badJ n x d y o
  · rw [if_pos hb]; exact hg
  · rw [if_neg hb]
    by_cases h1 : nxG L x.toNat d.toNat ≠ -1 ∨ nxG L y.toNat (opp d.toNat) ≠ -1
    · rw [if_pos h1]; exact hg
    · rw [if_neg h1]
      unfold badJ at hb
      simp only [not_or, Decidable.not_not] at h1
      exact join_good hl hg (by omega) (by omega) (by omega) (by omega) (by omega) h1.1 h1.2
def SplAny (p : Nat) (v : Value) (r : SpR) (w : World) (e : Ending) (w' : World) : Prop :=
  e = .returned (.tuple #[.int .i64 r.u, .int .i64 r.e]) ∧ Turned p v r.L r.n w w'
theorem splitAny {w : World} {p n : Nat} {v : Value} {L : List Int} (h : GrdAt w p v L n) (hg : GoodG L n) (hn : n < 4096) (x d : Int) :
    Calls Try.prog 11 #[.pointer (some ⟨p, 0, none⟩), .int .i64 x, .int .i64 d] w (SplAny p v (splO L n x d) w) := by
  unfold splO
  by_cases hb : badS n x d
  · rw [if_pos hb]
    exact (splitArg h x d hb).mono fun e w' ⟨a, b⟩ => ⟨a, by subst b; exact Turned.same h (Below.refl _ _)⟩
  · rw [if_neg hb]
    unfold badS at hb
    obtain ⟨a, rfl⟩ : ∃ a : Nat, x = a := ⟨x.toNat, by omega⟩
    obtain ⟨c, rfl⟩ : ∃ c : Nat, d = c := ⟨d.toNat, by omega⟩
    rw [Int.toNat_natCast, Int.toNat_natCast]
    by_cases h1 : nxG L a c = -1
    · rw [if_pos h1]
      exact (splitNo h a c (by omega) (by omega) h1).mono fun e w' ⟨a, b⟩ => ⟨a, Turned.same h b⟩
    · rw [if_neg h1]
      have hs := hg.side (v := a) (d := c) (by omega) (by omega)
      exact splitYes h a c (nxG L a c).toNat (by omega) (by omega) (by omega) (by omega) hn
def JoiAny (p : Nat) (v : Value) (r : Int × List Int) (n : Nat) (w : World) (e : Ending) (w' : World) : Prop :=
  e = .returned (.int .i64 r.1) ∧ Turned p v r.2 n w w'
theorem joinAny {w : World} {p n : Nat} {v : Value} {L : List Int} (h : GrdAt w p v L n) (x d y o : Int) :
    Calls Try.prog 15 #[.pointer (some ⟨p, 0, none⟩), .int .i64 x, .int .i64 d, .int .i64 y, .int .i64 o] w (JoiAny p v (joiO L n x d y o) n w) := by
  unfold joiO
  by_cases hb : badJ n x d y o
  · rw [if_pos hb]
    exact (joinArg h x d y o hb).mono fun e w' ⟨a, b⟩ => ⟨a, by subst b; exact Turned.same h (Below.refl _ _)⟩
  · rw [if_neg hb]
    unfold badJ at hb
    obtain ⟨a, rfl⟩ : ∃ a : Nat, x = a := ⟨x.toNat, by omega⟩
    obtain ⟨c, rfl⟩ : ∃ c : Nat, d = c := ⟨d.toNat, by omega⟩
    obtain ⟨f, rfl⟩ : ∃ f : Nat, y = f := ⟨y.toNat, by omega⟩
    rw [Int.toNat_natCast, Int.toNat_natCast, Int.toNat_natCast]
    by_cases h1 : nxG L a c ≠ -1 ∨ nxG L f (opp c) ≠ -1
    · rw [if_pos h1]
      exact (joinNo h a c f o (by omega) (by omega) (by omega) (by omega) (by omega) h1).mono fun e w' ⟨a, b⟩ => ⟨a, Turned.same h b⟩
    · rw [if_neg h1]
      simp only [not_or, Decidable.not_not] at h1
      exact joinYes h a c f o (by omega) (by omega) (by omega) (by omega) (by omega) h1.1 h1.2
/-- A list that the reference hands on: the old one, or a new one. -/
def LstR (lv : Value) (M : List Int) (m : Nat) (w : World) (v : Value) (w' : World) : Prop :=
  OwnG w' 0 v M m ∧ (∀ b, v.ownBlock = some b → lv.ownBlock = some b ∨ w.heap.size ≤ b) ∧ Below w.heap.size w w'
theorem LstR.same {w w' : World} {lv : Value} {L : List Int} {n : Nat} (h : OwnG w 0 lv L n) (hb : Below w.heap.size w w') : LstR lv L n w lv w' :=
  ⟨h.below hb (Nat.le_refl _), fun _ e => Or.inl e, hb⟩
theorem LstR.new {w w' : World} {lv v : Value} {M : List Int} {m : Nat} (h : OwnG w' w.heap.size v M m) (hb : Below w.heap.size w w') : LstR lv M m w v w' :=
  ⟨h.base (Nat.zero_le _), fun b e => Or.inr (World.ownsRow.lt h b e).1, hb⟩
def RSplAny (lv : Value) (r : SpR) (w : World) (e : Ending) (w' : World) : Prop :=
  ∃ A c, e = .returned (.tuple #[.slice A r.n c, .int .i64 r.u, .int .i64 r.e]) ∧ LstR lv r.L r.n w (.slice A r.n c) w'
theorem refSplitAny {w : World} {n : Nat} {lv : Value} {L : List Int} (h : OwnG w 0 lv L n) (hg : GoodG L n) (hn : n < 4096) (x d : Int) :
    Calls Try.prog 12 #[lv, .int .i64 x, .int .i64 d] w (RSplAny lv (splO L n x d) w) := by
  unfold splO
  obtain ⟨A, c, rfl⟩ := h.form
  by_cases hb : badS n x d
  · rw [if_pos hb]
    exact (refSplit_arg A n c x d w hb).mono fun e w' ⟨a, b⟩ => ⟨A, c, a, LstR.same h b⟩
  · rw [if_neg hb]
    unfold badS at hb
    obtain ⟨a, rfl⟩ : ∃ a : Nat, x = a := ⟨x.toNat, by omega⟩
    obtain ⟨f, rfl⟩ : ∃ c : Nat, d = c := ⟨d.toNat, by omega⟩
    rw [Int.toNat_natCast, Int.toNat_natCast]
    by_cases h1 : nxG L a f = -1
    · rw [if_pos h1]
      exact (refSplit_no _ L n a f w h.cel (by omega) (by omega) h1).mono fun e w' ⟨a, b⟩ => ⟨A, c, a, LstR.same h b⟩
    · rw [if_neg h1]
      have hs := hg.side (v := a) (d := f) (by omega) (by omega)
      exact (refSplit_yes _ L n a f (nxG L a f).toNat (owG L a f) w h.cel hn (by omega) (by omega) (by omega) (by omega) rfl).mono fun e w' ⟨⟨A', c', a, o⟩, b⟩ => ⟨A', c', a, LstR.new o b⟩
def RJoiAny (lv : Value) (r : Int × List Int) (n : Nat) (w : World) (e : Ending) (w' : World) : Prop :=
  ∃ A c, e = .returned (.tuple #[.slice A n c, .int .i64 r.1]) ∧ LstR lv r.2 n w (.slice A n c) w'
theorem refJoinAny {w : World} {n : Nat} {lv : Value} {L : List Int} (h : OwnG w 0 lv L n) (hn : n < 4096) (x d y o : Int) :
    Calls Try.prog 16 #[lv, .int .i64 x, .int .i64 d, .int .i64 y, .int .i64 o] w (RJoiAny lv (joiO L n x d y o) n w) := by
  unfold joiO
  obtain ⟨A, c, rfl⟩ := h.form
  by_cases hb : badJ n x d y o
  · rw [if_pos hb]
    exact (refJoin_arg A n c x d y o w hb).mono fun e w' ⟨a, b⟩ => ⟨A, c, a, LstR.same h b⟩
  · rw [if_neg hb]
    unfold badJ at hb
    obtain ⟨a, rfl⟩ : ∃ a : Nat, x = a := ⟨x.toNat, by omega⟩
    obtain ⟨f, rfl⟩ : ∃ c : Nat, d = c := ⟨d.toNat, by omega⟩
    obtain ⟨g, rfl⟩ : ∃ f : Nat, y = f := ⟨y.toNat, by omega⟩
    rw [Int.toNat_natCast, Int.toNat_natCast, Int.toNat_natCast]
    by_cases h1 : nxG L a f ≠ -1 ∨ nxG L g (opp f) ≠ -1
    · rw [if_pos h1]
      exact (refJoin_no _ L n a f g o w h.cel (by omega) (by omega) (by omega) (by omega) (by omega) h1).mono fun e w' ⟨a, b⟩ => ⟨A, c, a, LstR.same h b⟩
    · rw [if_neg h1]
      simp only [not_or, Decidable.not_not] at h1
      exact (refJoin_yes _ L n a f g o w h.cel (by omega) (by omega) (by omega) (by omega) (by omega) (by omega) h1.1 h1.2).mono fun e w' ⟨⟨A', c', a, o⟩, b⟩ => ⟨A', c', a, LstR.new o b⟩
/-- The grid and the reference's list, side by side: the same cells, in blocks apart; what the grid may turn is new since B. -/
structure PlS (B : Nat) (wb w : World) (p : Nat) (v lv : Value) (L : List Int) (n : Nat) : Prop where
  grd : GrdAt w p v L n
  lst : OwnG w 0 lv L n
  sep : ∀ b, lv.ownBlock = some b → ¬ FootG p v b
  good : GoodG L n
  foot : ∀ b, FootG p v b → B ≤ b
  below : Below B wb w
theorem PlS.step {B : Nat} {wb w w1 w2 : World} {p n m : Nat} {v lv lv' : Value} {L M : List Int} (h : PlS B wb w p v lv L n) (hB : B ≤ w.heap.size) (T : Turned p v M m w w1) (R : LstR lv M m w1 lv' w2) (hg : GoodG M m) :
    ∃ v', PlS B wb w2 p v' lv' M m ∧ Out (FootG p v) w w2 ∧ (∀ b, FootG p v' b → FootG p v b ∨ w.heap.size ≤ b) := by
  obtain ⟨v', G, O, F⟩ := T
  obtain ⟨R1, R2, R3⟩ := R
  have hO : Out (FootG p v) w w2 := O.trans (Out.ofBelow (S := fun _ => False) R3) (fun _ _ e => e.elim)
  have hF : ∀ b, FootG p v' b → FootG p v b ∨ w.heap.size ≤ b := by
    rintro b (rfl | e)
    · exact Or.inl (Or.inl rfl)
    · exact (F b e).imp Or.inr id
  refine ⟨v', ⟨G.below R3, R1, fun b hb hf => ?_, hg, fun b hb => ?_, h.below.trans (hO.below hB (fun i _ e => h.foot i e))⟩, hO, hF⟩
  · rcases R2 b hb with e | e
    · rcases hf with rfl | hf
      · exact h.sep _ e (Or.inl rfl)
      · rcases F b hf with q | q
        · exact h.sep b e (Or.inr q)
        · have := (World.ownsRow.lt h.lst b e).2
          omega
    · have := G.foot hf
      omega
  · rcases hF b hb with e | e
    · exact h.foot b e
    · omega
theorem PlS.still {B : Nat} {wb w w' : World} {p n : Nat} {v lv : Value} {L : List Int} (h : PlS B wb w p v lv L n) (hB : B ≤ w.heap.size) (b : Below w.heap.size w w') : PlS B wb w' p v lv L n :=
  ⟨h.grd.below b, h.lst.below b (Nat.le_refl _), h.sep, h.good, h.foot, h.below.trans (b.mono hB)⟩
end Go.Proofs.Ytkgknbjcllcndaa
