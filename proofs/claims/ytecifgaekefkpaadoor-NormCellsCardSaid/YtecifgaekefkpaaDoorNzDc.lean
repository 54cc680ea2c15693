/-
  Cells copied; a grid's cells; what Check and Of answer. Conditions: at most 100000 cells.
  What checkSide, Check and Of answer. Conditions: at most 100000 cells.
  What the document fixes of a grid: wakes answers true. Conditions: none.
  What the code's and the reference's Split and Join answer and leave, at any arguments, in one function each. Conditions: fewer than 4096 cells, that may be.
-/
import Derived.Test.YtecifgaekefkpaaDoorNzDb
import Derived.Test.YtecifgaekefkpaaDoorNzRc
import Derived.Laws.AppendOwnNone
import Derived.Lib.SliceRun
import Derived.Test.YtecifgaekefkpaaDoorNzRb
import Derived.Test.YtecifgaekefkpaaDoorNzRa
namespace Go.Proofs.YtecifgaekefkpaaDoor
open Go.RowKit Go.Proofs.YtecifgaekefkpaaDoor.GrM

theorem CelAt.news {w : World} {L : List Int} {n c : Nat} {a : Addr} (h : CelAt w (.slice (some a) n c) L n) : ∀ j z, (L.map intV)[j]? = some z → w.cell? (a.add j) = some z := by
  intro j z hz
  obtain ⟨hl, A, cap, e, _, hA⟩ := h
  obtain ⟨e1, _⟩ : some a = A ∧ c = cap := by simpa using e
  subst e1
  have hj : j < L.length := by
    have := (List.getElem?_eq_some_iff.1 hz).1
    simpa using this
  obtain ⟨b, o, e2, _, hc⟩ := hA (by omega)
  injection e2 with e2
  subst e2
  have e3 : (⟨b, o, none⟩ : Addr).add j = ⟨b, o + j, none⟩ := by unfold Addr.add; split <;> simp_all
  rw [e3, hc j (by omega)]
  rw [List.getElem?_map, List.getElem?_eq_getElem hj] at hz
  rw [← Option.some.inj hz, List.getD_eq_getElem?_getD, List.getElem?_eq_getElem hj]; rfl
/-- What a copy is. -/
def CopP (L : List Int) (n : Nat) (w : World) (e : Ending) (w' : World) : Prop :=
  ∃ A c, e = .returned (.slice A n c) ∧ OwnG w' w.heap.size (.slice A n c) L n ∧ RowKit.Below w.heap.size w w'
theorem cel_none {w : World} {L : List Int} {n c : Nat} (h : CelAt w (.slice none n c) L n) : n = 0 ∧ L = [] ∧ c = 0 := by
  obtain ⟨hl, A, cap, e, hc, hA⟩ := h
  obtain ⟨e1, e3⟩ : none = A ∧ c = cap := by simpa using e
  have hn : n = 0 := by
    apply Classical.byContradiction
    intro h
    obtain ⟨b, o, e2, _⟩ := hA (by omega)
    rw [e2] at e1
    cases e1
  exact ⟨hn, List.eq_nil_of_length_eq_zero (by omega), by rw [e3]; exact hc.2 e1.symm⟩
theorem cel_cap {w : World} {A : Option Addr} {L : List Int} {n c : Nat} (h : CelAt w (.slice A n c) L n) : n ≤ c := by
  obtain ⟨hl, A', cap, e, hc, hA⟩ := h
  obtain ⟨_, e2⟩ : A = A' ∧ c = cap := by simpa using e
  have := hc.1
  omega
theorem own_none8 (w : World) (T : TypeId) (k : Nat) : (w.alloc (.cells #[] T)).ownsRow w.heap.size T k (.slice (some ⟨w.heap.size, 0, none⟩) 0 0) 0 [] := by
  exact ⟨by simp, Or.inr ⟨w.heap.size, 0, #[], rfl, Nat.le_refl _, heap_alloc_new w _, Nat.le_refl _, by simp, by simp, by simp⟩⟩
theorem cap_zero (w : World) (n : Nat) (hn : n ≤ 1000000) : (w.alloc (.cells (madeCells zeroC (n * 8)) 51)).ownsRow w.heap.size 51 8 (.slice (some ⟨w.heap.size, 0, none⟩) 0 n) 0 [] := made_cap n hn w
set_option maxHeartbeats 4000000 in
theorem copiedY (lv : Value) (L : List Int) (n : Nat) (w : World) (h : CelAt w lv L n) (hn : n ≤ 100000) :
    Calls Tryd.prog 52 #[lv] w (CopP L n w) := by
  obtain ⟨i0, hi, hz0, hz1, hz2⟩ := info_c8
  have hmk := mkCap n (by omega) w
  obtain ⟨A, c, rfl⟩ := h.form
  cases A with
  | none =>
    obtain ⟨rfl, rfl, rfl⟩ := cel_none h
    rw [show ((0 : Nat) : Int) = 0 from rfl] at hmk
    clear h
    go_enter Tryd.func52, Tryd.ntmps52
    go_wp2_with (at_builtin; refine wpList_append_own_none rfl (.tmp 5) (.tmp 6) 31 rfl w.heap.size 51 i0 8 Tryd.underlying31 hi (.slice (some ⟨w.heap.size, 0, none⟩) 0 0) 0 [] rfl (cap_zero w 0 (by omega)) rfl ?_)
    go_ret
    exact ⟨_, _, rfl, cap_zero w 0 (by omega), (Below.refl _ _).alloc (Nat.le_refl _) _⟩
  | some a =>
    have NW := Lib.hid h.news
    have HL := Lib.hid h
    have hlen : (L.map intV).length = n * 8 := by simpa using h.1
    have FL := Lib.hid hlen
    clear h hlen
    go_enter Tryd.func52, Tryd.ntmps52
    go_wp2_with (at_builtin; refine wpList_append_fresh rfl (.tmp 5) (.tmp 6) 31 rfl w.heap.size 51 i0 (.agg #[.int .i64 0, .int .i64 0, .int .i64 0, .int .i64 0, .int .i64 0, .int .i64 0, .int .i64 0, .int .i64 0]) 8 64 Tryd.underlying31 hi hz0 hz1 hz2 rfl (by decide) (.slice (some ⟨w.heap.size, 0, none⟩) 0 n) 0 [] rfl (cap_zero w n (by omega)) a n c (L.map intV) rfl FL.out (fun j z hj => by have h1 := NW.out j z hj; exact (World.cell?_alloc_lt w _ _ (World.block_lt_of_cell? w _ h1)).trans h1) (allI _) (by unfold maxLen; omega) (by omega) (by simp) ?_; intro v4 w4 hown hgrow hfr; have o4 : OwnG w4 w.heap.size v4 L n := (by unfold OwnG; simpa using hown); obtain ⟨a4, c4, e4⟩ := o4.form; subst e4; have O4 := Lib.hid o4; have B4 : Hid (RowKit.Below w.heap.size w w4) := Lib.hid (((Below.refl _ _).alloc (Nat.le_refl _) _).trans (((Out.refl _ _).grown (S := fun b => b = w.heap.size) hgrow (fun k _ e => by simp [Value.ownBlock] at e; exact e.symm)).below (B := w.heap.size) (by simp) (fun i _ e => by omega))); clear hown hgrow hfr o4)
    go_ret
    exact ⟨_, _, rfl, O4.out, B4.out⟩
theorem cellsY {w : World} {p n : Nat} {v : Value} {L : List Int} (h : GrdAt w p v L n) (hn : n ≤ 100000) :
    Calls Tryd.prog 41 #[.pointer (some ⟨p, 0, none⟩)] w (CopP L n w) := by
  have C := Lib.hid (copiedY v L n w h.cel hn)
  have c0 := h.c0
  clear h
  go_enter Tryd.func41, Tryd.ntmps41
  go_wp2_with (go_at_call 52; refine C.out.mono ?_; rintro e w1 ⟨A1, cc1, rfl, o1, b1⟩; have O1 := Lib.hid o1; have B1 := Lib.hid b1; clear o1 b1)
  go_ret
  exact ⟨_, _, rfl, O1.out, B1.out⟩

end Go.Proofs.YtecifgaekefkpaaDoor

namespace Go.Proofs.YtecifgaekefkpaaDoor
open Go.RowKit Go.Proofs.YtecifgaekefkpaaDoor.GrM

theorem CelAt.at2 {w : World} {b o n c : Nat} {L : List Int} (h : CelAt w (.slice (some ⟨b, o, none⟩) n c) L n) {i e : Nat} (hi : i < n) (he : e < 4) :
    w.cell? ⟨b, o + i * 8 + e, none⟩ = some (.int .i64 (nxG L i e)) ∧ w.cell? ⟨b, o + i * 8 + 4 + e, none⟩ = some (.int .i64 (owG L i e)) := by
  obtain ⟨b', o', c', e', _, h1, h2⟩ := h.nth hi
  simp only [Value.slice.injEq, Option.some.injEq, Addr.mk.injEq, true_and, and_true] at e'
  obtain ⟨⟨rfl, rfl⟩, rfl⟩ := e'
  exact ⟨h1 e he, h2 e he⟩




end Go.Proofs.YtecifgaekefkpaaDoor

namespace Go.Proofs.YtecifgaekefkpaaDoor
open Go.RowKit Go.Proofs.YtecifgaekefkpaaDoor.GrM

theorem cel_lit (w : World) (T : TypeId) (L : List Int) (n : Nat) (hl : L.length = n * 8) : CelAt (w.alloc (.cells (L.map intV).toArray T)) (.slice (some ⟨w.heap.size, 0, none⟩) n n) L n := by
  refine ⟨hl, _, n, rfl, ⟨Nat.le_refl _, fun e => by cases e⟩, fun _ => ⟨w.heap.size, 0, rfl, by simp, fun j hj => ?_⟩⟩
  have h := heap_alloc_new w (.cells (L.map intV).toArray T)
  have hj' : j < L.length := by omega
  rw [Nat.zero_add]
  simp only [World.cell?, h]
  simp [intV, hj', List.getD_eq_getElem?_getD]
def wk1 : List Int := joinG (newG 2) 0 0 1 0
def wk2 : List Int := splitG wk1 2 0 0 1 (owG wk1 0 0)
def wk0 : List Int := [0, 0, 0, 0, 0, 0, 0, 0]
theorem wk_of {w w' : World} {p n : Nat} {v : Value} {L : List Int} (B : Nat) (h : Turned p v L n w w') (hb : ∀ b, FootG p v b → B ≤ b) (hB : B ≤ w.heap.size) : ∃ v', GrdAt w' p v' L n ∧ (∀ b, FootG p v' b → B ≤ b) ∧ RowKit.Below B w w' := by
  obtain ⟨v', G, O, F⟩ := h
  refine ⟨v', G, ?_, O.below hB (fun i _ e => hb i e)⟩
  rintro b (rfl | e)
  · exact hb _ (Or.inl rfl)
  · rcases F b e with e | e
    · exact hb b (Or.inr e)
    · omega

end Go.Proofs.YtecifgaekefkpaaDoor

namespace Go.Proofs.YtecifgaekefkpaaDoor
open Go.RowKit Go.Proofs.YtecifgaekefkpaaDoor.GrM

structure SpR where
  u : Int
  e : Int
  L : List Int
  n : Nat
/-- What a split is: the new cell, the error, the cells then. -/
noncomputable def splO (L : List Int) (n : Nat) (x d : Int) : SpR := open Classical in
  if badS n x d then ⟨0, 2, L, n⟩ else if nxG L x.toNat d.toNat = -1 then ⟨0, 9, L, n⟩
  else ⟨n, 0, splitG L n x.toNat d.toNat (nxG L x.toNat d.toNat).toNat (owG L x.toNat d.toNat), n + 1⟩
theorem spl_good {L : List Int} {n : Nat} {x d : Int} (hl : L.length = n * 8) (hg : GoodG L n) : GoodG (splO L n x d).L (splO L n x d).n ∧ (splO L n x d).n ≤ n + 1 ∧ n ≤ (splO L n x d).n := by
  unfold splO
  by_cases hb : badS n x d
  · rw [if_pos hb]; exact ⟨hg, Nat.le_succ _, Nat.le_refl _⟩
  · rw [if_neg hb]
    by_cases h1 : nxG L x.toNat d.toNat = -1
    · rw [if_pos h1]; exact ⟨hg, Nat.le_succ _, Nat.le_refl _⟩
    · rw [if_neg h1]
      unfold badS at hb
      have hs := hg.side (v := x.toNat) (d := d.toNat) (by omega) (by omega)
      rcases hs with hs | hs
      · exact absurd hs.1 h1
      · exact ⟨split_good hl hg (by omega) (by omega) (by omega) (by omega) rfl, Nat.le_refl _, Nat.le_succ _⟩
def SplAny (p : Nat) (v : Value) (r : SpR) (w : World) (e : Ending) (w' : World) : Prop :=
  e = .returned (.tuple #[.int .i64 r.u, .int .i64 r.e]) ∧ Turned p v r.L r.n w w'

def JoiAny (p : Nat) (v : Value) (r : Int × List Int) (n : Nat) (w : World) (e : Ending) (w' : World) : Prop :=
  e = .returned (.int .i64 r.1) ∧ Turned p v r.2 n w w'
theorem joinAny {w : World} {p n : Nat} {v : Value} {L : List Int} (h : GrdAt w p v L n) (x d y o : Int) :
    Calls Tryd.prog 51 #[.pointer (some ⟨p, 0, none⟩), .int .i64 x, .int .i64 d, .int .i64 y, .int .i64 o] w (JoiAny p v (joiO L n x d y o) n w) := by
  unfold joiO
  by_cases hb : badJ n x d y o
  · rw [if_pos hb]
    exact (joinArg h x d y o hb).mono fun e w' ⟨a, b⟩ => ⟨a, by subst b; exact Turned.same h (Below.refl _ _)⟩
  · rw [if_neg hb]
    unfold badJ at hb
    obtain ⟨a, rfl⟩ : ∃ a : Nat, x = a := ⟨x.toNat, by omega⟩
    obtain ⟨c, rfl⟩ : ∃ c : Nat, d = c := ⟨d.toNat, by omega⟩
    obtain ⟨f, rfl⟩ : ∃ f : Nat, y = f := ⟨y.toNat, by omega⟩
    rw [Int.toNat_natCast, Int.toNat_natCast, Int.toNat_natCast]
    by_cases h1 : nxG L a c ≠ -1 ∨ nxG L f (opp c) ≠ -1
    · rw [if_pos h1]
      exact (joinNo h a c f o (by omega) (by omega) (by omega) (by omega) (by omega) h1).mono fun e w' ⟨a, b⟩ => ⟨a, Turned.same h b⟩
    · rw [if_neg h1]
      simp only [not_or, Decidable.not_not] at h1
      exact joinYes h a c f o (by omega) (by omega) (by omega) (by omega) (by omega) h1.1 h1.2
def RSplAny (lv : Value) (r : SpR) (w : World) (e : Ending) (w' : World) : Prop :=
  ∃ A c, e = .returned (.tuple #[.slice A r.n c, .int .i64 r.u, .int .i64 r.e]) ∧ LstR lv r.L r.n w (.slice A r.n c) w'

/-- The grid and the reference's list, side by side: the same cells, in blocks apart; what the grid may turn is new since B. -/
structure PlS (B : Nat) (wb w : World) (p : Nat) (v lv : Value) (L : List Int) (n : Nat) : Prop where
  grd : GrdAt w p v L n
  lst : OwnG w 0 lv L n
  sep : ∀ b, lv.ownBlock = some b → ¬ FootG p v b
  good : GoodG L n
  foot : ∀ b, FootG p v b → B ≤ b
  below : Below B wb w
theorem PlS.step {B : Nat} {wb w w1 w2 : World} {p n m : Nat} {v lv lv' : Value} {L M : List Int} (h : PlS B wb w p v lv L n) (hB : B ≤ w.heap.size) (T : Turned p v M m w w1) (R : LstR lv M m w1 lv' w2) (hg : GoodG M m) :
    ∃ v', PlS B wb w2 p v' lv' M m ∧ Out (FootG p v) w w2 ∧ (∀ b, FootG p v' b → FootG p v b ∨ w.heap.size ≤ b) := by
  obtain ⟨v', G, O, F⟩ := T
  obtain ⟨R1, R2, R3⟩ := R
  have hO : Out (FootG p v) w w2 := O.trans (Out.ofBelow (S := fun _ => False) R3) (fun _ _ e => e.elim)
  have hF : ∀ b, FootG p v' b → FootG p v b ∨ w.heap.size ≤ b := by
    rintro b (rfl | e)
    · exact Or.inl (Or.inl rfl)
    · exact (F b e).imp Or.inr id
  refine ⟨v', ⟨G.below R3, R1, fun b hb hf => ?_, hg, fun b hb => ?_, h.below.trans (hO.below hB (fun i _ e => h.foot i e))⟩, hO, hF⟩
  · rcases R2 b hb with e | e
    · rcases hf with rfl | hf
      · exact h.sep _ e (Or.inl rfl)
      · rcases F b hf with q | q
        · exact h.sep b e (Or.inr q)
        · have := (World.ownsRow.lt h.lst b e).2
          omega
    · have := G.foot hf
      omega
  · rcases hF b hb with e | e
    · exact h.foot b e
    · omega
theorem PlS.still {B : Nat} {wb w w' : World} {p n : Nat} {v lv : Value} {L : List Int} (h : PlS B wb w p v lv L n) (hB : B ≤ w.heap.size) (b : Below w.heap.size w w') : PlS B wb w' p v lv L n :=
  ⟨h.grd.below b, h.lst.below b (Nat.le_refl _), h.sep, h.good, h.foot, h.below.trans (b.mono hB)⟩
end Go.Proofs.YtecifgaekefkpaaDoor
