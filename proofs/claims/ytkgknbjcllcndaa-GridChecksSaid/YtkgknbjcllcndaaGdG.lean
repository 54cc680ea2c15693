/-
  Cells copied; a grid's cells; what Check and Of answer. Conditions: at most 100000 cells.
-/
import Derived.Test.YtkgknbjcllcndaaGdF
import Derived.Test.YtkgknbjcllcndaaGrV
import Derived.Laws.AppendOwnNone
import Derived.Lib.SliceRun
namespace Go.Proofs.Ytkgknbjcllcndaa
open Go.RowKit Go.Proofs.Ytkgknbjcllcndaa.GrM

theorem CelAt.news {w : World} {L : List Int} {n c : Nat} {a : Addr} (h : CelAt w (.slice (some a) n c) L n) : ∀ j z, (L.map intV)[j]? = some z → w.cell? (a.add j) = some z := by
  intro j z hz
  obtain ⟨hl, A, cap, e, _, hA⟩ := h
  obtain ⟨e1, _⟩ : some a = A ∧ c = cap := by simpa using e
  subst e1
  have hj : j < L.length := by
    have := (List.getElem?_eq_some_iff.1 hz).1
    simpa using this
  obtain ⟨b, o, e2, _, hc⟩ := hA (by omega)
  injection e2 with e2
  subst e2
  have e3 : (⟨b, o, none⟩ : Addr).add j = ⟨b, o + j, none⟩ := by unfold Addr.add; split <;> simp_all
  rw [e3, hc j (by omega)]
  rw [List.getElem?_map, List.getElem?_eq_getElem hj] at hz
  rw [← Option.some.inj hz, List.getD_eq_getElem?_getD, List.getElem?_eq_getElem hj]; rfl
/-- What a copy is. -/
def CopP (L : List Int) (n : Nat) (w : World) (e : Ending) (w' : World) : Prop :=
  ∃ A c, e = .returned (.slice A n c) ∧ OwnG w' w.heap.size (.slice A n c) L n ∧ RowKit.Below w.heap.size w w'
theorem cel_none {w : World} {L : List Int} {n c : Nat} (h : CelAt w (.slice none n c) L n) : n = 0 ∧ L = [] ∧ c = 0 := by
  obtain ⟨hl, A, cap, e, hc, hA⟩ := h
  obtain ⟨e1, e3⟩ : none = A ∧ c = cap := by simpa using e
  have hn : n = 0 := by
    apply Classical.byContradiction
    intro h
    obtain ⟨b, o, e2, _⟩ := hA (by omega)
    rw [e2] at e1
    cases e1
  exact ⟨hn, List.eq_nil_of_length_eq_zero (by omega), by rw [e3]; exact hc.2 e1.symm⟩
theorem cel_cap {w : World} {A : Option Addr} {L : List Int} {n c : Nat} (h : CelAt w (.slice A n c) L n) : n ≤ c := by
  obtain ⟨hl, A', cap, e, hc, hA⟩ := h
  obtain ⟨_, e2⟩ : A = A' ∧ c = cap := by simpa using e
  have := hc.1
  omega
theorem own_none8 (w : World) (T : TypeId) (k : Nat) : (w.alloc (.cells #[] T)).ownsRow w.heap.size T k (.slice (some ⟨w.heap.size, 0, none⟩) 0 0) 0 [] := by
  exact ⟨by simp, Or.inr ⟨w.heap.size, 0, #[], rfl, Nat.le_refl _, heap_alloc_new w _, Nat.le_refl _, by simp, by simp, by simp⟩⟩
theorem cap_zero (w : World) (n : Nat) (hn : n ≤ 1000000) : (w.alloc (.cells (madeCells zeroC (n * 8)) 40)).ownsRow w.heap.size 40 8 (.slice (some ⟨w.heap.size, 0, none⟩) 0 n) 0 [] := made_cap n hn w
set_option maxHeartbeats 4000000 in
theorem copiedY (lv : Value) (L : List Int) (n : Nat) (w : World) (h : CelAt w lv L n) (hn : n ≤ 100000) :
    Calls Try.prog 33 #[lv] w (CopP L n w) := by
  obtain ⟨i0, hi, hz0, hz1, hz2⟩ := info_c8
  have hmk := mkCap n (by omega) w
  obtain ⟨A, c, rfl⟩ := h.form
  cases A with
  | none =>
    obtain ⟨rfl, rfl, rfl⟩ := cel_none h
    rw [show ((0 : Nat) : Int) = 0 from rfl] at hmk
    clear h
    go_enter Try.func33, Try.ntmps33
    go_wp2_with (at_builtin; refine wpList_append_own_none rfl (.tmp 5) (.tmp 6) 27 rfl w.heap.size 40 i0 8 Try.underlying27 hi (.slice (some ⟨w.heap.size, 0, none⟩) 0 0) 0 [] rfl (cap_zero w 0 (by omega)) rfl ?_)
    go_ret
    exact ⟨_, _, rfl, cap_zero w 0 (by omega), (Below.refl _ _).alloc (Nat.le_refl _) _⟩
  | some a =>
    have NW := Lib.hid h.news
    have HL := Lib.hid h
    have hlen : (L.map intV).length = n * 8 := by simpa using h.1
    have FL := Lib.hid hlen
    clear h hlen
    go_enter Try.func33, Try.ntmps33
    go_wp2_with (at_builtin; refine wpList_append_fresh rfl (.tmp 5) (.tmp 6) 27 rfl w.heap.size 40 i0 (.agg #[.int .i64 0, .int .i64 0, .int .i64 0, .int .i64 0, .int .i64 0, .int .i64 0, .int .i64 0, .int .i64 0]) 8 64 Try.underlying27 hi hz0 hz1 hz2 rfl (by decide) (.slice (some ⟨w.heap.size, 0, none⟩) 0 n) 0 [] rfl (cap_zero w n (by omega)) a n c (L.map intV) rfl FL.out (fun j z hj => by have h1 := NW.out j z hj; exact (World.cell?_alloc_lt w _ _ (World.block_lt_of_cell? w _ h1)).trans h1) (allI _) (by unfold maxLen; omega) (by omega) (by simp) ?_; intro v4 w4 hown hgrow hfr; have o4 : OwnG w4 w.heap.size v4 L n := (by unfold OwnG; simpa using hown); obtain ⟨a4, c4, e4⟩ := o4.form; subst e4; have O4 := Lib.hid o4; have B4 : Hid (RowKit.Below w.heap.size w w4) := Lib.hid (((Below.refl _ _).alloc (Nat.le_refl _) _).trans (((Out.refl _ _).grown (S := fun b => b = w.heap.size) hgrow (fun k _ e => by simp [Value.ownBlock] at e; exact e.symm)).below (B := w.heap.size) (by simp) (fun i _ e => by omega))); clear hown hgrow hfr o4)
    go_ret
    exact ⟨_, _, rfl, O4.out, B4.out⟩
theorem cellsY {w : World} {p n : Nat} {v : Value} {L : List Int} (h : GrdAt w p v L n) (hn : n ≤ 100000) :
    Calls Try.prog 20 #[.pointer (some ⟨p, 0, none⟩)] w (CopP L n w) := by
  have C := Lib.hid (copiedY v L n w h.cel hn)
  have c0 := h.c0
  clear h
  go_enter Try.func20, Try.ntmps20
  go_wp2_with (go_at_call 33; refine C.out.mono ?_; rintro e w1 ⟨A1, cc1, rfl, o1, b1⟩; have O1 := Lib.hid o1; have B1 := Lib.hid b1; clear o1 b1)
  go_ret
  exact ⟨_, _, rfl, O1.out, B1.out⟩
set_option maxHeartbeats 4000000 in
theorem cloneC (lv : Value) (L : List Int) (n : Nat) (w : World) (h : CelAt w lv L n) (hn : n ≤ 100000) :
    Calls Try.prog 14 #[lv] w (CopP L n w) := by
  obtain ⟨i0, hi, hz0, hz1, hz2⟩ := info_c8
  have qe : ∀ (w : World) (a : Option Addr) (n c n' c' : Nat), (binOp .eql 27 (.slice a n c) (.slice none n' c')).run Try.prog w = .ok (.bool a.isNone) w := fun w a n c n' c' => Lib.run_eql_slice_nil w _ _ a n c n' c' Try.underlying27
  obtain ⟨A, c, rfl⟩ := h.form
  cases A with
  | none =>
    obtain ⟨rfl, rfl, rfl⟩ := cel_none h
    clear h
    go_enter Try.func14, Try.ntmps14
    go_wp2
    go_ret
    exact ⟨_, _, rfl, OwnG.nil _ _, Below.refl _ _⟩
  | some a =>
    have NW := Lib.hid h.news
    have hlen : (L.map intV).length = n * 8 := by simpa using h.1
    have FL := Lib.hid hlen
    clear h hlen
    go_enter Try.func14, Try.ntmps14
    go_wp2_with (at_builtin; refine wpList_append_fresh rfl (.tmp 5) (.tmp 6) 27 rfl w.heap.size 40 i0 (.agg #[.int .i64 0, .int .i64 0, .int .i64 0, .int .i64 0, .int .i64 0, .int .i64 0, .int .i64 0, .int .i64 0]) 8 64 Try.underlying27 hi hz0 hz1 hz2 rfl (by decide) (.slice (some ⟨w.heap.size, 0, none⟩) 0 0) 0 [] rfl (own_none8 w _ _) a n c (L.map intV) rfl FL.out (fun j z hj => by have h1 := NW.out j z hj; exact (World.cell?_alloc_lt w _ _ (World.block_lt_of_cell? w _ h1)).trans h1) (allI _) (by unfold maxLen; omega) (by omega) (by simp) ?_; intro v4 w4 hown hgrow hfr; have o4 : OwnG w4 w.heap.size v4 L n := (by unfold OwnG; simpa using hown); obtain ⟨a4, c4, e4⟩ := o4.form; subst e4; have O4 := Lib.hid o4; have B4 : Hid (RowKit.Below w.heap.size w w4) := Lib.hid (((Below.refl _ _).alloc (Nat.le_refl _) _).trans (((Out.refl _ _).grown (S := fun b => b = w.heap.size) hgrow (fun k _ e => by simp [Value.ownBlock] at e; exact e.symm)).below (B := w.heap.size) (by simp) (fun i _ e => by omega))); clear hown hgrow hfr o4)
    go_ret
    exact ⟨_, _, rfl, O4.out, B4.out⟩
end Go.Proofs.Ytkgknbjcllcndaa
