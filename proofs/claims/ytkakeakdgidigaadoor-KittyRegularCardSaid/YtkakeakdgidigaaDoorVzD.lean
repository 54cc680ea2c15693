/-
  A grid: what Next, Add and the nil grid answer. Conditions: at most 100000 cells.
  A grid: what Split and Join answer and leave. Conditions: at most 4096 cells, or a wrong argument.
  Cells copied; a grid's cells; what Check and Of answer. Conditions: at most 100000 cells.
  What checkSide, Check and Of answer. Conditions: at most 100000 cells.
  What the document fixes of a grid: wakes answers true. Conditions: none.
  What the code's and the reference's Split and Join answer and leave, at any arguments, in one function each. Conditions: fewer than 4096 cells, that may be.
-/
import Derived.Test.YtkakeakdgidigaaDoorNzDa
import Derived.Test.YtkakeakdgidigaaDoorNzRb
import Derived.Test.YtkakeakdgidigaaDoorNzRc
import Derived.Laws.AppendOwnNone
import Derived.Lib.SliceRun
import Derived.Test.YtkakeakdgidigaaDoorNzRa
namespace Go.Proofs.YtkakeakdgidigaaDoor
open Go.RowKit Go.Proofs.YtkakeakdgidigaaDoor.GrM

theorem GrdAt.side {w : World} {p n g cap : Nat} {L : List Int} (h : GrdAt w p (.slice (some ⟨g, 0, none⟩) n cap) L n) {a d : Nat} (ha : a < n) (hd : d < 4) :
    w.cell? ⟨g, a * 8 + d, none⟩ = some (.int .i64 (nxG L a d)) ∧ w.cell? ⟨g, a * 8 + 4 + d, none⟩ = some (.int .i64 (owG L a d)) := by
  obtain ⟨b, o, c, e, _, h1, h2⟩ := h.cel.nth ha
  simp only [Value.slice.injEq, Option.some.injEq, Addr.mk.injEq, true_and, and_true] at e
  obtain ⟨⟨rfl, rfl⟩, rfl⟩ := e
  have r1 := h1 d hd
  have r2 := h2 d hd
  rw [Nat.zero_add] at r1 r2
  exact ⟨r1, r2⟩
/-- Is there a next one? -/
def stepB (L : List Int) (n : Nat) (x d : Int) : Bool := hasB n x && (goodB d && decide (nxG L x.toNat d.toNat ≠ -1))
def stepN (L : List Int) (n : Nat) (x d : Int) : Int := if stepB L n x d = true then nxG L x.toNat d.toNat else 0
def stepO (L : List Int) (n : Nat) (x d : Int) : Int := if stepB L n x d = true then owG L x.toNat d.toNat else 0
theorem step_no {L : List Int} {n : Nat} {x d : Int} (h : stepB L n x d = false) : stepN L n x d = 0 ∧ stepO L n x d = 0 := by
  unfold stepN stepO; rw [h]; exact ⟨rfl, rfl⟩
theorem step_yes {L : List Int} {n a e : Nat} (ha : a < n) (he : e < 4) (h : nxG L a e ≠ -1) : stepB L n a e = true ∧ stepN L n a e = nxG L a e ∧ stepO L n a e = owG L a e := by
  have hb : stepB L n a e = true := by
    unfold stepB
    rw [hasB_t (by omega), goodB_t (by omega) (by omega), Int.toNat_natCast, Int.toNat_natCast, decide_eq_true h]; rfl
  refine ⟨hb, ?_, ?_⟩
  · unfold stepN; rw [if_pos hb, Int.toNat_natCast, Int.toNat_natCast]
  · unfold stepO; rw [if_pos hb, Int.toNat_natCast, Int.toNat_natCast]
theorem step_free {L : List Int} {n a e : Nat} (h : nxG L a e = -1) : stepB L n a e = false := by
  unfold stepB
  rw [Int.toNat_natCast, Int.toNat_natCast, h]; simp
set_option maxHeartbeats 4000000 in
set_option maxRecDepth 100000 in
theorem nextY {w : World} {p n : Nat} {v : Value} {L : List Int} (h : GrdAt w p v L n) (x d : Int) :
    Calls Tryd.prog 50 #[.pointer (some ⟨p, 0, none⟩), .int .i64 x, .int .i64 d] w fun e w' =>
      e = .returned (.tuple #[.int .i64 (stepN L n x d), .int .i64 (stepO L n x d), .bool (stepB L n x d)]) ∧ RowKit.Below w.heap.size w w' := by
  have HA := Lib.hid (hasY x h)
  have GD := Lib.hid (kept (good_any d w))
  by_cases hx : 0 ≤ x ∧ x < n
  · have q0 := hasB_t hx
    by_cases hd : 0 ≤ d ∧ d < 4
    · have q1 := goodB_t hd.1 hd.2
      obtain ⟨a, rfl⟩ : ∃ a : Nat, x = a := ⟨x.toNat, by omega⟩
      obtain ⟨e, rfl⟩ : ∃ e : Nat, d = e := ⟨d.toNat, by omega⟩
      have ha : a < n := by omega
      have he : e < 4 := by omega
      obtain ⟨g, cap, rfl, -, -⟩ := h.some_ (by omega)
      have h1 := h.c0
      obtain ⟨f1, f2⟩ := h.side ha he
      by_cases hn : nxG L a e = -1
      · have SB := step_free (n := n) hn
        obtain ⟨S1, S2⟩ := step_no SB
        rw [S1, S2, SB]
        rw [hn] at f1
        clear SB S1 S2 hn hx hd h
        go_enter Tryd.func50, Tryd.ntmps50
        go_wp2_with (first | (go_at_call 60; refine GD.out.mono ?_; rintro e w' ⟨rfl, rfl⟩) | (go_at_call 59; refine HA.out.mono ?_; rintro e w' ⟨rfl, rfl⟩))
        go_ret3
        exact ⟨rfl, Below.refl _ _⟩
      · obtain ⟨SB, S1, S2⟩ := step_yes ha he hn
        rw [S1, S2, SB]
        have q2 : (nxG L a e == -1) = false := by rw [beq_eq_false_iff_ne]; exact hn
        clear SB S1 S2 hn hx hd h
        generalize nxG L a e = y1 at *
        generalize owG L a e = y2 at *
        go_enter Tryd.func50, Tryd.ntmps50
        go_wp2_with (first | (go_at_call 60; refine GD.out.mono ?_; rintro e w' ⟨rfl, rfl⟩) | (go_at_call 59; refine HA.out.mono ?_; rintro e w' ⟨rfl, rfl⟩))
        go_quiet (fail)
        go_wp2_with fail
        go_ret3
        exact ⟨rfl, drewN_below (Below.refl _ _) _⟩
    · have q1 := goodB_f hd
      have SB : stepB L n x d = false := by unfold stepB; rw [q1]; simp
      obtain ⟨S1, S2⟩ := step_no SB
      rw [S1, S2, SB]
      clear SB S1 S2 hx hd h
      go_enter Tryd.func50, Tryd.ntmps50
      go_wp2_with (first | (go_at_call 60; refine GD.out.mono ?_; rintro e w' ⟨rfl, rfl⟩) | (go_at_call 59; refine HA.out.mono ?_; rintro e w' ⟨rfl, rfl⟩))
      go_ret3
      exact ⟨rfl, Below.refl _ _⟩
  · have q0 := hasB_f hx
    have SB : stepB L n x d = false := by unfold stepB; rw [q0]; rfl
    obtain ⟨S1, S2⟩ := step_no SB
    rw [S1, S2, SB]
    clear SB S1 S2 hx h
    go_enter Tryd.func50, Tryd.ntmps50
    go_wp2_with (go_at_call 59; refine HA.out.mono ?_; rintro e w' ⟨rfl, rfl⟩)
    go_ret3
    exact ⟨rfl, Below.refl _ _⟩
set_option maxHeartbeats 4000000 in
theorem nextN (x d : Int) (w : World) : Calls Tryd.prog 50 #[.pointer none, .int .i64 x, .int .i64 d] w fun e w' => e = .returned (.tuple #[.int .i64 0, .int .i64 0, .bool false]) ∧ w = w' := by
  have HA := Lib.hid (hasN x w)
  go_enter Tryd.func50, Tryd.ntmps50
  go_wp2_with (go_at_call 59; refine HA.out.mono ?_; rintro e w' ⟨rfl, rfl⟩)
  go_ret3
  exact ⟨rfl, rfl⟩
def AddPg (p : Nat) (v : Value) (L : List Int) (n : Nat) (w : World) (e : Ending) (w' : World) : Prop :=
  e = .returned (.tuple #[.int .i64 n, .int .i64 0]) ∧ Turned p v (L ++ freeC) (n + 1) w w'






end Go.Proofs.YtkakeakdgidigaaDoor

namespace Go.Proofs.YtkakeakdgidigaaDoor
open Go.RowKit Go.Proofs.YtkakeakdgidigaaDoor.GrM

theorem turned_more {w w1 w2 : World} {p : Nat} {v v1 v2 : Value} (O1 : Out (FootG p v) w w1) (F1 : ∀ b, v1.ownBlock = some b → v.ownBlock = some b ∨ w.heap.size ≤ b) (O2 : Out (FootG p v1) w1 w2) (F2 : ∀ b, v2.ownBlock = some b → v1.ownBlock = some b ∨ w1.heap.size ≤ b) :
    Out (FootG p v) w w2 ∧ ∀ b, v2.ownBlock = some b → v.ownBlock = some b ∨ w.heap.size ≤ b := by
  refine ⟨O1.trans O2 (fun i hi e => ?_), fun b hb => ?_⟩
  · rcases e with e | e
    · exact Or.inl e
    · rcases F1 i e with h | h
      · exact Or.inr h
      · omega
  · rcases F2 b hb with h | h
    · exact F1 b h
    · exact Or.inr (Nat.le_trans O1.size h)
theorem Turned.same {w w' : World} {p n : Nat} {v : Value} {L : List Int} (h : GrdAt w p v L n) (hb : RowKit.Below w.heap.size w w') : Turned p v L n w w' :=
  ⟨v, h.below hb, Out.ofBelow hb, fun _ e => Or.inl e⟩
theorem Turned.trans {w w1 w2 : World} {p n m : Nat} {v : Value} {L M : List Int} (h : Turned p v L n w w1) (k : ∀ v1, GrdAt w1 p v1 L n → Turned p v1 M m w1 w2) : Turned p v M m w w2 := by
  obtain ⟨v1, G1, O1, F1⟩ := h
  obtain ⟨v2, G2, O2, F2⟩ := k v1 G1
  obtain ⟨O, F⟩ := turned_more O1 F1 O2 F2
  exact ⟨v2, G2, O, F⟩
def SplP (p : Nat) (v : Value) (M : List Int) (n : Nat) (w : World) (e : Ending) (w' : World) : Prop :=
  e = .returned (.tuple #[.int .i64 n, .int .i64 0]) ∧ Turned p v M (n + 1) w w'






theorem contraryQ (d : Nat) (w : World) (hd : d < 4) : Calls Tryd.prog 63 #[.int .i64 d] w fun e w' => e = .returned (.int .i64 (opp d)) ∧ w' = w :=
  (contraryY d w hd).mono fun _ _ ⟨a, b⟩ => ⟨a, b.symm⟩
def JoiP (p : Nat) (v : Value) (M : List Int) (n : Nat) (w : World) (e : Ending) (w' : World) : Prop :=
  e = .returned (.int .i64 0) ∧ Turned p v M n w w'



end Go.Proofs.YtkakeakdgidigaaDoor

namespace Go.Proofs.YtkakeakdgidigaaDoor
open Go.RowKit Go.Proofs.YtkakeakdgidigaaDoor.GrM

theorem CelAt.news {w : World} {L : List Int} {n c : Nat} {a : Addr} (h : CelAt w (.slice (some a) n c) L n) : ∀ j z, (L.map intV)[j]? = some z → w.cell? (a.add j) = some z := by
  intro j z hz
  obtain ⟨hl, A, cap, e, _, hA⟩ := h
  obtain ⟨e1, _⟩ : some a = A ∧ c = cap := by simpa using e
  subst e1
  have hj : j < L.length := by
    have := (List.getElem?_eq_some_iff.1 hz).1
    simpa using this
  obtain ⟨b, o, e2, _, hc⟩ := hA (by omega)
  injection e2 with e2
  subst e2
  have e3 : (⟨b, o, none⟩ : Addr).add j = ⟨b, o + j, none⟩ := by unfold Addr.add; split <;> simp_all
  rw [e3, hc j (by omega)]
  rw [List.getElem?_map, List.getElem?_eq_getElem hj] at hz
  rw [← Option.some.inj hz, List.getD_eq_getElem?_getD, List.getElem?_eq_getElem hj]; rfl
/-- What a copy is. -/
def CopP (L : List Int) (n : Nat) (w : World) (e : Ending) (w' : World) : Prop :=
  ∃ A c, e = .returned (.slice A n c) ∧ OwnG w' w.heap.size (.slice A n c) L n ∧ RowKit.Below w.heap.size w w'
theorem cel_none {w : World} {L : List Int} {n c : Nat} (h : CelAt w (.slice none n c) L n) : n = 0 ∧ L = [] ∧ c = 0 := by
  obtain ⟨hl, A, cap, e, hc, hA⟩ := h
  obtain ⟨e1, e3⟩ : none = A ∧ c = cap := by simpa using e
  have hn : n = 0 := by
    apply Classical.byContradiction
    intro h
    obtain ⟨b, o, e2, _⟩ := hA (by omega)
    rw [e2] at e1
    cases e1
  exact ⟨hn, List.eq_nil_of_length_eq_zero (by omega), by rw [e3]; exact hc.2 e1.symm⟩
theorem cel_cap {w : World} {A : Option Addr} {L : List Int} {n c : Nat} (h : CelAt w (.slice A n c) L n) : n ≤ c := by
  obtain ⟨hl, A', cap, e, hc, hA⟩ := h
  obtain ⟨_, e2⟩ : A = A' ∧ c = cap := by simpa using e
  have := hc.1
  omega
theorem own_none8 (w : World) (T : TypeId) (k : Nat) : (w.alloc (.cells #[] T)).ownsRow w.heap.size T k (.slice (some ⟨w.heap.size, 0, none⟩) 0 0) 0 [] := by
  exact ⟨by simp, Or.inr ⟨w.heap.size, 0, #[], rfl, Nat.le_refl _, heap_alloc_new w _, Nat.le_refl _, by simp, by simp, by simp⟩⟩
theorem cap_zero (w : World) (n : Nat) (hn : n ≤ 1000000) : (w.alloc (.cells (madeCells zeroC (n * 8)) 73)).ownsRow w.heap.size 73 8 (.slice (some ⟨w.heap.size, 0, none⟩) 0 n) 0 [] := made_cap n hn w
set_option maxHeartbeats 4000000 in
theorem copiedY (lv : Value) (L : List Int) (n : Nat) (w : World) (h : CelAt w lv L n) (hn : n ≤ 100000) :
    Calls Tryd.prog 49 #[lv] w (CopP L n w) := by
  obtain ⟨i0, hi, hz0, hz1, hz2⟩ := info_c8
  have hmk := mkCap n (by omega) w
  obtain ⟨A, c, rfl⟩ := h.form
  cases A with
  | none =>
    obtain ⟨rfl, rfl, rfl⟩ := cel_none h
    rw [show ((0 : Nat) : Int) = 0 from rfl] at hmk
    clear h
    go_enter Tryd.func49, Tryd.ntmps49
    go_wp2_with (at_builtin; refine wpList_append_own_none rfl (.tmp 5) (.tmp 6) 26 rfl w.heap.size 73 i0 8 Tryd.underlying26 hi (.slice (some ⟨w.heap.size, 0, none⟩) 0 0) 0 [] rfl (cap_zero w 0 (by omega)) rfl ?_)
    go_ret
    exact ⟨_, _, rfl, cap_zero w 0 (by omega), (Below.refl _ _).alloc (Nat.le_refl _) _⟩
  | some a =>
    have NW := Lib.hid h.news
    have HL := Lib.hid h
    have hlen : (L.map intV).length = n * 8 := by simpa using h.1
    have FL := Lib.hid hlen
    clear h hlen
    go_enter Tryd.func49, Tryd.ntmps49
    go_wp2_with (at_builtin; refine wpList_append_fresh rfl (.tmp 5) (.tmp 6) 26 rfl w.heap.size 73 i0 (.agg #[.int .i64 0, .int .i64 0, .int .i64 0, .int .i64 0, .int .i64 0, .int .i64 0, .int .i64 0, .int .i64 0]) 8 64 Tryd.underlying26 hi hz0 hz1 hz2 rfl (by decide) (.slice (some ⟨w.heap.size, 0, none⟩) 0 n) 0 [] rfl (cap_zero w n (by omega)) a n c (L.map intV) rfl FL.out (fun j z hj => by have h1 := NW.out j z hj; exact (World.cell?_alloc_lt w _ _ (World.block_lt_of_cell? w _ h1)).trans h1) (allI _) (by unfold maxLen; omega) (by omega) (by simp) ?_; intro v4 w4 hown hgrow hfr; have o4 : OwnG w4 w.heap.size v4 L n := (by unfold OwnG; simpa using hown); obtain ⟨a4, c4, e4⟩ := o4.form; subst e4; have O4 := Lib.hid o4; have B4 : Hid (RowKit.Below w.heap.size w w4) := Lib.hid (((Below.refl _ _).alloc (Nat.le_refl _) _).trans (((Out.refl _ _).grown (S := fun b => b = w.heap.size) hgrow (fun k _ e => by simp [Value.ownBlock] at e; exact e.symm)).below (B := w.heap.size) (by simp) (fun i _ e => by omega))); clear hown hgrow hfr o4)
    go_ret
    exact ⟨_, _, rfl, O4.out, B4.out⟩


end Go.Proofs.YtkakeakdgidigaaDoor

namespace Go.Proofs.YtkakeakdgidigaaDoor
open Go.RowKit Go.Proofs.YtkakeakdgidigaaDoor.GrM

theorem CelAt.at2 {w : World} {b o n c : Nat} {L : List Int} (h : CelAt w (.slice (some ⟨b, o, none⟩) n c) L n) {i e : Nat} (hi : i < n) (he : e < 4) :
    w.cell? ⟨b, o + i * 8 + e, none⟩ = some (.int .i64 (nxG L i e)) ∧ w.cell? ⟨b, o + i * 8 + 4 + e, none⟩ = some (.int .i64 (owG L i e)) := by
  obtain ⟨b', o', c', e', _, h1, h2⟩ := h.nth hi
  simp only [Value.slice.injEq, Option.some.injEq, Addr.mk.injEq, true_and, and_true] at e'
  obtain ⟨⟨rfl, rfl⟩, rfl⟩ := e'
  exact ⟨h1 e he, h2 e he⟩
set_option maxHeartbeats 8000000 in
set_option maxRecDepth 100000 in
theorem sideY (lv : Value) (L : List Int) (n v d : Nat) (w : World) (hL : CelAt w lv L n) (hv : v < n) (hd : d < 4) :
    Calls Tryd.prog 57 #[lv, .int .i64 v, .int .i64 d] w fun r w' => r = .returned (.int .i64 (chk1 L n v d)) ∧ Below w.heap.size w w' := by
  have CO := Lib.hid (contraryY d)
  obtain ⟨b, o9, c0, e, hb, -, -⟩ := hL.nth hv
  subst e
  have HL := Lib.hid hL
  obtain ⟨f1, f2⟩ := hL.at2 hv hd
  clear hL
  by_cases g1 : nxG L v d = -1
  · by_cases g2 : owG L v d = 0
    · have E := Lib.hid (chk_free (n := n) g1 g2)
      rw [g1] at f1
      rw [g2] at f2
      clear g1 g2
      go_enter Tryd.func57, Tryd.ntmps57
      go_wp2_with fail
      go_quiet (fail)
      go_wp2_with fail
      go_ret
      exact ⟨ret_int E.out.symm, drewN_below (Below.refl _ _) _⟩
    · have E := Lib.hid (chk_owned (n := n) g1 g2)
      rw [g1] at f1
      have q2 : (owG L v d == 0) = false := by rw [beq_eq_false_iff_ne]; exact g2
      have q3 : (owG L v d != 0) = true := by rw [bne, q2]; rfl
      clear g1 g2
      generalize owG L v d = y2 at *
      go_enter Tryd.func57, Tryd.ntmps57
      go_wp2_with fail
      go_quiet (fail)
      go_wp2_with fail
      go_ret
      exact ⟨ret_int E.out.symm, drewN_below (Below.refl _ _) _⟩
  · have r1 : (nxG L v d == -1) = false := by rw [beq_eq_false_iff_ne]; exact g1
    by_cases g3 : nxG L v d < 0 ∨ (n : Int) ≤ nxG L v d ∨ nxG L v d = v
    · have E := Lib.hid (chk_out (n := n) g1 g3)
      clear g1
      generalize nxG L v d = y1 at *
      generalize owG L v d = y2 at *
      rcases Int.lt_or_le y1 0 with k1 | k1
      · have r2 : decide (y1 < 0) = true := by rw [decide_eq_true_eq]; exact k1
        clear g3 k1
        go_enter Tryd.func57, Tryd.ntmps57
        go_wp2_with fail
        go_quiet (fail)
        go_wp2_with fail
        go_ret
        exact ⟨ret_int E.out.symm, drewN_below (Below.refl _ _) _⟩
      · have r2 : decide (y1 < 0) = false := by rw [decide_eq_false_iff_not]; omega
        rcases Int.lt_or_le y1 n with k2 | k2
        · have k3 : y1 = (v : Int) := by omega
          have r3 : decide ((n : Int) ≤ y1) = false := by rw [decide_eq_false_iff_not]; omega
          have r4 : (y1 == (v : Int)) = true := by rw [beq_iff_eq]; exact k3
          clear g3 k1 k2 k3
          go_enter Tryd.func57, Tryd.ntmps57
          go_wp2_with fail
          go_quiet (fail)
          go_wp2_with fail
          go_ret
          exact ⟨ret_int E.out.symm, drewN_below (Below.refl _ _) _⟩
        · have r3 : decide ((n : Int) ≤ y1) = true := by rw [decide_eq_true_eq]; exact k2
          clear g3 k1 k2
          go_enter Tryd.func57, Tryd.ntmps57
          go_wp2_with fail
          go_quiet (fail)
          go_wp2_with fail
          go_ret
          exact ⟨ret_int E.out.symm, drewN_below (Below.refl _ _) _⟩
    · obtain ⟨x, hx⟩ : ∃ x : Nat, nxG L v d = (x : Int) := ⟨(nxG L v d).toNat, by omega⟩
      have hxn : x < n := by omega
      have hxv : x ≠ v := by omega
      have CF := chk_far hx hxn hxv
      rw [hx] at f1 r1
      have r2 : decide ((x : Int) < 0) = false := by rw [decide_eq_false_iff_not]; omega
      have r3 : decide ((n : Int) ≤ (x : Int)) = false := by rw [decide_eq_false_iff_not]; omega
      have r3' : decide (n ≤ x) = false := by rw [decide_eq_false_iff_not]; omega
      have r4 : ((x : Int) == (v : Int)) = false := by rw [beq_eq_false_iff_ne]; omega
      obtain ⟨f3, f4⟩ := HL.out.at2 hxn (opp_lt d)
      have hm4 := opp_lt d
      clear g1 g3 hx hxv
      generalize opp d = d2 at *
      have NF : Hid (nxG L x d2 = v → owG L x d2 = owG L v d → -2 ≤ owG L v d → chk1 L n v d = 0) := Lib.hid (fun a1 a2 a3 => by rw [CF, if_neg (by omega)])
      have EF : Hid (nxG L x d2 ≠ v ∨ owG L x d2 ≠ owG L v d ∨ owG L v d < -2 → chk1 L n v d = 9) := Lib.hid (fun a => by rw [CF, if_pos a])
      clear CF
      generalize owG L v d = y2 at *
      generalize nxG L x d2 = y3 at *
      generalize owG L x d2 = y4 at *
      by_cases t1 : y3 = v
      · have s1 : (y3 == (v : Int)) = true := by rw [beq_iff_eq]; exact t1
        have s1' : (y3 != (v : Int)) = false := by rw [bne, s1]; rfl
        by_cases t2 : y4 = y2
        · have s2 : (y4 == y2) = true := by rw [beq_iff_eq]; exact t2
          have s2' : (y4 != y2) = false := by rw [bne, s2]; rfl
          by_cases t3 : -2 ≤ y2
          · have s3 : decide (y2 < -2) = false := by rw [decide_eq_false_iff_not]; omega
            have E := Lib.hid (NF.out t1 t2 t3)
            clear t1 t2 t3 NF EF
            go_enter Tryd.func57, Tryd.ntmps57
            go_wp2_with fail
            go_quiet (fail)
            go_wp2_with (go_at_call 63; refine (CO.out _ hd).mono ?_; rintro e w' ⟨rfl, rfl⟩)
            go_ret
            exact ⟨ret_int E.out.symm, drewN_below (Below.refl _ _) _⟩
          · have s3 : decide (y2 < -2) = true := by rw [decide_eq_true_eq]; omega
            have E := Lib.hid (EF.out (by omega))
            clear t1 t2 t3 NF EF
            go_enter Tryd.func57, Tryd.ntmps57
            go_wp2_with fail
            go_quiet (fail)
            go_wp2_with (go_at_call 63; refine (CO.out _ hd).mono ?_; rintro e w' ⟨rfl, rfl⟩)
            go_ret
            exact ⟨ret_int E.out.symm, drewN_below (Below.refl _ _) _⟩
        · have s2 : (y4 == y2) = false := by rw [beq_eq_false_iff_ne]; exact t2
          have s2' : (y4 != y2) = true := by rw [bne, s2]; rfl
          have E := Lib.hid (EF.out (by omega))
          clear t1 t2 NF EF
          go_enter Tryd.func57, Tryd.ntmps57
          go_wp2_with fail
          go_quiet (fail)
          go_wp2_with (go_at_call 63; refine (CO.out _ hd).mono ?_; rintro e w' ⟨rfl, rfl⟩)
          go_ret
          exact ⟨ret_int E.out.symm, drewN_below (Below.refl _ _) _⟩
      · have s1 : (y3 == (v : Int)) = false := by rw [beq_eq_false_iff_ne]; exact t1
        have s1' : (y3 != (v : Int)) = true := by rw [bne, s1]; rfl
        have E := Lib.hid (EF.out (by omega))
        clear t1 NF EF
        go_enter Tryd.func57, Tryd.ntmps57
        go_wp2_with fail
        go_quiet (fail)
        go_wp2_with (go_at_call 63; refine (CO.out _ hd).mono ?_; rintro e w' ⟨rfl, rfl⟩)
        go_ret
        exact ⟨ret_int E.out.symm, drewN_below (Below.refl _ _) _⟩
set_option maxHeartbeats 8000000 in
set_option maxRecDepth 100000 in
theorem checkY (lv : Value) (L : List Int) (n : Nat) (w : World) (hL : CelAt w lv L n) (hn : n ≤ 100000) :
    Calls Tryd.prog 47 #[lv] w fun r w' => r = .returned (.int .i64 (chkG L n)) ∧ Below w.heap.size w w' := by
  have HL := Lib.hid hL
  obtain ⟨A0, c0, e⟩ := hL.form
  subst e
  clear hL
  by_cases hbig : 4096 < n
  · have E : Hid (chkG L n = 6) := Lib.hid (by unfold chkG; rw [if_pos hbig])
    have p0 : decide ((4096 : Int) < (n : Int)) = true := by rw [decide_eq_true_eq]; omega
    have p1 : decide (4096 < n) = true := by rw [decide_eq_true_eq]; omega
    clear hbig
    go_enter Tryd.func47, Tryd.ntmps47
    go_wp2
    go_ret
    exact ⟨ret_int E.out.symm, Below.refl _ _⟩
  · have hsm : n ≤ 4096 := by omega
    have p0 : decide ((4096 : Int) < (n : Int)) = false := by rw [decide_eq_false_iff_not]; omega
    have p1 : decide (4096 < n) = false := by rw [decide_eq_false_iff_not]; omega
    clear hbig hn
    go_enter Tryd.func47, Tryd.ntmps47
    go_wp2
    go_loopw [12] (fun iv wr => RcRel L n w wr iv) (fun iv _ => n - (intOf iv).toNat)
    case atStart => exact ⟨0, rfl, Nat.zero_le _, fun j hj => absurd hj (by omega), Below.refl _ _⟩
    case round =>
      obtain ⟨v, rfl, hv, hG, hB⟩ := hrel
      have G := Lib.hid hG
      have B := Lib.hid hB
      clear hG hB
      obtain ⟨wo, hwo⟩ : ∃ W, W = wr := ⟨_, rfl⟩
      subst hwo
      by_cases hlt : v < n
      · have q1 : decide (v < n) = true := by rw [decide_eq_true_eq]; exact hlt
        obtain ⟨b, o9, c', e, hb, -, -⟩ := HL.out.nth hlt
        simp only [Value.slice.injEq, true_and] at e
        obtain ⟨rfl, rfl⟩ := e
        have HN := HL.out.below B.out (Nat.le_refl _)
        have f0 := (HN.at2 hlt (e := 0) (by decide)).1
        have f1 := (HN.at2 hlt (e := 1) (by decide)).1
        have f2 := (HN.at2 hlt (e := 2) (by decide)).1
        have f3 := (HN.at2 hlt (e := 3) (by decide)).1
        have f4 := (HN.at2 hlt (e := 0) (by decide)).2
        have f5 := (HN.at2 hlt (e := 1) (by decide)).2
        have f6 := (HN.at2 hlt (e := 2) (by decide)).2
        have f7 := (HN.at2 hlt (e := 3) (by decide)).2
        simp only [Nat.add_zero, Nat.add_assoc, Nat.reduceAdd] at f0 f1 f2 f3 f4 f5 f6 f7
        simp only [← Nat.add_assoc] at f0 f1 f2 f3 f4 f5 f6 f7
        clear HN
        generalize nxG L v 0 = y0 at *
        generalize nxG L v 1 = y1 at *
        generalize nxG L v 2 = y2 at *
        generalize nxG L v 3 = y3 at *
        generalize owG L v 0 = y4 at *
        generalize owG L v 1 = y5 at *
        generalize owG L v 2 = y6 at *
        generalize owG L v 3 = y7 at *
        go_wp2_with fail
        clear f0 f1 f2 f3 f4 f5 f6 f7 hb
        go_loopw [17] (fun iv wr2 => RcIn L n v w wr2 iv) (fun iv _ => 4 - (intOf iv).toNat)
        case atStart =>
          exact ⟨0, rfl, Nat.zero_le _, G.out, B.out.alloc B.out.size _⟩
        case round =>
          clear G B
          obtain ⟨d, rfl, hd, hG, hB⟩ := hrel
          have G := Lib.hid hG
          have B := Lib.hid hB
          clear hG hB
          by_cases hd4 : d < 4
          · have q2 : decide (d < 4) = true := by rw [decide_eq_true_eq]; exact hd4
            have q3 : decide ((d : Int) < 4) = true := by rw [decide_eq_true_eq]; omega
            have SI := Lib.hid (sideY _ L n v d wr (HL.out.below B.out (Nat.le_refl _)) hlt hd4)
            by_cases hz : chk1 L n v d = 0
            · have GN := Lib.hid (chk_more hd4 G.out hz)
              rw [hz] at SI
              clear hz
              go_wp2_with (go_at_call 57; refine SI.out.mono ?_; rintro e w1 ⟨rfl, b1⟩; have B1 := Lib.hid b1; clear b1)
              go_roundw
              case rel => exact ⟨d + 1, by go_num, by omega, GN.out, B.out.trans (B1.out.mono B.out.size)⟩
              case measure => (simp [intOf] <;> omega)
            · have E := Lib.hid (chk_first hsm hlt hd4 G.out hz)
              have q4 : (chk1 L n v d == 0) = false := by rw [beq_eq_false_iff_ne]; exact hz
              have q5 : (chk1 L n v d != 0) = true := by rw [bne, q4]; rfl
              clear hz
              generalize chk1 L n v d = cv at *
              go_wp2_with (go_at_call 57; refine SI.out.mono ?_; rintro e w1 ⟨rfl, b1⟩; have B1 := Lib.hid b1; clear b1)
              go_ret
              exact ⟨ret_int E.out.symm, B.out.trans (B1.out.mono B.out.size)⟩
          · have hd5 : d = 4 := by omega
            subst hd5
            go_wp2_with fail
            go_roundw
            case rel => exact ⟨v + 1, by go_num, by omega, fun j hj => G.out j (by omega), B.out⟩
            case measure => (simp [intOf] <;> omega)
      · have hvn : v = n := by omega
        subst hvn
        have E : Hid (chkG L v = 0) := Lib.hid (chk_all hsm G.out)
        have q1 : decide (v < v) = false := by rw [decide_eq_false_iff_not]; exact hlt
        go_wp2_with fail
        go_ret
        exact ⟨ret_int E.out.symm, B.out⟩
/-- What Of answers of cells that may be: a grid of its own. -/
theorem ofY (lv : Value) (L : List Int) (n : Nat) (w : World) (hL : CelAt w lv L n) (hn : n ≤ 100000) (h0 : chkG L n = 0) :
    Calls Tryd.prog 32 #[lv] w (MadeG L n w) := by
  have CK := checkY lv L n w hL hn
  rw [h0] at CK
  have CY := Lib.hid CK
  have HL := Lib.hid hL
  clear CK h0 hL
  go_enter Tryd.func32, Tryd.ntmps32
  go_wp2_with (first | (go_at_call 49; refine (copiedY _ L n _ (HL.out.below B1.out (Nat.le_refl _)) hn).mono ?_; rintro e w2 ⟨A2, c2, rfl, o2, b2⟩; have O2 := Lib.hid o2; have B2 := Lib.hid b2; clear o2 b2) | (go_at_call 47; refine CY.out.mono ?_; rintro e w1 ⟨rfl, b1⟩; have B1 := Lib.hid b1; clear b1))
  go_ret2
  have hs1 := B1.out.size
  have hs2 := B2.out.size
  have hr : OwnG (w2.alloc (.cells #[.slice A2 n c2] 106)) w1.heap.size (.slice A2 n c2) L n := O2.out.below ((Below.refl _ _).alloc (Nat.le_refl _) _) (Nat.le_refl _)
  have hlt : ∀ b, (Value.slice A2 n c2).ownBlock = some b → w1.heap.size ≤ b ∧ b < w2.heap.size := fun b hb => World.ownsRow.lt O2.out b hb
  refine ⟨w2.heap.size, .slice A2 n c2, rfl, ⟨heap_alloc_new w2 _, hr.base (Nat.zero_le _), fun e => by have := hlt _ e; omega⟩, ?_, (B1.out.trans (B2.out.mono hs1)).alloc (by omega) _⟩
  rintro b (rfl | hb)
  · omega
  · have := hlt b hb; omega
theorem ofN (lv : Value) (L : List Int) (n : Nat) (w : World) (hL : CelAt w lv L n) (hn : n ≤ 100000) (h0 : chkG L n ≠ 0) :
    Calls Tryd.prog 32 #[lv] w fun e w' => e = .returned (.tuple #[.pointer none, .int .i64 (chkG L n)]) ∧ Below w.heap.size w w' := by
  have CK := checkY lv L n w hL hn
  have q4 : (chkG L n == 0) = false := by rw [beq_eq_false_iff_ne]; exact h0
  have q5 : (chkG L n != 0) = true := by rw [bne, q4]; rfl
  have CY := Lib.hid CK
  clear CK h0 hL
  generalize chkG L n = cv at *
  go_enter Tryd.func32, Tryd.ntmps32
  go_wp2_with (go_at_call 47; refine CY.out.mono ?_; rintro e w1 ⟨rfl, b1⟩; have B1 := Lib.hid b1; clear b1)
  go_ret2
  exact ⟨rfl, B1.out⟩
end Go.Proofs.YtkakeakdgidigaaDoor

namespace Go.Proofs.YtkakeakdgidigaaDoor
open Go.RowKit Go.Proofs.YtkakeakdgidigaaDoor.GrM

theorem cel_lit (w : World) (T : TypeId) (L : List Int) (n : Nat) (hl : L.length = n * 8) : CelAt (w.alloc (.cells (L.map intV).toArray T)) (.slice (some ⟨w.heap.size, 0, none⟩) n n) L n := by
  refine ⟨hl, _, n, rfl, ⟨Nat.le_refl _, fun e => by cases e⟩, fun _ => ⟨w.heap.size, 0, rfl, by simp, fun j hj => ?_⟩⟩
  have h := heap_alloc_new w (.cells (L.map intV).toArray T)
  have hj' : j < L.length := by omega
  rw [Nat.zero_add]
  simp only [World.cell?, h]
  simp [intV, hj', List.getD_eq_getElem?_getD]
def wk1 : List Int := joinG (newG 2) 0 0 1 0
def wk2 : List Int := splitG wk1 2 0 0 1 (owG wk1 0 0)
def wk0 : List Int := [0, 0, 0, 0, 0, 0, 0, 0]
theorem wk_of {w w' : World} {p n : Nat} {v : Value} {L : List Int} (B : Nat) (h : Turned p v L n w w') (hb : ∀ b, FootG p v b → B ≤ b) (hB : B ≤ w.heap.size) : ∃ v', GrdAt w' p v' L n ∧ (∀ b, FootG p v' b → B ≤ b) ∧ RowKit.Below B w w' := by
  obtain ⟨v', G, O, F⟩ := h
  refine ⟨v', G, ?_, O.below hB (fun i _ e => hb i e)⟩
  rintro b (rfl | e)
  · exact hb _ (Or.inl rfl)
  · rcases F b e with e | e
    · exact hb b (Or.inr e)
    · omega

end Go.Proofs.YtkakeakdgidigaaDoor

namespace Go.Proofs.YtkakeakdgidigaaDoor
open Go.RowKit Go.Proofs.YtkakeakdgidigaaDoor.GrM

structure SpR where
  u : Int
  e : Int
  L : List Int
  n : Nat
/-- What a split is: the new cell, the error, the cells then. -/
noncomputable def splO (L : List Int) (n : Nat) (x d : Int) : SpR := open Classical in
  if badS n x d then ⟨0, 2, L, n⟩ else if nxG L x.toNat d.toNat = -1 then ⟨0, 9, L, n⟩
  else ⟨n, 0, splitG L n x.toNat d.toNat (nxG L x.toNat d.toNat).toNat (owG L x.toNat d.toNat), n + 1⟩
theorem spl_good {L : List Int} {n : Nat} {x d : Int} (hl : L.length = n * 8) (hg : GoodG L n) : GoodG (splO L n x d).L (splO L n x d).n ∧ (splO L n x d).n ≤ n + 1 ∧ n ≤ (splO L n x d).n := by
  unfold splO
  by_cases hb : badS n x d
  · rw [if_pos hb]; exact ⟨hg, Nat.le_succ _, Nat.le_refl _⟩
  · rw [if_neg hb]
    by_cases h1 : nxG L x.toNat d.toNat = -1
    · rw [if_pos h1]; exact ⟨hg, Nat.le_succ _, Nat.le_refl _⟩
    · rw [if_neg h1]
      unfold badS at hb
      have hs := hg.side (v := x.toNat) (d := d.toNat) (by omega) (by omega)
      rcases hs with hs | hs
      · exact absurd hs.1 h1
      · exact ⟨split_good hl hg (by omega) (by omega) (by omega) (by omega) rfl, Nat.le_refl _, Nat.le_succ _⟩
def SplAny (p : Nat) (v : Value) (r : SpR) (w : World) (e : Ending) (w' : World) : Prop :=
  e = .returned (.tuple #[.int .i64 r.u, .int .i64 r.e]) ∧ Turned p v r.L r.n w w'

def JoiAny (p : Nat) (v : Value) (r : Int × List Int) (n : Nat) (w : World) (e : Ending) (w' : World) : Prop :=
  e = .returned (.int .i64 r.1) ∧ Turned p v r.2 n w w'

def RSplAny (lv : Value) (r : SpR) (w : World) (e : Ending) (w' : World) : Prop :=
  ∃ A c, e = .returned (.tuple #[.slice A r.n c, .int .i64 r.u, .int .i64 r.e]) ∧ LstR lv r.L r.n w (.slice A r.n c) w'

/-- The grid and the reference's list, side by side: the same cells, in blocks apart; what the grid may turn is new since B. -/
structure PlS (B : Nat) (wb w : World) (p : Nat) (v lv : Value) (L : List Int) (n : Nat) : Prop where
  grd : GrdAt w p v L n
  lst : OwnG w 0 lv L n
  sep : ∀ b, lv.ownBlock = some b → ¬ FootG p v b
  good : GoodG L n
  foot : ∀ b, FootG p v b → B ≤ b
  below : Below B wb w
theorem PlS.step {B : Nat} {wb w w1 w2 : World} {p n m : Nat} {v lv lv' : Value} {L M : List Int} (h : PlS B wb w p v lv L n) (hB : B ≤ w.heap.size) (T : Turned p v M m w w1) (R : LstR lv M m w1 lv' w2) (hg : GoodG M m) :
    ∃ v', PlS B wb w2 p v' lv' M m ∧ Out (FootG p v) w w2 ∧ (∀ b, FootG p v' b → FootG p v b ∨ w.heap.size ≤ b) := by
  obtain ⟨v', G, O, F⟩ := T
  obtain ⟨R1, R2, R3⟩ := R
  have hO : Out (FootG p v) w w2 := O.trans (Out.ofBelow (S := fun _ => False) R3) (fun _ _ e => e.elim)
  have hF : ∀ b, FootG p v' b → FootG p v b ∨ w.heap.size ≤ b := by
    rintro b (rfl | e)
    · exact Or.inl (Or.inl rfl)
    · exact (F b e).imp Or.inr id
  refine ⟨v', ⟨G.below R3, R1, fun b hb hf => ?_, hg, fun b hb => ?_, h.below.trans (hO.below hB (fun i _ e => h.foot i e))⟩, hO, hF⟩
  · rcases R2 b hb with e | e
    · rcases hf with rfl | hf
      · exact h.sep _ e (Or.inl rfl)
      · rcases F b hf with q | q
        · exact h.sep b e (Or.inr q)
        · have := (World.ownsRow.lt h.lst b e).2
          omega
    · have := G.foot hf
      omega
  · rcases hF b hb with e | e
    · exact h.foot b e
    · omega
theorem PlS.still {B : Nat} {wb w w' : World} {p n : Nat} {v lv : Value} {L : List Int} (h : PlS B wb w p v lv L n) (hB : B ≤ w.heap.size) (b : Below w.heap.size w w') : PlS B wb w' p v lv L n :=
  ⟨h.grd.below b, h.lst.below b (Nat.le_refl _), h.sep, h.good, h.foot, h.below.trans (b.mono hB)⟩
end Go.Proofs.YtkakeakdgidigaaDoor
