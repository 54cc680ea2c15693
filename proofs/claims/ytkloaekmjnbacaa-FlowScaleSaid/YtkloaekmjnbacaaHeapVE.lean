/-
  The heap of muntin/flow.visit: a new one, how many, the top, the least one popped, a nil one. Conditions: at most a million were pushed.
-/
import Derived.Test.YtkloaekmjnbacaaHeapVD
import Derived.Handy
namespace Go.Proofs.Ytkloaekmjnbacaa.HV
open Go.RowKit Go.Proofs.Ytkloaekmjnbacaa.HeapM
variable {fn : Nat} {lt : (Int × Int × Int) → (Int × Int × Int) → Bool}

theorem Is.size {p : Nat} {w : World} {v : Value} {L : List (Int × Int × Int)} {c : Int} (h : Is lt fn p w v L c) : p < w.heap.size := by
  obtain ⟨l, h, _⟩ := h
  exact h.lt
theorem Is.foot {p : Nat} {w : World} {v : Value} {L : List (Int × Int × Int)} {c : Int} (h : Is lt fn p w v L c) : ∀ b, Foot p v b → b < w.heap.size := by
  obtain ⟨l, h, _⟩ := h
  rintro b (rfl | hb)
  · exact h.lt
  · exact (h.row.lt b hb).2
theorem Is.out {p : Nat} {w w' : World} {v : Value} {L : List (Int × Int × Int)} {c : Int} {S : Nat → Prop} (h : Is lt fn p w v L c) (o : Out S w w') (hS : ∀ b, Foot p v b → ¬ S b) : Is lt fn p w' v L c := by
  obtain ⟨l, h, hs⟩ := h
  exact ⟨l, h.out o (hS p (Or.inl rfl)) (fun b hb => hS b (Or.inr hb)), hs⟩
theorem Is.below {p : Nat} {w w' : World} {v : Value} {L : List (Int × Int × Int)} {c : Int} (h : Is lt fn p w v L c) (o : Below w.heap.size w w') : Is lt fn p w' v L c :=
  h.out (S := fun _ => False) (Out.ofBelow o) (fun _ _ e => e)
theorem Is.first {p : Nat} {w : World} {v : Value} {L : List (Int × Int × Int)} {c : Int} (hL : LessAt fn lt) (h : Is lt fn p w v L c) (hne : 0 < L.length) : ∃ a, First lt L a := by
  obtain ⟨l, _, hs⟩ := h
  obtain ⟨a, ha, _⟩ := hs.top hL.ord (by rw [hs.hold.len]; exact hne)
  exact ⟨a, ha⟩
theorem Is.room {p : Nat} {w : World} {v : Value} {L : List (Int × Int × Int)} {c : Int} (h : Is lt fn p w v L c) : (L.length : Int) ≤ c := by
  obtain ⟨l, _, hs⟩ := h
  exact hs.hold.room

/-- What New leaves. -/
def Made (lt : (Int × Int × Int) → (Int × Int × Int) → Bool) (fn : Nat) (w : World) (e : Ending) (w' : World) : Prop :=
  e = .returned (.pointer (some ⟨w.heap.size, 0, none⟩)) ∧ Is lt fn w.heap.size w' (.slice none 0 0) [] 0 ∧ Below w.heap.size w w'
set_option maxHeartbeats 400000 in
theorem new (w : World) : Calls Try.prog 43 #[.func (.func fn) #[] #[]] w (Made lt fn w) := by
  go_enter Try.func43, Try.ntmps43
  go_wp2
  go_ret
  refine ⟨rfl, ⟨[], ⟨?_, World.ownsRow_nil _ _ _ _, by simp [Value.ownBlock]⟩, St.nil⟩, (Below.refl _ _).alloc (Nat.le_refl _) _⟩
  exact heap_alloc_new w _

set_option maxHeartbeats 400000 in
theorem len (p : Nat) (v : Value) (L : List (Int × Int × Int)) (c : Int) (w : World) (h : Is lt fn p w v L c) :
    Calls Try.prog 80 #[.pointer (some ⟨p, 0, none⟩)] w fun e w' => e = .returned (.int .i64 L.length) ∧ w = w' := by
  obtain ⟨l, h, hs⟩ := h
  obtain ⟨ao, cap, rfl, _, _⟩ := h.form0
  have h1 := h.c1
  rw [← hs.hold.len]
  clear h hs
  go_enter Try.func80, Try.ntmps80
  go_wp2
  go_ret
  exact ⟨rfl, rfl⟩
set_option maxHeartbeats 400000 in
theorem len_nil (w : World) :
    Calls Try.prog 80 #[.pointer none] w fun e w' => e = .returned (.int .i64 0) ∧ w = w' := by
  go_enter Try.func80, Try.ntmps80
  go_wp2
  go_ret
  exact ⟨rfl, rfl⟩

/-- An answer that leaves all that was there. -/
def Told (r : Value) (w : World) (e : Ending) (w' : World) : Prop := e = .returned r ∧ Below w.heap.size w w'
set_option maxHeartbeats 400000 in
theorem top_none (p : Nat) (v : Value) (c : Int) (w : World) (h : Is lt fn p w v [] c) :
    Calls Try.prog 65 #[.pointer (some ⟨p, 0, none⟩)] w (Told (.tuple #[.agg #[.int .i64 0, .int .i64 0, .int .i64 0], .bool false]) w) := by
  have H := Lib.hid h
  clear h
  go_enter Try.func65, Try.ntmps65
  go_wp2_with (go_at_call 80; refine (len p v [] c _ (H.out.below ((Below.refl _ _).alloc (Nat.le_refl _) _))).mono ?_; rintro e w' ⟨rfl, rfl⟩)
  go_returns
  exact ⟨rfl, by go_grown⟩
set_option maxHeartbeats 400000 in
theorem top_nil (w : World) : Calls Try.prog 65 #[.pointer none] w (Told (.tuple #[.agg #[.int .i64 0, .int .i64 0, .int .i64 0], .bool false]) w) := by
  go_enter Try.func65, Try.ntmps65
  go_wp2_with (go_at_call 80; refine (len_nil _).mono ?_; rintro e w' ⟨rfl, rfl⟩)
  go_returns
  exact ⟨rfl, by go_grown⟩
set_option maxHeartbeats 400000 in
theorem top_some (hL : LessAt fn lt) (p : Nat) (v : Value) (L : List (Int × Int × Int)) (c : Int) (w : World) (h : Is lt fn p w v L c) (a : Nat) (ha : First lt L a) :
    Calls Try.prog 65 #[.pointer (some ⟨p, 0, none⟩)] w (Told (.tuple #[(.agg #[.int .i64 (L.getD a default).1, .int .i64 (L.getD a default).2.1, .int .i64 (L.getD a default).2.2]), .bool true]) w) := by
  have H := Lib.hid h
  obtain ⟨l, h, hs⟩ := h
  have hne : 0 < L.length := Nat.lt_of_le_of_lt (Nat.zero_le _) ha.1
  have hln := hs.hold.len
  obtain ⟨a', ha', hx, _⟩ := hs.top hL.ord (by omega)
  obtain rfl := First.uniq ha ha'
  obtain ⟨g, cap, rfl, _, _, hpg, hgs⟩ := h.form (by omega)
  have h1 := h.c1
  have hA := Lib.hid (cells_at h rfl 0 (by omega))
  have hps := h.lt
  have HL := Lib.hid hln
  have hb : ((L.length : Int) == 0) = false := by simp; intro e; subst e; simp at hne
  have hlp : 0 < l.length := by omega
  clear h hs ha ha' hL hln hne
  generalize L.getD a default = t at *
  generalize at_ l 0 = x at *
  subst hx
  have a0 : w.cell? ⟨g, 0, none⟩ = some (.int .i64 x.1.1) := by have := hA.out 0 (by omega); rw [Nat.zero_mul, Nat.zero_add] at this; exact this
  have a1 : w.cell? ⟨g, 1, none⟩ = some (.int .i64 x.1.2.1) := by have := hA.out 1 (by omega); rw [Nat.zero_mul, Nat.zero_add] at this; exact this
  have a2 : w.cell? ⟨g, 2, none⟩ = some (.int .i64 x.1.2.2) := by have := hA.out 2 (by omega); rw [Nat.zero_mul, Nat.zero_add] at this; exact this
  have a3 : w.cell? ⟨g, 3, none⟩ = some (.int .i64 x.2) := by have := hA.out 3 (by omega); rw [Nat.zero_mul, Nat.zero_add] at this; exact this
  clear hA
  go_enter Try.func65, Try.ntmps65
  go_wp2_with (go_at_call 80; refine (len p _ L c _ (H.out.below ((Below.refl _ _).alloc (Nat.le_refl _) _))).mono ?_; rintro e w' ⟨rfl, rfl⟩)
  go_returns
  exact ⟨rfl, by go_grown⟩
end Go.Proofs.Ytkloaekmjnbacaa.HV
