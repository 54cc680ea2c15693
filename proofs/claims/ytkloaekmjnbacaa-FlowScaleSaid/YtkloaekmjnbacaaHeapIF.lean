/-
  The heap of int: the least one popped, a nil heap. Conditions: at most a million were pushed.
-/
import Derived.Test.YtkloaekmjnbacaaHeapIE
namespace Go.Proofs.Ytkloaekmjnbacaa.HI
open Go.RowKit Go.Proofs.Ytkloaekmjnbacaa.HeapM
variable {fn : Nat} {lt : Int → Int → Bool}

theorem top_x (hL : LessAt fn lt) {p : Nat} {v : Value} {L : List Int} {c : Int} {w : World} (h : Is lt fn p w v L c) {a : Nat} (ha : First lt L a) (x : Int) (hx : L.getD a default = x) :
    Calls Try.prog 74 #[.pointer (some ⟨p, 0, none⟩)] w (Told (.tuple #[(.int .i64 x), .bool true]) w) := by
  subst hx
  exact top_some hL p v L c w h a ha
/-- What Pop leaves. -/
def Popped (lt : Int → Int → Bool) (fn p : Nat) (v : Value) (L : List Int) (c : Int) (a : Nat) (x : Int) (w : World) (e : Ending) (w' : World) : Prop :=
  e = .returned (.tuple #[(.int .i64 x), .bool true]) ∧ ∃ v', Is lt fn p w' v' (L.eraseIdx a) c ∧ Out (Foot p v) w w' ∧ ∀ b, v'.ownBlock = some b → v.ownBlock = some b ∨ w.heap.size ≤ b
set_option maxHeartbeats 400000 in
theorem pop_none (p : Nat) (v : Value) (c : Int) (w : World) (h : Is lt fn p w v [] c) :
    Calls Try.prog 62 #[.pointer (some ⟨p, 0, none⟩)] w (Told (.tuple #[.int .i64 0, .bool false]) w) := by
  have H := Lib.hid h
  clear h
  go_enter Try.func62, Try.ntmps62
  go_wp2_with (go_at_call 74; refine (top_none p v c _ H.out).mono ?_; rintro e w1 ⟨rfl, hb⟩; have Q1 : Hid (Below w.heap.size w w1) := Lib.hid hb; clear hb)
  go_returns
  exact ⟨rfl, Q1.out⟩
set_option maxHeartbeats 400000 in
theorem pop_nil (w : World) : Calls Try.prog 62 #[.pointer none] w (Told (.tuple #[.int .i64 0, .bool false]) w) := by
  go_enter Try.func62, Try.ntmps62
  go_wp2_with (go_at_call 74; refine (top_nil _).mono ?_; rintro e w1 ⟨rfl, hb⟩; have Q1 : Hid (Below w.heap.size w w1) := Lib.hid hb; clear hb)
  go_returns
  exact ⟨rfl, Q1.out⟩
set_option maxHeartbeats 400000 in
theorem push_nil (x : Int) (w : World) : Calls Try.prog 61 #[.pointer none, (.int .i64 x)] w (Told (.tuple #[]) w) := by
  go_enter Try.func61, Try.ntmps61
  go_wp2
  go_returns
  exact ⟨rfl, Below.refl _ _⟩

/-- Behind the top: the row's own parts. -/
theorem dropTopI (hL : LessAt fn lt) (p : Nat) (v : Value) (L : List Int) (c : Int) (w : World) (h : Is lt fn p w v L c) (hc : c ≤ 1000000) (a : Nat) (ha : First lt L a) :
    Calls Try.prog 75 #[.pointer (some ⟨p, 0, none⟩)] w fun e w' => e = .returned (.tuple #[]) ∧ ∃ v', Is lt fn p w' v' (L.eraseIdx a) c ∧ Out (Foot p v) w w' ∧ ∀ b, v'.ownBlock = some b → v.ownBlock = some b := by
  obtain ⟨l, h, hs⟩ := h
  have hln := hs.hold.len
  have hne : 0 < L.length := Nat.lt_of_le_of_lt (Nat.zero_le _) ha.1
  have hr := hs.hold.room
  obtain ⟨a', ha', _, hd⟩ := hs.top hL.ord (by omega)
  obtain rfl := First.uniq ha ha'
  obtain ⟨m, hm⟩ : ∃ m, l.length = m + 1 := ⟨l.length - 1, by omega⟩
  obtain ⟨g, cap, hv, _, _, hpg, hgs⟩ := h.form (by omega)
  subst hv
  have h' : HeapMem w 127 129 2 p (.func (.func fn) #[] #[]) (.slice (some ⟨g, 0, none⟩) (m + 1) cap) l.length (l.flatMap enc) c := hm ▸ h
  refine (dropTop hL p g m cap l c w h' hm.symm (by omega) hs.hp).mono ?_
  rintro e w' ⟨rfl, l', hp, hh, hml, hmem, ho⟩
  refine ⟨rfl, _, ⟨l', hmem, ⟨hd.perm hp, hh⟩⟩, ho.mono (fun i _ e => ?_), fun b hb => ?_⟩
  · rcases e with e | e
    · exact Or.inl e
    · exact Or.inr (by subst e; rfl)
  · simpa [Value.ownBlock] using hb

set_option maxHeartbeats 800000 in
theorem pop_some (hL : LessAt fn lt) (p : Nat) (v : Value) (L : List Int) (c : Int) (w : World) (h : Is lt fn p w v L c) (hc : c ≤ 1000000) (a : Nat) (ha : First lt L a) (x : Int) (hx : L.getD a default = x) :
    Calls Try.prog 62 #[.pointer (some ⟨p, 0, none⟩)] w (Popped lt fn p v L c a x w) := by
  have H := Lib.hid h
  have HA := Lib.hid ha
  have HL := Lib.hid hL
  have HF := Lib.hid h.foot
  have HX := Lib.hid hx
  clear h ha hL hx
  go_enter Try.func62, Try.ntmps62
  go_wp2_with (first
    | (go_at_call 74; refine (top_x HL.out H.out HA.out x HX.out).mono ?_; rintro e w1 ⟨rfl, hb⟩; have B1 := Lib.hid hb; clear hb)
    | (go_at_call 75; refine (dropTopI HL.out p v L c _ (H.out.below B1.out) hc a HA.out).mono ?_; rintro e w2 ⟨rfl, v', hI, ho, hf⟩; have I2 := Lib.hid hI; have O2 := Lib.hid ho; have F2 := Lib.hid hf; clear hI ho hf))
  go_returns
  exact ⟨rfl, v', I2.out, (Out.ofBelow B1.out).trans O2.out (fun _ _ e => e), fun b hb => Or.inl (F2.out b hb)⟩
end Go.Proofs.Ytkloaekmjnbacaa.HI
