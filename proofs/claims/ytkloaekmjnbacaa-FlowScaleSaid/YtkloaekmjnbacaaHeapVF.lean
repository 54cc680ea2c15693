/-
  The heap of muntin/flow.visit: the least one popped, a nil heap. Conditions: at most a million were pushed.
-/
import Derived.Test.YtkloaekmjnbacaaHeapVE
namespace Go.Proofs.Ytkloaekmjnbacaa.HV
open Go.RowKit Go.Proofs.Ytkloaekmjnbacaa.HeapM
variable {fn : Nat} {lt : (Int × Int × Int) → (Int × Int × Int) → Bool}

theorem top_x (hL : LessAt fn lt) {p : Nat} {v : Value} {L : List (Int × Int × Int)} {c : Int} {w : World} (h : Is lt fn p w v L c) {a : Nat} (ha : First lt L a) (x : (Int × Int × Int)) (hx : L.getD a default = x) :
    Calls Try.prog 65 #[.pointer (some ⟨p, 0, none⟩)] w (Told (.tuple #[(.agg #[.int .i64 x.1, .int .i64 x.2.1, .int .i64 x.2.2]), .bool true]) w) := by
  subst hx
  exact top_some hL p v L c w h a ha
/-- What Pop leaves. -/
def Popped (lt : (Int × Int × Int) → (Int × Int × Int) → Bool) (fn p : Nat) (v : Value) (L : List (Int × Int × Int)) (c : Int) (a : Nat) (x : (Int × Int × Int)) (w : World) (e : Ending) (w' : World) : Prop :=
  e = .returned (.tuple #[(.agg #[.int .i64 x.1, .int .i64 x.2.1, .int .i64 x.2.2]), .bool true]) ∧ ∃ v', Is lt fn p w' v' (L.eraseIdx a) c ∧ Out (Foot p v) w w' ∧ ∀ b, v'.ownBlock = some b → v.ownBlock = some b ∨ w.heap.size ≤ b
set_option maxHeartbeats 400000 in
theorem pop_none (p : Nat) (v : Value) (c : Int) (w : World) (h : Is lt fn p w v [] c) :
    Calls Try.prog 47 #[.pointer (some ⟨p, 0, none⟩)] w (Told (.tuple #[.agg #[.int .i64 0, .int .i64 0, .int .i64 0], .bool false]) w) := by
  have H := Lib.hid h
  clear h
  go_enter Try.func47, Try.ntmps47
  go_wp2_with (go_at_call 65; refine (top_none p v c _ (H.out.below ((Below.refl _ _).alloc (Nat.le_refl _) _))).mono ?_; rintro e w1 ⟨rfl, hb⟩; have z1 : w.heap.size < w1.heap.size := (by have := hb.size; simp at this; omega); have Q1 : Hid (Below w.heap.size w w1) := Lib.hid (((Below.refl _ _).alloc (Nat.le_refl _) _).trans (hb.mono (by simp))); have r0 : w1.cell? ⟨w.heap.size, 0, none⟩ = some (.int .i64 0) := (by rw [hb.cell (by simp)]; go_simp); have r1 : w1.cell? ⟨w.heap.size, 1, none⟩ = some (.int .i64 0) := (by rw [hb.cell (by simp)]; go_simp); have r2 : w1.cell? ⟨w.heap.size, 2, none⟩ = some (.int .i64 0) := (by rw [hb.cell (by simp)]; go_simp); have f0 : w1.frozen? ⟨w.heap.size, 0, none⟩ = false := (by rw [hb.frozen (by simp)]; go_simp); have f1 : w1.frozen? ⟨w.heap.size, 1, none⟩ = false := (by rw [hb.frozen (by simp)]; go_simp); have f2 : w1.frozen? ⟨w.heap.size, 2, none⟩ = false := (by rw [hb.frozen (by simp)]; go_simp); clear hb)
  refine bodyPost_ret (v := .tuple #[.agg #[.int .i64 0, .int .i64 0, .int .i64 0], .bool false]) (by simp [results, Try.results47, go_sem, r0, r1, r2, z1]) rfl ⟨rfl, ?_⟩
  have hq := Q1.out
  go_grown
set_option maxHeartbeats 400000 in
theorem pop_nil (w : World) : Calls Try.prog 47 #[.pointer none] w (Told (.tuple #[.agg #[.int .i64 0, .int .i64 0, .int .i64 0], .bool false]) w) := by
  go_enter Try.func47, Try.ntmps47
  go_wp2_with (go_at_call 65; refine (top_nil _).mono ?_; rintro e w1 ⟨rfl, hb⟩; have z1 : w.heap.size < w1.heap.size := (by have := hb.size; simp at this; omega); have Q1 : Hid (Below w.heap.size w w1) := Lib.hid (((Below.refl _ _).alloc (Nat.le_refl _) _).trans (hb.mono (by simp))); have r0 : w1.cell? ⟨w.heap.size, 0, none⟩ = some (.int .i64 0) := (by rw [hb.cell (by simp)]; go_simp); have r1 : w1.cell? ⟨w.heap.size, 1, none⟩ = some (.int .i64 0) := (by rw [hb.cell (by simp)]; go_simp); have r2 : w1.cell? ⟨w.heap.size, 2, none⟩ = some (.int .i64 0) := (by rw [hb.cell (by simp)]; go_simp); have f0 : w1.frozen? ⟨w.heap.size, 0, none⟩ = false := (by rw [hb.frozen (by simp)]; go_simp); have f1 : w1.frozen? ⟨w.heap.size, 1, none⟩ = false := (by rw [hb.frozen (by simp)]; go_simp); have f2 : w1.frozen? ⟨w.heap.size, 2, none⟩ = false := (by rw [hb.frozen (by simp)]; go_simp); clear hb)
  refine bodyPost_ret (v := .tuple #[.agg #[.int .i64 0, .int .i64 0, .int .i64 0], .bool false]) (by simp [results, Try.results47, go_sem, r0, r1, r2, z1]) rfl ⟨rfl, ?_⟩
  have hq := Q1.out
  go_grown
set_option maxHeartbeats 400000 in
theorem push_nil (x : (Int × Int × Int)) (w : World) : Calls Try.prog 46 #[.pointer none, (.agg #[.int .i64 x.1, .int .i64 x.2.1, .int .i64 x.2.2])] w (Told (.tuple #[]) w) := by
  go_enter Try.func46, Try.ntmps46
  go_wp2
  go_returns
  exact ⟨rfl, by go_grown⟩

/-- Behind the top: the row's own parts. -/
theorem dropTopI (hL : LessAt fn lt) (p : Nat) (v : Value) (L : List (Int × Int × Int)) (c : Int) (w : World) (h : Is lt fn p w v L c) (hc : c ≤ 1000000) (a : Nat) (ha : First lt L a) :
    Calls Try.prog 66 #[.pointer (some ⟨p, 0, none⟩)] w fun e w' => e = .returned (.tuple #[]) ∧ ∃ v', Is lt fn p w' v' (L.eraseIdx a) c ∧ Out (Foot p v) w w' ∧ ∀ b, v'.ownBlock = some b → v.ownBlock = some b := by
  obtain ⟨l, h, hs⟩ := h
  have hln := hs.hold.len
  have hne : 0 < L.length := Nat.lt_of_le_of_lt (Nat.zero_le _) ha.1
  have hr := hs.hold.room
  obtain ⟨a', ha', _, hd⟩ := hs.top hL.ord (by omega)
  obtain rfl := First.uniq ha ha'
  obtain ⟨m, hm⟩ : ∃ m, l.length = m + 1 := ⟨l.length - 1, by omega⟩
  obtain ⟨g, cap, hv, _, _, hpg, hgs⟩ := h.form (by omega)
  subst hv
  have h' : HeapMem w 116 118 4 p (.func (.func fn) #[] #[]) (.slice (some ⟨g, 0, none⟩) (m + 1) cap) l.length (l.flatMap enc) c := hm ▸ h
  refine (dropTop hL p g m cap l c w h' hm.symm (by omega) hs.hp).mono ?_
  rintro e w' ⟨rfl, l', hp, hh, hml, hmem, ho⟩
  refine ⟨rfl, _, ⟨l', hmem, ⟨hd.perm hp, hh⟩⟩, ho.mono (fun i _ e => ?_), fun b hb => ?_⟩
  · rcases e with e | e
    · exact Or.inl e
    · exact Or.inr (by subst e; rfl)
  · simpa [Value.ownBlock] using hb

set_option maxHeartbeats 800000 in
theorem pop_some (hL : LessAt fn lt) (p : Nat) (v : Value) (L : List (Int × Int × Int)) (c : Int) (w : World) (h : Is lt fn p w v L c) (hc : c ≤ 1000000) (a : Nat) (ha : First lt L a) (x : (Int × Int × Int)) (hx : L.getD a default = x) :
    Calls Try.prog 47 #[.pointer (some ⟨p, 0, none⟩)] w (Popped lt fn p v L c a x w) := by
  have H := Lib.hid h
  have HA := Lib.hid ha
  have HL := Lib.hid hL
  have HF := Lib.hid h.foot
  have HX := Lib.hid hx
  clear h ha hL hx
  go_enter Try.func47, Try.ntmps47
  go_wp2_with (first
    | (go_at_call 65; refine (top_x HL.out (H.out.below ((Below.refl _ _).alloc (Nat.le_refl _) _)) HA.out x HX.out).mono ?_; rintro e w1 ⟨rfl, hb⟩; have z1 : w.heap.size < w1.heap.size := (by have := hb.size; simp at this; omega); have B1 : Hid (Below w.heap.size w w1) := Lib.hid (((Below.refl _ _).alloc (Nat.le_refl _) _).trans (hb.mono (by simp))); have C1 := Lib.hid hb; clear hb)
    | (go_at_call 66; refine (dropTopI HL.out p v L c _ (H.out.below (B1.out.alloc (by omega) _)) hc a HA.out).mono ?_; rintro e w2 ⟨rfl, v', hI, ho, hf⟩; have I2 := Lib.hid hI; have O2 := Lib.hid ho; have F2 := Lib.hid hf; have z2 : w1.heap.size < w2.heap.size := (by have := ho.size; simp at this; omega); have z3 : w.heap.size < w2.heap.size := (by omega); have q0 : w2.cell? ⟨w1.heap.size, 0, none⟩ = some (.int .i64 x.1) := (by rw [ho.cell _ (by simp) (fun e => by have := HF.out _ e; omega)]; go_simp); have q1 : w2.cell? ⟨w1.heap.size, 1, none⟩ = some (.int .i64 x.2.1) := (by rw [ho.cell _ (by simp) (fun e => by have := HF.out _ e; omega)]; go_simp); have q2 : w2.cell? ⟨w1.heap.size, 2, none⟩ = some (.int .i64 x.2.2) := (by rw [ho.cell _ (by simp) (fun e => by have := HF.out _ e; omega)]; go_simp); have r0 : w2.cell? ⟨w.heap.size, 0, none⟩ = some (.int .i64 0) := (by rw [ho.cell _ (by simp; omega) (fun e => by have := HF.out _ e; omega), Below.cell ((Below.refl w1.heap.size w1).alloc (Nat.le_refl _) _) z1, C1.out.cell (by simp)]; go_simp); have r1 : w2.cell? ⟨w.heap.size, 1, none⟩ = some (.int .i64 0) := (by rw [ho.cell _ (by simp; omega) (fun e => by have := HF.out _ e; omega), Below.cell ((Below.refl w1.heap.size w1).alloc (Nat.le_refl _) _) z1, C1.out.cell (by simp)]; go_simp); have r2 : w2.cell? ⟨w.heap.size, 2, none⟩ = some (.int .i64 0) := (by rw [ho.cell _ (by simp; omega) (fun e => by have := HF.out _ e; omega), Below.cell ((Below.refl w1.heap.size w1).alloc (Nat.le_refl _) _) z1, C1.out.cell (by simp)]; go_simp); have f0 : w2.frozen? ⟨w.heap.size, 0, none⟩ = false := (by rw [ho.frz _ (by simp; omega) (fun e => by have := HF.out _ e; omega), Below.frozen ((Below.refl w1.heap.size w1).alloc (Nat.le_refl _) _) z1, C1.out.frozen (by simp)]; go_simp); have f1 : w2.frozen? ⟨w.heap.size, 1, none⟩ = false := (by rw [ho.frz _ (by simp; omega) (fun e => by have := HF.out _ e; omega), Below.frozen ((Below.refl w1.heap.size w1).alloc (Nat.le_refl _) _) z1, C1.out.frozen (by simp)]; go_simp); have f2 : w2.frozen? ⟨w.heap.size, 2, none⟩ = false := (by rw [ho.frz _ (by simp; omega) (fun e => by have := HF.out _ e; omega), Below.frozen ((Below.refl w1.heap.size w1).alloc (Nat.le_refl _) _) z1, C1.out.frozen (by simp)]; go_simp); clear hI ho hf))
  refine bodyPost_ret (v := .tuple #[(.agg #[.int .i64 x.1, .int .i64 x.2.1, .int .i64 x.2.2]), .bool true]) (by simp [results, Try.results47, go_sem, r0, r1, r2]) rfl ⟨rfl, v', ?_, ?_, fun b hb => Or.inl (F2.out b hb)⟩
  · refine I2.out.out (S := fun b => b = w.heap.size) ((((Out.refl _ _).setIn _ _).setIn _ _).setIn _ _) (fun b hb e => ?_)
    have hlt : b < w.heap.size := HF.out b (by rcases hb with hb | hb; exact Or.inl hb; exact Or.inr (F2.out b hb))
    omega
  · refine Out.setCell (Out.setCell (Out.setCell ((Out.ofBelow (B1.out.alloc (by omega) _)).trans O2.out (fun _ _ e => e)) (fun h => absurd h (by simp)) _) (fun h => absurd h (by simp)) _) (fun h => absurd h (by simp)) _
end Go.Proofs.Ytkloaekmjnbacaa.HV
