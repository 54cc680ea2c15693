/-
  The heap of muntin/flow.visit: one thing pushed. Conditions: at most a million were pushed.
-/
import Derived.Test.YtkloaekmjnbacaaHeapVC
namespace Go.Proofs.Ytkloaekmjnbacaa.HV
open Go.RowKit Go.Proofs.Ytkloaekmjnbacaa.HeapM
variable {fn : Nat} {lt : (Int × Int × Int) → (Int × Int × Int) → Bool}

theorem enc_one (x : (Int × Int × Int) × Int) : ∀ u ∈ enc x, u.oneCell' = true := by
  intro u hu
  simp [enc] at hu
  rcases hu with rfl | rfl | rfl | rfl <;> rfl
theorem news_at (w : World) (T : TypeId) (x : (Int × Int × Int) × Int) (b : Nat) (hb : w.heap.size = b) : ∀ j u, (enc x)[j]? = some u → ((w.alloc (.cells (enc x).toArray T)).drew).cell? ((⟨b, 0, none⟩ : Addr).add j) = some u := by
  intro j u hu
  subst hb
  have hj : ((⟨w.heap.size, 0, none⟩ : Addr).add j) = ⟨w.heap.size, j, none⟩ := by unfold Addr.add; split <;> simp_all
  rw [hj]
  have : ((w.alloc (.cells (enc x).toArray T)).drew).heap[w.heap.size]? = some (.cells (enc x).toArray T (0, 0)) := heap_alloc_new w _
  simp only [World.cell?, this]
  simpa using hu

theorem mem_snoc {W : World} {T E p : Nat} {f v : Value} {l : List ((Int × Int × Int) × Int)} {y : (Int × Int × Int) × Int} {d : Int} (h : HeapMem W T E 4 p f v (l.length + 1) (l.flatMap enc ++ enc y) d) : HeapMem W T E 4 p f v (l ++ [y]).length ((l ++ [y]).flatMap enc) d := by
  have e1 : (l ++ [y]).length = l.length + 1 := by simp
  have e2 : (l ++ [y]).flatMap enc = l.flatMap enc ++ enc y := by simp
  rw [e1, e2]
  exact h

/-- What a push leaves. -/
def Pushed (lt : (Int × Int × Int) → (Int × Int × Int) → Bool) (fn p : Nat) (v : Value) (L : List (Int × Int × Int)) (c : Int) (x : (Int × Int × Int)) (w : World) (e : Ending) (w' : World) : Prop :=
  e = .returned (.tuple #[]) ∧ ∃ v', Is lt fn p w' v' (L ++ [x]) (c + 1) ∧ Out (Foot p v) w w' ∧ ∀ b, v'.ownBlock = some b → v.ownBlock = some b ∨ w.heap.size ≤ b

set_option maxHeartbeats 2000000 in
set_option maxRecDepth 100000 in
theorem push (hL : LessAt fn lt) (p : Nat) (v : Value) (L : List (Int × Int × Int)) (c : Int) (x : (Int × Int × Int)) (w : World) (h : Is lt fn p w v L c) (hc : c ≤ 999999) :
    Calls Try.prog 46 #[.pointer (some ⟨p, 0, none⟩), (.agg #[.int .i64 x.1, .int .i64 x.2.1, .int .i64 x.2.2])] w (Pushed lt fn p v L c x w) := by
  obtain ⟨l, h, hSt⟩ := h
  obtain ⟨i0, hi, hz0, hz1, hz2⟩ := info_parts infoE
  have HL := Lib.hid hL
  have HS := Lib.hid hSt
  have hc0 : (l.length : Int) ≤ c := by rw [hSt.hold.len]; exact hSt.hold.room
  have hln : l.length ≤ 999999 := by omega
  obtain ⟨ao, cap, rfl, hcap, _⟩ := h.form0
  have H := Lib.hid h
  have h1 := h.c1
  have h2 := h.c2
  have hp := h.lt
  clear h hSt hL
  go_enter Try.func46, Try.ntmps46
  go_wp2
  go_region_law (refine step_push rfl (.tmp 10) (.tmp 17) 114 rfl 116 118 i0 (.agg #[.int .i64 0, .int .i64 0, .int .i64 0, .int .i64 0]) 4 32 Try.underlying114 hi hz0 hz1 hz2 rfl (by decide) p l.length (.func (.func fn) #[] #[]) (.slice ao l.length cap) (l.flatMap enc) c H.out (((Below.refl _ _).alloc (Nat.le_refl _) _).alloc (by simp) _).drew (by simp [Act.eval]) ⟨w.heap.size + 1, 0, none⟩ 1 (enc (x, c)) (by simp [Act.eval]) rfl (news_at (w.alloc _) _ _ _ (by simp)) (enc_one _) (by unfold maxLen; omega) (by omega) ?_; intro g' cap' w1 A; have k1 := A.k1; have k2 := A.k2; have e1 := A.e1; have e2 := A.e2; have HA := Lib.hid A; clear A)
  all_goals
    go_wp2_with (go_at_call 64; refine (riseZ HL.out (l := l ++ [(x, c)]) (mem_snoc (HA.out.mem (c + 1))) (by simp) (by omega) _ l.length rfl (by omega) (push_rise HS.out.hp (x, c))).mono ?_; rintro e w9 ⟨rfl, l', R, hp'⟩)
    go_end0
    refine ⟨rfl, _, ⟨l', R.mem, ⟨(HS.out.hold.push x).perm R.perm, hp'⟩⟩, ?_, ?_⟩
    · have o1 : Out (Foot p (.slice ao l.length cap)) w w1 := Out.grown (Out.ofBelow (((Below.refl _ _).alloc (Nat.le_refl _) _).alloc (by simp) _).drew) HA.out.grow (fun i _ e => Or.inr e)
      have o2 := (o1.setCell (p := ⟨p, 1, none⟩) (fun _ => Or.inl rfl) (.slice (some ⟨g', 0, none⟩) (l.length + 1) cap')).setCell (p := ⟨p, 2, none⟩) (fun _ => Or.inl rfl) (.int .i64 (c + 1))
      refine o2.trans R.out (fun i hi e => ?_)
      subst e
      rcases HA.out.fresh with h | h
      · exact Or.inr h
      · have := h
        simp at this
        omega
    · intro b hb
      have hbg : g' = b := by simpa [Value.ownBlock] using hb
      subst hbg
      rcases HA.out.fresh with h | h
      · exact Or.inl h
      · refine Or.inr ?_
        simp at h
        omega
end Go.Proofs.Ytkloaekmjnbacaa.HV
