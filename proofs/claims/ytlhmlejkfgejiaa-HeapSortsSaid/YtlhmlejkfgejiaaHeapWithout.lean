/-
  The document's list without one. Conditions: the list is a row of the call's own, of at most a million things.
-/
import Derived.Test.YtlhmlejkfgejiaaHeapRef
import Derived.Test.YtlhmlejkfgejiaaAppend
namespace Go.Proofs.Ytlhmlejkfgejiaa
open Go.RowKit Go.Proofs.Ytlhmlejkfgejiaa.HeapM

theorem erase_ne {α : Type} [Inhabited α] (L : List α) (k a : Nat) (hk : k < L.length) (h : k ≠ a) : (L.take (k + 1)).eraseIdx a = (L.take k).eraseIdx a ++ [L.getD k default] := by
  have e : L.take (k + 1) = L.take k ++ [L.getD k default] := by
    rw [List.take_succ_eq_append_getElem hk, List.getD_eq_getElem?_getD, List.getElem?_eq_getElem hk]; rfl
  rw [e]
  by_cases hlt : a < k
  · rw [List.eraseIdx_append_of_lt_length (by simp; omega)]
  · rw [List.eraseIdx_of_length_le (by simp; omega), List.eraseIdx_of_length_le (by simp; omega)]
theorem erase_eq {α : Type} (L : List α) (k : Nat) (hk : k < L.length) : (L.take (k + 1)).eraseIdx k = (L.take k).eraseIdx k := by
  have e : L.take (k + 1) = L.take k ++ [L[k]] := List.take_succ_eq_append_getElem hk
  rw [e, List.eraseIdx_append_of_length_le (by simp; omega), List.eraseIdx_of_length_le (l := L.take k) (by simp; omega)]
  have : k - (L.take k).length = 0 := by simp; omega
  rw [this]; simp

theorem infoL : (Try.prog.info? 26).map (fun i => (i.zero, i.size, i.bytes)) = some (some (.agg #[.int .i64 0, .int .i64 0]), 2, 16) := by kernel_rfl
/-- The list L in a row of the call's own, from B on. -/
def OwnL (w : World) (B : Nat) (v : Value) (L : List (Int × Int)) : Prop := w.ownsRow B 26 2 v L.length (L.flatMap encL)
theorem OwnL.snoc {w : World} {B : Nat} {v : Value} {L : List (Int × Int)} {x : Int × Int} (h : w.ownsRow B 26 2 v (L.length + 1) (L.flatMap encL ++ encL x)) : OwnL w B v (L ++ [x]) := by
  have e1 : (L ++ [x]).length = L.length + 1 := by simp
  have e2 : (L ++ [x]).flatMap encL = L.flatMap encL ++ encL x := by simp
  unfold OwnL
  rw [e1, e2]
  exact h
def WithoutRel (L : List (Int × Int)) (a : Nat) (w wr : World) (ov iv : Value) : Prop :=
  ∃ k : Nat, k ≤ L.length ∧ iv = .int .i64 k ∧ Below w.heap.size w wr ∧ OwnL wr w.heap.size ov ((L.take k).eraseIdx a)
theorem encL_one (x : Int × Int) : ∀ u ∈ encL x, u.oneCell' = true := by
  intro u hu
  simp [encL] at hu
  rcases hu with rfl | rfl <;> rfl
theorem newsL (w : World) (T : TypeId) (x : Int × Int) : ∀ j u, (encL x)[j]? = some u → (w.alloc (.cells (encL x).toArray T)).cell? ((⟨w.heap.size, 0, none⟩ : Addr).add j) = some u := by
  intro j u hu
  have hj : ((⟨w.heap.size, 0, none⟩ : Addr).add j) = ⟨w.heap.size, j, none⟩ := by unfold Addr.add; split <;> simp_all
  rw [hj]
  have : (w.alloc (.cells (encL x).toArray T)).heap[w.heap.size]? = some (.cells (encL x).toArray T (0, 0)) := heap_alloc_new w _
  simp only [World.cell?, this]
  simpa using hu

set_option maxHeartbeats 1000000 in
set_option maxRecDepth 100000 in
theorem without_some (E g cap n a : Nat) (base : Nat) (L : List (Int × Int)) (w : World) (h : w.ownsRow base E 2 (.slice (some ⟨g, 0, none⟩) n cap) n (L.flatMap encL)) (hn : n = L.length) (hs : n ≤ 1000000) :
    Calls Try.prog 11 #[.slice (some ⟨g, 0, none⟩) n cap, .int .i64 a] w fun e w' => ∃ v', e = .returned v' ∧ OwnL w' w.heap.size v' (L.eraseIdx a) ∧ Below w.heap.size w w' := by
  obtain ⟨i0, hi, hz0, hz1, hz2⟩ := info_parts infoL
  have H := Lib.hid h
  have HN := Lib.hid hn
  have hg := (h.lt g rfl).2
  clear h hn
  go_enter Try.func11, Try.ntmps11
  go_wp2
  go_loopw [5, 6] (fun ov iv wr => WithoutRel L a w wr ov iv) (fun _ iv _ => n - (intOf iv).toNat)
  case atStart => exact ⟨0, by omega, rfl, Below.refl _ _, by simp only [List.take_zero, List.eraseIdx_nil]; exact World.ownsRow_nil w _ _ _⟩
  case round =>
    obtain ⟨k, hk, rfl, hb, ho⟩ := hrel
    rename_i ov iv
    have hkn : k ≤ n := by have := HN.out; omega
    have B := Lib.hid hb
    have OV := Lib.hid ho
    have hwr := hb.size
    clear hb hk ho
    by_cases hlt : k < n
    · have hlt2 : k < L.length := by have := HN.out; omega
      by_cases hka : k = a
      · subst hka
        clear hlt2
        go_wp2
        go_roundw
        case rel => exact ⟨k + 1, by have := HN.out; omega, by go_num, B.out, by rw [erase_eq L k (by have := HN.out; omega)]; exact OV.out⟩
        case measure => simp [intOf]; omega
      · have hk0 := (B.out.cell (p := ⟨g, k * 2, none⟩) hg).trans (cellsL H.out HN.out k hlt 0 (by omega))
        have hk1 := (B.out.cell (p := ⟨g, k * 2 + 1, none⟩) hg).trans (cellsL H.out HN.out k hlt 1 (by omega))
        have HE := Lib.hid (erase_ne L k a hlt2 hka)
        generalize hx : L.getD k default = x at *
        have HX := Lib.hid hx
        clear hx
        have k0 : wr.cell? ⟨g, k * 2, none⟩ = some (.int .i64 x.1) := hk0
        have k1 : wr.cell? ⟨g, k * 2 + 1, none⟩ = some (.int .i64 x.2) := hk1
        have hgr : g < wr.heap.size := by omega
        have hle : ((L.take k).eraseIdx a).length ≤ 1000000 := by
          have h1 := (List.eraseIdx_sublist (L.take k) a).length_le
          have h2 : (L.take k).length ≤ k := List.length_take_le _ _
          omega
        clear hk0 hk1
        go_wp2_with (at_builtin; refine wpList_append_fresh rfl (.tmp 16) (.tmp 21) 28 rfl w.heap.size 26 i0 (.agg #[.int .i64 0, .int .i64 0]) 2 16 Try.underlying28 hi hz0 hz1 hz2 rfl (by decide) _ _ _ rfl (OV.out.alloc _) ⟨wr.heap.size, 0, none⟩ 1 1 (encL x) rfl rfl (newsL _ _ _) (encL_one _) (by unfold maxLen; omega) (by omega) (by simp; omega) ?_; intro v' w1 hown hgrow hfr; have OW := Lib.hid hown; have OG := Lib.hid hgrow; clear hown hgrow hfr)
        go_roundw
        case rel => exact ⟨k + 1, by have := HN.out; omega, by go_num, (B.out.alloc (by omega) _).grown OG.out (by simp; omega) (fun b hb => (OV.out.lt b hb).1), by rw [HE.out]; exact OwnL.snoc OW.out⟩
        case measure => simp [intOf]; omega
    · obtain rfl : k = n := by omega
      go_wp2
      go_ret
      exact ⟨_, rfl, by have h := OV.out; rwa [HN.out, List.take_length] at h, B.out⟩

set_option maxHeartbeats 400000 in
theorem without_none (ao : Option Addr) (cap : Nat) (a : Int) (w : World) :
    Calls Try.prog 11 #[.slice ao 0 cap, .int .i64 a] w fun e w' => e = .returned (.slice none 0 0) ∧ w' = w := by
  go_enter Try.func11, Try.ntmps11
  go_wp2
  go_rounds 1
  go_ret
  exact ⟨rfl, rfl⟩
end Go.Proofs.Ytlhmlejkfgejiaa
