/-
  What the code's vertexWord answers: a map of two letters, a row of bytes. Conditions: at most 4096 vertices.
-/
import Derived.Test.YtgedcalplfnjmaaDoorTxtB
import Derived.Test.YtgedcalplfnjmaaDoorParIs
import Derived.Maps.OwnOps
namespace Go.Proofs.YtgedcalplfnjmaaDoor
open Go.RowKit Go.Proofs.YtgedcalplfnjmaaDoor.LexM Go.Proofs.YtgedcalplfnjmaaDoor.ParM Go.Maps

/-! The map of letters. -/
def letD9 : DataW Unit := ((DataW.map []).put (.bool false) (.lit (.int .u8 112))).put (.bool true) (.lit (.int .u8 98))
def LetAt (w : World) (b : Nat) : Prop := w.ownsMap Tryd.prog 4 (plainElem Tryd.prog 5) b 2 letD9
theorem keyB : Keyed Tryd.prog 4 := bool_keyed Tryd.underlying4
theorem zeroU8 (w : World) : (zeroValue 5).run Tryd.prog w = .ok (.int .u8 0) w := by kernel_rfl
theorem letters (w : World) : ∃ w2 w3, (Instr.mapUpdate 59 (.map (some w.heap.size)) (.bool false) (.int .u8 112)).run Tryd.prog (w.alloc (.map #[] 0)) = .ok () w2 ∧
    (Instr.mapUpdate 59 (.map (some w.heap.size)) (.bool true) (.int .u8 98)).run Tryd.prog w2 = .ok () w3 ∧ LetAt w3 w.heap.size ∧ Below w.heap.size w w3 := by
  have h0 := World.ownsMap_made (H := Unit) w Tryd.prog 4 (plainElem Tryd.prog 5)
  obtain ⟨w2, r2, h2, g2⟩ := h0.update keyB Tryd.underlying59 (by unfold maxLen; omega) (keyOf_bool_mk Tryd.underlying4 false) (plainElem_int (a := 112) Tryd.underlying5 rfl)
  obtain ⟨w3, r3, h3, g3⟩ := h2.update keyB Tryd.underlying59 (by unfold maxLen; omega) (keyOf_bool_mk Tryd.underlying4 true) (plainElem_int (a := 98) Tryd.underlying5 rfl)
  refine ⟨w2, w3, r2, r3, h3, ?_⟩
  have b0 : Below w.heap.size w (w.alloc (.map #[] 0)) := (Below.refl _ _).alloc (Nat.le_refl _) _
  have e : ∀ q, (some w.heap.size : Option Nat) = some q → w.heap.size ≤ q := fun q h => by cases h; exact Nat.le_refl _
  have b2 := b0.grown g2 (by simp) e
  exact b2.grown g3 b2.size e
theorem LetAt.look {w : World} {b : Nat} (h : LetAt w b) (x : Bool) : (Instr.lookup 59 (.map (some b)) (.bool x) false).run Tryd.prog w = .ok (.int .u8 ((bxC x).toNat : Int)) w := by
  obtain ⟨c, hr, ha, _⟩ := World.ownsMap.lookup_int h keyB Tryd.underlying59 Tryd.underlying5 (zeroU8 w) (keyOf_bool_mk Tryd.underlying4 x)
  cases x
  · have e : letD9.atKey (.bool false) (.lit (.int .u8 0)) = .lit (.int .u8 112) := rfl
    rw [e] at ha
    simp only [DataW.lit.injEq, Lit.int.injEq, true_and] at ha
    rw [hr, ← ha]; rfl
  · have e : letD9.atKey (.bool true) (.lit (.int .u8 0)) = .lit (.int .u8 98) := rfl
    rw [e] at ha
    simp only [DataW.lit.injEq, Lit.int.injEq, true_and] at ha
    rw [hr, ← ha]; rfl
theorem LetAt.blk {w w' : World} {b : Nat} (h : LetAt w b) (e : w'.heap[b]? = w.heap[b]?) : LetAt w' b := by
  obtain ⟨es, clock, hb, r⟩ := h
  exact ⟨es, clock, e.trans hb, r⟩
theorem LetAt.lt {w : World} {b : Nat} (h : LetAt w b) : b < w.heap.size := World.ownsMap.lt h
theorem LetAt.not_row {w : World} {B n k b : Nat} {e : TypeId} {v : Value} {xs : List Value} (hl : LetAt w b) (h : w.ownsRow B e k v n xs) : v.ownBlock ≠ some b := by
  obtain ⟨es, clock, hb, _⟩ := hl
  intro hc
  rcases h.2 with ⟨rfl, _⟩ | ⟨g, cap, c2, rfl, _, hg, _⟩
  · cases hc
  · have : g = b := by simpa [Value.ownBlock] using hc
    subst this; rw [hg] at hb
    cases hb
theorem vtxL_map {B : List Bool} (h : B ≠ []) : vtxL B = B.map bxC := by unfold vtxL; rw [if_neg h]; rfl
def VwRel (B : List Bool) (w : World) (wr : World) (wv iv : Value) : Prop := ∃ k : Nat, iv = .int .i64 k ∧ k ≤ B.length ∧ OwnU wr w.heap.size wv ((B.take k).map bxC) ∧ LetAt wr w.heap.size ∧ Below w.heap.size w wr
set_option maxHeartbeats 4000000 in
set_option maxRecDepth 100000 in
theorem vertexWordT (bv : Value) (B : List Bool) (w : World) (hB : BlsAt w bv B) (hl : B.length ≤ 1000000) : Calls Tryd.prog 20 #[bv] w fun e w' => e = .returned (.string (bs (vtxL B))) ∧ Below w.heap.size w w' := by
  have HB := Lib.hid hB
  obtain ⟨nB, hnB⟩ : ∃ n, B.length = n := ⟨_, rfl⟩
  obtain ⟨A1, c1, e⟩ := hB.form
  rw [hnB] at e hl
  subst e
  have LB := Lib.hid hnB
  by_cases h0 : nB = 0
  · have hb0 : B = [] := List.eq_nil_of_length_eq_zero (hnB.trans h0)
    have V : Hid (vtxL B = [45]) := Lib.hid (by rw [hb0]; rfl)
    have q1 : ((nB : Int) == 0) = true := by rw [beq_iff_eq]; omega
    clear hB hnB hb0 h0
    go_enter Tryd.func20, Tryd.ntmps20
    go_wp2
    go_ret
    exact ⟨by rw [V.out]; rfl, Below.refl _ _⟩
  · have hne : B ≠ [] := by intro h; rw [h] at hnB; exact h0 hnB.symm
    have V := Lib.hid (vtxL_map hne)
    have q1 : ((nB : Int) == 0) = false := by rw [beq_eq_false_iff_ne]; omega
    have hmm := @run_makeMap Tryd.prog
    have hmk := mkByt nB (by omega)
    obtain ⟨w2, w3, r2, r3, hL, b3⟩ := letters w
    have L3 := Lib.hid hL
    have B3 := Lib.hid b3
    obtain ⟨i0, hi, hz0, hz1, hz2⟩ := info_of infoU8
    have h3s := b3.size
    have h3l := hL.lt
    have M0 := Lib.hid (ownU_made w3 nB (by omega))
    clear hB hnB hne h0 hL b3
    go_enter Tryd.func20, Tryd.ntmps20
    go_wp2
    clear hmk hmm r2 r3
    go_loopw [4, 17] (fun wv iv wr => VwRel B w wr wv iv) (fun _ iv _ => nB - (intOf iv).toNat)
    case atStart => exact ⟨0, rfl, Nat.zero_le _, own_base M0.out B3.out.size, L3.out.blk (by rw [Below.heap_alloc _ _ _ h3l]), B3.out.alloc B3.out.size _⟩
    case round =>
      obtain ⟨k, rfl, hk, hO, hL, hBW⟩ := hrel
      rw [LB.out] at hk
      have BW := Lib.hid hBW
      have O := Lib.hid hO
      have L := Lib.hid hL
      have hwr := hBW.size
      have hml := hL.lt
      obtain ⟨ao, co, e⟩ := hO.form
      have hkl : ((B.take k).map bxC).length = k := by rw [List.length_map, List.length_take, LB.out]; omega
      rw [hkl] at e
      subst e
      obtain ⟨K, hK⟩ : ∃ K, (B.take k).map bxC = K := ⟨_, rfl⟩
      by_cases hlt : k < nB
      · have hkE : k < B.length := by rw [LB.out]; exact hlt
        obtain ⟨b, o, c', e, hb, d0⟩ := HB.out.nth hkE
        rw [LB.out] at e
        simp only [Value.slice.injEq, true_and] at e
        obtain ⟨rfl, rfl⟩ := e
        have d1 := (hBW.cell (p := ⟨b, o + k, none⟩) hb).trans d0
        have z1 := Nat.lt_of_lt_of_le hb hwr
        have MT := map_take B k hkE
        rw [hK] at MT hkl hO
        obtain ⟨x, hx⟩ : ∃ x, B[k] = x := ⟨_, rfl⟩
        rw [hx] at d1 MT
        have N := Lib.hid MT
        have KL := Lib.hid hkl
        have O2 := Lib.hid hO
        have lk := hL.look x
        clear d0 hx hO hL hBW hkl MT hK O
        cases x
        · have lk2 : (Instr.lookup 59 (.map (some w.heap.size)) (.bool false) false).run Tryd.prog wr = .ok (.int .u8 112) wr := lk
          clear lk
          go_wp2_with (at_builtin; refine wpList_append_fresh rfl (.tmp 21) (.tmp 25) 36 rfl w.heap.size 5 i0 (.int .u8 0) 1 1 Tryd.underlying36 hi hz0 hz1 hz2 rfl (by decide) (.slice ao k co) k (K.map bytV) rfl ((O2.out.below ((Below.refl _ _).alloc (Nat.le_refl _) _) (Nat.le_refl _)).at_ KL.out) ⟨wr.heap.size, 0, none⟩ 1 1 [.int .u8 112] rfl rfl (newsU _ _ _ _ (by simp)) (oneU _) (by unfold maxLen; omega) (by omega) (by simp; omega) ?_; intro v5 w5 hown hgrow hfr; have O5 := Lib.hid (OwnU.snocAt (a := 112) rfl KL.out hown); have L5 := Lib.hid (L.out.blk ((hgrow.block _ (by simp; omega) (fun e => L.out.not_row O2.out e.symm)).trans (Below.heap_alloc _ _ _ hml))); have B5 : Hid (Below w.heap.size w w5) := Lib.hid (BW.out.trans (((Below.refl _ _).alloc (Nat.le_refl _) _).mono hwr) |>.grown hgrow (by simp; omega) (fun q hq => (World.ownsRow.lt O2.out q hq).1)); clear hown hgrow hfr)
          go_roundw
          case rel => exact ⟨k + 1, by go_num, by rw [LB.out]; omega, by rw [N.out]; exact O5.out, L5.out, B5.out⟩
          case measure => (simp [intOf] <;> omega)
        · have lk2 : (Instr.lookup 59 (.map (some w.heap.size)) (.bool true) false).run Tryd.prog wr = .ok (.int .u8 98) wr := lk
          clear lk
          go_wp2_with (at_builtin; refine wpList_append_fresh rfl (.tmp 21) (.tmp 25) 36 rfl w.heap.size 5 i0 (.int .u8 0) 1 1 Tryd.underlying36 hi hz0 hz1 hz2 rfl (by decide) (.slice ao k co) k (K.map bytV) rfl ((O2.out.below ((Below.refl _ _).alloc (Nat.le_refl _) _) (Nat.le_refl _)).at_ KL.out) ⟨wr.heap.size, 0, none⟩ 1 1 [.int .u8 98] rfl rfl (newsU _ _ _ _ (by simp)) (oneU _) (by unfold maxLen; omega) (by omega) (by simp; omega) ?_; intro v5 w5 hown hgrow hfr; have O5 := Lib.hid (OwnU.snocAt (a := 98) rfl KL.out hown); have L5 := Lib.hid (L.out.blk ((hgrow.block _ (by simp; omega) (fun e => L.out.not_row O2.out e.symm)).trans (Below.heap_alloc _ _ _ hml))); have B5 : Hid (Below w.heap.size w w5) := Lib.hid (BW.out.trans (((Below.refl _ _).alloc (Nat.le_refl _) _).mono hwr) |>.grown hgrow (by simp; omega) (fun q hq => (World.ownsRow.lt O2.out q hq).1)); clear hown hgrow hfr)
          go_roundw
          case rel => exact ⟨k + 1, by go_num, by rw [LB.out]; omega, by rw [N.out]; exact O5.out, L5.out, B5.out⟩
          case measure => (simp [intOf] <;> omega)
      · obtain rfl : k = nB := by omega
        have ht : (B.take k).map bxC = vtxL B := by rw [V.out, List.take_of_length_le (by rw [LB.out]; exact Nat.le_refl _)]
        rw [ht] at hO hkl
        have CV := convU wr w.heap.size (.slice ao k co) _ k ao co hO rfl hkl
        clear hO hL O L hBW ht hkl hK
        go_wp2
        go_ret
        exact ⟨rfl, BW.out⟩
end Go.Proofs.YtgedcalplfnjmaaDoor
