/-
  What the program's readEdge answers. Conditions: texts of at most 2000000 bytes.
-/
import Derived.Test.YtgedcalplfnjmaaGreatDoorParA
namespace Go.Proofs.YtgedcalplfnjmaaGreatDoor
open Go.RowKit Go.Proofs.YtgedcalplfnjmaaGreatDoor.LexM Go.Proofs.YtgedcalplfnjmaaGreatDoor.ParM

/-- Words with cells, at any text whose words are these. -/
theorem wordsG (s : ByteArray) (L : List (List UInt8)) (m : Nat) (hok : wdOk s.data.toList = true) (hL : wdL s.data.toList = L) (hm : L.length = m) (h0 : 0 < m) (hs : s.size ≤ 2000000) (w : World) (hT : TabL w) :
    Calls Tryz.prog 32 #[.string s] w fun e w' => ∃ g o cap, e = .returned (.tuple #[.slice (some ⟨g, o, none⟩) m cap, .bool true]) ∧ m ≤ cap ∧ g < w'.heap.size ∧ (∀ k (h : k < L.length), w'.cell? ⟨g, o + k, none⟩ = some (.string (bs L[k]))) ∧ Below w.heap.size w w' := by
  refine (words s w hT (by omega)).mono ?_
  rintro e w' ⟨v, rfl, hv, hb⟩
  rw [hL] at hv
  obtain ⟨A, cap, rfl, hc, hA⟩ := hv
  obtain ⟨g, o, rfl, hg, hcell⟩ := hA (by omega)
  subst hm
  rw [hok]
  exact ⟨g, o, cap, rfl, hc, hg, hcell, hb⟩
theorem wordsN (s : ByteArray) (h : wdOk s.data.toList = false) (hs : s.size ≤ 2000000) (w : World) (hT : TabL w) :
    Calls Tryz.prog 32 #[.string s] w fun e w' => (∃ A n c, e = .returned (.tuple #[.slice A n c, .bool false])) ∧ Below w.heap.size w w' := by
  refine (words s w hT (by omega)).mono ?_
  rintro e w' ⟨v, rfl, hv, hb⟩
  obtain ⟨A, c, rfl, _⟩ := hv
  rw [h]
  exact ⟨⟨A, _, c, rfl⟩, hb⟩

/-- An edge's box that is still empty, and words beside it. -/
structure EdSt (w wk : World) (g o : Nat) (L : List (List UInt8)) : Prop where
  below : Below w.heap.size w wk
  blk : wk.heap[w.heap.size]? = some (.cells #[.int .i64 0, .int .i64 0, .int .i64 0, .string ByteArray.empty] 40 (0, 0))
  gl : g < wk.heap.size
  cell : ∀ k (h : k < L.length), wk.cell? ⟨g, o + k, none⟩ = some (.string (bs L[k]))
theorem EdSt.step {w wk wl : World} {g o : Nat} {L : List (List UInt8)} (h : EdSt w wk g o L) (b : Below wk.heap.size wk wl) : EdSt w wl g o L := by
  have hlt : w.heap.size < wk.heap.size := (Array.getElem?_eq_some_iff.1 h.blk).1
  refine ⟨h.below.trans (b.mono h.below.size), by rw [b.block _ hlt]; exact h.blk, Nat.lt_of_lt_of_le h.gl b.size, fun k hk => ?_⟩
  rw [b.cell (p := ⟨g, o + k, none⟩) h.gl]; exact h.cell k hk
theorem EdSt.c0 {w wk : World} {g o : Nat} {L : List (List UInt8)} (h : EdSt w wk g o L) : wk.cell? ⟨w.heap.size, 0, none⟩ = some (.int .i64 0) ∧ wk.cell? ⟨w.heap.size, 1, none⟩ = some (.int .i64 0) ∧ wk.cell? ⟨w.heap.size, 2, none⟩ = some (.int .i64 0) ∧ wk.cell? ⟨w.heap.size, 3, none⟩ = some (.string ByteArray.empty) := by
  have h := h.blk
  refine ⟨?_, ?_, ?_, ?_⟩ <;> simp [World.cell?, h]
theorem EdSt.fr {w wk : World} {g o : Nat} {L : List (List UInt8)} (h : EdSt w wk g o L) (j : Nat) : wk.frozen? ⟨w.heap.size, j, none⟩ = false := by
  have h := h.blk
  simp only [World.frozen?, h]; simp
theorem EdSt.lt {w wk : World} {g o : Nat} {L : List (List UInt8)} (h : EdSt w wk g o L) : w.heap.size < wk.heap.size := (Array.getElem?_eq_some_iff.1 h.blk).1
/-- The box filled. -/
theorem edge_set {w wk : World} {b : Nat} {T : TypeId} {c0 c1 c2 c3 : Value} (h : wk.heap[b]? = some (.cells #[c0, c1, c2, c3] T (0, 0))) (hb : w.heap.size ≤ b) (hw : Below w.heap.size w wk) (v0 v1 v2 v3 : Value) {w6 : World}
    (e : ((((wk.setCell ⟨b, 0, none⟩ v0).setCell ⟨b, 1, none⟩ v1).setCell ⟨b, 2, none⟩ v2).setCell ⟨b, 3, none⟩ v3) = w6) :
    w6.cell? ⟨b, 0, none⟩ = some v0 ∧ w6.cell? ⟨b, 1, none⟩ = some v1 ∧ w6.cell? ⟨b, 2, none⟩ = some v2 ∧ w6.cell? ⟨b, 3, none⟩ = some v3 ∧ Below w.heap.size w w6 := by
  subst e
  have hc := heap_setCell_at (heap_setCell_at (heap_setCell_at (heap_setCell_at h 0 v0) 1 v1) 2 v2) 3 v3
  have ho : Out (fun x => x = b) wk ((((wk.setCell ⟨b, 0, none⟩ v0).setCell ⟨b, 1, none⟩ v1).setCell ⟨b, 2, none⟩ v2).setCell ⟨b, 3, none⟩ v3) := ((((Out.refl _ wk).setIn _ _).setIn _ _).setIn _ _).setIn _ _
  have hx : ∀ j v, ((((#[c0, c1, c2, c3].setIfInBounds 0 v0).setIfInBounds 1 v1).setIfInBounds 2 v2).setIfInBounds 3 v3)[j]? = some v → ((((wk.setCell ⟨b, 0, none⟩ v0).setCell ⟨b, 1, none⟩ v1).setCell ⟨b, 2, none⟩ v2).setCell ⟨b, 3, none⟩ v3).cell? ⟨b, j, none⟩ = some v := fun j v hv => by
    simp only [World.cell?, hc]
    exact hv
  exact ⟨hx 0 v0 rfl, hx 1 v1 rfl, hx 2 v2 rfl, hx 3 v3 rfl, hw.trans (ho.below hw.size (fun i _ e => by omega))⟩

def EdgP (n : Nat) (l : List UInt8) (w : World) (e : Ending) (w' : World) : Prop := e = .returned (.tuple #[valE (edgV n l), .int .i64 (edgE n l)]) ∧ Below w.heap.size w w'
theorem bs_nil : bs [] = ByteArray.empty := rfl
theorem edg_bad {n : Nat} {l : List UInt8} (h : (wdL l).length < 3 ∨ 4 < (wdL l).length) : edgE n l = 4 ∧ edgV n l = noE := by
  unfold edgE edgV
  split
  · rename_i e; rw [e] at h; simp at h
  · rename_i e; rw [e] at h; simp at h
  · exact ⟨rfl, rfl⟩
set_option maxHeartbeats 4000000 in
set_option maxRecDepth 100000 in
theorem readEdge_no (s : ByteArray) (n : Nat) (w : World) (hT : TabL w) (hs : s.size ≤ 2000000) (hz : (wdL s.data.toList).length < 3 ∨ 4 < (wdL s.data.toList).length) :
    Calls Tryz.prog 34 #[.string s, .int .i64 n] w (EdgP n s.data.toList w) := by
  have E := Lib.hid (edg_bad (n := n) hz)
  have HT := Lib.hid hT
  clear hT
  cases hok : wdOk s.data.toList with
  | false =>
    have W := Lib.hid (wordsN s hok hs)
    clear hok hz
    go_enter Tryz.func34, Tryz.ntmps34
    go_wp2_with (fail)
    generalize hwb : World.alloc w _ = wb
    have BB : Hid (Below w.heap.size w wb) := Lib.hid (by rw [← hwb]; exact (Below.refl _ _).alloc (Nat.le_refl _) _)
    have hr0 : wb.heap[w.heap.size]? = some (.cells #[.int .i64 0, .int .i64 0, .int .i64 0, .string ByteArray.empty] 40 (0, 0)) := by rw [← hwb]; exact heap_alloc_new w _
    have S0 : Hid (EdSt w wb w.heap.size 0 []) := Lib.hid ⟨BB.out, hr0, (Array.getElem?_eq_some_iff.1 hr0).1, fun k h => absurd h (by simp)⟩
    clear hwb hr0
    refine (W.out wb (HT.out.below BB.out (Nat.le_refl _))).mono ?_
    rintro e w1 ⟨⟨A, k, c, rfl⟩, b1⟩
    have S1 := Lib.hid (S0.out.step b1)
    obtain ⟨x0, x1, x2, x3⟩ := S1.out.c0
    have j := S1.out.fr
    have j0 := j 0
    have j1 := j 1
    have j2 := j 2
    have j3 := j 3
    have jl := S1.out.lt
    clear b1 j
    go_wp2
    generalize hw6 : World.setCell _ ⟨w.heap.size, 3, none⟩ _ = w6
    obtain ⟨y0, y1, y2, y3, hb⟩ := edge_set S1.out.blk (Nat.le_refl _) S1.out.below _ _ _ _ hw6
    clear hw6
    refine bodyPost_ret (v := .tuple #[.agg #[.int .i64 0, .int .i64 0, .int .i64 0, .string ⟨#[]⟩], .int .i64 4]) (by simp [results, Tryz.results34, go_sem, y0, y1, y2, y3]) rfl ⟨?_, hb⟩
    rw [E.out.1, E.out.2]; rfl
  | true =>
    obtain ⟨m, hm⟩ : ∃ m, (wdL s.data.toList).length = m := ⟨_, rfl⟩
    have h0 : 0 < m := by
      rw [← hm]; unfold wdL; rw [hok]; simp [pieces]
    have W := Lib.hid (wordsG s _ m hok rfl hm h0 hs)
    rw [hm] at hz
    clear hok hm
    rcases hz with hz | hz
    all_goals
      go_enter Tryz.func34, Tryz.ntmps34
      go_wp2_with (fail)
      generalize hwb : World.alloc w _ = wb
      have BB : Hid (Below w.heap.size w wb) := Lib.hid (by rw [← hwb]; exact (Below.refl _ _).alloc (Nat.le_refl _) _)
      have hr0 : wb.heap[w.heap.size]? = some (.cells #[.int .i64 0, .int .i64 0, .int .i64 0, .string ByteArray.empty] 40 (0, 0)) := by rw [← hwb]; exact heap_alloc_new w _
      have S0 : Hid (EdSt w wb w.heap.size 0 []) := Lib.hid ⟨BB.out, hr0, (Array.getElem?_eq_some_iff.1 hr0).1, fun k h => absurd h (by simp)⟩
      clear hwb hr0
      refine (W.out wb (HT.out.below BB.out (Nat.le_refl _))).mono ?_
      rintro e w1 ⟨g, o, cap, rfl, hcap, hg, hc, b1⟩
      have S1 := Lib.hid (S0.out.step b1)
      obtain ⟨x0, x1, x2, x3⟩ := S1.out.c0
      have j := S1.out.fr
      have j0 := j 0
      have j1 := j 1
      have j2 := j 2
      have j3 := j 3
      have jl := S1.out.lt
      clear b1 j hc
      go_wp2
      generalize hw6 : World.setCell _ ⟨w.heap.size, 3, none⟩ _ = w6
      obtain ⟨y0, y1, y2, y3, hb⟩ := edge_set S1.out.blk (Nat.le_refl _) S1.out.below _ _ _ _ hw6
      clear hw6
      refine bodyPost_ret (v := .tuple #[.agg #[.int .i64 0, .int .i64 0, .int .i64 0, .string ⟨#[]⟩], .int .i64 4]) (by simp [results, Tryz.results34, go_sem, y0, y1, y2, y3]) rfl ⟨?_, hb⟩
      rw [E.out.1, E.out.2]; rfl

/-- What is answered, said of the words. -/
theorem edg_words {n : Nat} {l : List UInt8} {L : List (List UInt8)} (hL : wdL l = L) (h3 : 3 ≤ L.length) (h4 : L.length ≤ 4) (t : List UInt8) (ht : t = L.getD 3 []) :
    edgE n l = edgW n (L.getD 0 []) (L.getD 1 []) (L.getD 2 []) t ∧ edgV n l = edgX n (L.getD 0 []) (L.getD 1 []) (L.getD 2 []) t := by
  subst ht
  unfold edgE edgV
  rw [hL]
  match L, h3, h4 with
  | [a, d, b], _, _ => exact ⟨rfl, rfl⟩
  | [a, d, b, t], _, _ => exact ⟨rfl, rfl⟩
theorem edgX_no {n : Nat} {a d b t : List UInt8} {z : Int} (h : edgW n a d b t = z) (hz : z ≠ 0) : edgX n a d b t = noE := by unfold edgX; rw [if_neg (by rw [h]; exact hz)]
set_option maxHeartbeats 8000000 in
set_option maxRecDepth 100000 in
theorem readEdge_yes (s : ByteArray) (n : Nat) (w : World) (hT : TabL w) (hs : s.size ≤ 2000000) (L : List (List UInt8)) (m : Nat) (hok : wdOk s.data.toList = true) (hL : wdL s.data.toList = L) (hm : L.length = m) (h3 : 3 ≤ m) (h4 : m ≤ 4) (hl : ∀ p ∈ L, p.length ≤ 2000000) :
    Calls Tryz.prog 34 #[.string s, .int .i64 n] w (EdgP n s.data.toList w) := by
  have HT := Lib.hid hT
  have W := Lib.hid (wordsG s L m hok hL hm (by omega) hs)
  have E := Lib.hid (edg_words (n := n) hL (by omega) (by omega) _ rfl)
  have g0 : Hid (∀ h : 0 < L.length, L[0]'h = L.getD 0 []) := Lib.hid (fun h => by simp [List.getD_eq_getElem?_getD, h])
  have g1 : Hid (∀ h : 1 < L.length, L[1]'h = L.getD 1 []) := Lib.hid (fun h => by simp [List.getD_eq_getElem?_getD, h])
  have g2 : Hid (∀ h : 2 < L.length, L[2]'h = L.getD 2 []) := Lib.hid (fun h => by simp [List.getD_eq_getElem?_getD, h])
  have g3 : Hid (∀ h : 3 < L.length, L[3]'h = L.getD 3 []) := Lib.hid (fun h => by simp [List.getD_eq_getElem?_getD, h])
  have g4 : Hid (¬ 3 < L.length → L.getD 3 [] = []) := Lib.hid (fun h => by rw [List.getD_eq_getElem?_getD, List.getElem?_eq_none (by omega)]; rfl)
  have hl3 : (L.getD 3 []).length ≤ 2000000 := by
    by_cases h : 3 < L.length
    · rw [← g3.out h]; exact hl _ (List.getElem_mem h)
    · rw [g4.out h]; simp
  have HM := Lib.hid hm
  clear hT hok hL hl hm
  generalize L.getD 0 [] = a at *
  generalize L.getD 1 [] = d at *
  generalize L.getD 2 [] = b at *
  generalize L.getD 3 [] = t at *
  have V1 : Hid (∀ w, Calls Tryz.prog 46 #[.string (bs a), .int .i64 n] w fun e w' => e = .returned (.tuple #[.int .i64 (vtxV n a), .int .i64 (vtxE n a)]) ∧ Below w.heap.size w w') := Lib.hid (fun w => readVertex (bs a) n w)
  have V2 : Hid (∀ w, Calls Tryz.prog 46 #[.string (bs b), .int .i64 n] w fun e w' => e = .returned (.tuple #[.int .i64 (vtxV n b), .int .i64 (vtxE n b)]) ∧ Below w.heap.size w w') := Lib.hid (fun w => readVertex (bs b) n w)
  have D1 : Hid (∀ w, Calls Tryz.prog 47 #[.string (bs d)] w fun e w' => e = .returned (.tuple #[.int .i64 (dirV d), .bool (dirK d)]) ∧ w = w') := Lib.hid (fun w => ofW (bs d) w)
  have T1 : Hid (∀ w, Calls Tryz.prog 37 #[.string (bs t)] w fun e w' => e = .returned (.bool (isTurns t)) ∧ Below w.heap.size w w') := Lib.hid (fun w => areBends (bs t) w (by rw [bs_size]; omega))
  by_cases hv1 : vtxE n a = 0
  · have e1 : vtxV n a = numVal a 9999999 := by unfold vtxV; rw [if_pos hv1]
    have V3 := V1.out
    rw [hv1] at V3
    have V4 := Lib.hid V3
    clear V3 V1
    by_cases hd : dirOf d = -1
    · have ew : edgW n a d b t = 4 := by unfold edgW; rw [if_neg (by simp [hv1]), if_pos hd]
      have EX := Lib.hid (⟨E.out.1.trans ew, E.out.2.trans (edgX_no ew (by decide))⟩ : edgE n s.data.toList = 4 ∧ edgV n s.data.toList = noE)
      have dk : dirK d = false := by unfold dirK; rw [decide_eq_true hd]; rfl
      have D2 := D1.out
      rw [dk] at D2
      have D3 := Lib.hid D2
      clear ew hd dk D2 e1 hv1 D1 E V2 T1
      generalize vtxV n a = av at *
      generalize vtxV n b = bv at *
      generalize dirV d = dv at *
      go_enter Tryz.func34, Tryz.ntmps34
      go_wp2_with (fail)
      generalize hwb : World.alloc w _ = wb
      have BB : Hid (Below w.heap.size w wb) := Lib.hid (by rw [← hwb]; exact (Below.refl _ _).alloc (Nat.le_refl _) _)
      have hr0 : wb.heap[w.heap.size]? = some (.cells #[.int .i64 0, .int .i64 0, .int .i64 0, .string ByteArray.empty] 40 (0, 0)) := by rw [← hwb]; exact heap_alloc_new w _
      have R0 := Lib.hid hr0
      clear hwb hr0
      refine (W.out wb (HT.out.below BB.out (Nat.le_refl _))).mono ?_
      rintro e w1 ⟨g, o, cap, rfl, hcap, hg, hc, b1⟩
      have S1 : Hid (EdSt w w1 g o L) := Lib.hid ⟨BB.out.trans (b1.mono BB.out.size), by rw [b1.block _ (Array.getElem?_eq_some_iff.1 R0.out).1]; exact R0.out, hg, hc⟩
      have d0 := hc 0 (by have := HM.out; omega)
      rw [g0.out, Nat.add_zero] at d0
      clear b1 hc
      go_wp2_with (first
        | (go_at_call 46; refine (V4.out _).mono ?_; rintro e w2 ⟨rfl, b2⟩; have S2 := Lib.hid (S1.out.step b2); have d1 := S2.out.cell 1 (by have := HM.out; omega); rw [g1.out] at d1; have d2 := S2.out.cell 2 (by have := HM.out; omega); rw [g2.out] at d2; have hg2 := S2.out.gl; clear b2)
        | (go_at_call 47; refine (D3.out _).mono ?_; rintro e w3 ⟨rfl, rfl⟩; obtain ⟨x0, x1, x2, x3⟩ := S2.out.c0; have j := S2.out.fr; have j0 := j 0; have j1 := j 1; have j2 := j 2; have j3 := j 3; have jl := S2.out.lt; clear j))
      generalize hw6 : World.setCell _ ⟨w.heap.size, 3, none⟩ _ = w6
      obtain ⟨y0, y1, y2, y3, hb⟩ := edge_set S2.out.blk (Nat.le_refl _) S2.out.below _ _ _ _ hw6
      clear hw6
      refine bodyPost_ret (v := .tuple #[.agg #[.int .i64 0, .int .i64 0, .int .i64 0, .string ⟨#[]⟩], .int .i64 4]) (by simp [results, Tryz.results34, go_sem, y0, y1, y2, y3]) rfl ⟨?_, hb⟩
      rw [EX.out.1, EX.out.2]; rfl
    · have dk : dirK d = true := by unfold dirK; rw [decide_eq_false hd]; rfl
      have dv0 : dirV d = dirOf d := by unfold dirV; rw [if_neg hd]
      have D2 := D1.out
      rw [dk] at D2
      have D3 := Lib.hid D2
      clear D2 dk D1
      by_cases hv2 : vtxE n b = 0
      · have e2 : vtxV n b = numVal b 9999999 := by unfold vtxV; rw [if_pos hv2]
        have V5 := V2.out
        rw [hv2] at V5
        have V6 := Lib.hid V5
        clear V5 V2
        cases ht : isTurns t with
        | false =>
          have hm4 : m = 3 ∨ m = 4 := by omega
          rcases hm4 with rfl | rfl
          · have ew : edgW n a d b t = 4 := by unfold edgW; rw [if_neg (by simp [hv1]), if_neg hd, if_neg (by simp [hv2]), ht]; rfl
            have EX := Lib.hid (⟨E.out.1.trans ew, E.out.2.trans (edgX_no ew (by decide))⟩ : edgE n s.data.toList = 4 ∧ edgV n s.data.toList = noE)
            have T2 := T1.out
            rw [ht] at T2
            have T3 := Lib.hid T2
            have t0 := g4.out (by have := HM.out; omega)
            subst t0
            clear ew ht hd T2 e1 e2 hv1 hv2 dv0 E T1
            generalize vtxV n a = av at *
            generalize vtxV n b = bv at *
            generalize dirV d = dv at *
            go_enter Tryz.func34, Tryz.ntmps34
            go_wp2_with (fail)
            generalize hwb : World.alloc w _ = wb
            have BB : Hid (Below w.heap.size w wb) := Lib.hid (by rw [← hwb]; exact (Below.refl _ _).alloc (Nat.le_refl _) _)
            have hr0 : wb.heap[w.heap.size]? = some (.cells #[.int .i64 0, .int .i64 0, .int .i64 0, .string ByteArray.empty] 40 (0, 0)) := by rw [← hwb]; exact heap_alloc_new w _
            have R0 := Lib.hid hr0
            clear hwb hr0
            refine (W.out wb (HT.out.below BB.out (Nat.le_refl _))).mono ?_
            rintro e w1 ⟨g, o, cap, rfl, hcap, hg, hc, b1⟩
            have S1 : Hid (EdSt w w1 g o L) := Lib.hid ⟨BB.out.trans (b1.mono BB.out.size), by rw [b1.block _ (Array.getElem?_eq_some_iff.1 R0.out).1]; exact R0.out, hg, hc⟩
            have d0 := hc 0 (by have := HM.out; omega)
            rw [g0.out, Nat.add_zero] at d0
            clear b1 hc
            go_wp2_with (first
              | (go_at_call 37; have _hz := S4; refine (T3.out _).mono ?_; rintro e w5 ⟨rfl, b5⟩; have S5 := Lib.hid (S4.out.step b5); obtain ⟨x0, x1, x2, x3⟩ := S5.out.c0; have j := S5.out.fr; have j0 := j 0; have j1 := j 1; have j2 := j 2; have j3 := j 3; have jl := S5.out.lt; clear j; clear b5)
              | (go_at_call 46; have _hz := S2; refine (V6.out _).mono ?_; rintro e w4 ⟨rfl, b4⟩; have S4 := Lib.hid (S2.out.step b4); have hg4 := S4.out.gl; clear b4)
              | (go_at_call 47; refine (D3.out _).mono ?_; rintro e w3 ⟨rfl, rfl⟩)
              | (go_at_call 46; refine (V4.out _).mono ?_; rintro e w2 ⟨rfl, b2⟩; have S2 := Lib.hid (S1.out.step b2); have d1 := S2.out.cell 1 (by have := HM.out; omega); rw [g1.out] at d1; have d2 := S2.out.cell 2 (by have := HM.out; omega); rw [g2.out] at d2; have hg2 := S2.out.gl; clear b2))
            generalize hw6 : World.setCell _ ⟨w.heap.size, 3, none⟩ _ = w6
            obtain ⟨y0, y1, y2, y3, hb⟩ := edge_set S5.out.blk (Nat.le_refl _) S5.out.below _ _ _ _ hw6
            clear hw6
            refine bodyPost_ret (v := .tuple #[.agg #[.int .i64 0, .int .i64 0, .int .i64 0, .string ⟨#[]⟩], .int .i64 4]) (by simp [results, Tryz.results34, go_sem, y0, y1, y2, y3]) rfl ⟨?_, hb⟩
            rw [EX.out.1, EX.out.2]; rfl
          · have ew : edgW n a d b t = 4 := by unfold edgW; rw [if_neg (by simp [hv1]), if_neg hd, if_neg (by simp [hv2]), ht]; rfl
            have EX := Lib.hid (⟨E.out.1.trans ew, E.out.2.trans (edgX_no ew (by decide))⟩ : edgE n s.data.toList = 4 ∧ edgV n s.data.toList = noE)
            have T2 := T1.out
            rw [ht] at T2
            have T3 := Lib.hid T2
            clear ew ht hd T2 e1 e2 hv1 hv2 dv0 E T1
            generalize vtxV n a = av at *
            generalize vtxV n b = bv at *
            generalize dirV d = dv at *
            go_enter Tryz.func34, Tryz.ntmps34
            go_wp2_with (fail)
            generalize hwb : World.alloc w _ = wb
            have BB : Hid (Below w.heap.size w wb) := Lib.hid (by rw [← hwb]; exact (Below.refl _ _).alloc (Nat.le_refl _) _)
            have hr0 : wb.heap[w.heap.size]? = some (.cells #[.int .i64 0, .int .i64 0, .int .i64 0, .string ByteArray.empty] 40 (0, 0)) := by rw [← hwb]; exact heap_alloc_new w _
            have R0 := Lib.hid hr0
            clear hwb hr0
            refine (W.out wb (HT.out.below BB.out (Nat.le_refl _))).mono ?_
            rintro e w1 ⟨g, o, cap, rfl, hcap, hg, hc, b1⟩
            have S1 : Hid (EdSt w w1 g o L) := Lib.hid ⟨BB.out.trans (b1.mono BB.out.size), by rw [b1.block _ (Array.getElem?_eq_some_iff.1 R0.out).1]; exact R0.out, hg, hc⟩
            have d0 := hc 0 (by have := HM.out; omega)
            rw [g0.out, Nat.add_zero] at d0
            clear b1 hc
            go_wp2_with (first
              | (go_at_call 37; have _hz := S4; refine (T3.out _).mono ?_; rintro e w5 ⟨rfl, b5⟩; have S5 := Lib.hid (S4.out.step b5); obtain ⟨x0, x1, x2, x3⟩ := S5.out.c0; have j := S5.out.fr; have j0 := j 0; have j1 := j 1; have j2 := j 2; have j3 := j 3; have jl := S5.out.lt; clear j; clear b5)
              | (go_at_call 46; have _hz := S2; refine (V6.out _).mono ?_; rintro e w4 ⟨rfl, b4⟩; have S4 := Lib.hid (S2.out.step b4); have d3 := S4.out.cell 3 (by have := HM.out; omega); rw [g3.out] at d3; have hg4 := S4.out.gl; clear b4)
              | (go_at_call 47; refine (D3.out _).mono ?_; rintro e w3 ⟨rfl, rfl⟩)
              | (go_at_call 46; refine (V4.out _).mono ?_; rintro e w2 ⟨rfl, b2⟩; have S2 := Lib.hid (S1.out.step b2); have d1 := S2.out.cell 1 (by have := HM.out; omega); rw [g1.out] at d1; have d2 := S2.out.cell 2 (by have := HM.out; omega); rw [g2.out] at d2; have hg2 := S2.out.gl; clear b2))
            generalize hw6 : World.setCell _ ⟨w.heap.size, 3, none⟩ _ = w6
            obtain ⟨y0, y1, y2, y3, hb⟩ := edge_set S5.out.blk (Nat.le_refl _) S5.out.below _ _ _ _ hw6
            clear hw6
            refine bodyPost_ret (v := .tuple #[.agg #[.int .i64 0, .int .i64 0, .int .i64 0, .string ⟨#[]⟩], .int .i64 4]) (by simp [results, Tryz.results34, go_sem, y0, y1, y2, y3]) rfl ⟨?_, hb⟩
            rw [EX.out.1, EX.out.2]; rfl
        | true =>
          have hm4 : m = 3 ∨ m = 4 := by omega
          rcases hm4 with rfl | rfl
          · have ew : edgW n a d b t = 0 := by unfold edgW; rw [if_neg (by simp [hv1]), if_neg hd, if_neg (by simp [hv2]), ht]; rfl
            have EX := Lib.hid (⟨E.out.1.trans ew, by rw [E.out.2]; unfold edgX; rw [if_pos ew, ← e1, ← e2, ← dv0]⟩ : edgE n s.data.toList = 0 ∧ edgV n s.data.toList = (vtxV n a, vtxV n b, dirV d, t))
            have T2 := T1.out
            rw [ht] at T2
            have T3 := Lib.hid T2
            have t0 := g4.out (by have := HM.out; omega)
            subst t0
            clear ew ht hd T2 e1 e2 hv1 hv2 dv0 E T1
            generalize vtxV n a = av at *
            generalize vtxV n b = bv at *
            generalize dirV d = dv at *
            go_enter Tryz.func34, Tryz.ntmps34
            go_wp2_with (fail)
            generalize hwb : World.alloc w _ = wb
            have BB : Hid (Below w.heap.size w wb) := Lib.hid (by rw [← hwb]; exact (Below.refl _ _).alloc (Nat.le_refl _) _)
            have hr0 : wb.heap[w.heap.size]? = some (.cells #[.int .i64 0, .int .i64 0, .int .i64 0, .string ByteArray.empty] 40 (0, 0)) := by rw [← hwb]; exact heap_alloc_new w _
            have R0 := Lib.hid hr0
            clear hwb hr0
            refine (W.out wb (HT.out.below BB.out (Nat.le_refl _))).mono ?_
            rintro e w1 ⟨g, o, cap, rfl, hcap, hg, hc, b1⟩
            have S1 : Hid (EdSt w w1 g o L) := Lib.hid ⟨BB.out.trans (b1.mono BB.out.size), by rw [b1.block _ (Array.getElem?_eq_some_iff.1 R0.out).1]; exact R0.out, hg, hc⟩
            have d0 := hc 0 (by have := HM.out; omega)
            rw [g0.out, Nat.add_zero] at d0
            clear b1 hc
            go_wp2_with (first
              | (go_at_call 37; have _hz := S4; refine (T3.out _).mono ?_; rintro e w5 ⟨rfl, b5⟩; have S5 := Lib.hid (S4.out.step b5); obtain ⟨x0, x1, x2, x3⟩ := S5.out.c0; have j := S5.out.fr; have j0 := j 0; have j1 := j 1; have j2 := j 2; have j3 := j 3; have jl := S5.out.lt; clear j; clear b5)
              | (go_at_call 46; have _hz := S2; refine (V6.out _).mono ?_; rintro e w4 ⟨rfl, b4⟩; have S4 := Lib.hid (S2.out.step b4); have hg4 := S4.out.gl; clear b4)
              | (go_at_call 47; refine (D3.out _).mono ?_; rintro e w3 ⟨rfl, rfl⟩)
              | (go_at_call 46; refine (V4.out _).mono ?_; rintro e w2 ⟨rfl, b2⟩; have S2 := Lib.hid (S1.out.step b2); have d1 := S2.out.cell 1 (by have := HM.out; omega); rw [g1.out] at d1; have d2 := S2.out.cell 2 (by have := HM.out; omega); rw [g2.out] at d2; have hg2 := S2.out.gl; clear b2))
            generalize hw6 : World.setCell _ ⟨w.heap.size, 3, none⟩ _ = w6
            obtain ⟨y0, y1, y2, y3, hb⟩ := edge_set S5.out.blk (Nat.le_refl _) S5.out.below _ _ _ _ hw6
            clear hw6
            refine bodyPost_ret (v := .tuple #[.agg #[.int .i64 av, .int .i64 bv, .int .i64 dv, .string ⟨#[]⟩], .int .i64 0]) (by simp [results, Tryz.results34, go_sem, y0, y1, y2, y3]) rfl ⟨?_, hb⟩
            rw [EX.out.1, EX.out.2]; rfl
          · have ew : edgW n a d b t = 0 := by unfold edgW; rw [if_neg (by simp [hv1]), if_neg hd, if_neg (by simp [hv2]), ht]; rfl
            have EX := Lib.hid (⟨E.out.1.trans ew, by rw [E.out.2]; unfold edgX; rw [if_pos ew, ← e1, ← e2, ← dv0]⟩ : edgE n s.data.toList = 0 ∧ edgV n s.data.toList = (vtxV n a, vtxV n b, dirV d, t))
            have T2 := T1.out
            rw [ht] at T2
            have T3 := Lib.hid T2
            clear ew ht hd T2 e1 e2 hv1 hv2 dv0 E T1
            generalize vtxV n a = av at *
            generalize vtxV n b = bv at *
            generalize dirV d = dv at *
            go_enter Tryz.func34, Tryz.ntmps34
            go_wp2_with (fail)
            generalize hwb : World.alloc w _ = wb
            have BB : Hid (Below w.heap.size w wb) := Lib.hid (by rw [← hwb]; exact (Below.refl _ _).alloc (Nat.le_refl _) _)
            have hr0 : wb.heap[w.heap.size]? = some (.cells #[.int .i64 0, .int .i64 0, .int .i64 0, .string ByteArray.empty] 40 (0, 0)) := by rw [← hwb]; exact heap_alloc_new w _
            have R0 := Lib.hid hr0
            clear hwb hr0
            refine (W.out wb (HT.out.below BB.out (Nat.le_refl _))).mono ?_
            rintro e w1 ⟨g, o, cap, rfl, hcap, hg, hc, b1⟩
            have S1 : Hid (EdSt w w1 g o L) := Lib.hid ⟨BB.out.trans (b1.mono BB.out.size), by rw [b1.block _ (Array.getElem?_eq_some_iff.1 R0.out).1]; exact R0.out, hg, hc⟩
            have d0 := hc 0 (by have := HM.out; omega)
            rw [g0.out, Nat.add_zero] at d0
            clear b1 hc
            go_wp2_with (first
              | (go_at_call 37; have _hz := S4; refine (T3.out _).mono ?_; rintro e w5 ⟨rfl, b5⟩; have S5 := Lib.hid (S4.out.step b5); obtain ⟨x0, x1, x2, x3⟩ := S5.out.c0; have j := S5.out.fr; have j0 := j 0; have j1 := j 1; have j2 := j 2; have j3 := j 3; have jl := S5.out.lt; clear j; clear b5)
              | (go_at_call 46; have _hz := S2; refine (V6.out _).mono ?_; rintro e w4 ⟨rfl, b4⟩; have S4 := Lib.hid (S2.out.step b4); have d3 := S4.out.cell 3 (by have := HM.out; omega); rw [g3.out] at d3; have hg4 := S4.out.gl; clear b4)
              | (go_at_call 47; refine (D3.out _).mono ?_; rintro e w3 ⟨rfl, rfl⟩)
              | (go_at_call 46; refine (V4.out _).mono ?_; rintro e w2 ⟨rfl, b2⟩; have S2 := Lib.hid (S1.out.step b2); have d1 := S2.out.cell 1 (by have := HM.out; omega); rw [g1.out] at d1; have d2 := S2.out.cell 2 (by have := HM.out; omega); rw [g2.out] at d2; have hg2 := S2.out.gl; clear b2))
            generalize hw6 : World.setCell _ ⟨w.heap.size, 3, none⟩ _ = w6
            obtain ⟨y0, y1, y2, y3, hb⟩ := edge_set S5.out.blk (Nat.le_refl _) S5.out.below _ _ _ _ hw6
            clear hw6
            refine bodyPost_ret (v := .tuple #[.agg #[.int .i64 av, .int .i64 bv, .int .i64 dv, .string (bs t)], .int .i64 0]) (by simp [results, Tryz.results34, go_sem, y0, y1, y2, y3]) rfl ⟨?_, hb⟩
            rw [EX.out.1, EX.out.2]; rfl
      · have ew : edgW n a d b t = vtxE n b := by unfold edgW; rw [if_neg (by simp [hv1]), if_neg hd, if_pos hv2]
        have EX := Lib.hid (⟨E.out.1.trans ew, E.out.2.trans (edgX_no ew hv2)⟩ : edgE n s.data.toList = vtxE n b ∧ edgV n s.data.toList = noE)
        have q2 : (vtxE n b == 0) = false := by simpa using hv2
        have q3 : (vtxE n b != 0) = true := by simpa using hv2
        clear ew hd e1 hv1 dv0 E T1
        generalize vtxV n a = av at *
        generalize vtxV n b = bv at *
        generalize dirV d = dv at *
        go_enter Tryz.func34, Tryz.ntmps34
        go_wp2_with (fail)
        generalize hwb : World.alloc w _ = wb
        have BB : Hid (Below w.heap.size w wb) := Lib.hid (by rw [← hwb]; exact (Below.refl _ _).alloc (Nat.le_refl _) _)
        have hr0 : wb.heap[w.heap.size]? = some (.cells #[.int .i64 0, .int .i64 0, .int .i64 0, .string ByteArray.empty] 40 (0, 0)) := by rw [← hwb]; exact heap_alloc_new w _
        have R0 := Lib.hid hr0
        clear hwb hr0
        refine (W.out wb (HT.out.below BB.out (Nat.le_refl _))).mono ?_
        rintro e w1 ⟨g, o, cap, rfl, hcap, hg, hc, b1⟩
        have S1 : Hid (EdSt w w1 g o L) := Lib.hid ⟨BB.out.trans (b1.mono BB.out.size), by rw [b1.block _ (Array.getElem?_eq_some_iff.1 R0.out).1]; exact R0.out, hg, hc⟩
        have d0 := hc 0 (by have := HM.out; omega)
        rw [g0.out, Nat.add_zero] at d0
        clear b1 hc
        go_wp2_with (first
          | (go_at_call 46; have _hz := S2; refine (V2.out _).mono ?_; rintro e w4 ⟨rfl, b4⟩; have S4 := Lib.hid (S2.out.step b4); obtain ⟨x0, x1, x2, x3⟩ := S4.out.c0; have j := S4.out.fr; have j0 := j 0; have j1 := j 1; have j2 := j 2; have j3 := j 3; have jl := S4.out.lt; clear j; clear b4)
          | (go_at_call 47; refine (D3.out _).mono ?_; rintro e w3 ⟨rfl, rfl⟩)
          | (go_at_call 46; refine (V4.out _).mono ?_; rintro e w2 ⟨rfl, b2⟩; have S2 := Lib.hid (S1.out.step b2); have d1 := S2.out.cell 1 (by have := HM.out; omega); rw [g1.out] at d1; have d2 := S2.out.cell 2 (by have := HM.out; omega); rw [g2.out] at d2; have hg2 := S2.out.gl; clear b2))
        generalize hw6 : World.setCell _ ⟨w.heap.size, 3, none⟩ _ = w6
        obtain ⟨y0, y1, y2, y3, hb⟩ := edge_set S4.out.blk (Nat.le_refl _) S4.out.below _ _ _ _ hw6
        clear hw6
        refine bodyPost_ret (v := .tuple #[.agg #[.int .i64 0, .int .i64 0, .int .i64 0, .string ⟨#[]⟩], .int .i64 (vtxE n b)]) (by simp [results, Tryz.results34, go_sem, y0, y1, y2, y3]) rfl ⟨?_, hb⟩
        rw [EX.out.1, EX.out.2]; rfl
  · have ew : edgW n a d b t = vtxE n a := by unfold edgW; rw [if_pos hv1]
    have EX := Lib.hid (⟨E.out.1.trans ew, E.out.2.trans (edgX_no ew hv1)⟩ : edgE n s.data.toList = vtxE n a ∧ edgV n s.data.toList = noE)
    have q2 : (vtxE n a == 0) = false := by simpa using hv1
    have q3 : (vtxE n a != 0) = true := by simpa using hv1
    clear ew E T1 D1 V2
    generalize vtxV n a = av at *
    generalize vtxV n b = bv at *
    generalize dirV d = dv at *
    go_enter Tryz.func34, Tryz.ntmps34
    go_wp2_with (fail)
    generalize hwb : World.alloc w _ = wb
    have BB : Hid (Below w.heap.size w wb) := Lib.hid (by rw [← hwb]; exact (Below.refl _ _).alloc (Nat.le_refl _) _)
    have hr0 : wb.heap[w.heap.size]? = some (.cells #[.int .i64 0, .int .i64 0, .int .i64 0, .string ByteArray.empty] 40 (0, 0)) := by rw [← hwb]; exact heap_alloc_new w _
    have R0 := Lib.hid hr0
    clear hwb hr0
    refine (W.out wb (HT.out.below BB.out (Nat.le_refl _))).mono ?_
    rintro e w1 ⟨g, o, cap, rfl, hcap, hg, hc, b1⟩
    have S1 : Hid (EdSt w w1 g o L) := Lib.hid ⟨BB.out.trans (b1.mono BB.out.size), by rw [b1.block _ (Array.getElem?_eq_some_iff.1 R0.out).1]; exact R0.out, hg, hc⟩
    have d0 := hc 0 (by have := HM.out; omega)
    rw [g0.out, Nat.add_zero] at d0
    clear b1 hc
    go_wp2_with (first
      | (go_at_call 46; refine (V1.out _).mono ?_; rintro e w2 ⟨rfl, b2⟩; have S2 := Lib.hid (S1.out.step b2); obtain ⟨x0, x1, x2, x3⟩ := S2.out.c0; have j := S2.out.fr; have j0 := j 0; have j1 := j 1; have j2 := j 2; have j3 := j 3; have jl := S2.out.lt; clear j; clear b2))
    generalize hw6 : World.setCell _ ⟨w.heap.size, 3, none⟩ _ = w6
    obtain ⟨y0, y1, y2, y3, hb⟩ := edge_set S2.out.blk (Nat.le_refl _) S2.out.below _ _ _ _ hw6
    clear hw6
    refine bodyPost_ret (v := .tuple #[.agg #[.int .i64 0, .int .i64 0, .int .i64 0, .string ⟨#[]⟩], .int .i64 (vtxE n a)]) (by simp [results, Tryz.results34, go_sem, y0, y1, y2, y3]) rfl ⟨?_, hb⟩
    rw [EX.out.1, EX.out.2]; rfl

theorem wdL_short {l : List UInt8} : ∀ p ∈ wdL l, p.length ≤ l.length := by
  intro p hp
  unfold wdL at hp
  split at hp
  · have hg : glue 32 (pieces 32 l) = l ++ [32] := by
      have h2 : glue 32 [(ps 32 l).2] = (ps 32 l).2 ++ [32] := by simp [glue]
      rw [pieces_ps, glue_append, h2, ← List.append_assoc, glue_ps]
    obtain ⟨a, b, e⟩ := List.append_of_mem hp
    have h2 := congrArg List.length hg
    rw [e, glue_append] at h2
    simp [glue] at h2
    omega
  · simp at hp
theorem readEdge (s : ByteArray) (n : Nat) (w : World) (hT : TabL w) (hs : s.size ≤ 2000000) :
    Calls Tryz.prog 34 #[.string s, .int .i64 n] w (EdgP n s.data.toList w) := by
  by_cases h : (wdL s.data.toList).length < 3 ∨ 4 < (wdL s.data.toList).length
  · exact readEdge_no s n w hT hs h
  · have hok : wdOk s.data.toList = true := by
      cases hw : wdOk s.data.toList with
      | true => rfl
      | false => exfalso; apply h; left; unfold wdL; rw [hw]; simp
    exact readEdge_yes s n w hT hs _ _ hok rfl rfl (by omega) (by omega) (fun p hp => by
      have := wdL_short p hp
      have := size_list s
      omega)
end Go.Proofs.YtgedcalplfnjmaaGreatDoor
