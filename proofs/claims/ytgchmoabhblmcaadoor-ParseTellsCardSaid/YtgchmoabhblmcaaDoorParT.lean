/-
  What the reference's edge answers. Conditions: texts of at most 1000000 bytes.
-/
import Derived.Test.YtgchmoabhblmcaaDoorParS
namespace Go.Proofs.YtgchmoabhblmcaaDoor
open Go.RowKit Go.Proofs.YtgchmoabhblmcaaDoor.LexM Go.Proofs.YtgchmoabhblmcaaDoor.ParM

/-- The boxes of an edge's reading: the result's and the empty one's, the edge under way, the words. -/
structure EfSt (w wr : World) (g o x : Nat) (L : List (List UInt8)) (X : Edg) : Prop where
  below : Below w.heap.size w wr
  rc : wr.heap[w.heap.size]? = some (.cells #[.int .i64 0, .int .i64 0, .int .i64 0, .string ByteArray.empty] 47 (0, 0))
  nn : wr.heap[w.heap.size + 1]? = some (.cells #[.int .i64 0, .int .i64 0, .int .i64 0, .string ByteArray.empty] 47 (0, 0))
  xb : wr.heap[x]? = some (.cells #[.int .i64 X.1, .int .i64 X.2.1, .int .i64 X.2.2.1, .string (bs X.2.2.2)] 47 (0, 0))
  xl : w.heap.size + 2 ≤ x
  gx : g ≠ x
  gl : g < wr.heap.size
  cell : ∀ k (h : k < L.length), wr.cell? ⟨g, o + k, none⟩ = some (.string (bs L[k]))
section
variable {w wr wl : World} {g o x : Nat} {L : List (List UInt8)} {X : Edg}
theorem EfSt.step (h : EfSt w wr g o x L X) (b : Below wr.heap.size wr wl) : EfSt w wl g o x L X := by
  have lt : ∀ {k c}, wr.heap[k]? = some c → k < wr.heap.size := fun h => (Array.getElem?_eq_some_iff.1 h).1
  refine ⟨h.below.trans (b.mono h.below.size), by rw [b.block _ (lt h.rc)]; exact h.rc, by rw [b.block _ (lt h.nn)]; exact h.nn, by rw [b.block _ (lt h.xb)]; exact h.xb, h.xl, h.gx, Nat.lt_of_lt_of_le h.gl b.size, fun k hk => ?_⟩
  rw [b.cell (p := ⟨g, o + k, none⟩) h.gl]; exact h.cell k hk
theorem EfSt.put (h : EfSt w wr g o x L X) (j : Nat) (u : Value) (X' : Edg) (e : (#[.int .i64 X.1, .int .i64 X.2.1, .int .i64 X.2.2.1, .string (bs X.2.2.2)] : Array Value).setIfInBounds j u = #[.int .i64 X'.1, .int .i64 X'.2.1, .int .i64 X'.2.2.1, .string (bs X'.2.2.2)]) :
    EfSt w (wr.setCell ⟨x, j, none⟩ u) g o x L X' := by
  have hx := h.xl
  refine ⟨below_set h.below (by omega) _ _, ?_, ?_, by rw [heap_setCell_at h.xb, e], h.xl, h.gx, by simpa [World.setCell] using h.gl, fun k hk => ?_⟩
  · rw [Below.heap_setCell _ _ _ _ (show w.heap.size ≠ x by omega)]; exact h.rc
  · rw [Below.heap_setCell _ _ _ _ (show w.heap.size + 1 ≠ x by omega)]; exact h.nn
  · rw [World.cell?_of_block (w := wr) (a := ⟨g, o + k, none⟩) (Below.heap_setCell _ _ _ _ h.gx)]; exact h.cell k hk
theorem EfSt.cr (h : EfSt w wr g o x L X) : wr.cell? ⟨w.heap.size, 0, none⟩ = some (.int .i64 0) ∧ wr.cell? ⟨w.heap.size, 1, none⟩ = some (.int .i64 0) ∧ wr.cell? ⟨w.heap.size, 2, none⟩ = some (.int .i64 0) ∧ wr.cell? ⟨w.heap.size, 3, none⟩ = some (.string ByteArray.empty) ∧ (∀ j, wr.frozen? ⟨w.heap.size, j, none⟩ = false) ∧ w.heap.size < wr.heap.size := by
  have h1 := h.rc
  refine ⟨?_, ?_, ?_, ?_, ?_, (Array.getElem?_eq_some_iff.1 h1).1⟩
  iterate 4 simp [World.cell?, h1]
  intro j; simp only [World.frozen?, h1]; simp
theorem EfSt.cn (h : EfSt w wr g o x L X) : wr.cell? ⟨w.heap.size + 1, 0, none⟩ = some (.int .i64 0) ∧ wr.cell? ⟨w.heap.size + 1, 1, none⟩ = some (.int .i64 0) ∧ wr.cell? ⟨w.heap.size + 1, 2, none⟩ = some (.int .i64 0) ∧ wr.cell? ⟨w.heap.size + 1, 3, none⟩ = some (.string ByteArray.empty) := by
  have h1 := h.nn
  refine ⟨?_, ?_, ?_, ?_⟩ <;> simp [World.cell?, h1]
theorem EfSt.cx (h : EfSt w wr g o x L X) : wr.cell? ⟨x, 0, none⟩ = some (.int .i64 X.1) ∧ wr.cell? ⟨x, 1, none⟩ = some (.int .i64 X.2.1) ∧ wr.cell? ⟨x, 2, none⟩ = some (.int .i64 X.2.2.1) ∧ wr.cell? ⟨x, 3, none⟩ = some (.string (bs X.2.2.2)) ∧ (∀ j, wr.frozen? ⟨x, j, none⟩ = false) ∧ x < wr.heap.size := by
  have h1 := h.xb
  refine ⟨?_, ?_, ?_, ?_, ?_, (Array.getElem?_eq_some_iff.1 h1).1⟩
  iterate 4 simp [World.cell?, h1]
  intro j; simp only [World.frozen?, h1]; simp
end
/-- The edge behind i words. -/
def stX (a d b t : List UInt8) : Nat → Edg
  | 0 => (0, 0, 0, [])
  | 1 => (numVal a 9999999, 0, 0, [])
  | 2 => (numVal a 9999999, 0, dirOf d, [])
  | 3 => (numVal a 9999999, numVal b 9999999, dirOf d, [])
  | _ => (numVal a 9999999, numVal b 9999999, dirOf d, t)
def okX (n : Nat) (a d b t : List UInt8) (i : Nat) : Prop := (1 ≤ i → vtxE n a = 0) ∧ (2 ≤ i → dirOf d ≠ -1) ∧ (3 ≤ i → vtxE n b = 0) ∧ (4 ≤ i → isTurns t = true)
def EfRel (n : Nat) (a d b t : List UInt8) (L : List (List UInt8)) (m g o x : Nat) (w wr : World) (iv : Value) : Prop := ∃ i : Nat, iv = .int .i64 i ∧ i ≤ m ∧ okX n a d b t i ∧ EfSt w wr g o x L (stX a d b t i)
theorem edgW_a {n : Nat} {a d b t : List UInt8} {z : Int} (h : vtxE n a = z) (hz : z ≠ 0) : edgW n a d b t = z := by unfold edgW; rw [if_pos (by rw [h]; exact hz), h]
theorem edgW_d {n : Nat} {a d b t : List UInt8} (h : vtxE n a = 0) (hd : dirOf d = -1) : edgW n a d b t = 4 := by unfold edgW; rw [if_neg (by simp [h]), if_pos hd]
theorem edgW_b {n : Nat} {a d b t : List UInt8} {z : Int} (h : vtxE n a = 0) (hd : dirOf d ≠ -1) (hb : vtxE n b = z) (hz : z ≠ 0) : edgW n a d b t = z := by unfold edgW; rw [if_neg (by simp [h]), if_neg hd, if_pos (by rw [hb]; exact hz), hb]
theorem edgW_t {n : Nat} {a d b t : List UInt8} (h : vtxE n a = 0) (hd : dirOf d ≠ -1) (hb : vtxE n b = 0) : edgW n a d b t = if isTurns t = true then 0 else 4 := by unfold edgW; rw [if_neg (by simp [h]), if_neg hd, if_neg (by simp [hb])]
theorem vtx_cases (n : Nat) (p : List UInt8) : (numOk p 9999999 = false ∧ vtxE n p = 5) ∨ (numOk p 9999999 = true ∧ (n : Int) ≤ numVal p 9999999 ∧ vtxE n p = 3) ∨ (numOk p 9999999 = true ∧ numVal p 9999999 < n ∧ vtxE n p = 0) := by
  unfold vtxE
  cases h : numOk p 9999999 with
  | false => left; exact ⟨rfl, rfl⟩
  | true =>
    right
    by_cases h2 : numVal p 9999999 < n
    · right; exact ⟨rfl, h2, by rw [if_pos rfl, if_pos h2]⟩
    · left; exact ⟨rfl, by omega, by rw [if_pos rfl, if_neg h2]⟩
theorem alloc_second (w : World) (a b : Obj) : ((w.alloc a).alloc b).heap[w.heap.size + 1]? = some b := by
  have h := heap_alloc_new (w.alloc a) b
  simpa using h
structure EeSt (w wr : World) : Prop where
  below : Below w.heap.size w wr
  rc : wr.heap[w.heap.size]? = some (.cells #[.int .i64 0, .int .i64 0, .int .i64 0, .string ByteArray.empty] 47 (0, 0))
  nn : wr.heap[w.heap.size + 1]? = some (.cells #[.int .i64 0, .int .i64 0, .int .i64 0, .string ByteArray.empty] 47 (0, 0))
theorem EeSt.step {w wr wl : World} (h : EeSt w wr) (b : Below wr.heap.size wr wl) : EeSt w wl := by
  have lt : ∀ {k c}, wr.heap[k]? = some c → k < wr.heap.size := fun h => (Array.getElem?_eq_some_iff.1 h).1
  exact ⟨h.below.trans (b.mono h.below.size), by rw [b.block _ (lt h.rc)]; exact h.rc, by rw [b.block _ (lt h.nn)]; exact h.nn⟩
theorem EeSt.cr {w wr : World} (h : EeSt w wr) : wr.cell? ⟨w.heap.size, 0, none⟩ = some (.int .i64 0) ∧ wr.cell? ⟨w.heap.size, 1, none⟩ = some (.int .i64 0) ∧ wr.cell? ⟨w.heap.size, 2, none⟩ = some (.int .i64 0) ∧ wr.cell? ⟨w.heap.size, 3, none⟩ = some (.string ByteArray.empty) ∧ (∀ j, wr.frozen? ⟨w.heap.size, j, none⟩ = false) ∧ w.heap.size < wr.heap.size := by
  have h1 := h.rc
  refine ⟨?_, ?_, ?_, ?_, ?_, (Array.getElem?_eq_some_iff.1 h1).1⟩
  iterate 4 simp [World.cell?, h1]
  intro j; simp only [World.frozen?, h1]; simp
theorem EeSt.cn {w wr : World} (h : EeSt w wr) : wr.cell? ⟨w.heap.size + 1, 0, none⟩ = some (.int .i64 0) ∧ wr.cell? ⟨w.heap.size + 1, 1, none⟩ = some (.int .i64 0) ∧ wr.cell? ⟨w.heap.size + 1, 2, none⟩ = some (.int .i64 0) ∧ wr.cell? ⟨w.heap.size + 1, 3, none⟩ = some (.string ByteArray.empty) := by
  have h1 := h.nn
  refine ⟨?_, ?_, ?_, ?_⟩ <;> simp [World.cell?, h1]
set_option maxHeartbeats 4000000 in
set_option maxRecDepth 100000 in
theorem refEdge_no (s : ByteArray) (n : Nat) (w : World) (hs : s.size ≤ 1000000) (hz : (wdL s.data.toList).length < 3 ∨ 4 < (wdL s.data.toList).length) :
    Calls Tryd.prog 16 #[.string s, .int .i64 n] w (EdgP n s.data.toList w) := by
  have E := Lib.hid (edg_bad (n := n) hz)
  cases hok : wdOk s.data.toList with
  | false =>
    have W := Lib.hid (refWordsN s hok hs)
    clear hok hz
    go_enter Tryd.func16, Tryd.ntmps16
    go_wp2_with (fail)
    generalize hwb : World.alloc (World.alloc w _) _ = wb
    have BB : Hid (Below w.heap.size w wb) := Lib.hid (by rw [← hwb]; exact ((Below.refl _ _).alloc (Nat.le_refl _) _).alloc (by simp) _)
    have hr0 : wb.heap[w.heap.size]? = some (.cells #[.int .i64 0, .int .i64 0, .int .i64 0, .string ByteArray.empty] 47 (0, 0)) := by rw [← hwb, Below.heap_alloc _ _ _ (by simp)]; exact heap_alloc_new w _
    have hr1 : wb.heap[w.heap.size + 1]? = some (.cells #[.int .i64 0, .int .i64 0, .int .i64 0, .string ByteArray.empty] 47 (0, 0)) := by rw [← hwb]; exact alloc_second w _ _
    have S0 : Hid (EeSt w wb) := Lib.hid ⟨BB.out, hr0, hr1⟩
    clear hwb hr0 hr1
    refine (W.out wb).mono ?_
    rintro e w1 ⟨⟨A, k, c, rfl⟩, b1⟩
    have S1 := Lib.hid (S0.out.step b1)
    obtain ⟨x0, x1, x2, x3, xj, jl⟩ := S1.out.cr; have j0 := xj 0; have j1 := xj 1; have j2 := xj 2; have j3 := xj 3; obtain ⟨n0, n1, n2, n3⟩ := S1.out.cn; clear xj
    clear b1
    go_wp2
    generalize hw6 : World.setCell _ ⟨w.heap.size, 3, none⟩ _ = w6
    obtain ⟨y0, y1, y2, y3, hb6⟩ := edge_set S1.out.rc (Nat.le_refl _) S1.out.below _ _ _ _ hw6
    clear hw6
    refine bodyPost_ret (v := .tuple #[.agg #[.int .i64 0, .int .i64 0, .int .i64 0, .string ByteArray.empty], .int .i64 4]) (by simp [results, Tryd.results16, go_sem, y0, y1, y2, y3]) rfl ⟨?_, hb6⟩
    rw [E.out.1, E.out.2]; rfl
  | true =>
    obtain ⟨m, hm⟩ : ∃ m, (wdL s.data.toList).length = m := ⟨_, rfl⟩
    have h0 : 0 < m := by
      rw [← hm]; unfold wdL; rw [hok]; simp [pieces]
    have W := Lib.hid (refWordsG s _ m hok rfl hm h0 hs)
    rw [hm] at hz
    clear hok hm
    rcases hz with hz | hz
    all_goals
      go_enter Tryd.func16, Tryd.ntmps16
      go_wp2_with (fail)
      generalize hwb : World.alloc (World.alloc w _) _ = wb
      have BB : Hid (Below w.heap.size w wb) := Lib.hid (by rw [← hwb]; exact ((Below.refl _ _).alloc (Nat.le_refl _) _).alloc (by simp) _)
      have hr0 : wb.heap[w.heap.size]? = some (.cells #[.int .i64 0, .int .i64 0, .int .i64 0, .string ByteArray.empty] 47 (0, 0)) := by rw [← hwb, Below.heap_alloc _ _ _ (by simp)]; exact heap_alloc_new w _
      have hr1 : wb.heap[w.heap.size + 1]? = some (.cells #[.int .i64 0, .int .i64 0, .int .i64 0, .string ByteArray.empty] 47 (0, 0)) := by rw [← hwb]; exact alloc_second w _ _
      have S0 : Hid (EeSt w wb) := Lib.hid ⟨BB.out, hr0, hr1⟩
      clear hwb hr0 hr1
      refine (W.out wb).mono ?_
      rintro e w1 ⟨g, o, cap, rfl, hcap, hg, hc, b1⟩
      have S1 := Lib.hid (S0.out.step b1)
      obtain ⟨x0, x1, x2, x3, xj, jl⟩ := S1.out.cr; have j0 := xj 0; have j1 := xj 1; have j2 := xj 2; have j3 := xj 3; obtain ⟨n0, n1, n2, n3⟩ := S1.out.cn; clear xj
      clear b1 hc
      go_wp2
      generalize hw6 : World.setCell _ ⟨w.heap.size, 3, none⟩ _ = w6
      obtain ⟨y0, y1, y2, y3, hb6⟩ := edge_set S1.out.rc (Nat.le_refl _) S1.out.below _ _ _ _ hw6
      clear hw6
      refine bodyPost_ret (v := .tuple #[.agg #[.int .i64 0, .int .i64 0, .int .i64 0, .string ByteArray.empty], .int .i64 4]) (by simp [results, Tryd.results16, go_sem, y0, y1, y2, y3]) rfl ⟨?_, hb6⟩
      rw [E.out.1, E.out.2]; rfl
set_option maxHeartbeats 16000000 in
set_option maxRecDepth 100000 in
theorem refEdge_yes (s : ByteArray) (n : Nat) (w : World) (hs : s.size ≤ 1000000) (L : List (List UInt8)) (m : Nat) (hok : wdOk s.data.toList = true) (hL : wdL s.data.toList = L) (hm : L.length = m) (h3 : 3 ≤ m) (h4 : m ≤ 4) (hl : ∀ p ∈ L, p.length ≤ 1000000) :
    Calls Tryd.prog 16 #[.string s, .int .i64 n] w (EdgP n s.data.toList w) := by
  have W := Lib.hid (refWordsG s L m hok hL hm (by omega) hs)
  have E := Lib.hid (edg_words (n := n) hL (by omega) (by omega) _ rfl)
  have g0 : Hid (∀ h : 0 < L.length, L[0]'h = L.getD 0 []) := Lib.hid (fun h => by simp [List.getD_eq_getElem?_getD, h])
  have g1 : Hid (∀ h : 1 < L.length, L[1]'h = L.getD 1 []) := Lib.hid (fun h => by simp [List.getD_eq_getElem?_getD, h])
  have g2 : Hid (∀ h : 2 < L.length, L[2]'h = L.getD 2 []) := Lib.hid (fun h => by simp [List.getD_eq_getElem?_getD, h])
  have g3 : Hid (∀ h : 3 < L.length, L[3]'h = L.getD 3 []) := Lib.hid (fun h => by simp [List.getD_eq_getElem?_getD, h])
  have g4 : Hid (¬ 3 < L.length → L.getD 3 [] = []) := Lib.hid (fun h => by rw [List.getD_eq_getElem?_getD, List.getElem?_eq_none (by omega)]; rfl)
  have hl3 : (L.getD 3 []).length ≤ 1000000 := by
    by_cases h : 3 < L.length
    · rw [← g3.out h]; exact hl _ (List.getElem_mem h)
    · rw [g4.out h]; simp
  have HM := Lib.hid hm
  clear hok hL hl hm
  generalize L.getD 0 [] = a at *
  generalize L.getD 1 [] = d at *
  generalize L.getD 2 [] = b at *
  generalize L.getD 3 [] = t at *
  have V1 : Hid (∀ w, Calls Tryd.prog 29 #[.string (bs a), .int .i64 9999999] w fun e w' => e = .returned (.tuple #[.int .i64 (numVal a 9999999), .bool (numOk a 9999999)]) ∧ Below w.heap.size w w') := Lib.hid (fun w => refNumber (bs a) 9999999 w)
  have V2 : Hid (∀ w, Calls Tryd.prog 29 #[.string (bs b), .int .i64 9999999] w fun e w' => e = .returned (.tuple #[.int .i64 (numVal b 9999999), .bool (numOk b 9999999)]) ∧ Below w.heap.size w w') := Lib.hid (fun w => refNumber (bs b) 9999999 w)
  have D1 : Hid (∀ w, Calls Tryd.prog 30 #[.string (bs d)] w fun e w' => e = .returned (.int .i64 (dirOf d)) ∧ Below w.heap.size w w') := Lib.hid (fun w => refDirection (bs d) w)
  have T1 : Hid (∀ w, Calls Tryd.prog 31 #[.string (bs t)] w fun e w' => e = .returned (.bool (isTurns t)) ∧ w = w') := Lib.hid (fun w => refTurns (bs t) w (by rw [bs_size]; omega))
  have DR := Lib.hid (dirOf_range d)
  go_enter Tryd.func16, Tryd.ntmps16
  go_wp2_with (fail)
  generalize hwb : World.alloc (World.alloc w _) _ = wb
  have BB : Hid (Below w.heap.size w wb) := Lib.hid (by rw [← hwb]; exact ((Below.refl _ _).alloc (Nat.le_refl _) _).alloc (by simp) _)
  have hr0 : wb.heap[w.heap.size]? = some (.cells #[.int .i64 0, .int .i64 0, .int .i64 0, .string ByteArray.empty] 47 (0, 0)) := by rw [← hwb, Below.heap_alloc _ _ _ (by simp)]; exact heap_alloc_new w _
  have hr1 : wb.heap[w.heap.size + 1]? = some (.cells #[.int .i64 0, .int .i64 0, .int .i64 0, .string ByteArray.empty] 47 (0, 0)) := by rw [← hwb]; exact alloc_second w _ _
  have S0 : Hid (EeSt w wb) := Lib.hid ⟨BB.out, hr0, hr1⟩
  clear hwb hr0 hr1
  refine (W.out wb).mono ?_
  rintro e w1 ⟨g, o, cap, rfl, hcap, hg, hc, b1⟩
  have S1 := Lib.hid (S0.out.step b1)
  have GC := Lib.hid hc
  clear b1 hc
  go_wp2
  go_loopw [10] (fun iv wr => EfRel n a d b t L m g o w1.heap.size w wr iv) (fun iv _ => m - (intOf iv).toNat)
  case atStart =>
    have hsz : w.heap.size + 2 ≤ w1.heap.size := by
      have := (Array.getElem?_eq_some_iff.1 S1.out.nn).1
      omega
    refine ⟨0, rfl, Nat.zero_le _, ⟨fun h => absurd h (by omega), fun h => absurd h (by omega), fun h => absurd h (by omega), fun h => absurd h (by omega)⟩, ?_⟩
    have ha := (Below.refl w1.heap.size w1).alloc (Nat.le_refl _) (.cells #[.int .i64 0, .int .i64 0, .int .i64 0, .string ByteArray.empty] 47)
    have h2 := S1.out.step ha
    refine ⟨h2.below, h2.rc, h2.nn, heap_alloc_new w1 _, hsz, by omega, Nat.lt_of_lt_of_le hg ha.size, fun k hk => ?_⟩
    exact (ha.cell (p := ⟨g, o + k, none⟩) hg).trans (GC.out k hk)
  case round =>
    obtain ⟨i, rfl, hi, hok, hS⟩ := hrel
    have S := Lib.hid hS
    have OK := Lib.hid hok
    clear hS hok
    by_cases hlt : i < m
    · have hc : i = 0 ∨ i = 1 ∨ i = 2 ∨ i = 3 := by omega
      obtain ⟨c0, c1, c2, c3, cf, cl⟩ := S.out.cx
      have gl := S.out.gl
      have gx := S.out.gx
      obtain ⟨x0, x1, x2, x3, xj, jl⟩ := S.out.cr; have j0 := xj 0; have j1 := xj 1; have j2 := xj 2; have j3 := xj 3; obtain ⟨n0, n1, n2, n3⟩ := S.out.cn; clear xj
      rcases hc with rfl | rfl | rfl | rfl
      · have d0 := S.out.cell 0 (by rw [HM.out]; omega)
        rw [g0.out] at d0
        rw [Nat.add_zero] at d0
        have cf0 := cf 0
        rcases vtx_cases n a with ⟨v1, v2⟩ | ⟨v1, v2, v3⟩ | ⟨v1, v2, v3⟩
        · have ew := edgW_a v2 (by decide) (d := d) (b := b) (t := t)
          have EX := Lib.hid (⟨E.out.1.trans ew, E.out.2.trans (edgX_no ew (by decide))⟩ : edgE n s.data.toList = 5 ∧ edgV n s.data.toList = noE)
          have C2 := V1.out
          rw [v1] at C2
          have C3 := Lib.hid C2
          generalize numVal a 9999999 = v at *
          clear ew C2 v2
          go_wp2_with (go_at_call 29; refine (C3.out _).mono ?_; rintro e w5 ⟨rfl, b5⟩; have S5 := Lib.hid (S.out.step b5); clear x0 x1 x2 x3 j0 j1 j2 j3 n0 n1 n2 n3 jl; obtain ⟨x0, x1, x2, x3, xj, jl⟩ := S5.out.cr; have j0 := xj 0; have j1 := xj 1; have j2 := xj 2; have j3 := xj 3; obtain ⟨n0, n1, n2, n3⟩ := S5.out.cn; clear xj; clear b5)
          generalize hw6 : World.setCell _ ⟨w.heap.size, 3, none⟩ _ = w6
          obtain ⟨y0, y1, y2, y3, hb6⟩ := edge_set S5.out.rc (Nat.le_refl _) S5.out.below _ _ _ _ hw6
          clear hw6
          refine bodyPost_ret (v := .tuple #[.agg #[.int .i64 0, .int .i64 0, .int .i64 0, .string ByteArray.empty], .int .i64 5]) (by simp [results, Tryd.results16, go_sem, y0, y1, y2, y3]) rfl ⟨?_, hb6⟩
          rw [EX.out.1, EX.out.2]; rfl
        · have ew := edgW_a v3 (by decide) (d := d) (b := b) (t := t)
          have EX := Lib.hid (⟨E.out.1.trans ew, E.out.2.trans (edgX_no ew (by decide))⟩ : edgE n s.data.toList = 3 ∧ edgV n s.data.toList = noE)
          have C2 := V1.out
          rw [v1] at C2
          have C3 := Lib.hid C2
          generalize numVal a 9999999 = v at *
          clear ew C2 v3
          go_wp2_with (go_at_call 29; refine (C3.out _).mono ?_; rintro e w5 ⟨rfl, b5⟩; have S5 := Lib.hid (S.out.step b5); clear x0 x1 x2 x3 j0 j1 j2 j3 n0 n1 n2 n3 jl; obtain ⟨x0, x1, x2, x3, xj, jl⟩ := S5.out.cr; have j0 := xj 0; have j1 := xj 1; have j2 := xj 2; have j3 := xj 3; obtain ⟨n0, n1, n2, n3⟩ := S5.out.cn; clear xj; clear b5)
          generalize hw6 : World.setCell _ ⟨w.heap.size, 3, none⟩ _ = w6
          obtain ⟨y0, y1, y2, y3, hb6⟩ := edge_set S5.out.rc (Nat.le_refl _) S5.out.below _ _ _ _ hw6
          clear hw6
          refine bodyPost_ret (v := .tuple #[.agg #[.int .i64 0, .int .i64 0, .int .i64 0, .string ByteArray.empty], .int .i64 3]) (by simp [results, Tryd.results16, go_sem, y0, y1, y2, y3]) rfl ⟨?_, hb6⟩
          rw [EX.out.1, EX.out.2]; rfl
        · have C2 := V1.out
          rw [v1] at C2
          have C3 := Lib.hid C2
          have VX := Lib.hid v3
          obtain ⟨v, hv⟩ : ∃ v, numVal a 9999999 = v := ⟨_, rfl⟩
          rw [hv] at C3 v2
          have HV := Lib.hid hv
          clear C2 v3 hv x0 x1 x2 x3 j0 j1 j2 j3 n0 n1 n2 n3
          go_wp2_with (go_at_call 29; refine (C3.out _).mono ?_; rintro e w5 ⟨rfl, b5⟩; have S5 := Lib.hid (S.out.step b5); obtain ⟨e0, e1, e2, e3, ef, el⟩ := S5.out.cx; have ef0 := ef 0; clear ef b5)
          go_roundw
          case rel => exact ⟨1, by go_num, by omega, ⟨fun _ => VX.out, fun h => absurd h (by omega), fun h => absurd h (by omega), fun h => absurd h (by omega)⟩, S5.out.put 0 (.int .i64 v) _ (by unfold stX; rw [HV.out]; rfl)⟩
          case measure => (simp [intOf] <;> omega)
      · have d0 := S.out.cell 1 (by rw [HM.out]; omega)
        rw [g1.out] at d0
        have cf2 := cf 2
        by_cases hd : dirOf d = -1
        · have ew := edgW_d (b := b) (t := t) (OK.out.1 (by omega)) hd
          have EX := Lib.hid (⟨E.out.1.trans ew, E.out.2.trans (edgX_no ew (by decide))⟩ : edgE n s.data.toList = 4 ∧ edgV n s.data.toList = noE)
          have C2 := D1.out
          rw [hd] at C2
          have C3 := Lib.hid C2
          clear ew C2 hd x0 x1 x2 x3 j0 j1 j2 j3 n0 n1 n2 n3 jl
          go_upto_region 20 with (go_at_call 30; refine (C3.out _).mono ?_; rintro e w5 ⟨rfl, b5⟩; have S5 := Lib.hid (S.out.step b5); obtain ⟨e0, e1, e2, e3, ef, el⟩ := S5.out.cx; have ef2 := ef 2; clear ef b5)
          generalize hw8 : World.setCell w5 _ _ = w8
          have S8 : Hid (EfSt w w8 g o w1.heap.size L (numVal a 9999999, 0, -1, [])) := Lib.hid (by rw [← hw8]; exact S5.out.put 2 _ _ rfl)
          clear hw8 e0 e1 e2 e3 ef2 el c0 c1 c2 c3 cf cf2 cl
          obtain ⟨e0, e1, e2, e3, ef, el⟩ := S8.out.cx
          obtain ⟨x0, x1, x2, x3, xj, jl⟩ := S8.out.cr
          have j0 := xj 0
          have j1 := xj 1
          have j2 := xj 2
          have j3 := xj 3
          obtain ⟨n0, n1, n2, n3⟩ := S8.out.cn
          clear xj
          simp only at e2
          go_wp2
          generalize hw6 : World.setCell _ ⟨w.heap.size, 3, none⟩ _ = w6
          obtain ⟨y0, y1, y2, y3, hb6⟩ := edge_set S8.out.rc (Nat.le_refl _) S8.out.below _ _ _ _ hw6
          clear hw6
          refine bodyPost_ret (v := .tuple #[.agg #[.int .i64 0, .int .i64 0, .int .i64 0, .string ByteArray.empty], .int .i64 4]) (by simp [results, Tryd.results16, go_sem, y0, y1, y2, y3]) rfl ⟨?_, hb6⟩
          rw [EX.out.1, EX.out.2]; rfl
        · have C3 := D1
          have HD := Lib.hid hd
          have h0 : ¬ dirOf d < 0 := by have := DR.out; omega
          obtain ⟨dd, hdd⟩ : ∃ v, dirOf d = v := ⟨_, rfl⟩
          rw [hdd] at C3 h0
          have HDD := Lib.hid hdd
          clear hd hdd x0 x1 x2 x3 j0 j1 j2 j3 n0 n1 n2 n3
          go_upto_region 20 with (go_at_call 30; refine (C3.out _).mono ?_; rintro e w5 ⟨rfl, b5⟩; have S5 := Lib.hid (S.out.step b5); obtain ⟨e0, e1, e2, e3, ef, el⟩ := S5.out.cx; have ef2 := ef 2; clear ef b5)
          generalize hw8 : World.setCell w5 _ _ = w8
          have S8 : Hid (EfSt w w8 g o w1.heap.size L (numVal a 9999999, 0, dd, [])) := Lib.hid (by rw [← hw8]; exact S5.out.put 2 _ _ rfl)
          clear hw8 e0 e1 e2 e3 ef2 el c0 c1 c2 c3 cf cf2 cl
          obtain ⟨e0, e1, e2, e3, ef, el⟩ := S8.out.cx
          simp only at e2
          clear ef
          go_wp2
          go_roundw
          case rel => exact ⟨2, by go_num, by omega, ⟨fun _ => OK.out.1 (by omega), fun _ => HD.out, fun h => absurd h (by omega), fun h => absurd h (by omega)⟩, by unfold stX; rw [HDD.out]; exact S8.out⟩
          case measure => (simp [intOf] <;> omega)
      · have d0 := S.out.cell 2 (by rw [HM.out]; omega)
        rw [g2.out] at d0
        have cf1 := cf 1
        rcases vtx_cases n b with ⟨v1, v2⟩ | ⟨v1, v2, v3⟩ | ⟨v1, v2, v3⟩
        · have ew := edgW_b (OK.out.1 (by omega)) (OK.out.2.1 (by omega)) v2 (by decide) (t := t)
          have EX := Lib.hid (⟨E.out.1.trans ew, E.out.2.trans (edgX_no ew (by decide))⟩ : edgE n s.data.toList = 5 ∧ edgV n s.data.toList = noE)
          have C2 := V2.out
          rw [v1] at C2
          have C3 := Lib.hid C2
          generalize numVal b 9999999 = v at *
          clear ew C2 v2
          go_wp2_with (go_at_call 29; refine (C3.out _).mono ?_; rintro e w5 ⟨rfl, b5⟩; have S5 := Lib.hid (S.out.step b5); clear x0 x1 x2 x3 j0 j1 j2 j3 n0 n1 n2 n3 jl; obtain ⟨x0, x1, x2, x3, xj, jl⟩ := S5.out.cr; have j0 := xj 0; have j1 := xj 1; have j2 := xj 2; have j3 := xj 3; obtain ⟨n0, n1, n2, n3⟩ := S5.out.cn; clear xj; clear b5)
          generalize hw6 : World.setCell _ ⟨w.heap.size, 3, none⟩ _ = w6
          obtain ⟨y0, y1, y2, y3, hb6⟩ := edge_set S5.out.rc (Nat.le_refl _) S5.out.below _ _ _ _ hw6
          clear hw6
          refine bodyPost_ret (v := .tuple #[.agg #[.int .i64 0, .int .i64 0, .int .i64 0, .string ByteArray.empty], .int .i64 5]) (by simp [results, Tryd.results16, go_sem, y0, y1, y2, y3]) rfl ⟨?_, hb6⟩
          rw [EX.out.1, EX.out.2]; rfl
        · have ew := edgW_b (OK.out.1 (by omega)) (OK.out.2.1 (by omega)) v3 (by decide) (t := t)
          have EX := Lib.hid (⟨E.out.1.trans ew, E.out.2.trans (edgX_no ew (by decide))⟩ : edgE n s.data.toList = 3 ∧ edgV n s.data.toList = noE)
          have C2 := V2.out
          rw [v1] at C2
          have C3 := Lib.hid C2
          generalize numVal b 9999999 = v at *
          clear ew C2 v3
          go_wp2_with (go_at_call 29; refine (C3.out _).mono ?_; rintro e w5 ⟨rfl, b5⟩; have S5 := Lib.hid (S.out.step b5); clear x0 x1 x2 x3 j0 j1 j2 j3 n0 n1 n2 n3 jl; obtain ⟨x0, x1, x2, x3, xj, jl⟩ := S5.out.cr; have j0 := xj 0; have j1 := xj 1; have j2 := xj 2; have j3 := xj 3; obtain ⟨n0, n1, n2, n3⟩ := S5.out.cn; clear xj; clear b5)
          generalize hw6 : World.setCell _ ⟨w.heap.size, 3, none⟩ _ = w6
          obtain ⟨y0, y1, y2, y3, hb6⟩ := edge_set S5.out.rc (Nat.le_refl _) S5.out.below _ _ _ _ hw6
          clear hw6
          refine bodyPost_ret (v := .tuple #[.agg #[.int .i64 0, .int .i64 0, .int .i64 0, .string ByteArray.empty], .int .i64 3]) (by simp [results, Tryd.results16, go_sem, y0, y1, y2, y3]) rfl ⟨?_, hb6⟩
          rw [EX.out.1, EX.out.2]; rfl
        · have C2 := V2.out
          rw [v1] at C2
          have C3 := Lib.hid C2
          have VX := Lib.hid v3
          obtain ⟨v, hv⟩ : ∃ v, numVal b 9999999 = v := ⟨_, rfl⟩
          rw [hv] at C3 v2
          have HV := Lib.hid hv
          clear C2 v3 hv x0 x1 x2 x3 j0 j1 j2 j3 n0 n1 n2 n3
          go_wp2_with (go_at_call 29; refine (C3.out _).mono ?_; rintro e w5 ⟨rfl, b5⟩; have S5 := Lib.hid (S.out.step b5); obtain ⟨e0, e1, e2, e3, ef, el⟩ := S5.out.cx; have ef1 := ef 1; clear ef b5)
          go_roundw
          case rel => exact ⟨3, by go_num, by omega, ⟨fun _ => OK.out.1 (by omega), fun _ => OK.out.2.1 (by omega), fun _ => VX.out, fun h => absurd h (by omega)⟩, S5.out.put 1 (.int .i64 v) _ (by unfold stX; rw [HV.out]; rfl)⟩
          case measure => (simp [intOf] <;> omega)
      · have d0 := S.out.cell 3 (by rw [HM.out]; omega)
        rw [g3.out] at d0
        have cf3 := cf 3
        have ewt := edgW_t (t := t) (OK.out.1 (by omega)) (OK.out.2.1 (by omega)) (OK.out.2.2.1 (by omega))
        cases ht : isTurns t with
        | false =>
          rw [ht, if_neg (by simp)] at ewt
          have EX := Lib.hid (⟨E.out.1.trans ewt, E.out.2.trans (edgX_no ewt (by decide))⟩ : edgE n s.data.toList = 4 ∧ edgV n s.data.toList = noE)
          have C2 := T1.out
          rw [ht] at C2
          have C3 := Lib.hid C2
          clear ewt C2 ht
          go_wp2_with (go_at_call 31; refine (C3.out _).mono ?_; rintro e w5 ⟨rfl, rfl⟩)
          generalize hw6 : World.setCell _ ⟨w.heap.size, 3, none⟩ _ = w6
          obtain ⟨y0, y1, y2, y3, hb6⟩ := edge_set S.out.rc (Nat.le_refl _) S.out.below _ _ _ _ hw6
          clear hw6
          refine bodyPost_ret (v := .tuple #[.agg #[.int .i64 0, .int .i64 0, .int .i64 0, .string ByteArray.empty], .int .i64 4]) (by simp [results, Tryd.results16, go_sem, y0, y1, y2, y3]) rfl ⟨?_, hb6⟩
          rw [EX.out.1, EX.out.2]; rfl
        | true =>
          have C2 := T1.out
          rw [ht] at C2
          have C3 := Lib.hid C2
          have HT := Lib.hid ht
          clear ewt C2 ht x0 x1 x2 x3 j0 j1 j2 j3 n0 n1 n2 n3
          go_wp2_with (go_at_call 31; refine (C3.out _).mono ?_; rintro e w5 ⟨rfl, rfl⟩)
          go_roundw
          case rel => exact ⟨4, by go_num, by omega, ⟨fun _ => OK.out.1 (by omega), fun _ => OK.out.2.1 (by omega), fun _ => OK.out.2.2.1 (by omega), fun _ => HT.out⟩, S.out.put 3 _ _ (by unfold stX; rfl)⟩
          case measure => (simp [intOf] <;> omega)
    · have hin : i = m := by omega
      have ht : isTurns t = true := by
        by_cases h : 4 ≤ i
        · exact OK.out.2.2.2 h
        · rw [g4.out (by rw [HM.out]; omega)]; rfl
      have ew : edgW n a d b t = 0 := by rw [edgW_t (OK.out.1 (by omega)) (OK.out.2.1 (by omega)) (OK.out.2.2.1 (by omega)), ht, if_pos rfl]
      have hX : stX a d b t i = (numVal a 9999999, numVal b 9999999, dirOf d, t) := by
        rcases (by omega : i = 3 ∨ i = 4) with h | h
        · rw [h, g4.out (by rw [HM.out]; omega)]; rfl
        · rw [h]; rfl
      have EX := Lib.hid (⟨E.out.1.trans ew, by rw [E.out.2]; unfold edgX; rw [if_pos ew]⟩ : edgE n s.data.toList = 0 ∧ edgV n s.data.toList = (numVal a 9999999, numVal b 9999999, dirOf d, t))
      obtain ⟨c0, c1, c2, c3, cf, cl⟩ := S.out.cx
      rw [hX] at c0 c1 c2 c3
      simp only at c0 c1 c2 c3
      obtain ⟨x0, x1, x2, x3, xj, jl⟩ := S.out.cr; have j0 := xj 0; have j1 := xj 1; have j2 := xj 2; have j3 := xj 3; obtain ⟨n0, n1, n2, n3⟩ := S.out.cn; clear xj
      generalize numVal a 9999999 = av at *
      generalize numVal b 9999999 = bv at *
      generalize dirOf d = dv at *
      have hnx : ¬ w.heap.size = w1.heap.size := by have := S.out.xl; omega
      clear ht ew hX cf
      go_wp2
      generalize hw6 : World.setCell _ ⟨w.heap.size, 3, none⟩ _ = w6
      obtain ⟨y0, y1, y2, y3, hb6⟩ := edge_set S.out.rc (Nat.le_refl _) S.out.below _ _ _ _ hw6
      clear hw6
      refine bodyPost_ret (v := .tuple #[.agg #[.int .i64 av, .int .i64 bv, .int .i64 dv, .string (bs t)], .int .i64 0]) (by simp [results, Tryd.results16, go_sem, y0, y1, y2, y3]) rfl ⟨?_, hb6⟩
      rw [EX.out.1, EX.out.2]; rfl
theorem refEdge (s : ByteArray) (n : Nat) (w : World) (hs : s.size ≤ 1000000) :
    Calls Tryd.prog 16 #[.string s, .int .i64 n] w (EdgP n s.data.toList w) := by
  by_cases h : (wdL s.data.toList).length < 3 ∨ 4 < (wdL s.data.toList).length
  · exact refEdge_no s n w hs h
  · have hok : wdOk s.data.toList = true := by
      cases hw : wdOk s.data.toList with
      | true => rfl
      | false => exfalso; apply h; left; unfold wdL; rw [hw]; simp
    exact refEdge_yes s n w hs _ _ hok rfl rfl (by omega) (by omega) (fun p hp => by
      have := wdL_short p hp
      have := size_list s
      omega)
end Go.Proofs.YtgchmoabhblmcaaDoor
