/-
  A shape's cells, laid out and joined: what joined answers. Conditions: a shape that may be written, at most 4096 cells; the borders read as the program lays them.
-/
import Derived.Test.YtecifgaekefkpaaDoorNcL
import Derived.Test.YtecifgaekefkpaaDoorNzDc
namespace Go.Proofs.YtecifgaekefkpaaDoor
open Go.RowKit Go.Proofs.YtecifgaekefkpaaDoor.LexM Go.Proofs.YtecifgaekefkpaaDoor.ParM Go.Proofs.YtecifgaekefkpaaDoor.GrM Go.Proofs.YtecifgaekefkpaaDoor.NmM

/-- The joins of boxes; of the first so many edges. -/
def bsJ (E : List Edg) (cf : Nat → Nat) (V : List Nat) : List Jn := V.flatMap fun v => bxJ (cf v) (fun d => sdC E v (cf v) d) 4
def esJ (E : List Edg) (W : Nat → List Int) : Nat → List Jn
  | 0 => []
  | k + 1 => esJ E W k ++ egJ (W k) (E.getD k noE).2.2.1 (E.getD k noE).2.2.2 k (nbE E k + 1)
theorem bsJ_next {E : List Edg} {cf : Nat → Nat} {X : List BxQ} {j : Nat} (hj : j < X.length) : bsJ E cf ((X.take (j + 1)).map (·.v)) = bsJ E cf ((X.take j).map (·.v)) ++ bxJ (cf X[j].v) (fun d => sdC E X[j].v (cf X[j].v) d) 4 := by
  rw [List.take_succ_eq_append_getElem hj, List.map_append]
  unfold bsJ
  rw [List.flatMap_append]
  simp
theorem sdC_len (E : List Edg) (v c d : Nat) : (sdC E v c d).length = (onL E (v : Int) (d : Int)).length := celR_len _ _
theorem BxsAt.nth {m : Nat} {E : List Edg} {cf : Nat → Nat} {w : World} {A : Option Addr} {n c : Nat} {X : List BxQ} (h : BxsAt m E cf w (.slice A n c) X) {j : Nat} (hj : j < X.length) : ∃ b, A = some ⟨b, 0, none⟩ ∧ b < w.heap.size ∧
    ∀ r, r < 8 → w.cell? ⟨b, j * 8 + r, none⟩ = (encX cf X[j])[r]? := by
  obtain ⟨g, cap, hv, _, hg, _⟩ := ownsRow_form h.row (by omega)
  simp only [Value.slice.injEq] at hv
  obtain ⟨rfl, rfl, rfl⟩ := hv
  have hI : Inhabited BxQ := ⟨⟨0, fun _ => default⟩⟩
  have hlen := flat_len (encX cf) (encX_len cf) X
  refine ⟨g, rfl, hg, fun r hr => ?_⟩
  rw [World.ownsRow.cellAt h.row (j * 8 + r) (by omega)]
  have h1 := flat_get (encX cf) (encX_len cf) X j r hj hr
  have h2 : j * 8 + r < (X.flatMap (encX cf)).length := by rw [hlen]; omega
  rw [List.getD_eq_getElem?_getD, List.getD_eq_getElem?_getD, List.getD_eq_getElem?_getD, List.getElem?_eq_getElem h2, List.getElem?_eq_getElem hj] at h1
  simp only [Option.getD_some] at h1
  rw [List.getElem?_eq_getElem h2, h1, List.getElem?_eq_getElem (by rw [encX_len]; exact hr)]
  rfl
/-- A layout in a box of its own. -/
def LzC (w : World) (rb : Nat) (x0 x1 x2 x3 : Value) : Prop := w.heap[rb]? = some (.cells #[x0, x1, x2, x3] 64 (0, 0))
theorem LzC.at_ {w : World} {rb : Nat} {x0 x1 x2 x3 : Value} (h : LzC w rb x0 x1 x2 x3) : w.cell? ⟨rb, 0, none⟩ = some x0 ∧ w.cell? ⟨rb, 1, none⟩ = some x1 ∧ w.cell? ⟨rb, 2, none⟩ = some x2 ∧ w.cell? ⟨rb, 3, none⟩ = some x3 ∧ rb < w.heap.size := by
  unfold LzC at h
  exact ⟨by simp [World.cell?, h], by simp [World.cell?, h], by simp [World.cell?, h], by simp [World.cell?, h], (Array.getElem?_eq_some_iff.1 h).1⟩
theorem LzC.below {w w' : World} {rb C : Nat} {x0 x1 x2 x3 : Value} (h : LzC w rb x0 x1 x2 x3) (b : Below C w w') (hC : rb < C) : LzC w' rb x0 x1 x2 x3 := (b.block _ hC).trans h
def JdB (E : List Edg) (cf : Nat → Nat) (X : List BxQ) (n nX : Nat) (w1 wr : World) (p : Nat) (iv : Value) : Prop :=
  ∃ (j : Nat) (v : Value), iv = .int .i64 j ∧ j ≤ nX ∧ GrB w1.heap.size w1 wr p v (jnA n (newG n) (bsJ E cf ((X.take j).map (·.v)))) n
def JdE (E : List Edg) (Wf : Nat → List Int) (M : List Int) (n nE : Nat) (w1 wr : World) (p : Nat) (iv : Value) : Prop :=
  ∃ (k : Nat) (v : Value), iv = .int .i64 k ∧ k ≤ nE ∧ GrB w1.heap.size w1 wr p v (jnA n M (esJ E Wf k)) n
set_option maxHeartbeats 16000000 in
set_option maxRecDepth 100000 in
theorem joinedY {w : World} {D s0 lb ob fb nB n : Nat} {F : List Int} {xv : Value} {X : List BxQ} {cf : Nat → Nat} {Wf : Nat → List Int} (bv ev fv : Value) (B : List Bool) (E : List Edg) (hbv : ∃ A k c, bv = .slice A k c) (hfv : ∃ A k c, fv = .slice A k c) (hE : EdsAt w ev E) (hM : May B E) (hT : BorT w)
    (hL : LyAt D s0 E.length (fun i => nbE E i + 2) lb ob fb nB w n F nB xv Wf) (hX : BxsAt (s0 + 2 * E.length) E cf w xv X) (hn : n ≤ 4096) (hXl : X.length ≤ 5000) :
    Calls Tryd.prog 22 #[.agg #[bv, ev], .agg #[.int .i64 n, fv, xv, .slice (some ⟨ob, 0, none⟩) E.length E.length]] w fun e w' => ∃ A c, e = .returned (.slice A n c) ∧ OwnG w' w.heap.size (.slice A n c) (jnA n (newG n) (bsJ E cf (X.map (·.v)) ++ esJ E Wf E.length)) n ∧ Below w.heap.size w w' := by
  obtain ⟨AB, kB, cB, rfl⟩ := hbv
  obtain ⟨AF, kF, cF, rfl⟩ := hfv
  obtain ⟨AE, cE, e⟩ := hE.form
  subst e
  have HE := Lib.hid hE
  have HM := Lib.hid hM
  have HT := Lib.hid hT
  have HL := Lib.hid hL
  have HX := Lib.hid hX
  have hel := hM.es
  obtain ⟨nE, hnE⟩ : ∃ n, E.length = n := ⟨_, rfl⟩
  rw [hnE] at HE hel HL HX ⊢
  have NE := Lib.hid hnE
  obtain ⟨AX, cX, e⟩ := hX.form
  subst e
  obtain ⟨nX, hnX⟩ : ∃ n, X.length = n := ⟨_, rfl⟩
  rw [hnX] at HX HL hXl ⊢
  have NX := Lib.hid hnX
  have LE : Hid (∀ (v d : Int), (onL E v d).length ≤ 8192) := Lib.hid (fun v d => by have h1 := onL_len E v d; have h2 := hM.es; omega)
  clear hE hM hT hL hX hnE hnX
  go_enter Tryd.func22, Tryd.ntmps22
  go_upto_region 1 with (fail)
  obtain ⟨w1, hw1⟩ : ∃ W, W = ((w.alloc (.cells #[.slice AB kB cB, .slice AE nE cE] 29)).alloc (.cells #[.int .i64 n, .slice AF kF cF, .slice AX nX cX, .slice (some ⟨ob, 0, none⟩) nE nE] 64)) := ⟨_, rfl⟩
  have SB : Hid (ShB w1 w.heap.size (.slice AB kB cB) (.slice AE nE cE)) := Lib.hid (by rw [hw1]; unfold ShB; rw [Below.heap_alloc _ _ _ (by simp)]; exact heap_alloc_new w _)
  have RB : Hid (LzC w1 (w.heap.size + 1) (.int .i64 n) (.slice AF kF cF) (.slice AX nX cX) (.slice (some ⟨ob, 0, none⟩) nE nE)) := Lib.hid (by rw [hw1]; exact heap_two w _ _)
  have b1 : Below w.heap.size w w1 := by rw [hw1]; exact ((Below.refl _ _).alloc (Nat.le_refl _) _).alloc (by simp) _
  have B1 := Lib.hid b1
  have HL1 := Lib.hid (HL.out.below b1 (Nat.le_refl _))
  have HX1 := Lib.hid (HX.out.below b1 (Nat.le_refl _))
  have HE1 := Lib.hid (HE.out.below b1 (Nat.le_refl _))
  have HT1 := Lib.hid (HT.out.below b1 (Nat.le_refl _))
  rw [← hw1]
  obtain ⟨rb, hrb⟩ : ∃ x, x = w.heap.size + 1 := ⟨_, rfl⟩
  rw [← hrb] at RB ⊢
  obtain ⟨sb, hsb⟩ : ∃ x, x = w.heap.size := ⟨_, rfl⟩
  rw [← hsb] at SB ⊢
  have RBL : Hid (rb < w1.heap.size) := Lib.hid (RB.out.at_.2.2.2.2)
  clear hw1 hrb hsb b1 HL HX HE HT
  obtain ⟨x0, x1⟩ := SB.out.at_
  have xl := SB.out.lt
  obtain ⟨r0, r1, r2, r3, rl⟩ := RB.out.at_
  go_upto_region 2 with (go_at_call 38; refine (newY n w1 hn).mono ?_; rintro e w2 ⟨p, v, rfl, g2, f2, b2⟩; have H2 : Hid (GrB w1.heap.size w1 w2 p v (newG n) n) := Lib.hid ⟨g2, f2, b2⟩; have S2 := Lib.hid (SB.out.below b2 (Nat.le_refl _)); have R2 := Lib.hid (RB.out.below b2 RBL.out); clear g2 f2 b2)
  clear x0 x1 xl r0 r1 r2 r3 rl
  obtain ⟨x0, x1⟩ := S2.out.at_
  have xl := S2.out.lt
  obtain ⟨r0, r1, r2, r3, rl⟩ := R2.out.at_
  go_wp2_with fail
  clear x0 x1 xl r0 r1 r2 r3 rl
  go_loopw [20] (fun iv wr => JdB E cf X n nX w1 wr p iv) (fun iv _ => nX - (intOf iv).toNat)
  case atStart => exact ⟨0, v, rfl, Nat.zero_le _, H2.out⟩
  case round =>
    clear H2 S2 R2
    obtain ⟨j, v2, rfl, hj, hG⟩ := hrel
    have H3 := Lib.hid hG
    have G3 := Lib.hid hG.bel.size
    clear hG
    by_cases hlt : j < nX
    · have q0 : decide (j < nX) = true := decide_eq_true hlt
      have hjX : j < X.length := by have := NX.out; omega
      obtain ⟨b, rfl, hb, hcell⟩ := HX1.out.nth hjX
      have CC : ∀ r, r < 8 → wr.cell? ⟨b, j * 8 + r, none⟩ = (encX cf X[j])[r]? := fun r hr => (H3.out.bel.cell (p := ⟨b, j * 8 + r, none⟩) hb).trans (hcell r hr)
      have hbw := Nat.lt_of_lt_of_le hb H3.out.bel.size
      have SD : Hid (∀ d, d < 4 → OwnZ w1 (s0 + 2 * nE) (X[j].s d) (sdC E X[j].v (cf X[j].v) d) (sdC E X[j].v (cf X[j].v) d).length) := Lib.hid (fun d hd => by
        rw [sdC_len]
        exact HX1.out.sd X[j] (List.getElem_mem hjX) d hd)
      have BJ := Lib.hid (bsJ_next (E := E) (cf := cf) hjX)
      have JB := Lib.hid (fun (w' : World) (h : GrB w1.heap.size w1 w' p v2 (jnA n (newG n) (bsJ E cf ((X.take j).map (·.v)))) n) (hs : w1.heap.size ≤ w'.heap.size) => joinBoxY (c := cf X[j].v) h rfl hs HT1.out SD.out (fun d _ => by rw [sdC_len]; have := LE.out (X[j].v : Int) (d : Int); omega))
      generalize X[j] = q at *
      have c0 := CC 0 (by decide)
      have c1 := CC 1 (by decide)
      have c2 := CC 2 (by decide)
      have c3 := CC 3 (by decide)
      have c4 := CC 4 (by decide)
      have c5 := CC 5 (by decide)
      have c6 := CC 6 (by decide)
      have c7 := CC 7 (by decide)
      simp only [encX, List.getElem?_cons_zero, List.getElem?_cons_succ, Nat.add_zero] at c0 c1 c2 c3 c4 c5 c6 c7
      obtain ⟨k1, hk1⟩ : ∃ k : Int, ((cf q.v + 1 : Nat) : Int) = k := ⟨_, rfl⟩
      obtain ⟨k2, hk2⟩ : ∃ k : Int, ((cf q.v + 2 : Nat) : Int) = k := ⟨_, rfl⟩
      obtain ⟨k3, hk3⟩ : ∃ k : Int, ((cf q.v + 3 : Nat) : Int) = k := ⟨_, rfl⟩
      rw [hk1] at c1
      rw [hk2] at c2
      rw [hk3] at c3
      rw [hk1, hk2, hk3] at JB
      clear CC hcell hk1 hk2 hk3 hb
      obtain ⟨Q0, hQ0⟩ : ∃ z, q.s 0 = z := ⟨_, rfl⟩
      obtain ⟨Q1, hQ1⟩ : ∃ z, q.s 1 = z := ⟨_, rfl⟩
      obtain ⟨Q2, hQ2⟩ : ∃ z, q.s 2 = z := ⟨_, rfl⟩
      obtain ⟨Q3, hQ3⟩ : ∃ z, q.s 3 = z := ⟨_, rfl⟩
      have QF : ∀ d, d < 4 → ∃ a k c, q.s d = .slice a k c := fun d hd => by obtain ⟨a, c, e⟩ := (SD.out d hd).form; exact ⟨a, _, c, e⟩
      obtain ⟨qa0, qk0, qc0, e0⟩ := QF 0 (by decide)
      obtain ⟨qa1, qk1, qc1, e1⟩ := QF 1 (by decide)
      obtain ⟨qa2, qk2, qc2, e2⟩ := QF 2 (by decide)
      obtain ⟨qa3, qk3, qc3, e3⟩ := QF 3 (by decide)
      rw [e0] at c4
      rw [e1] at c5
      rw [e2] at c6
      rw [e3] at c7
      rw [e0, e1, e2, e3] at JB
      clear hQ0 hQ1 hQ2 hQ3 QF e0 e1 e2 e3 SD
      obtain ⟨cq, hcq⟩ : ∃ z, cf q.v = z := ⟨_, rfl⟩
      rw [hcq] at c0 JB
      have CQ := Lib.hid hcq
      clear hcq
      go_upto_region 5 with (fail)
      obtain ⟨wx, hwx⟩ : ∃ W, W = (wr.alloc (.cells #[.int .i64 cq, .int .i64 k1, .int .i64 k2, .int .i64 k3, .slice qa0 qk0 qc0, .slice qa1 qk1 qc1, .slice qa2 qk2 qc2, .slice qa3 qk3 qc3] 90)) := ⟨_, rfl⟩
      have bx : Below wr.heap.size wr wx := by rw [hwx]; exact (Below.refl _ _).alloc (Nat.le_refl _) _
      have hy : wx.heap[wr.heap.size]? = some (.cells #[.int .i64 cq, .int .i64 k1, .int .i64 k2, .int .i64 k3, .slice qa0 qk0 qc0, .slice qa1 qk1 qc1, .slice qa2 qk2 qc2, .slice qa3 qk3 qc3] 90 (0, 0)) := by rw [hwx]; exact heap_alloc_new wr _
      have d0 : wx.cell? ⟨wr.heap.size, 0, none⟩ = some (.int .i64 cq) := by simp [World.cell?, hy]
      have d1 : wx.cell? ⟨wr.heap.size, 1, none⟩ = some (.int .i64 k1) := by simp [World.cell?, hy]
      have d2 : wx.cell? ⟨wr.heap.size, 2, none⟩ = some (.int .i64 k2) := by simp [World.cell?, hy]
      have d3 : wx.cell? ⟨wr.heap.size, 3, none⟩ = some (.int .i64 k3) := by simp [World.cell?, hy]
      have d4 : wx.cell? ⟨wr.heap.size, 4, none⟩ = some (.slice qa0 qk0 qc0) := by simp [World.cell?, hy]
      have d5 : wx.cell? ⟨wr.heap.size, 5, none⟩ = some (.slice qa1 qk1 qc1) := by simp [World.cell?, hy]
      have d6 : wx.cell? ⟨wr.heap.size, 6, none⟩ = some (.slice qa2 qk2 qc2) := by simp [World.cell?, hy]
      have d7 : wx.cell? ⟨wr.heap.size, 7, none⟩ = some (.slice qa3 qk3 qc3) := by simp [World.cell?, hy]
      have dl := (Array.getElem?_eq_some_iff.1 hy).1
      have J4 := Lib.hid (JB.out wx (H3.out.quiet G3.out bx) (Nat.le_trans G3.out bx.size))
      rw [← hwx]
      clear hwx bx hy c0 c1 c2 c3 c4 c5 c6 c7 hbw H3
      go_wp2_with (go_at_call 39; refine J4.out.mono ?_; rintro e w5 ⟨rfl, v5, g5⟩; have H5 := Lib.hid g5; clear g5)
      go_roundw
      case rel => exact ⟨j + 1, v5, by go_num, by omega, by rw [BJ.out, jnA_app, CQ.out]; exact H5.out⟩
      case measure => (simp [intOf] <;> omega)
    · have hjn : j = nX := by omega
      have q0 : decide (j < nX) = false := decide_eq_false hlt
      have TK : Hid (X.take nX = X) := Lib.hid (by rw [← NX.out]; exact List.take_length)
      rw [hjn, TK.out] at H3
      obtain ⟨M, hM⟩ : ∃ z, jnA n (newG n) (bsJ E cf (X.map (·.v))) = z := ⟨_, rfl⟩
      have HMM := Lib.hid hM
      rw [hM] at H3
      have S3 := Lib.hid (SB.out.below H3.out.bel (Nat.le_refl _))
      clear hM hjn
      obtain ⟨x0, x1⟩ := S3.out.at_
      have xl := S3.out.lt
      go_wp2_with fail
      clear x0 x1 xl
      go_loopw [31] (fun iv wr => JdE E Wf M n nE w1 wr p iv) (fun iv _ => nE - (intOf iv).toNat)
      case atStart => exact ⟨0, v2, rfl, Nat.zero_le _, H3.out⟩
      case round =>
        clear H3 S3 G3
        obtain ⟨k, v3, rfl, hk, hG⟩ := hrel
        have H4 := Lib.hid hG
        have G4 := Lib.hid hG.bel.size
        clear hG
        by_cases hlt2 : k < nE
        · have q1 : decide (k < nE) = true := decide_eq_true hlt2
          have hkE : k < E.length := by have := NE.out; omega
          obtain ⟨be, oe, rfl, hbe, y0, y1, y2, y3⟩ := HE1.out.one hkE
          have f0 := (H4.out.bel.cell (p := ⟨be, oe + k * 4, none⟩) hbe).trans y0
          have f1 := (H4.out.bel.cell (p := ⟨be, oe + k * 4 + 1, none⟩) hbe).trans y1
          have f2 := (H4.out.bel.cell (p := ⟨be, oe + k * 4 + 2, none⟩) hbe).trans y2
          have f3 := (H4.out.bel.cell (p := ⟨be, oe + k * 4 + 3, none⟩) hbe).trans y3
          have hbw := Nat.lt_of_lt_of_le hbe H4.out.bel.size
          have hok := HM.out.ok E[k] (List.getElem_mem hkE)
          have hle := bend_le HM.out.bs (List.getElem_mem hkE)
          have GE : E.getD k noE = E[k] := by rw [List.getD_eq_getElem?_getD, List.getElem?_eq_getElem hkE]; rfl
          have hnb : nbE E k = E[k].2.2.2.length := by unfold nbE; rw [GE]
          obtain ⟨hw1, hw2⟩ := HL1.out.row k hlt2
          have hw3 := HL1.out.way hlt2
          have EJ : Hid (esJ E Wf (k + 1) = esJ E Wf k ++ egJ (Wf k) E[k].2.2.1 E[k].2.2.2 k (E[k].2.2.2.length + 1)) := Lib.hid (by
            show esJ E Wf k ++ egJ (Wf k) (E.getD k noE).2.2.1 (E.getD k noE).2.2.2 k (nbE E k + 1) = _
            rw [GE, hnb])
          rw [hnb] at hw1 hw2 hw3
          obtain ⟨m, hm⟩ : ∃ z, E[k].2.2.2.length + 2 = z := ⟨_, rfl⟩
          rw [hm] at hw1 hw2 hw3
          obtain ⟨yy, hyy⟩ : ∃ z, s0 + 2 * k + 1 = z := ⟨_, rfl⟩
          rw [hyy] at hw2 hw3
          have JE := Lib.hid (fun (w' : World) (h : GrB w1.heap.size w1 w' p v3 (jnA n M (esJ E Wf k)) n) (hs : w1.heap.size ≤ w'.heap.size) => joinEdgeY E[k].1 E[k].2.1 E[k].2.2.1 (k : Int) E[k].2.2.2 h rfl hs (⟨hw1, hw2⟩ : OwnZ w1 D (.slice (some ⟨yy, 0, none⟩) m m) (Wf k) m) hm.symm (asc_turns hok.2.2.2.2.2.2) (by omega) hok.2.2.2.2.1 hok.2.2.2.2.2.1)
          have OW : Hid (∀ wq, Below w1.heap.size w1 wq → wq.cell? ⟨ob, k, none⟩ = some (.slice (some ⟨yy, 0, none⟩) m m) ∧ ob < wq.heap.size) := Lib.hid (fun wq b => ⟨(b.cell (p := ⟨ob, k, none⟩) HL1.out.ol).trans hw3.1, Nat.lt_of_lt_of_le HL1.out.ol b.size⟩)
          clear y0 y1 y2 y3 hok hle GE hnb hw1 hw2 hw3 hbe hm hyy
          generalize E[k].1 = fk at *
          generalize E[k].2.1 = tk at *
          generalize E[k].2.2.1 = dk at *
          generalize E[k].2.2.2 = blk at *
          generalize bs blk = sk at *
          go_upto_region 10 with (fail)
          obtain ⟨wx, hwx⟩ : ∃ W, W = (wr.alloc (.cells #[.int .i64 fk, .int .i64 tk, .int .i64 dk, .string sk] 54)) := ⟨_, rfl⟩
          have bx : Below wr.heap.size wr wx := by rw [hwx]; exact (Below.refl _ _).alloc (Nat.le_refl _) _
          have EX := (show EdB wx wr.heap.size fk tk dk sk from by rw [hwx]; exact heap_alloc_new wr _)
          have H5 := H4.out.quiet G4.out bx
          obtain ⟨g0, g1, g2, g3⟩ := EX.at_
          have gl := EX.lt
          obtain ⟨-, -, -, r3, rl⟩ := (RB.out.below H5.bel RBL.out).at_
          obtain ⟨o0, ol⟩ := OW.out _ H5.bel
          have J5 := Lib.hid (JE.out wx.drew (H5.quiet (Nat.le_trans G4.out bx.size) (Below.refl _ _).drew) (Nat.le_trans G4.out bx.size))
          rw [← hwx]
          clear hwx bx EX H5 f0 f1 f2 f3 hbw H4
          go_still_tail 8, (by kernel_rfl)
          change wpList _ _ _ _ _ wx.drew
          go_wp2_with (go_at_call 40; refine J5.out.mono ?_; rintro e w7 ⟨rfl, v7, g7⟩; have H7 := Lib.hid g7; clear g7)
          go_roundw
          case rel => exact ⟨k + 1, v7, by go_num, by omega, by rw [EJ.out, jnA_app]; exact H7.out⟩
          case measure => (simp [intOf] <;> omega)
        · have hkn : k = nE := by omega
          have q1 : decide (k < nE) = false := decide_eq_false hlt2
          have EQ : Hid (jnA n (newG n) (bsJ E cf (X.map (·.v)) ++ esJ E Wf nE) = jnA n M (esJ E Wf k)) := Lib.hid (by rw [jnA_app, HMM.out, hkn])
          clear hkn
          go_wp2_with (go_at_call 41; refine (cellsY H4.out.grd (by omega)).mono ?_; rintro e w7 ⟨A7, c7, rfl, o7, b7⟩; have O7 := Lib.hid o7; have B7 := Lib.hid b7; clear o7 b7)
          go_ret
          exact ⟨A7, c7, rfl, by rw [EQ.out]; exact O7.out.base (Nat.le_trans B1.out.size G4.out), B1.out.trans ((H4.out.bel.mono B1.out.size).trans (B7.out.mono (Nat.le_trans B1.out.size G4.out)))⟩
end Go.Proofs.YtecifgaekefkpaaDoor
