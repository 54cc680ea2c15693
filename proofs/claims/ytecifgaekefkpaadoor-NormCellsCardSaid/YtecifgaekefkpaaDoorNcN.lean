/-
  A shape as cells: what Of answers. Conditions: a shape that may be written; the borders read as the program lays them.
-/
import Derived.Test.YtecifgaekefkpaaDoorNcM
import Derived.Deep.RegionHeld3
namespace Go.Proofs.YtecifgaekefkpaaDoor
open Go.RowKit Go.Proofs.YtecifgaekefkpaaDoor.LexM Go.Proofs.YtecifgaekefkpaaDoor.ParM Go.Proofs.YtecifgaekefkpaaDoor.GrM Go.Proofs.YtecifgaekefkpaaDoor.NmM

/-- Rows of ints, in a row, to be read. -/
def RwsZ (w : World) (B : Nat) (v : Value) (W : Nat → List Int) (n : Nat) : Prop :=
  ∃ A c, v = .slice A n c ∧ (0 < n → ∃ b o, A = some ⟨b, o, none⟩ ∧ b < w.heap.size ∧ ∀ i, i < n → ∃ A' m c', w.cell? ⟨b, o + i, none⟩ = some (.slice A' m c') ∧ OwnZ w B (.slice A' m c') (W i) m)
theorem RwsZ.below {w w' : World} {B C n : Nat} {v : Value} {W : Nat → List Int} (h : RwsZ w B v W n) (o : Below C w w') (hC : w.heap.size ≤ C) : RwsZ w' B v W n := by
  obtain ⟨A, c, rfl, hA⟩ := h
  refine ⟨A, c, rfl, fun h0 => ?_⟩
  obtain ⟨b, q, e, hb, hc⟩ := hA h0
  refine ⟨b, q, e, Nat.lt_of_lt_of_le hb o.size, fun i hi => ?_⟩
  obtain ⟨A', m, c', h1, h2⟩ := hc i hi
  exact ⟨A', m, c', (o.cell (p := ⟨b, q + i, none⟩) (Nat.lt_of_lt_of_le hb hC)).trans h1, h2.below o hC⟩
theorem RwsZ.form {w : World} {B n : Nat} {v : Value} {W : Nat → List Int} (h : RwsZ w B v W n) : ∃ A c, v = .slice A n c := by obtain ⟨A, c, e, _⟩ := h; exact ⟨A, c, e⟩
/-- A norm in memory. -/
structure NormAt (w : World) (B : Nat) (cv fv wv : Value) (L : List Int) (n : Nat) (F : List Int) (nB : Nat) (W : Nat → List Int) (nE : Nat) : Prop where
  cel : OwnG w B cv L n
  fst : OwnZ w B fv F nB
  way : RwsZ w B wv W nE
theorem NormAt.below {w w' : World} {B C n nB nE : Nat} {cv fv wv : Value} {L F : List Int} {W : Nat → List Int} (h : NormAt w B cv fv wv L n F nB W nE) (o : Below C w w') (hC : w.heap.size ≤ C) : NormAt w' B cv fv wv L n F nB W nE :=
  ⟨h.cel.below o hC, h.fst.below o hC, h.way.below o hC⟩
/-- A shape's ways; its cells. -/
noncomputable def wayS (B : List Bool) (E : List Edg) : Nat → List Int := wayW E (vxK B E B.length).1.en (cntV B E B.length) E.length
noncomputable def celS (B : List Bool) (E : List Edg) : List Int := jnA (cntN B E) (newG (cntN B E)) (bsJ E (cntV B E) (boxK B B.length) ++ esJ E (wayS B E) E.length)
noncomputable def fstS (B : List Bool) (E : List Edg) : List Int := (vxK B E B.length).2
def NofP (B : List Bool) (E : List Edg) (w : World) (e : Ending) (w' : World) : Prop :=
  Below w.heap.size w w' ∧ ((wrN B E ≠ 0 ∧ e = .returned (.tuple #[.agg #[.slice none 0 0, .slice none 0 0, .slice none 0 0], .int .i64 (wrN B E)])) ∨
    (wrN B E = 0 ∧ ∃ cv fv wv, e = .returned (.tuple #[.agg #[cv, fv, wv], .int .i64 0]) ∧ NormAt w' w.heap.size cv fv wv (celS B E) (cntN B E) (fstS B E) B.length (wayS B E) E.length))
theorem LyAt.ways {B s0 nE : Nat} {ln : Nat → Nat} {lb ob fb cF : Nat} {w : World} {cnt nF : Nat} {F : List Int} {xv : Value} {W : Nat → List Int} (h : LyAt B s0 nE ln lb ob fb cF w cnt F nF xv W) : RwsZ w B (.slice (some ⟨ob, 0, none⟩) nE nE) W nE :=
  ⟨_, _, rfl, fun _ => ⟨ob, 0, rfl, h.ol, fun i hi => ⟨_, _, _, by rw [Nat.zero_add]; exact (h.way hi).1, h.row i hi⟩⟩⟩
theorem RwsZ.base {w : World} {B C n : Nat} {v : Value} {W : Nat → List Int} (h : RwsZ w B v W n) (hC : C ≤ B) : RwsZ w C v W n := by
  obtain ⟨A, c, rfl, hA⟩ := h
  refine ⟨A, c, rfl, fun h0 => ?_⟩
  obtain ⟨b, q, e, hb, hc⟩ := hA h0
  refine ⟨b, q, e, hb, fun i hi => ?_⟩
  obtain ⟨A', m, c', h1, h2⟩ := hc i hi
  exact ⟨A', m, c', h1, h2.base hC⟩
theorem OwnZ.out3 {w : World} {B n rb : Nat} {v : Value} {x : List Int} (h : OwnZ w B v x n) {S : Nat → Prop} {w' : World} (o : Out S w w') (hS : ∀ b, S b → b = rb) (hb : ∀ q, v.ownBlock = some q → q ≠ rb) : OwnZ w' B v x n :=
  ⟨h.1, ownsRow_out h.2 o (fun q hq e => hb q hq (hS q e))⟩
def NzB (w : World) (rb : Nat) : Prop := w.heap[rb]? = some (.cells #[.slice none 0 0, .slice none 0 0, .slice none 0 0] 35 (0, 0))
theorem NzB.at_ {w : World} {rb : Nat} (h : NzB w rb) : w.cell? ⟨rb, 0, none⟩ = some (.slice none 0 0) ∧ w.cell? ⟨rb, 1, none⟩ = some (.slice none 0 0) ∧ w.cell? ⟨rb, 2, none⟩ = some (.slice none 0 0) ∧ rb < w.heap.size := by
  unfold NzB at h
  exact ⟨by simp [World.cell?, h], by simp [World.cell?, h], by simp [World.cell?, h], (Array.getElem?_eq_some_iff.1 h).1⟩
theorem NzB.fr {w : World} {rb : Nat} (h : NzB w rb) (j : Nat) : w.frozen? ⟨rb, j, none⟩ = false := by
  unfold NzB at h
  simp only [World.frozen?, h]
  simp
theorem NzB.below {w w' : World} {rb C : Nat} (h : NzB w rb) (b : Below C w w') (hC : w.heap.size ≤ C) : NzB w' rb := (b.block _ (Nat.lt_of_lt_of_le h.at_.2.2.2 hC)).trans h
theorem set3_cell {w : World} {q rb : Nat} (h : q ≠ rb) (a b c : Value) (j : Nat) : (((w.setCell ⟨rb, 0, none⟩ a).setCell ⟨rb, 1, none⟩ b).setCell ⟨rb, 2, none⟩ c).cell? ⟨q, j, none⟩ = w.cell? ⟨q, j, none⟩ := by
  have e : (((w.setCell ⟨rb, 0, none⟩ a).setCell ⟨rb, 1, none⟩ b).setCell ⟨rb, 2, none⟩ c).heap[q]? = w.heap[q]? := by
    rw [Below.heap_setCell _ _ _ _ h, Below.heap_setCell _ _ _ _ h, Below.heap_setCell _ _ _ _ h]
  simp only [World.cell?, e]
theorem set3_out (w : World) (rb : Nat) (a b c : Value) : Out (fun q => q = rb) w (((w.setCell ⟨rb, 0, none⟩ a).setCell ⟨rb, 1, none⟩ b).setCell ⟨rb, 2, none⟩ c) := (((Out.refl _ w).setIn 0 a).setIn 1 b).setIn 2 c
set_option maxHeartbeats 16000000 in
set_option maxRecDepth 100000 in
theorem normOf {w : World} (bv ev : Value) (B : List Bool) (E : List Edg) (hB : BlsAt w bv B) (hE : EdsAt w ev E) (hM : May B E) (hT : BorT w) :
    Calls Tryd.prog 7 #[.agg #[bv, ev]] w (NofP B E w) := by
  have HB := Lib.hid hB
  have HE := Lib.hid hE
  have HM := Lib.hid hM
  have HT := Lib.hid hT
  obtain ⟨AB, cB, e⟩ := hB.form
  subst e
  obtain ⟨AE, cE, e⟩ := hE.form
  subst e
  have h0 := chk_ok hM
  have H0 := Lib.hid h0
  have ck := fun w1 (b : Below w.heap.size w w1) => checkS _ _ B E w1 (hB.below b (Nat.le_refl _)) (hE.below b (Nat.le_refl _)) (by have := hM.es; omega) (by have := hM.vs; omega) (fun e he => by have := bend_le hM.bs he; omega)
  rw [h0] at ck
  have CK := Lib.hid ck
  have EN := Lib.hid (fun w1 (b : Below w.heap.size w w1) => endsOfY (.slice AB B.length cB) _ B E w1 ⟨_, _, rfl⟩ (hE.below b (Nat.le_refl _)) hM)
  have LY := Lib.hid (fun w1 C g V (b : Below w.heap.size w w1) (hg : EnAt C w1 g B.length V (enR E E.length)) => layY _ _ B E (hB.below b (Nat.le_refl _)) (hE.below b (Nat.le_refl _)) hg hM)
  have CR := Lib.hid (fun w1 C g V (b : Below w.heap.size w w1) (hg : EnAt C w1 g B.length V (enR E E.length)) => crowdedY _ (.slice AE E.length cE) B E (hB.below b (Nat.le_refl _)) hg hM)
  have SL := Lib.hid (fun w1 (b : Below w.heap.size w w1) => straightY _ _ B E (hB.below b (Nat.le_refl _)) (hE.below b (Nat.le_refl _)) hM)
  obtain ⟨nB, hnB⟩ : ∃ n, B.length = n := ⟨_, rfl⟩
  obtain ⟨nE, hnE⟩ : ∃ n, E.length = n := ⟨_, rfl⟩
  have NB := Lib.hid hnB
  have NE := Lib.hid hnE
  unfold NofP
  rw [hnB] at HB CK EN LY CR SL
  rw [hnE] at HE CK LY CR SL
  simp only [hnB, hnE] at EN LY CR ⊢
  clear hB hE hM hT h0 ck hnB hnE
  go_enter Tryd.func7, Tryd.ntmps7
  go_upto_region 1 with (fail)
  obtain ⟨w1, hw1⟩ : ∃ W, W = ((w.alloc (.cells #[.slice AB nB cB, .slice AE nE cE] 29)).alloc (.cells #[.slice none 0 0, .slice none 0 0, .slice none 0 0] 35)) := ⟨_, rfl⟩
  have SB : Hid (ShB w1 w.heap.size (.slice AB nB cB) (.slice AE nE cE)) := Lib.hid (by rw [hw1]; unfold ShB; rw [Below.heap_alloc _ _ _ (by simp)]; exact heap_alloc_new w _)
  have RB : Hid (NzB w1 (w.heap.size + 1)) := Lib.hid (by rw [hw1]; exact heap_two w _ _)
  have B1 : Hid (Below w.heap.size w w1) := Lib.hid (by rw [hw1]; exact ((Below.refl _ _).alloc (Nat.le_refl _) _).alloc (by simp) _)
  have RBW : Hid (w.heap.size ≤ w.heap.size + 1 ∧ w.heap.size + 1 < w1.heap.size) := Lib.hid ⟨by omega, RB.out.at_.2.2.2⟩
  have SBW : Hid (w.heap.size < w1.heap.size) := Lib.hid SB.out.lt
  rw [← hw1]
  obtain ⟨rb, hrb⟩ : ∃ x, x = w.heap.size + 1 := ⟨_, rfl⟩
  rw [← hrb] at RB RBW ⊢
  obtain ⟨sb, hsb⟩ : ∃ x, x = w.heap.size := ⟨_, rfl⟩
  have NSR : Hid (sb ≠ rb) := Lib.hid (by omega)
  have SBW2 : Hid (sb < w1.heap.size) := Lib.hid (by rw [hsb]; exact SBW.out)
  rw [← hsb] at SB ⊢
  clear hw1 hrb hsb SBW
  obtain ⟨x0, x1⟩ := SB.out.at_
  have xl := SB.out.lt
  go_upto_region 2 with (go_at_call 17; refine (CK.out _ B1.out).mono ?_; rintro e w2 ⟨rfl, b2⟩; have Q2 := Lib.hid b2; clear b2)
  clear x0 x1 xl
  have S2 := Lib.hid (SB.out.below Q2.out (Nat.le_refl _))
  have R2 := Lib.hid (RB.out.below Q2.out (Nat.le_refl _))
  have B2 := Lib.hid (B1.out.trans (Q2.out.mono B1.out.size))
  obtain ⟨x0, x1⟩ := S2.out.at_
  have xl := S2.out.lt
  go_upto_region 5 with (go_at_call 18; refine (EN.out _ B2.out).mono ?_; rintro e w3 ⟨g, V, rfl, en3, b3⟩; have E3 := Lib.hid en3; have Q3 := Lib.hid b3; clear en3 b3)
  clear x0 x1 xl
  have S3 := Lib.hid (S2.out.below Q3.out (Nat.le_refl _))
  have R3 := Lib.hid (R2.out.below Q3.out (Nat.le_refl _))
  have B3 := Lib.hid (B2.out.trans (Q3.out.mono B2.out.size))
  obtain ⟨x0, x1⟩ := S3.out.at_
  have xl := S3.out.lt
  obtain ⟨n, hn⟩ : ∃ n, cntV B E nB + bndK E nE = n := ⟨_, rfl⟩
  have CNT : Hid (cntN B E = n) := Lib.hid (by unfold cntN; rw [NB.out, ← bndK_all, NE.out]; exact hn)
  have HN := Lib.hid hn
  clear hn
  go_upto_region 6 with (go_at_call 19; go_must (refine (LY.out _ _ _ _ B3.out E3.out).mono ?_; rintro e w4 hl4; unfold LayP at hl4; rw [NB.out, NE.out, HN.out] at hl4; obtain ⟨D, s0, lb, ob, fb, xv, X, rfl, hD, l4, x4, xb4, b4⟩ := hl4; have L4 := Lib.hid l4; have X4 := Lib.hid x4; have XB4 := Lib.hid xb4; have Q4 := Lib.hid b4; have HD := Lib.hid hD; obtain ⟨AX, cX, eX⟩ := x4.form; obtain ⟨nX, hnX⟩ : ∃ n, X.length = n := ⟨_, rfl⟩; rw [hnX] at eX; subst eX; have NX := Lib.hid hnX; clear l4 x4 xb4 b4 hD hnX))
  clear x0 x1 xl
  have B4 := Lib.hid (B3.out.trans (Q4.out.mono B3.out.size))
  generalize hwx : World.alloc w4 _ = wx
  have bx : Below w4.heap.size w4 wx := by rw [← hwx]; exact (Below.refl _ _).alloc (Nat.le_refl _) _
  have LX : Hid (LzC wx w4.heap.size (.int .i64 n) (.slice (some ⟨fb, 0, none⟩) nB nB) (.slice AX nX cX) (.slice (some ⟨ob, 0, none⟩) nE nE)) := Lib.hid (by rw [← hwx]; exact heap_alloc_new w4 _)
  have S5 := Lib.hid ((S3.out.below Q4.out (Nat.le_refl _)).below bx (Nat.le_refl _))
  have R5 := Lib.hid ((R3.out.below Q4.out (Nat.le_refl _)).below bx (Nat.le_refl _))
  have B5 := Lib.hid (B4.out.trans (bx.mono B4.out.size))
  have E5 := Lib.hid ((E3.out.below Q4.out (Nat.le_refl _)).below bx (Nat.le_refl _))
  have L5 := Lib.hid (L4.out.below bx (Nat.le_refl _))
  have X5 := Lib.hid (X4.out.below bx (Nat.le_refl _))
  have HD5 : Hid (w.heap.size ≤ D) := Lib.hid (Nat.le_trans B3.out.size HD.out)
  have NLB : Hid (w4.heap.size ≠ rb ∧ w1.heap.size ≤ w4.heap.size) := Lib.hid (by have h1 := RBW.out; have h2 := Q2.out.size; have h3 := Q3.out.size; have h4 := Q4.out.size; omega)
  have RE5 : Hid (rb < D) := Lib.hid (by have h1 := RBW.out; have h2 := Q2.out.size; have h3 := Q3.out.size; have h4 := HD.out; omega)
  generalize w4.heap.size = lx at *
  clear hwx bx L4 X4 E3 S3 R3 Q4 B4 HD
  obtain ⟨x0, x1⟩ := S5.out.at_
  have xl := S5.out.lt
  obtain ⟨r0, r1, r2, rl⟩ := R5.out.at_
  have rf0 := R5.out.fr 0
  have rf1 := R5.out.fr 1
  have rf2 := R5.out.fr 2
  obtain ⟨l0, l1, l2, l3, ll⟩ := LX.out.at_
  by_cases hbig : 4096 < n
  · have p0 : decide (4096 < n) = true := decide_eq_true hbig
    have p0' : decide ((4096 : Int) < (n : Int)) = true := decide_eq_true (by omega)
    have EQ : Hid (wrN B E = 6) := Lib.hid (wr_many H0.out (by rw [CNT.out]; exact hbig))
    clear hbig
    go_wp2_with fail
    refine bodyPost_ret (v := .tuple #[.agg #[.slice none 0 0, .slice none 0 0, .slice none 0 0], .int .i64 6]) (by simp [results, Tryd.results7, go_sem, r0, r1, r2]) rfl ⟨((B5.out.setCell (p := ⟨rb, 0, none⟩) RBW.out.1 _).setCell (p := ⟨rb, 1, none⟩) RBW.out.1 _).setCell (p := ⟨rb, 2, none⟩) RBW.out.1 _, Or.inl ⟨by rw [EQ.out]; decide, by rw [EQ.out]⟩⟩
  · have p0 : decide (4096 < n) = false := decide_eq_false hbig
    have p0' : decide ((4096 : Int) < (n : Int)) = false := decide_eq_false (by omega)
    have hn4 : n ≤ 4096 := by omega
    have HC2 : Hid (cntN B E ≤ 4096) := Lib.hid (by rw [CNT.out]; exact hn4)
    have HN4 := Lib.hid hn4
    clear hbig hn4
    by_cases hT2 : TwoOn B E
    · have T2 := Lib.hid hT2
      have EQ : Hid (wrN B E = 8) := Lib.hid (wr_two H0.out HC2.out hT2)
      clear hT2
      go_wp2_with (go_at_call 20; go_must (refine (CR.out _ _ _ _ B5.out E5.out).mono ?_; rintro e w6 ⟨t, rfl, ht, b6⟩; obtain rfl : t = true := ht.2 T2.out; clear r0 r1 r2 rl rf0 rf1 rf2 x0 x1 xl l0 l1 l2 l3 ll; have B6 := Lib.hid (B5.out.trans (b6.mono B5.out.size)); have R6 := R5.out.below b6 (Nat.le_refl _); obtain ⟨r0, r1, r2, rl⟩ := R6.at_; have rf0 := R6.fr 0; have rf1 := R6.fr 1; have rf2 := R6.fr 2; clear ht b6 R6))
      refine bodyPost_ret (v := .tuple #[.agg #[.slice none 0 0, .slice none 0 0, .slice none 0 0], .int .i64 8]) (by simp [results, Tryd.results7, go_sem, r0, r1, r2]) rfl ⟨((B6.out.setCell (p := ⟨rb, 0, none⟩) RBW.out.1 _).setCell (p := ⟨rb, 1, none⟩) RBW.out.1 _).setCell (p := ⟨rb, 2, none⟩) RBW.out.1 _, Or.inl ⟨by rw [EQ.out]; decide, by rw [EQ.out]⟩⟩
    · have T2 := Lib.hid hT2
      clear hT2
      by_cases hS2 : SelfT B E
      · have V2 := Lib.hid hS2
        have EQ : Hid (wrN B E = 10) := Lib.hid (wr_self H0.out HC2.out T2.out hS2)
        clear hS2
        go_wp2_with (first
          | (go_at_call 20; go_must (refine (CR.out _ _ _ _ B5.out E5.out).mono ?_; rintro e w6 ⟨t, rfl, ht, b6⟩; obtain rfl : t = false := (by cases t; rfl; exact absurd (ht.1 rfl) T2.out); clear r0 r1 r2 rl rf0 rf1 rf2 x0 x1 xl l0 l1 l2 l3 ll; have B6 := Lib.hid (B5.out.trans (b6.mono B5.out.size)); have S6 := Lib.hid (S5.out.below b6 (Nat.le_refl _)); have R6 := Lib.hid (R5.out.below b6 (Nat.le_refl _)); obtain ⟨x0, x1⟩ := S6.out.at_; have xl := S6.out.lt; clear ht b6))
          | (go_at_call 21; go_must (refine (SL.out _ B6.out).mono ?_; rintro e w7 ⟨t, rfl, ht, b7⟩; obtain rfl : t = true := ht.2 V2.out; clear x0 x1 xl; have B7 := Lib.hid (B6.out.trans (b7.mono B6.out.size)); have R7 := R6.out.below b7 (Nat.le_refl _); obtain ⟨r0, r1, r2, rl⟩ := R7.at_; have rf0 := R7.fr 0; have rf1 := R7.fr 1; have rf2 := R7.fr 2; clear ht b7 R7)))
        refine bodyPost_ret (v := .tuple #[.agg #[.slice none 0 0, .slice none 0 0, .slice none 0 0], .int .i64 10]) (by simp [results, Tryd.results7, go_sem, r0, r1, r2]) rfl ⟨((B7.out.setCell (p := ⟨rb, 0, none⟩) RBW.out.1 _).setCell (p := ⟨rb, 1, none⟩) RBW.out.1 _).setCell (p := ⟨rb, 2, none⟩) RBW.out.1 _, Or.inl ⟨by rw [EQ.out]; decide, by rw [EQ.out]⟩⟩
      · have V2 := Lib.hid hS2
        have EQ : Hid (wrN B E = 0) := Lib.hid (wr_none H0.out HC2.out T2.out hS2)
        clear hS2
        go_upto_region 12 with (first
          | (go_at_call 20; go_must (refine (CR.out _ _ _ _ B5.out E5.out).mono ?_; rintro e w6 ⟨t, rfl, ht, b6⟩; obtain rfl : t = false := (by cases t; rfl; exact absurd (ht.1 rfl) T2.out); clear r0 r1 r2 rl rf0 rf1 rf2 x0 x1 xl l0 l1 l2 l3 ll; have B6 := Lib.hid (B5.out.trans (b6.mono B5.out.size)); have Q6 := Lib.hid b6; have S6 := Lib.hid (S5.out.below b6 (Nat.le_refl _)); have R6 := Lib.hid (R5.out.below b6 (Nat.le_refl _)); obtain ⟨x0, x1⟩ := S6.out.at_; have xl := S6.out.lt; clear ht b6))
          | (go_at_call 21; go_must (refine (SL.out _ B6.out).mono ?_; rintro e w7 ⟨t, rfl, ht, b7⟩; obtain rfl : t = false := (by cases t; rfl; exact absurd (ht.1 rfl) V2.out); clear x0 x1 xl; have Q7 := Lib.hid (Q6.out.trans (b7.mono Q6.out.size)); clear ht b7)))
        have B7 := Lib.hid (B5.out.trans (Q7.out.mono B5.out.size))
        have S7 := Lib.hid (S5.out.below Q7.out (Nat.le_refl _))
        have R7 := Lib.hid (R5.out.below Q7.out (Nat.le_refl _))
        have LX7 := Lib.hid (LX.out.below Q7.out LX.out.at_.2.2.2.2)
        have L7 := Lib.hid (L5.out.below Q7.out (Nat.le_refl _))
        have X7 := Lib.hid (X5.out.below Q7.out (Nat.le_refl _))
        have XL : Hid (X.length ≤ 5000) := Lib.hid (by have h1 := boxK_len B nB; rw [← XB4.out, List.length_map] at h1; have h2 := HM.out.vs; rw [NB.out] at h2; omega)
        have jd := fun (w' : World) (b : Below w.heap.size w w') (hl : LyAt D s0 E.length (fun i => nbE E i + 2) lb ob fb nB w' n (vxK B E nB).2 nB (.slice AX nX cX) (wayW E (vxK B E nB).1.en (cntV B E nB) E.length)) (hx : BxsAt (s0 + 2 * E.length) E (cntV B E) w' (.slice AX nX cX) X) =>
          joinedY (.slice AB nB cB) (.slice AE nE cE) (.slice (some ⟨fb, 0, none⟩) nB nB) B E ⟨_, _, _, rfl⟩ ⟨_, _, _, rfl⟩ (HE.out.below b (Nat.le_refl _)) HM.out (HT.out.below b (Nat.le_refl _)) hl hx HN4.out XL.out
        rw [NE.out] at jd
        have JD := Lib.hid (jd w7.drew (B7.out.trans ((Below.refl w7.heap.size w7).drew.mono B7.out.size)) (L7.out.below (Below.refl _ _).drew (Nat.le_refl _)) (X7.out.below (Below.refl _ _).drew (Nat.le_refl _)))
        have CS : Hid (celS B E = jnA n (newG n) (bsJ E (cntV B E) (X.map (·.v)) ++ esJ E (wayW E (vxK B E nB).1.en (cntV B E nB) nE) nE)) := Lib.hid (by
          unfold celS wayS
          rw [CNT.out, XB4.out, NB.out, NE.out])
        have WS : Hid (wayS B E = wayW E (vxK B E nB).1.en (cntV B E nB) nE) := Lib.hid (by unfold wayS; rw [NB.out, NE.out])
        have FS : Hid (fstS B E = (vxK B E nB).2) := Lib.hid (by unfold fstS; rw [NB.out])
        obtain ⟨x0, x1⟩ := S7.out.at_
        have xl := S7.out.lt
        obtain ⟨l0, l1, l2, l3, ll⟩ := LX7.out.at_
        have nsr := NSR.out
        have nlr := NLB.out.1
        clear jd
        go_region_held3 (fun w' => w'.cell? ⟨sb, 0, none⟩ = some (.slice AB nB cB) ∧ w'.cell? ⟨sb, 1, none⟩ = some (.slice AE nE cE) ∧ w'.cell? ⟨lx, 0, none⟩ = some (.int .i64 n) ∧ w'.cell? ⟨lx, 1, none⟩ = some (.slice (some ⟨fb, 0, none⟩) nB nB) ∧ w'.cell? ⟨lx, 2, none⟩ = some (.slice AX nX cX) ∧ w'.cell? ⟨lx, 3, none⟩ = some (.slice (some ⟨ob, 0, none⟩) nE nE))
          (first | exact ⟨x80, x81, l80, l81, l82, l83⟩ | exact ⟨(set3_cell nsr _ _ _ 0).trans x80, (set3_cell nsr _ _ _ 1).trans x81, (set3_cell nlr _ _ _ 0).trans l80, (set3_cell nlr _ _ _ 1).trans l81, (set3_cell nlr _ _ _ 2).trans l82, (set3_cell nlr _ _ _ 3).trans l83⟩ | go_keep)
          ((first
            | (go_at_call 22; refine JD.out.mono ?_; rintro e w8 ⟨A8, c8, rfl, o8, b8⟩; have O8 := Lib.hid o8; have Q8 := Lib.hid ((Below.refl w7.heap.size w7).drew.trans b8); have S8 := S7.out.below Q8.out (Nat.le_refl _); obtain ⟨x80, x81⟩ := S8.at_; have LX8 := LX7.out.below Q8.out LX7.out.at_.2.2.2.2; obtain ⟨l80, l81, l82, l83, ll8⟩ := LX8.at_; have R8 := R7.out.below Q8.out (Nat.le_refl _); have HR8 := Lib.hid R8; obtain ⟨r80, r81, r82, rl8⟩ := R8.at_; have rf80 := R8.fr 0; have rf81 := R8.fr 1; have rf82 := R8.fr 2; clear o8 b8 S8 LX8 R8)))
        all_goals
          go_wp2_with fail
          have OX := set3_out w8 rb (.slice A8 n c8) (.slice (some ⟨fb, 0, none⟩) nB nB) (.slice (some ⟨ob, 0, none⟩) nE nE)
          have L9 := (L7.out.below Q8.out (Nat.le_refl _)).under OX (fun b e => by rw [e]; exact RE5.out)
          have B8 := B7.out.trans (Q8.out.mono B7.out.size)
          have K8 : OwnG w8 w7.heap.size (.slice A8 n c8) (jnA n (newG n) (bsJ E (cntV B E) (X.map (·.v)) ++ esJ E (wayW E (vxK B E nB).1.en (cntV B E nB) nE) nE)) n := O8.out
          have FZ : OwnZ _ w.heap.size (.slice (some ⟨fb, 0, none⟩) nB nB) (vxK B E nB).2 nB := OwnZ.base ⟨L9.fst.1, L9.fst.2⟩ HD5.out
          refine bodyPost_ret (v := .tuple #[.agg #[.slice A8 n c8, .slice (some ⟨fb, 0, none⟩) nB nB, .slice (some ⟨ob, 0, none⟩) nE nE], .int .i64 0]) (by simp [results, Tryd.results7, go_sem, r80, r81, r82]) rfl ⟨((B8.setCell (p := ⟨rb, 0, none⟩) RBW.out.1 _).setCell (p := ⟨rb, 1, none⟩) RBW.out.1 _).setCell (p := ⟨rb, 2, none⟩) RBW.out.1 _, Or.inr ⟨EQ.out, _, _, _, rfl, ?_, ?_, ?_⟩⟩
          · rw [CS.out, CNT.out]
            refine (OwnG.base ?_ B7.out.size)
            exact ownsRow_out K8 OX (fun b hb e => own_kind K8 HR8.out (by decide) (by rw [hb, e]))
          · rw [FS.out]; exact FZ
          · rw [WS.out]; exact L9.ways.base HD5.out
end Go.Proofs.YtecifgaekefkpaaDoor
