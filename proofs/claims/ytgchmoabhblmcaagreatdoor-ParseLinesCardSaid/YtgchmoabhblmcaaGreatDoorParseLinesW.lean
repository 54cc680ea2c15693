/-
  ParseLines: the walk: at every shape made of plain data and every byte the call answers true and turns nothing that was there. Conditions: the library's tables are laid.
-/
import Derived.Test.YtgchmoabhblmcaaGreatDoorParY
import Derived.Test.YtgchmoabhblmcaaGreatDoorParK
namespace Go.Proofs.YtgchmoabhblmcaaGreatDoor
open Go.RowKit Go.Proofs.YtgchmoabhblmcaaGreatDoor.LexM Go.Proofs.YtgchmoabhblmcaaGreatDoor.ParM

theorem par_err {s : List UInt8} {z n : Int} (h : (par s).1 = z) (hz : z ≠ 0) (hn : (par s).2.1 = n) : par s = (z, n, [], []) := by
  have h2 := par_none (s := s) (by rw [h]; exact hz)
  exact Prod.ext h (Prod.ext hn (Prod.ext h2.1 h2.2))
theorem parse8l {s : ByteArray} {N Z : Int} {B : List Bool} {E : List Edg} (h : par s.data.toList = (Z, N, B, E)) {nB nE : Nat} (hB : B.length = nB) (hE : E.length = nE) (w : World) (hT : TabL w) :
    Calls Tryz.prog 6 #[.string s] w fun e w' => ∃ A1 c1 A2 c2, e = .returned (.tuple #[.agg #[.slice A1 nB c1, .slice A2 nE c2], .int .i64 N, .int .i64 Z]) ∧ BlsAt w' (.slice A1 nB c1) B ∧ EdsAt w' (.slice A2 nE c2) E ∧ Below w.heap.size w w' := by
  refine (parse s w hT).mono ?_
  rintro e w' ⟨bv, ev, rfl, hb, he, hw⟩
  rw [h] at hb he
  rw [h]
  obtain ⟨A1, c1, rfl⟩ := hb.form
  obtain ⟨A2, c2, rfl⟩ := he.form
  subst hB hE
  exact ⟨A1, c1, A2, c2, rfl, hb, he, hw⟩
/-- The other shape under way: its box, its edges. -/
structure LnT (w wr : World) (s : Nat) (bv ev : Value) (E : List Edg) : Prop where
  below : Below w.heap.size w wr
  sb : wr.heap[s]? = some (.cells #[bv, ev] 26 (0, 0))
  sl : w.heap.size ≤ s
  re : OwnE wr w.heap.size ev E
section
variable {w wr wl : World} {s : Nat} {bv ev : Value} {E : List Edg}
theorem LnT.step (h : LnT w wr s bv ev E) (b : Below wr.heap.size wr wl) : LnT w wl s bv ev E :=
  ⟨h.below.trans (b.mono h.below.size), by rw [b.block _ (Array.getElem?_eq_some_iff.1 h.sb).1]; exact h.sb, h.sl, h.re.below b (Nat.le_refl _)⟩
theorem LnT.cs (h : LnT w wr s bv ev E) : wr.cell? ⟨s, 0, none⟩ = some bv ∧ wr.cell? ⟨s, 1, none⟩ = some ev ∧ wr.frozen? ⟨s, 1, none⟩ = false ∧ s < wr.heap.size := by
  have h1 := h.sb
  refine ⟨by simp [World.cell?, h1], by simp [World.cell?, h1], ?_, (Array.getElem?_eq_some_iff.1 h1).1⟩
  simp only [World.frozen?, h1]; simp
end
theorem LnT.more {w wz wa w5 : World} {s n : Nat} {bv ev v' : Value} {E : List Edg} {a : Edg} (h : LnT w wz s bv ev E) (hn : E.length = n) (ha : Below wz.heap.size wz wa) (hown : w5.ownsRow w.heap.size 29 4 v' (n + 1) (E.flatMap encE ++ encE a)) (hgrow : wa.grownBy w5 ev.ownBlock) :
    w5.heap[s]? = some (.cells #[bv, ev] 26 (0, 0)) ∧ LnT w (w5.setCell ⟨s, 1, none⟩ v') s bv v' (E ++ [a]) := by
  have H := h.step ha
  have lt : ∀ {k c}, wa.heap[k]? = some c → k < wa.heap.size := fun h => (Array.getElem?_eq_some_iff.1 h).1
  have hO := OwnE.snocAt hn hown
  have hsb : w5.heap[s]? = some (.cells #[bv, ev] 26 (0, 0)) := by
    rw [hgrow.block s (lt H.sb) (fun e => own_kind H.re H.sb mkT_e e.symm)]; exact H.sb
  have hw5 : Below w.heap.size w w5 := H.below.grown hgrow H.below.size (fun q hq => (World.ownsRow.lt H.re q hq).1)
  exact ⟨hsb, ⟨below_set hw5 h.sl _ _, by rw [heap_setCell_at hsb]; rfl, h.sl, ownsRow_setCell_other hO (own_kind hO hsb mkT_e) _⟩⟩
/-- The lines in memory. -/
def LinAt (w : World) (g : Nat) (B : List Bool) (E : List Edg) : Prop := ∀ (j : Nat) x, (linS B E)[j]? = some x → w.cell? ⟨g, j, none⟩ = some (.string (bs x))
theorem LinAt.below {C : Nat} {w w' : World} {g : Nat} {B : List Bool} {E : List Edg} (h : LinAt w g B E) (b : Below C w w') (hg : g < C) : LinAt w' g B E := fun j x hx => by
  rw [b.cell (p := ⟨g, j, none⟩) hg]; exact h j x hx
theorem saL {B : List Bool} {E : List Edg} (hM : May B E) {nl : Nat} (hn : E.length + 2 = nl) (w : World) (hT : TabL w) :
    Calls Tryz.prog 12 #[.string (bs (txt0 B E)), .string ⟨#[10]⟩] w fun e w' => e = .returned (.slice (some ⟨w.heap.size, 0, none⟩) nl nl) ∧ LinAt w' w.heap.size B E ∧ Below w.heap.size w w' ∧ w.heap.size < w'.heap.size := by
  refine (splitAfter B E hM w hT).mono ?_
  rintro e w' ⟨rfl, rfl⟩
  subst hn
  refine ⟨rfl, fun j x hx => ?_, (Below.refl _ _).alloc (Nat.le_refl _) _, by simp⟩
  go_simp
theorem jsL {B : List Bool} {E : List Edg} (hM : May B E) {nk nl : Nat} (hk : E.length + 1 = nk) (hl : nk ≤ nl) (g : Nat) (w : World) (hL : LinAt w g B E) (hg : g < w.heap.size) :
    Calls Tryz.prog 14 #[.slice (some ⟨g, 0, none⟩) nk nl, .string ⟨#[]⟩] w fun e w' => e = .returned (.string (bs (glue 10 (fstL B :: E.map edgL)))) ∧ Below w.heap.size w w' := by
  subst hk
  exact joinShort B E hM g nl w hL hg hl
/-- What stays: the shape's box and rows, the lines. -/
structure LnQ (w : World) (ps g : Nat) (bv ev : Value) (B : List Bool) (E : List Edg) : Prop where
  blk : w.heap[ps]? = some (.cells #[bv, ev] 26 (0, 0))
  hb : BlsAt w bv B
  he : EdsAt w ev E
  li : LinAt w g B E
  gl : g < w.heap.size
  tb : TabL w
section
variable {w wl : World} {ps g : Nat} {bv ev : Value} {B : List Bool} {E : List Edg}
theorem LnQ.step (h : LnQ w ps g bv ev B E) (b : Below w.heap.size w wl) : LnQ wl ps g bv ev B E :=
  ⟨by rw [b.block _ (Array.getElem?_eq_some_iff.1 h.blk).1]; exact h.blk, h.hb.below b (Nat.le_refl _), h.he.below b (Nat.le_refl _), h.li.below b h.gl, Nat.lt_of_lt_of_le h.gl b.size, h.tb.below b (Nat.le_refl _)⟩
theorem LnQ.cs (h : LnQ w ps g bv ev B E) : w.cell? ⟨ps, 0, none⟩ = some bv ∧ w.cell? ⟨ps, 1, none⟩ = some ev ∧ ps < w.heap.size := by
  have h1 := h.blk
  exact ⟨by simp [World.cell?, h1], by simp [World.cell?, h1], (Array.getElem?_eq_some_iff.1 h1).1⟩
end
theorem par_join {B : List Bool} {E : List Edg} (hM : May B E) : ∃ n, par (fstL B ++ 32 :: glue 10 (E.map edgL ++ [endW])) = (4, n, [], []) :=
  ⟨_, par_err (par_joined hM (Nat.le_trans (print_len hM) (by decide))) (by decide) rfl⟩
theorem par_one {B : List Bool} {E : List Edg} (hM : May B E) {nl : Nat} (hn : E.length + 2 = nl) : par (bs (glue 10 (fstL B :: E.map edgL))).data.toList = (4, (nl : Int), [], []) := by
  have h := par_short hM (Nat.le_trans (short_len hM) (by decide))
  rw [bs_data]
  exact par_err h.1 (by decide) (by rw [h.2]; omega)
theorem par_two {B : List Bool} {E : List Edg} (hM : May B E) {nl : Nat} (hn : E.length + 2 = nl) : par (bs (printS B E) ++ ⟨#[101, 110, 100, 10]⟩).data.toList = (4, (nl : Int) + 1, [], []) := by
  have h := par_twice hM (by
    rw [List.length_append]
    have h1 := print_len hM
    have h2 : (glue 10 [endW]).length = 4 := by decide
    omega)
  rw [cat_list, bs_data]
  exact par_err h.1 (by decide) (by rw [← hn]; exact h.2.trans (by omega))
def LnRel (B : List Bool) (R : List Edg) (nE : Nat) (wl : World) (pt : Nat) (bv : Value) (tv iv : Value) (wr : World) : Prop :=
  ∃ (k : Nat) (T : ByteArray) (ev : Value), iv = .int .i64 k ∧ tv = .string T ∧ k ≤ nE ∧ T.data.toList = prT B R k ∧ LnT wl wr pt bv ev (R.take k)
theorem rot_at {E : List Edg} {q k j : Nat} (h : k < E.length) (hj : (k + q) % E.length = j) : ∃ (hj : j < E.length) (hk : k < (rotE E q).length), (rotE E q)[k] = E[j] := by
  subst hj
  exact ⟨Nat.mod_lt _ (by omega), by rw [rot_len]; exact h, rot_get h⟩
theorem linS_at {B : List Bool} {E : List Edg} {j : Nat} (h : j < E.length) : (linS B E)[1 + j]? = some (edgL E[j] ++ [10]) := by
  rw [List.getElem?_eq_getElem (by rw [linS_len]; omega), linS_edge h]
theorem linS_zero (B : List Bool) (E R : List Edg) : (linS B E)[0]? = some (prT B R 0) := by
  rw [List.getElem?_eq_getElem (by rw [linS_len]; omega), linS_first, prT_zero, prT_zero]
theorem modC {k q m j : Nat} (h : (k + q) % m = j) : ((k : Int) + (q : Int)).tmod (m : Int) = (j : Int) := by
  rw [show (k : Int) + (q : Int) = ((k + q : Nat) : Int) by omega, Int.tmod_eq_emod_of_nonneg (by omega), ← h]
  exact (Int.natCast_emod _ _).symm
set_option maxHeartbeats 16000000 in
set_option maxRecDepth 100000 in
theorem lines8 (bv : Value) (ZB : List Bool) (A : Option Addr) (n cap : Nat) (D : Nat → Int × Int × Int) (A2 : Option Addr) (n2 cap2 : Nat) (D2 : Nat → Int) (y : Int) (w : World) (hT : TabL w) (hB : BlsAt w bv ZB) (hD : Tri8 w A n D) (hY : Byt8 w A2 n2 D2) (hy : 0 ≤ y ∧ y ≤ 255) :
    Calls Tryz.prog 4 #[.agg #[bv, .slice A n cap, .slice A2 n2 cap2], .int .u8 y] w fun e w' => e = .returned (.bool true) ∧ Below w.heap.size w w' := by
  have HT := Lib.hid hT
  have HB := Lib.hid hB
  have HD := Lib.hid hD
  have HY := Lib.hid hY
  have MK := Lib.hid (fun W hb hd hy => refMake bv ZB A n cap D A2 n2 cap2 D2 W hb hd hy)
  clear hT hB hD hY
  go_enter Tryz.func4, Tryz.ntmps4
  go_wp2_with (fail)
  generalize hwa : World.alloc w _ = wa
  have ba : Below w.heap.size w wa := by rw [← hwa]; exact (Below.refl _ _).alloc (Nat.le_refl _) _
  have BA := Lib.hid ba
  clear hwa ba
  refine (MK.out wa (HB.out.below BA.out (Nat.le_refl _)) (HD.out.below BA.out) (HY.out.below BA.out)).mono ?_
  rintro e w1 ⟨S1, m1, c1, S2, m2, c2, B, E, rfl, hm1, hm2, hb1, he1, hS, b1⟩
  have B1 : Hid (Below w.heap.size w w1) := Lib.hid (BA.out.trans (b1.mono BA.out.size))
  have HB1 := Lib.hid hb1
  have HE1 := Lib.hid he1
  have SM := Lib.hid hS
  have L1 := Lib.hid hm1
  have L2 := Lib.hid hm2
  have hm12 : m2 ≤ 12 := by rw [← hm2]; exact hS.es
  have hm6 : m1 ≤ 6 := by rw [← hm1]; exact hS.vs
  obtain ⟨nl, hnl⟩ : ∃ n, m2 + 2 = n := ⟨_, rfl⟩
  obtain ⟨nk, hnk⟩ : ∃ n, m2 + 1 = n := ⟨_, rfl⟩
  have hEl : E.length + 2 = nl := by rw [hm2]; exact hnl
  have hEk : E.length + 1 = nk := by rw [hm2]; exact hnk
  have MM := Lib.hid hS.may
  have PR := Lib.hid (fun bv ev w hB hE => refPrint bv ev B E w hB hE MM.out)
  have TL := Lib.hid (fun w => trimLast B E MM.out w)
  have SA := Lib.hid (fun w hT => saL MM.out hEl w hT)
  have JS := Lib.hid (fun g w hL hg => jsL MM.out hEk (by omega : nk ≤ nl) g w hL hg)
  have P1 := Lib.hid (fun w hT => parse8l (s := bs (glue 10 (fstL B :: E.map edgL))) (par_one MM.out hEl) (nB := 0) (nE := 0) rfl rfl w hT)
  have P2 := Lib.hid (fun w hT => parse8l (s := bs (printS B E) ++ ⟨#[101, 110, 100, 10]⟩) (par_two MM.out hEl) (nB := 0) (nE := 0) rfl rfl w hT)
  have RP := Lib.hid (fun w hT => replaceOne B E MM.out w hT)
  obtain ⟨n3, hn3⟩ := par_join MM.out
  have P3 := Lib.hid (fun w hT => parse8l (s := bs (fstL B ++ 32 :: glue 10 (E.map edgL ++ [endW]))) (N := n3) (Z := 4) (B := []) (E := []) hn3 (nB := 0) (nE := 0) rfl rfl w hT)
  have htz : (bs (printS B E)).size ≤ 90000 := by rw [bs_size]; exact print_len MM.out
  generalize bs (printS B E) = tx at *
  generalize bs (txt0 B E) = t0 at *
  generalize bs (glue 10 (fstL B :: E.map edgL)) = sh at *
  generalize bs (fstL B ++ 32 :: glue 10 (E.map edgL ++ [endW])) = jn at *
  have hsub : wrap64 ((nl : Int) - 1) = (nk : Int) := by unfold wrap64; omega
  have hnkl : nk ≤ nl := by omega
  have hadd : wrap64 ((nl : Int) + 1) = (nl : Int) + 1 := by unfold wrap64; omega
  have HN := Lib.hid hnl
  have NK := Lib.hid hnk
  clear b1 hb1 he1 hS hm1 hm2 MK HB HD HY hEl hEk hn3 hnl hnk
  go_wp2_with (fail)
  generalize hws : World.alloc w1 _ = ws
  have bs1 : Below w1.heap.size w1 ws := by rw [← hws]; exact (Below.refl _ _).alloc (Nat.le_refl _) _
  have hks : ws.heap[w1.heap.size]? = some (.cells #[.slice S1 m1 c1, .slice S2 m2 c2] 26 (0, 0)) := by rw [← hws]; exact heap_alloc_new w1 _
  have BS : Hid (Below w.heap.size w ws) := Lib.hid (B1.out.trans (bs1.mono B1.out.size))
  have HBs := Lib.hid (HB1.out.below bs1 (Nat.le_refl _))
  have HEs := Lib.hid (HE1.out.below bs1 (Nat.le_refl _))
  have KS := Lib.hid hks
  have hps : w1.heap.size < ws.heap.size := (Array.getElem?_eq_some_iff.1 hks).1
  clear hws bs1 hks B1 HB1 HE1 BA
  generalize w1.heap.size = ps at *
  refine (PR.out _ _ ws HBs.out HEs.out).mono ?_
  rintro e w2 ⟨rfl, b2⟩
  have B2 : Hid (Below w.heap.size w w2) := Lib.hid (BS.out.trans (b2.mono BS.out.size))
  have K2 : Hid (w2.heap[ps]? = some (.cells #[.slice S1 m1 c1, .slice S2 m2 c2] 26 (0, 0))) := Lib.hid (by rw [b2.block _ hps]; exact KS.out)
  have HB2 := Lib.hid (HBs.out.below b2 (Nat.le_refl _))
  have HE2 := Lib.hid (HEs.out.below b2 (Nat.le_refl _))
  clear b2 hps HBs HEs KS BS PR
  go_wp2_with (fail)
  refine (TL.out w2).mono ?_
  rintro e w3 ⟨rfl, rfl⟩
  go_wp2_with (fail)
  refine (SA.out _ (HT.out.below B2.out (Nat.le_refl _))).mono ?_
  rintro e w4 ⟨rfl, hL4, b4, hg4⟩
  have Q4 : Hid (LnQ w4 ps _ (.slice S1 m1 c1) (.slice S2 m2 c2) B E) := Lib.hid ⟨by rw [b4.block _ (Array.getElem?_eq_some_iff.1 K2.out).1]; exact K2.out, HB2.out.below b4 (Nat.le_refl _), HE2.out.below b4 (Nat.le_refl _), hL4, hg4, (HT.out.below B2.out (Nat.le_refl _)).below b4 (Nat.le_refl _)⟩
  have B4 : Hid (Below w.heap.size w w4) := Lib.hid (B2.out.trans (b4.mono B2.out.size))
  clear hL4 b4 hg4 TL SA HB2 HE2 K2 B2
  generalize World.heap w3 = h3 at *
  generalize Array.size h3 = g at *
  go_wp2_with (fail)
  refine (JS.out g w4 Q4.out.li Q4.out.gl).mono ?_
  rintro e w5 ⟨rfl, b5⟩
  have Q5 := Lib.hid (Q4.out.step b5)
  have B5 : Hid (Below w.heap.size w w5) := Lib.hid (B4.out.trans (b5.mono B4.out.size))
  clear b5 Q4 B4 JS
  go_wp2_with (fail)
  refine (P1.out w5 Q5.out.tb).mono ?_
  rintro e w6 ⟨X1, x1, X2, x2, rfl, _, _, b6⟩
  have Q6 := Lib.hid (Q5.out.step b6)
  have B6 : Hid (Below w.heap.size w w6) := Lib.hid (B5.out.trans (b6.mono B5.out.size))
  clear b6 Q5 B5 P1
  go_wp2_with (fail)
  generalize hwa : World.alloc w6 _ = w7
  have b7 : Below w6.heap.size w6 w7 := by rw [← hwa]; exact (Below.refl _ _).alloc (Nat.le_refl _) _
  have Q7 := Lib.hid (Q6.out.step b7)
  have B7 : Hid (Below w.heap.size w w7) := Lib.hid (B6.out.trans (b7.mono B6.out.size))
  clear hwa b7 Q6 B6
  refine (P2.out w7 Q7.out.tb).mono ?_
  rintro e w8 ⟨X3, x3, X4, x4, rfl, _, _, b8⟩
  have Q8 := Lib.hid (Q7.out.step b8)
  have B8 : Hid (Below w.heap.size w w8) := Lib.hid (B7.out.trans (b8.mono B7.out.size))
  clear b8 Q7 B7 P2
  go_wp2_with (fail)
  generalize hwa : World.alloc w8 _ = w9
  have b9 : Below w8.heap.size w8 w9 := by rw [← hwa]; exact (Below.refl _ _).alloc (Nat.le_refl _) _
  have Q9 := Lib.hid (Q8.out.step b9)
  have B9 : Hid (Below w.heap.size w w9) := Lib.hid (B8.out.trans (b9.mono B8.out.size))
  clear hwa b9 Q8 B8
  refine (RP.out w9 Q9.out.tb).mono ?_
  rintro e w10 ⟨rfl, b10⟩
  have Q10 := Lib.hid (Q9.out.step b10)
  have B10 : Hid (Below w.heap.size w w10) := Lib.hid (B9.out.trans (b10.mono B9.out.size))
  clear b10 Q9 B9 RP
  go_wp2_with (fail)
  refine (P3.out w10 Q10.out.tb).mono ?_
  rintro e w11 ⟨X5, x5, X6, x6, rfl, _, _, b11⟩
  have Q11 := Lib.hid (Q10.out.step b11)
  have B11 : Hid (Below w.heap.size w w11) := Lib.hid (B10.out.trans (b11.mono B10.out.size))
  clear b11 Q10 B10 P3
  obtain ⟨s0, s1, sl⟩ := Q11.out.cs
  go_upto_if 64 with (fail)
  generalize hwl : World.alloc w11 _ = wl
  have bl : Below w11.heap.size w11 wl := by rw [← hwl]; exact (Below.refl _ _).alloc (Nat.le_refl _) _
  have hpl : wl.heap.size = w11.heap.size + 1 := by rw [← hwl]; simp
  have QL := Lib.hid (Q11.out.step bl)
  have BL : Hid (Below w.heap.size w wl) := Lib.hid (B11.out.trans (bl.mono B11.out.size))
  clear hwl bl s0 s1 sl
  generalize w11.heap.size + 1 = pt at *
  generalize hwm : World.alloc wl _ = wm
  have hLm : LnT wl wm pt (.slice S1 m1 c1) (.slice none 0 0) [] := ⟨by rw [← hwm]; exact (Below.refl _ _).alloc (Nat.le_refl _) _, by rw [← hwm, ← hpl]; exact heap_alloc_new wl _, by omega, World.ownsRow_nil _ _ _ _⟩
  have LM := Lib.hid hLm
  have QM := Lib.hid (QL.out.step hLm.below)
  have HPL := Lib.hid hpl
  clear hwm hLm hpl Q11 B11
  obtain ⟨s0, s1, sl⟩ := QM.out.cs
  go_cut [19] from 64 to 70 (fun s19 wx => ∃ q : Nat, s19 = .int .i64 q ∧ q ≤ 255 ∧ (0 < m2 → q < m2) ∧ wx = wm)
  case first =>
    by_cases h0 : 0 < m2
    · have t1 : decide (0 < m2) = true := by rw [decide_eq_true_eq]; exact h0
      have t2 : decide ((0 : Int) < (m2 : Int)) = true := by rw [decide_eq_true_eq]; omega
      obtain ⟨q, hq⟩ : ∃ r : Nat, y % (m2 : Int) = (r : Int) := ⟨(y % (m2 : Int)).toNat, by have := Int.emod_nonneg y (b := (m2 : Int)) (by omega); omega⟩
      have hq1 : q < m2 := by have := Int.emod_lt_of_pos y (b := (m2 : Int)) (by omega); omega
      have hq2 : y.tmod (m2 : Int) = (q : Int) := by rw [Int.tmod_eq_emod_of_nonneg hy.1]; exact hq
      have hm0 : ¬ m2 = 0 := by omega
      obtain ⟨hy0, hy1⟩ := hy
      clear hq
      go_wp2
      go_meet
      exact ⟨q, rfl, by omega, fun _ => hq1, rfl⟩
    · have t1 : decide (0 < m2) = false := by rw [decide_eq_false_iff_not]; exact h0
      have t2 : decide ((0 : Int) < (m2 : Int)) = false := by rw [decide_eq_false_iff_not]; omega
      go_wp2
      go_meet
      exact ⟨0, rfl, by omega, fun h => absurd h h0, rfl⟩
  case rest =>
    obtain ⟨q, rfl, hq255, hqm, hwc⟩ := hcut
    subst hwc
    obtain ⟨wm, hwm⟩ : ∃ W, W = wc := ⟨_, rfl⟩
    subst hwm
    have QMH := Lib.hid hqm
    have c0 := QM.out.li 0 _ (linS_zero B E (rotE E q))
    have hgl := QM.out.gl
    have h0nl : 0 < nl := by have := HN.out; omega
    clear hqm
    go_wp2_with (fail)
    go_loopw [20, 77] (fun ov iv wr => LnRel B (rotE E q) m2 wl pt (.slice S1 m1 c1) ov iv wr) (fun _ iv _ => m2 - (intOf iv).toNat)
    case atStart => exact ⟨0, bs (prT B (rotE E q) 0), _, rfl, rfl, Nat.zero_le _, bs_data _, by rw [List.take_zero]; exact LM.out⟩
    case round =>
      obtain ⟨k, T, ev, rfl, rfl, hk, ht, hL⟩ := hrel
      have hRM : Hid (May B (rotE E q)) := Lib.hid (rot_smal SM.out q).may
      have hRl : Hid ((rotE E q).length = m2) := Lib.hid (by rw [rot_len]; exact L2.out)
      have hlk : ((rotE E q).take k).length = k := by rw [List.length_take, hRl.out]; omega
      obtain ⟨ae, ce, e'⟩ := hL.re.form
      rw [hlk] at e'
      subst e'
      have LK := Lib.hid hlk
      have L := Lib.hid hL
      have TX := Lib.hid ht
      have QR := Lib.hid (QL.out.step hL.below)
      have htz : T.size ≤ 90000 := by rw [size_list, ht]; exact prT_len hRM.out (by rw [hRl.out]; exact hk)
      have hwr : wl.heap.size ≤ wr.heap.size := hL.below.size
      obtain ⟨t0', t1', tf, tl⟩ := hL.cs
      obtain ⟨s0, s1, sl⟩ := QR.out.cs
      clear hlk hL ht
      by_cases hlt : k < m2
      · have hkE : k < E.length := by rw [L2.out]; exact hlt
        obtain ⟨j, hj⟩ : ∃ j, (k + q) % E.length = j := ⟨_, rfl⟩
        obtain ⟨hjE, hkR, hRx⟩ := rot_at hkE hj
        have hjm : j < m2 := by rw [← L2.out]; exact hjE
        rw [L2.out] at hj
        have HMD : Hid (((k : Int) + (q : Int)) % (m2 : Int) = (j : Int)) := Lib.hid (by rw [← modC hj, Int.tmod_eq_emod_of_nonneg (by omega)])
        have hqq := QMH.out (by omega)
        have hjn : 1 + j < nl := by have := HN.out; omega
        have HTN : Hid ((1 + (j : Int)).toNat = 1 + j) := Lib.hid (by omega)
        obtain ⟨b, o, c', e', hb, d0, d1, d2, d3⟩ := QR.out.he.nth hjE
        rw [L2.out] at e'
        simp only [Value.slice.injEq, true_and] at e'
        obtain ⟨rfl, rfl⟩ := e'
        have TK := List.take_succ_eq_append_getElem hkR
        have NX := prT_next (B := B) hkR
        rw [hRx] at TK NX
        obtain ⟨x, hx⟩ : ∃ x, E[j] = x := ⟨_, rfl⟩
        rw [hx] at d0 d1 d2 d3 TK NX
        have lx := linS_at (B := B) hjE
        have hxm := List.getElem_mem hjE
        rw [hx] at lx hxm
        have h21 : (edgL x).length ≤ 21 := by
          have h := SM.out.ok x hxm
          have h2 := edgL_len h.1 SM.out.may.vs
          omega
        obtain ⟨j1, hj1e⟩ : ∃ n, 1 + j = n := ⟨_, rfl⟩
        have htn0 := HTN.out
        rw [hj1e] at htn0 lx
        have HT2 := Lib.hid htn0
        clear htn0
        obtain ⟨ln, hln⟩ : ∃ s, bs (edgL x ++ [10]) = s := ⟨_, rfl⟩
        have hlz : ln.size ≤ 22 := by rw [← hln, bs_size, List.length_append, List.length_singleton]; omega
        have LX : Hid (∀ W, LinAt W g B E → W.cell? ⟨g, j1, none⟩ = some (.string ln)) := Lib.hid (fun W hW => by rw [← hln]; exact hW _ _ lx)
        have NXT : Hid ((T ++ ln).data.toList = prT B (rotE E q) (k + 1)) := Lib.hid (by rw [cat_list, TX.out, ← hln, bs_data, NX])
        have TKH : Hid ((rotE E q).take (k + 1) = (rotE E q).take k ++ [x]) := Lib.hid TK
        have t1 : decide (k < m2) = true := by rw [decide_eq_true_eq]; exact hlt
        obtain ⟨i1, hi1, hy0, hy1, hy2⟩ := info_of infoE4
        clear hx hRx hj TK NX lx hxm h21 hln hj1e hjE hkR hkE
        obtain ⟨e1, e2, e3, bb⟩ := x
        simp only at d0 d1 d2 d3
        go_upto_region 17 with (fail)
        have hmod := HMD.out
        go_upto_region 18 with (fail)
        go_region_law (refine step_append_fresh rfl (.tmp 88) (.tmp 94) 24 rfl wl.heap.size 29 i1 (.agg #[.int .i64 0, .int .i64 0, .int .i64 0, .string ByteArray.empty]) 4 40 Tryz.underlying24 hi1 hy0 hy1 hy2 rfl (by decide) (.slice ae k ce) k (((rotE E q).take k).flatMap encE) (by simp [Act.eval]) ((L.out.re.below (by first | exact ((Below.refl _ _).alloc (Nat.le_refl _) _).drew | exact ((Below.refl _ _).drew).alloc (by simp) _ | exact (Below.refl _ _).alloc (Nat.le_refl _) _) (Nat.le_refl _)).at_ LK.out) ⟨wr.heap.size, 0, none⟩ 1 1 (encE (e1, e2, e3, bb)) (by simp [Act.eval]) rfl (by first | exact newsEd _ _ _ _ rfl | exact newsE _ _ _ _ rfl) (encE_one _) (by unfold maxLen; omega) (by omega) (by simp; omega) ?_; intro v5 w5 hown hgrow hfr; obtain ⟨hs5, hM5⟩ := L.out.more LK.out (by first | exact ((Below.refl _ _).alloc (Nat.le_refl _) _).drew | exact ((Below.refl _ _).drew).alloc (by simp) _ | exact (Below.refl _ _).alloc (Nat.le_refl _) _) hown hgrow; obtain ⟨ao, cp5, e5⟩ := (OwnE.snocAt LK.out hown).form; rw [List.length_append, LK.out] at e5; simp only [List.length_singleton] at e5; subst e5; have M5 := Lib.hid hM5; have s5f : w5.frozen? ⟨pt, 1, none⟩ = false := (by simp only [World.frozen?, hs5]; simp); have s5l := (Array.getElem?_eq_some_iff.1 hs5).1; have s5c : w5.cell? ⟨pt, 1, none⟩ = some (.slice ae k ce) := (by simp [World.cell?, hs5]); clear hown hgrow hfr hs5 hM5)
        all_goals
          go_upto_region 19 with (fail)
          generalize hw6 : World.setCell w5 _ _ = w6
          have L6 : Hid (LnT wl w6 pt (.slice S1 m1 c1) (.slice ao (k + 1) cp5) ((rotE E q).take k ++ [(e1, e2, e3, bb)])) := Lib.hid (by rw [← hw6]; exact M5.out)
          have Q6 := Lib.hid (QL.out.step L6.out.below)
          have cl := LX.out w6 Q6.out.li
          have hgl6 := Q6.out.gl
          have htn := HT2.out
          clear hw6 s5f s5l s5c
          go_wp2
          go_roundw
          case rel => exact ⟨k + 1, T ++ ln, _, by go_num, rfl, hlt, NXT.out, by rw [TKH.out]; exact L6.out⟩
          case measure => (simp [intOf] <;> omega)
      · have hke : m2 = k := by omega
        subst hke
        have PT : Hid (par (T ++ ⟨#[101, 110, 100, 10]⟩).data.toList = (0, 0, B, rotE E q)) := Lib.hid (by
          have h := prT_last B (rotE E q)
          rw [hRl.out] at h
          rw [cat_list, TX.out]
          exact (congrArg par h).trans (par_print hRM.out (Nat.le_trans (print_len hRM.out) (by decide))))
        have P4 := Lib.hid (fun w hT => parse8l (s := T ++ ⟨#[101, 110, 100, 10]⟩) PT.out (nB := m1) (nE := m2) L1.out hRl.out w hT)
        have L2R : Hid (LnT wl wr pt (.slice S1 m1 c1) (.slice ae m2 ce) (rotE E q)) := Lib.hid (by
          have h := L.out
          rw [List.take_of_length_le (by rw [hRl.out]; exact Nat.le_refl _)] at h
          exact h)
        have BR : Hid (Below w.heap.size w wr) := Lib.hid (BL.out.trans (L.out.below.mono BL.out.size))
        have EQ : Hid (∀ bv ev cv dv w', BlsAt w' bv B → EdsAt w' ev (rotE E q) → BlsAt w' cv B → EdsAt w' dv (rotE E q) → Calls Tryz.prog 9 #[.agg #[bv, ev], .agg #[cv, dv]] w' fun r w2 => r = .returned (.bool true) ∧ Below w'.heap.size w' w2) := Lib.hid (fun bv ev cv dv w' h1 h2 h3 h4 => by
          refine (equalShape bv ev cv dv _ _ _ _ w' h1 h2 h3 h4 (by rw [L1.out]; omega) (by rw [hRl.out]; omega) (by rw [L1.out]; omega) (by rw [hRl.out]; omega)).mono ?_
          rintro r w2 ⟨rfl, hb⟩
          exact ⟨by simp, hb⟩)
        clear PT L LK hlt hk t0' t1' tf tl s0 s1 sl hRM TX
        go_wp2_with (fail)
        refine (P4.out wr QR.out.tb).mono ?_
        rintro e w12 ⟨Y1, v1, Y2, v2, rfl, hb12, he12, b12⟩
        have Q12 := Lib.hid (QR.out.step b12)
        have L12 := Lib.hid (L2R.out.step b12)
        have B12 : Hid (Below w.heap.size w w12) := Lib.hid (BR.out.trans (b12.mono BR.out.size))
        have HB12 := Lib.hid hb12
        have HE12 := Lib.hid he12
        clear b12 hb12 he12 QR L2R BR P4
        go_wp2_with (fail)
        generalize hwa : World.alloc w12 _ = w13
        have b13 : Below w12.heap.size w12 w13 := by rw [← hwa]; exact (Below.refl _ _).alloc (Nat.le_refl _) _
        have hk13 : w13.heap[w12.heap.size]? = some (.cells #[.slice Y1 m1 v1, .slice Y2 m2 v2] 26 (0, 0)) := by rw [← hwa]; exact heap_alloc_new w12 _
        have hl13 : w12.heap.size < w13.heap.size := (Array.getElem?_eq_some_iff.1 hk13).1
        have K13 := Lib.hid hk13
        have Q13 := Lib.hid (Q12.out.step b13)
        have L13 := Lib.hid (L12.out.step b13)
        have HB13 := Lib.hid (HB12.out.below b13 (Nat.le_refl _))
        have HE13 := Lib.hid (HE12.out.below b13 (Nat.le_refl _))
        have B13 : Hid (Below w.heap.size w w13) := Lib.hid (B12.out.trans (b13.mono B12.out.size))
        clear hwa b13 hk13
        refine (wakes8 w13 Q13.out.tb).mono ?_
        rintro e w14 ⟨rfl, b14⟩
        have z0 : w14.cell? ⟨w12.heap.size, 0, none⟩ = some (.slice Y1 m1 v1) := by have h := b14.block _ hl13; rw [K13.out] at h; simp [World.cell?, h]
        have z1 : w14.cell? ⟨w12.heap.size, 1, none⟩ = some (.slice Y2 m2 v2) := by have h := b14.block _ hl13; rw [K13.out] at h; simp [World.cell?, h]
        have zl := Nat.lt_of_lt_of_le hl13 b14.size
        have Q14 := Lib.hid (Q13.out.step b14)
        have L14 := Lib.hid (L13.out.step b14)
        have HB14 := Lib.hid (HB13.out.below b14 (Nat.le_refl _))
        have HE14 := Lib.hid (HE13.out.below b14 (Nat.le_refl _))
        have B14 : Hid (Below w.heap.size w w14) := Lib.hid (B13.out.trans (b14.mono B13.out.size))
        obtain ⟨t0', t1', _, tl⟩ := L14.out.cs
        clear b14 hl13
        go_wp2_with (go_at_call 9; refine (EQ.out _ _ _ _ _ HB14.out HE14.out Q14.out.hb L14.out.re.eds).mono ?_; rintro e w15 ⟨rfl, b15⟩; have B15 : Hid (Below w.heap.size w w15) := Lib.hid (B14.out.trans (b15.mono B14.out.size)); clear b15)
        go_ret
        exact ⟨ret_bool (by simp), B15.out⟩
end Go.Proofs.YtgchmoabhblmcaaGreatDoor
