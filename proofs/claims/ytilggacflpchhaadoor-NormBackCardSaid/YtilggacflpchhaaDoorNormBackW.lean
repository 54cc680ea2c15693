/-
  NormBack: the walk: of every shape, at every edge, the call answers true and turns nothing that was there. Conditions: the borders read as the program lays them.
-/
import Derived.Test.YtilggacflpchhaaDoorNormTellsW
import Derived.Test.YtilggacflpchhaaDoorNbV
import Derived.Test.YtilggacflpchhaaDoorNzT
import Derived.Test.YtilggacflpchhaaDoorNcT
import Derived.BigQuiet
namespace Go.Proofs.YtilggacflpchhaaDoor
open Go.RowKit Go.Proofs.YtilggacflpchhaaDoor.LexM Go.Proofs.YtilggacflpchhaaDoor.ParM Go.Proofs.YtilggacflpchhaaDoor.GrM Go.Proofs.YtilggacflpchhaaDoor.NmM

theorem refBackE (e : Edg) (w : World) (hz : e.2.2.2.length ≤ 2000000) (h0 : 0 ≤ e.2.2.1) (h3 : e.2.2.1 ≤ 3) :
    Calls Tryd.prog 16 #[.agg #[.int .i64 e.1, .int .i64 e.2.1, .int .i64 e.2.2.1, .string (bs e.2.2.2)]] w fun r w' => r = .returned (.agg #[.int .i64 (backE e).1, .int .i64 (backE e).2.1, .int .i64 (backE e).2.2.1, .string (bs (backE e).2.2.2)]) ∧ Below w.heap.size w w' :=
  refBack e.1 e.2.1 e.2.2.1 e.2.2.2 w hz h0 h3
theorem OwnE.cellEx {w : World} {B g n c j : Nat} {E : List Edg} (h : OwnE w B (.slice (some ⟨g, 0, none⟩) n c) E) (hn : E.length = n) (hj : j < n * 4) : ∃ v, w.cell? ⟨g, j, none⟩ = some v := by
  unfold OwnE at h
  rw [hn] at h
  have hl : (E.flatMap encE).length = n * 4 := by rw [flat_len encE encE_len E, hn]
  exact ⟨_, by rw [World.ownsRow.cellAt h j hj, List.getElem?_eq_getElem (by omega)]⟩
theorem OwnE.fr {w : World} {B g n c : Nat} {E : List Edg} (h : OwnE w B (.slice (some ⟨g, 0, none⟩) n c) E) (hn : E.length = n) (j : Nat) : w.frozen? ⟨g, j, none⟩ = false := by
  unfold OwnE at h
  rw [hn] at h
  exact World.ownsRow.frozenAt h j
theorem OwnE.block {w : World} {B n c : Nat} {A : Option Addr} {E : List Edg} (h : OwnE w B (.slice A n c) E) (hn : E.length = n) (h0 : 0 < n) : ∃ G, A = some ⟨G, 0, none⟩ ∧ B ≤ G ∧ G < w.heap.size := by
  unfold OwnE at h
  rw [hn] at h
  rcases h.2 with ⟨_, h1⟩ | ⟨g, _, _, h1, _⟩
  · omega
  · injection h1 with h2
    subst h2
    exact ⟨g, rfl, World.ownsRow.lt h _ rfl⟩
theorem set4_heap {w : World} {q G : Nat} (h : q ≠ G) (a b c d : Value) (k : Nat) : ((((w.setCell ⟨G, k, none⟩ a).setCell ⟨G, k + 1, none⟩ b).setCell ⟨G, k + 2, none⟩ c).setCell ⟨G, k + 3, none⟩ d).heap[q]? = w.heap[q]? := by
  rw [Below.heap_setCell _ _ _ _ h, Below.heap_setCell _ _ _ _ h, Below.heap_setCell _ _ _ _ h, Below.heap_setCell _ _ _ _ h]
theorem set4_cell {w : World} {q G : Nat} (h : q ≠ G) (a b c d : Value) (k j : Nat) : ((((w.setCell ⟨G, k, none⟩ a).setCell ⟨G, k + 1, none⟩ b).setCell ⟨G, k + 2, none⟩ c).setCell ⟨G, k + 3, none⟩ d).cell? ⟨q, j, none⟩ = w.cell? ⟨q, j, none⟩ := by
  simp only [World.cell?, set4_heap h]
set_option maxHeartbeats 16000000 in
set_option maxRecDepth 100000 in
theorem back11 (bv : Value) (ZB : List Bool) (A : Option Addr) (n cap : Nat) (D : Nat → Int × Int × Int) (A2 : Option Addr) (n2 cap2 : Nat) (D2 : Nat → Int) (y : Int) (w : World) (hT : BorT w) (hB : BlsAt w bv ZB) (hD : Tri8 w A n D) (hY : Byt8 w A2 n2 D2) (hy : 0 ≤ y ∧ y ≤ 255) :
    Calls Tryd.prog 5 #[.agg #[bv, .slice A n cap, .slice A2 n2 cap2], .int .u8 y] w fun e w' => e = .returned (.bool true) ∧ Below w.heap.size w w' := by
  have HT := Lib.hid hT
  have HB := Lib.hid hB
  have HD := Lib.hid hD
  have HY := Lib.hid hY
  have MK := Lib.hid (fun W hb hd hy => refMake8 bv ZB A n cap D A2 n2 cap2 D2 W hb hd hy)
  have WK := Lib.hid wakes11
  have YY := Lib.hid hy
  clear hT hB hD hY hy
  go_enter Tryd.func5, Tryd.ntmps5
  go_wp2_with (fail)
  generalize hwa : World.alloc w _ = wa
  have ba : Below w.heap.size w wa := by rw [← hwa]; exact (Below.refl _ _).alloc (Nat.le_refl _) _
  have BA := Lib.hid ba
  clear hwa ba
  refine (MK.out wa (HB.out.below BA.out (Nat.le_refl _)) (HD.out.below BA.out) (HY.out.below BA.out)).mono ?_
  rintro e w1 ⟨S1, m1, c1, S2, m2, c2, B, E, rfl, hm1, hm2, hb1, he1, hS, b1⟩
  have B1 : Hid (Below w.heap.size w w1) := Lib.hid (BA.out.trans (b1.mono BA.out.size))
  have HB1 := Lib.hid hb1.bls
  have HE1 := Lib.hid he1.eds
  have MM := Lib.hid hS.may
  have SM := Lib.hid hS
  have hm12 : m2 ≤ 16 := by rw [← hm2]; exact hS.es
  have hm6 : m1 ≤ 8 := by rw [← hm1]; exact hS.vs
  have LB := Lib.hid hm1
  have LE := Lib.hid hm2
  by_cases hz : wrN B E = 0
  · have P1 := Lib.hid (fun w bv ev hB hE hT => normYes (w := w) bv ev B E hB hE MM.out hT hz)
    have hcn : cntN B E ≤ 4096 := cnt_of_wr hz
    have HZ := Lib.hid hz
    rw [hm1, hm2] at P1
    obtain ⟨nC, hnC⟩ : ∃ k, cntN B E = k := ⟨_, rfl⟩
    rw [hnC] at P1 hcn
    have NC := Lib.hid hnC
    obtain ⟨L, hL⟩ : ∃ k, celS B E = k := ⟨_, rfl⟩
    rw [hL] at P1
    obtain ⟨F, hF⟩ : ∃ k, fstS B E = k := ⟨_, rfl⟩
    rw [hF] at P1
    have NF := Lib.hid hF
    clear hz hm1 hm2 hb1 he1 b1 hS MK HB HD HY hnC hL hF
    go_wp2_with (fail)
    generalize hws : World.alloc w1 _ = ws
    have bs1 : Below w1.heap.size w1 ws := by rw [← hws]; exact (Below.refl _ _).alloc (Nat.le_refl _) _
    have hks : ws.heap[w1.heap.size]? = some (.cells #[.slice S1 m1 c1, .slice S2 m2 c2] 29 (0, 0)) := by rw [← hws]; exact heap_alloc_new w1 _
    have BS : Hid (Below w.heap.size w ws) := Lib.hid (B1.out.trans (bs1.mono B1.out.size))
    have HBs := Lib.hid (HB1.out.below bs1 (Nat.le_refl _))
    have HEs := Lib.hid (HE1.out.below bs1 (Nat.le_refl _))
    have KS := Lib.hid hks
    clear hws bs1 hks B1 HB1 HE1 BA
    generalize w1.heap.size = ps at *
    refine (P1.out ws _ _ HBs.out HEs.out (HT.out.below BS.out (Nat.le_refl _))).mono ?_
    rintro e w2 ⟨⟨A1, k1, A2, k2, A3, k3, rfl, hN⟩, b2⟩
    have B2 := Lib.hid b2
    have HN2 := Lib.hid hN
    clear b2 hN
    go_upto_region 3 with (fail)
    generalize hwn : World.alloc w2 _ = wn
    have bn : Below w2.heap.size w2 wn := by rw [← hwn]; exact (Below.refl _ _).alloc (Nat.le_refl _) _
    have hkn : wn.heap[w2.heap.size]? = some (.cells #[.slice A1 nC k1, .slice A2 m1 k2, .slice A3 m2 k3] 35 (0, 0)) := by rw [← hwn]; exact heap_alloc_new w2 _
    have KN := Lib.hid hkn
    have HN3 := Lib.hid (HN2.out.below bn (Nat.le_refl _))
    have BN : Hid (Below ws.heap.size ws wn) := Lib.hid (B2.out.trans (bn.mono B2.out.size))
    clear hwn hkn bn HN2 B2
    generalize w2.heap.size = pn at *
    have BW : Hid (Below w.heap.size w wn) := Lib.hid (BS.out.trans (BN.out.mono BS.out.size))
    have HBn := Lib.hid (HBs.out.below BN.out (Nat.le_refl _))
    have HEn := Lib.hid (HEs.out.below BN.out (Nat.le_refl _))
    clear P1 HBs HEs
    by_cases h0 : m2 = 0
    · subst h0
      go_wp2_with (first
        | (have _q := B4; go_at_call 9; refine (WK.out w4 (HT.out.below B4.out (Nat.le_refl _))).mono ?_; rintro e w5 ⟨rfl, b5⟩; have B5 : Hid (Below w.heap.size w w5) := Lib.hid (B4.out.trans (b5.mono B4.out.size)); clear b5)
        | (go_at_call 9; refine (WK.out wn (HT.out.below BW.out (Nat.le_refl _))).mono ?_; rintro e w4 ⟨rfl, b4⟩; have BN4 := BN.out.trans (b4.mono BN.out.size); obtain ⟨x0, x1, xl⟩ := shape_block KS.out BN4 (Nat.le_refl _); clear BN4; have B4 : Hid (Below w.heap.size w w4) := Lib.hid (BW.out.trans (b4.mono BW.out.size)); clear b4))
      go_ret
      exact ⟨rfl, B5.out⟩
    · have q0 : decide (m2 = 0) = false := decide_eq_false h0
      have q1 : ((m2 : Int) == 0) = false := by rw [beq_eq_false_iff_ne]; omega
      have h0' : 0 < m2 := by omega
      obtain ⟨r0, r1⟩ := YY.out
      obtain ⟨i, hi⟩ : ∃ i : Nat, y % (m2 : Int) = (i : Int) := ⟨(y % (m2 : Int)).toNat, by rw [Int.toNat_of_nonneg (Int.emod_nonneg _ (by omega))]⟩
      have him : i < m2 := by have := Int.emod_lt_of_pos y (show (0 : Int) < m2 by omega); omega
      have hi' : y.tmod (m2 : Int) = (i : Int) := by rw [Int.tmod_eq_emod_of_nonneg r0]; exact hi
      have cx1 : IntKind.i64.wrap y = y := IntWalk.i64_in _ (by omega)
      go_upto_region 6 with (go_at_call 9; refine (WK.out wn (HT.out.below BW.out (Nat.le_refl _))).mono ?_; rintro e w4 ⟨rfl, b4⟩; have BS4 := Lib.hid (BN.out.trans (b4.mono BN.out.size)); have BN4 := Lib.hid b4; obtain ⟨x0, x1, xl⟩ := shape_block KS.out BS4.out (Nat.le_refl _); have B4 : Hid (Below w.heap.size w w4) := Lib.hid (BW.out.trans (b4.mono BW.out.size)); clear b4)
      clear q0 q1 cx1 hi hi' r0 r1 YY
      go_upto_region 7 with (fail)
      clear x0 x1 xl
      have HB4 := Lib.hid (HBn.out.below BN4.out (Nat.le_refl _))
      have HE4 := Lib.hid (HEn.out.below BN4.out (Nat.le_refl _))
      have HN4 := Lib.hid (HN3.out.below BN4.out (Nat.le_refl _))
      clear HBn HEn HN3 BW BN
      generalize hw5 : World.alloc w4 _ = w5
      have b5 : Below w4.heap.size w4 w5 := by rw [← hw5]; exact (Below.refl _ _).alloc (Nat.le_refl _) _
      have hk5 : w5.heap[w4.heap.size]? = some (.cells #[.slice S1 m1 c1, .slice S2 m2 c2] 29 (0, 0)) := by rw [← hw5]; exact heap_alloc_new w4 _
      have KT := Lib.hid hk5
      have B5 := Lib.hid b5
      have ZP : Hid (w4.heap.size < w5.heap.size) := Lib.hid (Array.getElem?_eq_some_iff.1 hk5).1
      clear hw5 hk5 b5
      have XS := Lib.hid (fun wq (b : Below w4.heap.size w4 wq) => shape_block KS.out (BS4.out.trans (b.mono BS4.out.size)) (Nat.le_refl _))
      have XN := Lib.hid (fun wq (b : Below w4.heap.size w4 wq) => norm_block KN.out (BN4.out.trans (b.mono BN4.out.size)) (Nat.le_refl _))
      have HEQ := Lib.hid (fun wq (b : Below w4.heap.size w4 wq) => HE4.out.below b (Nat.le_refl _))
      have HBQ := Lib.hid (fun wq (b : Below w4.heap.size w4 wq) => HB4.out.below b (Nat.le_refl _))
      have HNQ := Lib.hid (fun wq (b : Below w4.heap.size w4 wq) => HN4.out.below b (Nat.le_refl _))
      have HTQ := Lib.hid (fun wq (b : Below w4.heap.size w4 wq) => (HT.out.below B4.out (Nat.le_refl _)).below b (Nat.le_refl _))
      clear KS KN BS4 BN4 HE4 HB4 HN4
      obtain ⟨pt, hpt⟩ : ∃ z, w4.heap.size = z := ⟨_, rfl⟩
      rw [hpt] at KT ZP B5 XS XN HEQ HBQ HNQ HTQ ⊢
      have PT := Lib.hid hpt
      clear hpt
      obtain ⟨x0, x1, xl⟩ := XS.out w5 B5.out
      go_upto_region 8 with (go_at_call 15; refine (cloneE _ E m2 w5 (HEQ.out w5 B5.out) LE.out h0' (by omega)).mono ?_; rintro e w6 ⟨A5, c5, rfl, o6, b6⟩; have O6 := Lib.hid o6; have B6 := Lib.hid b6; obtain ⟨t0, t1, tl⟩ := shape_block KT.out b6 (Nat.le_refl _); have hk6 := (b6.block _ ZP.out).trans KT.out; have tf : w6.frozen? ⟨pt, 1, none⟩ = false := (by simp only [World.frozen?, hk6]; simp); have K6 := Lib.hid hk6; clear o6 b6 hk6)
      obtain ⟨G, rfl, hg1, hg2⟩ := O6.out.block LE.out h0'
      generalize hw7 : World.setCell w6 _ _ = w7
      have b7 : Below pt w6 w7 := by rw [← hw7]; exact (Below.refl pt w6).setCell (p := ⟨pt, 1, none⟩) (Nat.le_refl _) _
      have hk7 : w7.heap[pt]? = some (.cells #[.slice S1 m1 c1, .slice (some ⟨G, 0, none⟩) m2 c5] 29 (0, 0)) := by
        rw [← hw7]
        have := heap_setCell_same w6 pt 1 _ _ (.slice (some ⟨G, 0, none⟩) m2 c5) K6.out
        simpa using this
      have o7 : OwnE w7 w5.heap.size (.slice (some ⟨G, 0, none⟩) m2 c5) E := by rw [← hw7]; exact ownsRow_setCell_other O6.out (fun e => by have := ZP.out; simp [Value.ownBlock] at e; omega) _
      have K7 := Lib.hid hk7
      have O7 := Lib.hid o7
      have B7 : Hid (Below pt w4 w7) := Lib.hid ((B5.out.trans (B6.out.mono (Nat.le_of_lt ZP.out))).trans b7)
      have hg7 : G < w7.heap.size := Nat.lt_of_lt_of_le hg2 b7.size
      have GG := Lib.hid (And.intro hg1 hg7)
      have hgp : pt < G := Nat.lt_of_lt_of_le ZP.out hg1
      clear hw7 b7 hk7 o7 O6 B6 K6 t0 t1 tl tf x0 x1 xl hg1 hg2 hg7
      obtain ⟨t0, t1, tl⟩ := shape_block K7.out (Below.refl w7.heap.size w7) (Nat.le_refl _)
      obtain ⟨x0, x1, xl⟩ := XS.out w7 B7.out
      have hiE : i < E.length := by rw [LE.out]; exact him
      obtain ⟨be, oe, rfl, hbe, y0, y1, y2, y3⟩ := (HEQ.out w7 B7.out).one hiE
      have hok := MM.out.ok E[i] (List.getElem_mem hiE)
      have hle := bend_le MM.out.bs (List.getElem_mem hiE)
      have GE : E.getD i noE = E[i] := by rw [List.getD_eq_getElem?_getD, List.getElem?_eq_getElem hiE]; rfl
      have rb := fun w => refBackE E[i] w (by omega) hok.2.2.2.2.1 hok.2.2.2.2.2.1
      have sw : E.set i (backE E[i]) = swE E i := by unfold swE; rw [GE]
      obtain ⟨x, hx⟩ : ∃ x, backE E[i] = x := ⟨_, rfl⟩
      rw [hx] at sw rb
      obtain ⟨fN, hfN⟩ : ∃ k : Nat, E[i].1 = (k : Int) := ⟨E[i].1.toNat, by rw [Int.toNat_of_nonneg hok.1]⟩
      obtain ⟨tN, htN⟩ : ∃ k : Nat, E[i].2.1 = (k : Int) := ⟨E[i].2.1.toNat, by rw [Int.toNat_of_nonneg hok.2.2.1]⟩
      have hfl : fN < m1 := by have h1 := hok.2.1; have h2 := LB.out; omega
      have htl : tN < m1 := by have h1 := hok.2.2.2.1; have h2 := LB.out; omega
      rw [hfN] at y0 rb
      rw [htN] at y1 rb
      have wb := way_back MM.out hiE (B := B)
      rw [GE, hfN, htN] at wb
      simp only [Int.toNat_natCast] at wb
      have WB := Lib.hid wb
      have hnb : nbE E i ≤ 4096 := by unfold nbE; rw [GE]; exact hle
      have RB := Lib.hid rb
      have SW := Lib.hid sw
      have HI := Lib.hid hiE
      have FT := Lib.hid (And.intro hfN htN)
      clear rb sw hx hok hle GE hfN htN wb
      have hnp : ps ≠ G ∧ be ≠ G ∧ pt ≠ G := by
        obtain ⟨-, -, hp⟩ := XS.out w4 (Below.refl _ _)
        obtain ⟨b', o', e', hb', -⟩ := (HEQ.out w4 (Below.refl _ _)).one hiE
        injection e' with e'
        injection e' with e1 e2
        have hp2 := PT.out
        subst e1
        exact ⟨by omega, by omega, by omega⟩
      generalize E[i].2.2.1 = ed at *
      generalize bs E[i].2.2.2 = es at *
      go_region_held3 (fun w' => w'.cell? ⟨pt, 1, none⟩ = some (.slice (some ⟨G, 0, none⟩) m2 c5) ∧ w'.cell? ⟨ps, 1, none⟩ = some (.slice (some ⟨be, oe, none⟩) m2 c2) ∧ w'.cell? ⟨be, oe + i * 4, none⟩ = some (.int .i64 (fN : Int)) ∧ w'.cell? ⟨be, oe + i * 4 + 1, none⟩ = some (.int .i64 (tN : Int)) ∧ w'.cell? ⟨be, oe + i * 4 + 2, none⟩ = some (.int .i64 ed) ∧ w'.cell? ⟨be, oe + i * 4 + 3, none⟩ = some (.string es))
        (first
          | exact ⟨z0, z1, z2, z3, z4, z5⟩
          | exact ⟨(set4_cell hnp.2.2 _ _ _ _ _ _).trans z0, (set4_cell hnp.1 _ _ _ _ _ _).trans z1, (set4_cell hnp.2.1 _ _ _ _ _ _).trans z2, (set4_cell hnp.2.1 _ _ _ _ _ _).trans z3, (set4_cell hnp.2.1 _ _ _ _ _ _).trans z4, (set4_cell hnp.2.1 _ _ _ _ _ _).trans z5⟩
          | go_keep)
        ((first
          | (go_at_call 16; refine (RB.out _).mono ?_; rintro e w8 ⟨rfl, b8⟩; have b8' : Below w7.heap.size w7 w8 := (Below.refl w7.heap.size w7).drew.trans b8; have B8 := Lib.hid b8'; have z0 := (b8'.cell (p := ⟨pt, 1, none⟩) tl).trans t1; have z1 := (b8'.cell (p := ⟨ps, 1, none⟩) xl).trans x1; have z2 := (b8'.cell (p := ⟨be, oe + i * 4, none⟩) hbe).trans y0; have z3 := (b8'.cell (p := ⟨be, oe + i * 4 + 1, none⟩) hbe).trans y1; have z4 := (b8'.cell (p := ⟨be, oe + i * 4 + 2, none⟩) hbe).trans y2; have z5 := (b8'.cell (p := ⟨be, oe + i * 4 + 3, none⟩) hbe).trans y3; have o8 := O7.out.below b8' (Nat.le_refl _); have O8 := Lib.hid o8; have fz0 := o8.fr LE.out (i * 4); have fz1 := o8.fr LE.out (i * 4 + 1); have fz2 := o8.fr LE.out (i * 4 + 2); have fz3 := o8.fr LE.out (i * 4 + 3); obtain ⟨v0, c0⟩ := o8.cellEx LE.out (show i * 4 < m2 * 4 by omega); obtain ⟨v1, c1'⟩ := o8.cellEx LE.out (show i * 4 + 1 < m2 * 4 by omega); obtain ⟨v2, c2'⟩ := o8.cellEx LE.out (show i * 4 + 2 < m2 * 4 by omega); obtain ⟨v3, c3'⟩ := o8.cellEx LE.out (show i * 4 + 3 < m2 * 4 by omega); clear o8 b8 b8')))
      all_goals
        clear x0 x1 xl t0 t1 tl y0 y1 y2 y3 hbe
        go_upto_region 9 with (fail)
        obtain ⟨w9, hw9⟩ : ∃ W, W = ((((w8.setCell ⟨G, i * 4, none⟩ (.int .i64 x.1)).setCell ⟨G, i * 4 + 1, none⟩ (.int .i64 x.2.1)).setCell ⟨G, i * 4 + 2, none⟩ (.int .i64 x.2.2.1)).setCell ⟨G, i * 4 + 3, none⟩ (.string (bs x.2.2.2))) := ⟨_, rfl⟩
        have hk9 : w9.heap[pt]? = some (.cells #[.slice S1 m1 c1, .slice (some ⟨G, 0, none⟩) m2 c5] 29 (0, 0)) := by
          rw [hw9, set4_heap hnp.2.2]
          exact (B8.out.block pt (Array.getElem?_eq_some_iff.1 K7.out).1).trans K7.out
        have o9 : OwnE w9 w5.heap.size (.slice (some ⟨G, 0, none⟩) m2 c5) (swE E i) := by
          rw [hw9, ← SW.out]
          exact O8.out.put LE.out i x
        have b9 : Below pt w4 w9 := by
          have hG : pt ≤ G := Nat.le_of_lt hgp
          rw [hw9]
          exact (((((B7.out.trans (B8.out.mono (Nat.le_of_lt (Array.getElem?_eq_some_iff.1 K7.out).1))).setCell (p := ⟨G, i * 4, none⟩) hG _).setCell (p := ⟨G, i * 4 + 1, none⟩) hG _).setCell (p := ⟨G, i * 4 + 2, none⟩) hG _).setCell (p := ⟨G, i * 4 + 3, none⟩) hG _)
        rw [← hw9]
        have K9 := Lib.hid hk9
        have O9 := Lib.hid o9
        have B9 := Lib.hid b9
        clear hk9 o9 b9 hw9 z0 z1 z2 z3 z4 z5 fz0 fz1 fz2 fz3 c0 c1' c2' c3' O8 O7 K7 B8 B7
        have p3 := fun w bv ev hB hE hT => normYes (w := w) bv ev B (swE E i) hB hE (may_back MM.out HI.out) hT ((wr_back MM.out HI.out).trans HZ.out)
        rw [cntN_back MM.out HI.out, fst_back MM.out HI.out, NC.out, NF.out, swE_len, LB.out, LE.out] at p3
        have P3 := Lib.hid p3
        clear p3
        obtain ⟨t0, t1, tl⟩ := shape_block K9.out (Below.refl w9.heap.size w9) (Nat.le_refl _)
        go_upto_region 10 with (go_at_call 7; refine (P3.out w9 _ _ (HBQ.out w9 B9.out) O9.out.eds (HTQ.out w9 B9.out)).mono ?_; rintro e w10 ⟨⟨C1, l1, C2, l2, C3, l3, rfl, hM⟩, b10⟩; have B10 := Lib.hid b10; have HM10 := Lib.hid hM; clear b10 hM)
        clear t0 t1 tl P3
        generalize hwb : World.alloc w10 _ = w11
        have bb : Below w10.heap.size w10 w11 := by rw [← hwb]; exact (Below.refl _ _).alloc (Nat.le_refl _) _
        have hkb : w11.heap[w10.heap.size]? = some (.cells #[.slice C1 nC l1, .slice C2 m1 l2, .slice C3 m2 l3] 35 (0, 0)) := by rw [← hwb]; exact heap_alloc_new w10 _
        have KM := Lib.hid hkb
        have HM := Lib.hid (HM10.out.below bb (Nat.le_refl _))
        have B911 : Below w9.heap.size w9 w11 := B10.out.trans (bb.mono B10.out.size)
        have B11 : Hid (Below pt w4 w11) := Lib.hid (B9.out.trans (B911.mono (Nat.le_of_lt (Array.getElem?_eq_some_iff.1 K9.out).1)))
        clear hwb hkb bb B911 HM10 B10 K9 O9 B9
        generalize w10.heap.size = pm at *
        obtain ⟨bm, om, rfl, hbm, hcm⟩ := HM.out.way h0'
        obtain ⟨T1, q1, u1, d1, s1, -⟩ := hcm i him
        obtain ⟨bn, on, rfl, hbn, hcn'⟩ := (HNQ.out w11 B11.out).way h0'
        obtain ⟨T2, q2, u2, d2, s2, -⟩ := hcn' i him
        have e1 : q1 = nbE E i + 2 := by rw [← s1.1, wayS_len B (swE E i) (by rw [swE_len]; exact HI.out), WB.out.1]
        have e2 : q2 = nbE E i + 2 := by rw [← s2.1, wayS_len B E HI.out]
        obtain ⟨ql, hql⟩ : ∃ z, nbE E i + 1 = z := ⟨_, rfl⟩
        obtain ⟨qq, hqq⟩ : ∃ z, nbE E i + 2 = z := ⟨_, rfl⟩
        rw [hqq] at e1 e2
        have hwl := WB.out.2
        rw [hql] at hwl
        have WL := Lib.hid hwl
        have hlq : ql < qq := by omega
        have hqs : qq ≤ 5000 := by omega
        have hsb : wrap64 ((qq : Int) - 1) = (ql : Int) := by unfold wrap64; omega
        clear hwl hql hqq
        rw [e1] at d1 s1
        rw [e2] at d2 s2
        clear e1 e2 hcm hcn'
        have ZM := Lib.hid s1
        have ZN := Lib.hid s2
        clear s1 s2
        obtain ⟨a0, a1, a2, al⟩ := norm_block KM.out (Below.refl w11.heap.size w11) (Nat.le_refl _)
        obtain ⟨n0, n1, n2', nl⟩ := XN.out w11 B11.out
        have FM := Lib.hid HM.out.fst
        have FN := Lib.hid (HNQ.out w11 B11.out).fst
        go_region_held3 (fun w' => w'.cell? ⟨pm, 0, none⟩ = some (.slice C1 nC l1) ∧ w'.cell? ⟨pm, 1, none⟩ = some (.slice C2 m1 l2) ∧ w'.cell? ⟨pm, 2, none⟩ = some (.slice (some ⟨bm, om, none⟩) m2 l3) ∧ w'.cell? ⟨pn, 0, none⟩ = some (.slice A1 nC k1) ∧ w'.cell? ⟨pn, 1, none⟩ = some (.slice A2 m1 k2) ∧ w'.cell? ⟨pn, 2, none⟩ = some (.slice (some ⟨bn, on, none⟩) m2 k3) ∧ w'.cell? ⟨bm, om + i, none⟩ = some (.slice T1 qq u1) ∧ w'.cell? ⟨bn, on + i, none⟩ = some (.slice T2 qq u2))
          (first
            | exact ⟨g0, g1, g2, g3, g4, g5, g6, g7⟩
            | go_keep)
          ((first
            | (go_at_call 12; refine (equalZ _ _ F F m1 m1 _ (FM.out.below (Below.refl w11.heap.size w11).drew (Nat.le_refl _)) (FN.out.below (Below.refl w11.heap.size w11).drew (Nat.le_refl _)) (by omega) (by omega)).mono ?_; rintro e w12 ⟨rfl, b12⟩; rw [show (F == F) = true by simp]; have b12' : Below w11.heap.size w11 w12 := (Below.refl w11.heap.size w11).drew.trans b12; have B12 := Lib.hid b12'; have g0 := (b12'.cell (p := ⟨pm, 0, none⟩) al).trans a0; have g1 := (b12'.cell (p := ⟨pm, 1, none⟩) al).trans a1; have g2 := (b12'.cell (p := ⟨pm, 2, none⟩) al).trans a2; have g3 := (b12'.cell (p := ⟨pn, 0, none⟩) nl).trans n0; have g4 := (b12'.cell (p := ⟨pn, 1, none⟩) nl).trans n1; have g5 := (b12'.cell (p := ⟨pn, 2, none⟩) nl).trans n2'; have g6 := (b12'.cell (p := ⟨bm, om + i, none⟩) hbm).trans d1; have g7 := (b12'.cell (p := ⟨bn, on + i, none⟩) hbn).trans d2; clear b12 b12')))
        all_goals
          clear a0 a1 a2 al n0 n1 n2' nl d1 d2 FM FN
          have b4c : Below pt w4 w12 := B11.out.trans (B12.out.mono (Nat.le_trans (Nat.le_of_eq PT.out.symm) B11.out.size))
          have hbm' := Nat.lt_of_lt_of_le hbm B12.out.size
          have hbn' := Nat.lt_of_lt_of_le hbn B12.out.size
          go_upto_region 12 with (fail)
          obtain ⟨x0, x1, xl⟩ := XS.out w12 b4c
          obtain ⟨be', oe', eS, hbe, y0, y1, -, -⟩ := (HEQ.out w12 b4c).one HI.out
          injection eS with eS
          injection eS with eS1 eS2
          subst eS1 eS2
          obtain ⟨bb, ob, rfl, hbb, k0'⟩ := (HBQ.out w12 b4c).one (k := fN) (by rw [LB.out]; exact hfl)
          obtain ⟨bb', ob', eS, -, k1'⟩ := (HBQ.out w12 b4c).one (k := tN) (by rw [LB.out]; exact htl)
          injection eS with eS
          injection eS with eS1 eS2
          subst eS1 eS2
          have hF := FT.out.1
          have hT2 := FT.out.2
          rw [hF] at y0
          rw [hT2] at y1
          clear hF hT2
          have BWZ : Hid (Below w.heap.size w w12) := Lib.hid (B4.out.trans (b4c.mono (by have := PT.out; have := B4.out.size; omega)))
          clear b4c
          obtain ⟨p, hp⟩ : ∃ z, B.getD fN false = z := ⟨_, rfl⟩
          obtain ⟨q, hq⟩ : ∃ z, B.getD tN false = z := ⟨_, rfl⟩
          rw [hp] at k0'
          rw [hq] at k1'
          have PQ := Lib.hid (And.intro hp hq)
          clear hp hq
          cases p with
          | true =>
            go_quiet (fail)
            go_wp2_with (fail)
            go_ret
            exact ⟨rfl, BWZ.out.trans ((drewN_bel11 _ _).mono BWZ.out.size)⟩
          | false =>
            cases q with
            | true =>
              go_quiet (fail)
              go_wp2_with (fail)
              go_ret
              exact ⟨rfl, BWZ.out.trans ((drewN_bel11 _ _).mono BWZ.out.size)⟩
            | false =>
              obtain ⟨v1, v2⟩ := WL.out PQ.out.1 PQ.out.2
              obtain ⟨-, _, _, eM, hcM⟩ := ZM.out.below B12.out (Nat.le_refl _)
              obtain ⟨bq, oq, eT, hbq, hcq⟩ : ∃ b o, T1 = some ⟨b, o, none⟩ ∧ b < w12.heap.size ∧ ∀ k, k < qq → w12.cell? ⟨b, o + k, none⟩ = some (.int .i64 ((wayS B (swE E i) i).getD k 0)) := by
                injection eM with eM1 eM2 eM3
                subst eM1
                exact hcM (by omega)
              obtain ⟨-, _, _, eN, hcN⟩ := ZN.out.below B12.out (Nat.le_refl _)
              obtain ⟨br, or_, eR, hbr, hcr⟩ : ∃ b o, T2 = some ⟨b, o, none⟩ ∧ b < w12.heap.size ∧ ∀ k, k < qq → w12.cell? ⟨b, o + k, none⟩ = some (.int .i64 ((wayS B E i).getD k 0)) := by
                injection eN with eN1 eN2 eN3
                subst eN1
                exact hcN (by omega)
              clear eM hcM eN hcN
              subst eT eR
              have h1 := hcq 0 (by omega)
              have h2 := hcq ql hlq
              have h3 := hcr 0 (by omega)
              have h4 := hcr ql hlq
              rw [Nat.add_zero, v1] at h1
              rw [v2] at h2
              rw [Nat.add_zero] at h3
              generalize (wayS B E i).getD ql 0 = X1 at *
              generalize (wayS B E i).getD 0 0 = X2 at *
              have hq0 : 0 < qq := by omega
              clear v1 v2 hcq hcr
              go_quiet (fail)
              go_wp2_with (fail)
              go_quiet (fail)
              go_wp2_with (fail)
              generalize hwz : World.drewN _ _ = wz
              have b1z : Below w12.heap.size w12 wz := by
                rw [← hwz]
                exact ⟨rfl, rfl, rfl, Nat.le_refl _, fun _ _ => rfl⟩
              have j1 := (b1z.cell (p := ⟨bq, oq, none⟩) hbq).trans h1
              have j2 := (b1z.cell (p := ⟨bq, oq + ql, none⟩) hbq).trans h2
              have j3 := (b1z.cell (p := ⟨br, or_, none⟩) hbr).trans h3
              have j4 := (b1z.cell (p := ⟨br, or_ + ql, none⟩) hbr).trans h4
              have BWY : Hid (Below w.heap.size w wz) := Lib.hid (BWZ.out.trans (b1z.mono BWZ.out.size))
              have k1z := Nat.lt_of_lt_of_le hbq b1z.size
              have k2z := Nat.lt_of_lt_of_le hbr b1z.size
              have hsb2 : IntKind.i64.wrap ((qq : Int) - 1) = (ql : Int) := (IntWalk.i64_in _ (by omega)).trans (by have := hsb; unfold wrap64 at this; omega)
              have hlq2 : (ql : Int) < (qq : Int) := by omega
              clear hwz b1z h1 h2 h3 h4 hbq hbr
              go_region_held3 (fun w' => w'.cell? ⟨bq, oq, none⟩ = some (.int .i64 X1) ∧ w'.cell? ⟨bq, oq + ql, none⟩ = some (.int .i64 X2) ∧ w'.cell? ⟨br, or_, none⟩ = some (.int .i64 X2) ∧ w'.cell? ⟨br, or_ + ql, none⟩ = some (.int .i64 X1)) (go_keep) (fail)
              all_goals
                go_wp2_with (fail)
                go_ret
                exact ⟨by simp, BWY.out.trans ((Below.refl _ _).drew.mono BWY.out.size)⟩
  · have P1 := Lib.hid (fun w bv ev hB hE hT => normNo (w := w) bv ev B E hB hE MM.out hT hz)
    obtain ⟨z, hzz⟩ : ∃ z, wrN B E = z := ⟨_, rfl⟩
    rw [hzz] at P1 hz
    have q0 : (z == 0) = false := by rw [beq_eq_false_iff_ne]; exact hz
    have q1 : (z != 0) = true := by rw [bne, q0]; rfl
    clear hz hzz hm1 hm2 hb1 he1 b1 hS MK HB HD HY
    go_wp2_with (fail)
    generalize hws : World.alloc w1 _ = ws
    have bs1 : Below w1.heap.size w1 ws := by rw [← hws]; exact (Below.refl _ _).alloc (Nat.le_refl _) _
    have BS : Hid (Below w.heap.size w ws) := Lib.hid (B1.out.trans (bs1.mono B1.out.size))
    have HBs := Lib.hid (HB1.out.below bs1 (Nat.le_refl _))
    have HEs := Lib.hid (HE1.out.below bs1 (Nat.le_refl _))
    clear hws bs1 B1 HB1 HE1 BA
    generalize w1.heap.size = ps at *
    refine (P1.out ws _ _ HBs.out HEs.out (HT.out.below BS.out (Nat.le_refl _))).mono ?_
    rintro e w2 ⟨rfl, b2⟩
    have B2 := Lib.hid b2
    clear b2
    go_upto_region 3 with (fail)
    generalize hwn : World.alloc w2 _ = wn
    have bn : Below w2.heap.size w2 wn := by rw [← hwn]; exact (Below.refl _ _).alloc (Nat.le_refl _) _
    have BN : Hid (Below w.heap.size w wn) := Lib.hid (BS.out.trans ((B2.out.trans (bn.mono B2.out.size)).mono BS.out.size))
    clear hwn bn B2
    go_wp2_with (first
      | (have _q := B4; go_at_call 9; refine (WK.out w4 (HT.out.below B4.out (Nat.le_refl _))).mono ?_; rintro e w5 ⟨rfl, b5⟩; have B5 : Hid (Below w.heap.size w w5) := Lib.hid (B4.out.trans (b5.mono B4.out.size)); clear b5)
      | (go_at_call 9; refine (WK.out wn (HT.out.below BN.out (Nat.le_refl _))).mono ?_; rintro e w4 ⟨rfl, b4⟩; have B4 : Hid (Below w.heap.size w w4) := Lib.hid (BN.out.trans (b4.mono BN.out.size)); clear b4))
    go_ret
    exact ⟨rfl, B5.out⟩
end Go.Proofs.YtilggacflpchhaaDoor

namespace Go.Proofs.YtilggacflpchhaaDoor
open Go.RowKit Go.ChangeShapes Go.WideShapes Go.Deep Go.Proofs.YtilggacflpchhaaDoor.LexM

theorem bor_of_laidB {W : World} (h : laidMetH Tryd.prog Rows.normBackRow.laid W) : BorT W := by
  rw [MakeChecks.laidMetH_plain _ _ _ (by kernel_rfl)] at h
  exact borT_of (laidMet.tail h)
set_option maxRecDepth 100000 in
theorem back11_arg {H : Type} {enc : TypeId × Value → H} {w : World} {v : Value} {d : DataW H} {p : List MemPlace} {spare : Nat → Bool} {held : Bool} {b0 : Nat} {y : Int} (hT : BorT w)
    (hv : Value.okWide Tryd.prog w .any b0 26 v) (h : DataW.Trod enc Tryd.prog w 0 spare held 26 v d p) (hy : (Lit.int .u8 y).wf = true) :
    Calls Tryd.prog 5 #[v, .int .u8 y] w fun e w' => e = .returned (.bool true) ∧ Below w.heap.size w w' := by
  obtain ⟨bv, B, A, n, cap, D, A2, n2, cap2, D2, rfl, hB, hD, hY⟩ := raw_open8 hv h
  exact back11 bv B A n cap D A2 n2 cap2 D2 y w hT hB hD hY (wf_b8 hy)
end Go.Proofs.YtilggacflpchhaaDoor
