/-
  NormTells: the walk: of every shape the call answers true and turns nothing that was there. Conditions: the borders read as the program lays them.
-/
import Derived.Test.YtecifgaekefkpaaDoorNcV
import Derived.Test.YtecifgaekefkpaaDoorMkEight
import Derived.Test.YtecifgaekefkpaaDoorNmC
import Derived.Test.YtecifgaekefkpaaDoorNzRa
import Derived.Deep.RegionHeld3
namespace Go.Proofs.YtecifgaekefkpaaDoor
open Go.RowKit Go.Proofs.YtecifgaekefkpaaDoor.LexM Go.Proofs.YtecifgaekefkpaaDoor.ParM Go.Proofs.YtecifgaekefkpaaDoor.GrM Go.Proofs.YtecifgaekefkpaaDoor.NmM

def TlB (n : Nat) (wb wr : World) (iv : Value) : Prop := ∃ k : Nat, iv = .int .i64 k ∧ k ≤ n ∧ Below wb.heap.size wb wr
theorem shape_block {w w' : World} {p C : Nat} {a b : Value} {T : TypeId} (h : w.heap[p]? = some (.cells #[a, b] T (0, 0))) (o : Below C w w') (hC : w.heap.size ≤ C) :
    w'.cell? ⟨p, 0, none⟩ = some a ∧ w'.cell? ⟨p, 1, none⟩ = some b ∧ p < w'.heap.size := by
  have hl := (Array.getElem?_eq_some_iff.1 h).1
  have h' := (o.block p (Nat.lt_of_lt_of_le hl hC)).trans h
  exact ⟨by simp [World.cell?, h'], by simp [World.cell?, h'], (Array.getElem?_eq_some_iff.1 h').1⟩
theorem norm_block {w w' : World} {p C : Nat} {a b c : Value} {T : TypeId} (h : w.heap[p]? = some (.cells #[a, b, c] T (0, 0))) (o : Below C w w') (hC : w.heap.size ≤ C) :
    w'.cell? ⟨p, 0, none⟩ = some a ∧ w'.cell? ⟨p, 1, none⟩ = some b ∧ w'.cell? ⟨p, 2, none⟩ = some c ∧ p < w'.heap.size := by
  have hl := (Array.getElem?_eq_some_iff.1 h).1
  have h' := (o.block p (Nat.lt_of_lt_of_le hl hC)).trans h
  exact ⟨by simp [World.cell?, h'], by simp [World.cell?, h'], by simp [World.cell?, h'], (Array.getElem?_eq_some_iff.1 h').1⟩
theorem ref_block {w w' : World} {p C : Nat} {a b c d : Value} {T : TypeId} (h : w.heap[p]? = some (.cells #[a, b, c, d] T (0, 0))) (o : Below C w w') (hC : w.heap.size ≤ C) :
    w'.cell? ⟨p, 0, none⟩ = some a ∧ w'.cell? ⟨p, 1, none⟩ = some b ∧ w'.cell? ⟨p, 2, none⟩ = some c ∧ w'.cell? ⟨p, 3, none⟩ = some d ∧ p < w'.heap.size := by
  have hl := (Array.getElem?_eq_some_iff.1 h).1
  have h' := (o.block p (Nat.lt_of_lt_of_le hl hC)).trans h
  exact ⟨by simp [World.cell?, h'], by simp [World.cell?, h'], by simp [World.cell?, h'], by simp [World.cell?, h'], (Array.getElem?_eq_some_iff.1 h').1⟩

set_option maxHeartbeats 16000000 in
set_option maxRecDepth 100000 in
theorem tells11 (bv : Value) (ZB : List Bool) (A : Option Addr) (n cap : Nat) (D : Nat → Int × Int × Int) (A2 : Option Addr) (n2 cap2 : Nat) (D2 : Nat → Int) (w : World) (hT : BorT w) (hB : BlsAt w bv ZB) (hD : Tri8 w A n D) (hY : Byt8 w A2 n2 D2) :
    Calls Tryd.prog 3 #[.agg #[bv, .slice A n cap, .slice A2 n2 cap2]] w fun e w' => e = .returned (.bool true) ∧ Below w.heap.size w w' := by
  have HT := Lib.hid hT
  have HB := Lib.hid hB
  have HD := Lib.hid hD
  have HY := Lib.hid hY
  have MK := Lib.hid (fun W hb hd hy => refMake8 bv ZB A n cap D A2 n2 cap2 D2 W hb hd hy)
  have WK := Lib.hid wakes11
  clear hT hB hD hY
  go_enter Tryd.func3, Tryd.ntmps3
  go_wp2_with (fail)
  generalize hwa : World.alloc w _ = wa
  have ba : Below w.heap.size w wa := by rw [← hwa]; exact (Below.refl _ _).alloc (Nat.le_refl _) _
  have BA := Lib.hid ba
  clear hwa ba
  refine (MK.out wa (HB.out.below BA.out (Nat.le_refl _)) (HD.out.below BA.out) (HY.out.below BA.out)).mono ?_
  rintro e w1 ⟨S1, m1, c1, S2, m2, c2, B, E, rfl, hm1, hm2, hb1, he1, hS, b1⟩
  have B1 : Hid (Below w.heap.size w w1) := Lib.hid (BA.out.trans (b1.mono BA.out.size))
  have HB1 := Lib.hid hb1.bls
  have HE1 := Lib.hid he1.eds
  have MM := Lib.hid hS.may
  have hm12 : m2 ≤ 16 := by rw [← hm2]; exact hS.es
  have hm6 : m1 ≤ 8 := by rw [← hm1]; exact hS.vs
  have RW := Lib.hid (fun bv ev w hB hE => refWrong bv ev B E w hB hE MM.out (chk_ok MM.out) (okEs_may MM.out))
  by_cases hz : wrN B E = 0
  · have P1 := Lib.hid (fun w bv ev hB hE hT => normYes (w := w) bv ev B E hB hE MM.out hT hz)
    have P2 := Lib.hid (fun w bv ev hB hE => refYes (w := w) bv ev B E hB hE MM.out hz)
    have hcn : cntN B E ≤ 4096 := cnt_of_wr hz
    rw [hz] at RW
    rw [hm1, hm2] at P1 P2
    generalize cntN B E = nC at *
    generalize celS B E = L at *
    generalize fstS B E = F at *
    generalize wayS B E = Wy at *
    clear hz hm1 hm2 hb1 he1 b1 hS MK HB HD HY
    go_wp2_with (fail)
    generalize hws : World.alloc w1 _ = ws
    have bs1 : Below w1.heap.size w1 ws := by rw [← hws]; exact (Below.refl _ _).alloc (Nat.le_refl _) _
    have hks : ws.heap[w1.heap.size]? = some (.cells #[.slice S1 m1 c1, .slice S2 m2 c2] 29 (0, 0)) := by rw [← hws]; exact heap_alloc_new w1 _
    have BS : Hid (Below w.heap.size w ws) := Lib.hid (B1.out.trans (bs1.mono B1.out.size))
    have HBs := Lib.hid (HB1.out.below bs1 (Nat.le_refl _))
    have HEs := Lib.hid (HE1.out.below bs1 (Nat.le_refl _))
    have KS := Lib.hid hks
    clear hws bs1 hks B1 HB1 HE1 BA
    generalize w1.heap.size = ps at *
    refine (P1.out ws _ _ HBs.out HEs.out (HT.out.below BS.out (Nat.le_refl _))).mono ?_
    rintro e w2 ⟨⟨A1, k1, A2, k2, A3, k3, rfl, hN⟩, b2⟩
    have B2 := Lib.hid b2
    have HN2 := Lib.hid hN
    clear b2 hN
    go_upto_region 3 with (fail)
    generalize hwn : World.alloc w2 _ = wn
    have bn : Below w2.heap.size w2 wn := by rw [← hwn]; exact (Below.refl _ _).alloc (Nat.le_refl _) _
    have hkn : wn.heap[w2.heap.size]? = some (.cells #[.slice A1 nC k1, .slice A2 m1 k2, .slice A3 m2 k3] 35 (0, 0)) := by rw [← hwn]; exact heap_alloc_new w2 _
    have KN := Lib.hid hkn
    have HN3 := Lib.hid (HN2.out.below bn (Nat.le_refl _))
    have BN : Hid (Below ws.heap.size ws wn) := Lib.hid (B2.out.trans (bn.mono B2.out.size))
    clear hwn hkn bn HN2 B2
    generalize w2.heap.size = pn at *
    obtain ⟨x0, x1, xl⟩ := shape_block KS.out BN.out (Nat.le_refl _)
    obtain ⟨y0, y1, y2, yl⟩ := norm_block KN.out (Below.refl wn.heap.size wn) (Nat.le_refl _)
    have BW : Hid (Below w.heap.size w wn) := Lib.hid (BS.out.trans (BN.out.mono BS.out.size))
    have HBn := Lib.hid (HBs.out.below BN.out (Nat.le_refl _))
    have HEn := Lib.hid (HEs.out.below BN.out (Nat.le_refl _))
    clear P1 HBs HEs
    go_upto_region 4 with (go_at_call 8; refine (RW.out _ _ wn HBn.out HEn.out).mono ?_; rintro e w3 ⟨rfl, b3⟩; have B3 := Lib.hid b3; clear b3)
    clear x0 x1 xl y0 y1 y2 yl RW
    have BW3 : Hid (Below w.heap.size w w3) := Lib.hid (BW.out.trans (B3.out.mono BW.out.size))
    go_upto_region 8 with (go_at_call 9; refine (WK.out w3 (HT.out.below BW3.out (Nat.le_refl _))).mono ?_; rintro e w4 ⟨rfl, b4⟩; have B4 := Lib.hid b4; clear b4)
    have BN4 : Hid (Below wn.heap.size wn w4) := Lib.hid (B3.out.trans (B4.out.mono B3.out.size))
    have BS4 : Hid (Below ws.heap.size ws w4) := Lib.hid (BN.out.trans (BN4.out.mono BN.out.size))
    have BW4 : Hid (Below w.heap.size w w4) := Lib.hid (BW.out.trans (BN4.out.mono BW.out.size))
    have HB4 := Lib.hid (HBn.out.below BN4.out (Nat.le_refl _))
    have HE4 := Lib.hid (HEn.out.below BN4.out (Nat.le_refl _))
    have HN4 := Lib.hid (HN3.out.below BN4.out (Nat.le_refl _))
    obtain ⟨x0, x1, xl⟩ := shape_block KS.out BS4.out (Nat.le_refl _)
    clear B3 B4 HBn HEn HN3 BN BW WK BW3
    go_upto_region 9 with (go_at_call 10; refine (P2.out w4 _ _ HB4.out HE4.out).mono ?_; rintro e w5 ⟨⟨R1, r1, R2, r2, R4, r4, R3, r3, rfl, hR⟩, b5⟩; have B5 := Lib.hid b5; have HR5 := Lib.hid hR; clear b5 hR)
    clear x0 x1 xl P2
    generalize hwr : World.alloc w5 _ = w6
    have b6 : Below w5.heap.size w5 w6 := by rw [← hwr]; exact (Below.refl _ _).alloc (Nat.le_refl _) _
    have hkr : w6.heap[w5.heap.size]? = some (.cells #[.slice R1 nC r1, .slice R2 m1 r2, .slice R4 m2 r4, .slice R3 m2 r3] 43 (0, 0)) := by rw [← hwr]; exact heap_alloc_new w5 _
    have KR := Lib.hid hkr
    have HR6 := Lib.hid (HR5.out.below b6 (Nat.le_refl _))
    have B46 : Hid (Below w4.heap.size w4 w6) := Lib.hid (B5.out.trans (b6.mono B5.out.size))
    have HN6 := Lib.hid (HN4.out.below B46.out (Nat.le_refl _))
    have BN6 : Hid (Below wn.heap.size wn w6) := Lib.hid (BN4.out.trans (B46.out.mono BN4.out.size))
    have BS6 : Hid (Below ws.heap.size ws w6) := Lib.hid (BS4.out.trans (B46.out.mono BS4.out.size))
    have BW6 : Hid (Below w.heap.size w w6) := Lib.hid (BW4.out.trans (B46.out.mono BW4.out.size))
    clear hwr hkr b6 HR5 HN4 B5 B46 BN4 BS4 BW4 HB4 HE4
    generalize w5.heap.size = pr at *
    have XS := Lib.hid (fun wq (b : Below w6.heap.size w6 wq) => shape_block KS.out (BS6.out.trans (b.mono BS6.out.size)) (Nat.le_refl _))
    have XN := Lib.hid (fun wq (b : Below w6.heap.size w6 wq) => norm_block KN.out (BN6.out.trans (b.mono BN6.out.size)) (Nat.le_refl _))
    have XR := Lib.hid (fun wq (b : Below w6.heap.size w6 wq) => ref_block KR.out b (Nat.le_refl _))
    clear BN6 BS6 KS KN KR
    obtain ⟨y0, y1, y2, yl⟩ := XN.out w6 (Below.refl _ _)
    obtain ⟨z0, z1, z2, z3, zl⟩ := XR.out w6 (Below.refl _ _)
    go_upto_region 11 with (first
      | (have _q := Q7; go_at_call 12; refine (equalZ _ _ F F m1 m1 _ (HN6.out.fst.below Q7.out (Nat.le_refl _)) (HR6.out.fst.below Q7.out (Nat.le_refl _)) (by omega) (by omega)).mono ?_; rintro e w8 ⟨rfl, b8⟩; rw [show (F == F) = true by simp]; have Q8 : Hid (Below w6.heap.size w6 w8) := Lib.hid (Q7.out.trans (b8.mono Q7.out.size)); clear b8; clear y0 y1 y2 yl; obtain ⟨y0, y1, y2, yl⟩ := XN.out w8 Q8.out; obtain ⟨x0, x1, xl⟩ := XS.out w8 Q8.out)
      | (go_at_call 11; refine (refSameC _ _ L L nC nC w6 HN6.out.cel HR6.out.cel (by omega) (by omega)).mono ?_; rintro e w7 ⟨rfl, b7⟩; rw [show decide (L = L) = true by simp]; have Q7 := Lib.hid b7; clear b7; clear y0 y1 y2 yl z0 z1 z2 z3 zl; obtain ⟨y0, y1, y2, yl⟩ := XN.out w7 Q7.out; obtain ⟨z0, z1, z2, z3, zl⟩ := XR.out w7 Q7.out))
    clear Q7
    go_wp2_with (fail)
    clear x0 x1 xl y0 y1 y2 yl z0 z1 z2 z3 zl
    go_loopw [71] (fun iv wr => TlB m2 w8 wr iv) (fun iv _ => m2 - (intOf iv).toNat)
    case atStart => exact ⟨0, rfl, Nat.zero_le _, Below.refl _ _⟩
    case round =>
      obtain ⟨j, rfl, hj, hb⟩ := hrel
      have Q9 : Hid (Below w6.heap.size w6 wr) := Lib.hid (Q8.out.trans (hb.mono Q8.out.size))
      have B9 := Lib.hid hb
      clear hb
      by_cases hlt : j < m2
      · have q0 : decide (j < m2) = true := decide_eq_true hlt
        obtain ⟨bn, on, rfl, hbn, hcn'⟩ := HN6.out.way (by omega)
        obtain ⟨br, or_, rfl, hbr, hcr'⟩ := HR6.out.way (by omega)
        obtain ⟨T1, t1, u1, d1, s1, l1⟩ := hcn' j hlt
        obtain ⟨T2, t2, u2, d2, s2, l2⟩ := hcr' j hlt
        have e1 := (Q9.out.cell (p := ⟨bn, on + j, none⟩) hbn).trans d1
        have e2 := (Q9.out.cell (p := ⟨br, or_ + j, none⟩) hbr).trans d2
        have f1 := Nat.lt_of_lt_of_le hbn Q9.out.size
        have f2 := Nat.lt_of_lt_of_le hbr Q9.out.size
        have EQ := Lib.hid (fun w' (b : Below wr.heap.size wr w') => equalZ _ _ (Wy j) (Wy j) t1 t2 w' (s1.below (Q9.out.trans (b.mono Q9.out.size)) (Nat.le_refl _)) (s2.below (Q9.out.trans (b.mono Q9.out.size)) (Nat.le_refl _)) l1 l2)
        obtain ⟨y0, y1, y2, yl⟩ := XN.out wr Q9.out
        obtain ⟨z0, z1, z2, z3, zl⟩ := XR.out wr Q9.out
        clear hcn' hcr' d1 d2 s1 s2 hbn hbr
        go_upto_region 14 with (fail)
        go_region_held3 (fun w' => w'.cell? ⟨pn, 2, none⟩ = some (.slice (some ⟨bn, on, none⟩) m2 k3) ∧ w'.cell? ⟨pr, 3, none⟩ = some (.slice (some ⟨br, or_, none⟩) m2 r3) ∧ w'.cell? ⟨bn, on + j, none⟩ = some (.slice T1 t1 u1) ∧ w'.cell? ⟨br, or_ + j, none⟩ = some (.slice T2 t2 u2))
          (first
            | go_keep
            | (go_split_ands
               refine ⟨?_, ?_, ?_, ?_⟩
               · (rw [B10.out.cell (p := ⟨pn, 2, none⟩) yl]; exact y2)
               · (rw [B10.out.cell (p := ⟨pr, 3, none⟩) zl]; exact z3)
               · (rw [B10.out.cell (p := ⟨bn, on + j, none⟩) f1]; exact e1)
               · (rw [B10.out.cell (p := ⟨br, or_ + j, none⟩) f2]; exact e2)))
          ((first | (go_at_call 12; refine (EQ.out _ (Below.refl _ _).drew).mono ?_; rintro e w10 ⟨rfl, b10⟩; rw [show (Wy j == Wy j) = true by simp]; have B10 : Hid (Below wr.heap.size wr w10) := Lib.hid ((Below.refl wr.heap.size wr).drew.trans b10); clear b10)))
        go_wp2_with (fail)
        go_roundw
        case rel => exact ⟨j + 1, by go_num, by omega, B9.out.trans (B10.out.mono B9.out.size)⟩
        case measure => (simp [intOf] <;> omega)
      · have q0 : decide (j < m2) = false := decide_eq_false hlt
        go_wp2_with (fail)
        go_ret
        exact ⟨rfl, BW6.out.trans (Q9.out.mono BW6.out.size)⟩
  · have P1 := Lib.hid (fun w bv ev hB hE hT => normNo (w := w) bv ev B E hB hE MM.out hT hz)
    obtain ⟨z, hzz⟩ : ∃ z, wrN B E = z := ⟨_, rfl⟩
    rw [hzz] at RW P1 hz
    have q0 : (z == 0) = false := by rw [beq_eq_false_iff_ne]; exact hz
    have q1 : (z != 0) = true := by rw [bne, q0]; rfl
    clear hz hzz hm1 hm2 hb1 he1 b1 hS MK HB HD HY
    go_wp2_with (fail)
    generalize hws : World.alloc w1 _ = ws
    have bs1 : Below w1.heap.size w1 ws := by rw [← hws]; exact (Below.refl _ _).alloc (Nat.le_refl _) _
    have hks : ws.heap[w1.heap.size]? = some (.cells #[.slice S1 m1 c1, .slice S2 m2 c2] 29 (0, 0)) := by rw [← hws]; exact heap_alloc_new w1 _
    have BS : Hid (Below w.heap.size w ws) := Lib.hid (B1.out.trans (bs1.mono B1.out.size))
    have HBs := Lib.hid (HB1.out.below bs1 (Nat.le_refl _))
    have HEs := Lib.hid (HE1.out.below bs1 (Nat.le_refl _))
    have KS := Lib.hid hks
    clear hws bs1 hks B1 HB1 HE1 BA
    generalize w1.heap.size = ps at *
    refine (P1.out ws _ _ HBs.out HEs.out (HT.out.below BS.out (Nat.le_refl _))).mono ?_
    rintro e w2 ⟨rfl, b2⟩
    have B2 := Lib.hid b2
    clear b2
    go_upto_region 3 with (fail)
    generalize hwn : World.alloc w2 _ = wn
    have bn : Below w2.heap.size w2 wn := by rw [← hwn]; exact (Below.refl _ _).alloc (Nat.le_refl _) _
    have hkn : wn.heap[w2.heap.size]? = some (.cells #[.slice none 0 0, .slice none 0 0, .slice none 0 0] 35 (0, 0)) := by rw [← hwn]; exact heap_alloc_new w2 _
    have KN := Lib.hid hkn
    have BN : Hid (Below ws.heap.size ws wn) := Lib.hid (B2.out.trans (bn.mono B2.out.size))
    clear hwn hkn bn B2
    generalize w2.heap.size = pn at *
    obtain ⟨x0, x1, xl⟩ := shape_block KS.out BN.out (Nat.le_refl _)
    have BW : Hid (Below w.heap.size w wn) := Lib.hid (BS.out.trans (BN.out.mono BS.out.size))
    have HBn := Lib.hid (HBs.out.below BN.out (Nat.le_refl _))
    have HEn := Lib.hid (HEs.out.below BN.out (Nat.le_refl _))
    clear P1 HBs HEs
    go_upto_region 4 with (go_at_call 8; refine (RW.out _ _ wn HBn.out HEn.out).mono ?_; rintro e w3 ⟨rfl, b3⟩; have B3 := Lib.hid b3; clear b3)
    clear x0 x1 xl RW
    have BW3 : Hid (Below w.heap.size w w3) := Lib.hid (BW.out.trans (B3.out.mono BW.out.size))
    go_wp2_with (go_at_call 9; refine (WK.out w3 (HT.out.below BW3.out (Nat.le_refl _))).mono ?_; rintro e w4 ⟨rfl, b4⟩; have B4 : Hid (Below wn.heap.size wn w4) := Lib.hid (B3.out.trans (b4.mono B3.out.size)); clear b4; obtain ⟨y0, y1, y2, yl⟩ := norm_block KN.out B4.out (Nat.le_refl _))
    go_ret
    exact ⟨rfl, BW.out.trans (B4.out.mono BW.out.size)⟩
end Go.Proofs.YtecifgaekefkpaaDoor
