/-
  A face's darts, gathered: what the code's gather answers. Conditions: cells that may be; darts that were met stand in a map.
-/
import Derived.Test.YtkgabklponjagaaDoorFcD
namespace Go.Proofs.YtkgabklponjagaaDoor
open Go.RowKit Go.Maps Go.Proofs.YtkgabklponjagaaDoor.GrM Go.Proofs.YtkgabklponjagaaDoor.FcM

def lenV : Value → Nat
  | .slice _ n _ => n
  | _ => 0
/-- What is gathered from a dart on. -/
def gatT (L : List Int) (n : Nat) (met : List Nat) (k : Nat) : List Nat := if nxK L k = -1 then [] else orb L (4 * n - met.length) met k
def GatP (n mb : Nat) (met T : List Nat) (w : World) (e : Ending) (w' : World) : Prop :=
  ∃ A c, e = .returned (.slice A T.length c) ∧ OwnPr 28 w' w.heap.size (.slice A T.length c) (T.map pairK) ∧ SetAt w' mb ((met ++ T).map pairK) ∧ Out (fun b => b = mb) w w' ∧ T.length ≤ 4 * n
def GaR (L : List Int) (n : Nat) (w0 : World) (mb db : Nat) (met T : List Nat) (fv : Value) (wr : World) : Prop :=
  ∃ (f : List Nat) (cur : Nat), T = f ++ orb L (4 * n - (met ++ f).length) (met ++ f) cur ∧ isK L n cur ∧ FcM.Met L n (met ++ f) ∧ OwnPr 28 wr (w0.heap.size + 1) fv (f.map pairK) ∧ SetAt wr mb ((met ++ f).map pairK) ∧
    wr.heap[db]? = some (.cells #[.int .i64 (pairK cur).1, .int .i64 (pairK cur).2] 28 (0, 0)) ∧ Out (fun b => b = mb) w0 wr
theorem infoD12 : (Tryd.prog.info? 28).map (fun i => (i.zero, i.size, i.bytes)) = some (some (.agg #[.int .i64 0, .int .i64 0]), 2, 16) := by kernel_rfl
theorem newsP12 (w : World) (g : Nat) (x y : Int) (T : TypeId) (h : w.heap[g]? = some (.cells #[.int .i64 x, .int .i64 y] T (0, 0))) : ∀ j z, [Value.int .i64 x, Value.int .i64 y][j]? = some z → w.cell? ((⟨g, 0, none⟩ : Addr).add j) = some z := by
  intro j z hz
  have ha : ∀ j, (⟨g, 0, none⟩ : Addr).add j = ⟨g, j, none⟩ := fun j => by unfold Addr.add; split <;> simp_all
  match j with
  | 0 =>
    simp only [List.getElem?_cons_zero, Option.some.injEq] at hz
    subst hz
    rw [ha]
    simp [World.cell?, h]
  | 1 =>
    simp only [List.getElem?_cons_succ, List.getElem?_cons_zero, Option.some.injEq] at hz
    subst hz
    rw [ha]
    simp [World.cell?, h]
  | j + 2 => simp at hz
theorem onePr12 (x y : Int) : ∀ u ∈ [Value.int .i64 x, Value.int .i64 y], u.oneCell' = true := fun u hu => by
  simp only [List.mem_cons, List.not_mem_nil, or_false] at hu
  rcases hu with rfl | rfl <;> rfl
set_option maxHeartbeats 8000000 in
set_option maxRecDepth 100000 in
theorem gatherYes {w wg : World} {L : List Int} {n mb k : Nat} {met : List Nat} {gv : Value} (hn : n ≤ 100000) (h0 : chkG L n = 0) (hB : BhAt L n gv wg) (hw : Below wg.heap.size wg w) (hmb : wg.heap.size ≤ mb)
    (hm : FcM.Met L n met) (hs : SetAt w mb (met.map pairK)) (hk : isK L n k) :
    Calls Tryd.prog 33 #[gv, .agg #[.int .i64 (pairK k).1, .int .i64 (pairK k).2], .map (some mb)] w (GatP n mb met (orb L (4 * n - met.length) met k) w) := by
  obtain ⟨i0, hi, hz0, hz1, hz2⟩ := info_parts infoD12
  have HB := Lib.hid hB
  have HW := Lib.hid hw
  have HS := Lib.hid hs
  have HM := Lib.hid hm
  have HK := Lib.hid hk
  have H0 := Lib.hid h0
  have hmw := hs.lt
  obtain ⟨T, hT⟩ : ∃ T, orb L (4 * n - met.length) met k = T := ⟨_, rfl⟩
  have HT := Lib.hid hT
  rw [hT]
  clear hB hw hs hm hk hT h0
  go_enter Tryd.func33, Tryd.ntmps33
  go_upto_region 1 with (fail)
  obtain ⟨wb, hwb⟩ : ∃ X, X = (w.alloc (.cells #[.int .i64 (pairK k).1, .int .i64 (pairK k).2] 28)) := ⟨_, rfl⟩
  have bb : Below w.heap.size w wb := by rw [hwb]; exact (Below.refl _ _).alloc (Nat.le_refl _) _
  have X0 : Hid (wb.heap[w.heap.size]? = some (.cells #[.int .i64 (pairK k).1, .int .i64 (pairK k).2] 28 (0, 0))) := Lib.hid (by rw [hwb]; exact heap_alloc_new w _)
  have BB := Lib.hid bb
  rw [← hwb]
  clear hwb bb
  go_wp2_with fail
  go_loopw [7] (fun fv wr => GaR L n w mb w.heap.size met T fv wr) (fun fv _ => 4 * n + 1 - lenV fv)
  case atStart => exact ⟨[], k, by rw [List.nil_append, List.append_nil]; exact HT.out.symm, HK.out, by rw [List.append_nil]; exact HM.out, OwnPr.nil _ _ _, by rw [List.append_nil]; exact HS.out.below BB.out (Nat.le_refl _), X0.out, Out.ofBelow BB.out⟩
  case round =>
    clear X0
    obtain ⟨f, cur, hT, hc, hm, ho, hs, hx, hout⟩ := hrel
    have HT2 := Lib.hid hT
    have HC := Lib.hid hc
    have HM2 := Lib.hid hm
    have O := Lib.hid ho
    have HS2 := Lib.hid hs
    have X := Lib.hid hx
    have OU := Lib.hid hout
    have BG : Hid (Below wg.heap.size wg wr) := Lib.hid (HW.out.trans (hout.below HW.out.size (fun i _ e => by subst e; exact hmb)))
    have hws := hout.size
    have hml := hs.lt
    obtain ⟨ao, co, e⟩ := ho.form
    rw [List.length_map] at e
    subst e
    have hx0 : wr.cell? ⟨w.heap.size, 0, none⟩ = some (.int .i64 (pairK cur).1) := by simp [World.cell?, hx]
    have hx1 : wr.cell? ⟨w.heap.size, 1, none⟩ = some (.int .i64 (pairK cur).2) := by simp [World.cell?, hx]
    have hxl : w.heap.size < wr.heap.size := (Array.getElem?_eq_some_iff.1 hx).1
    have hfl : f.length ≤ 4 * n := by have := hm.len; rw [List.length_append] at this; omega
    have WF := Lib.hid (wfPair hn hc.1)
    have ok := okQ_dart H0.out hc
    have BHQ : Hid (bhQ L n (pairK cur) = pairK (behK L cur) ∧ okQ L n (pairK cur) = true) := Lib.hid ⟨by unfold bhQ; rw [if_pos ok, dk_pair], ok⟩
    obtain ⟨p, hp⟩ : ∃ p, pairK cur = p := ⟨_, rfl⟩
    have HP := Lib.hid hp
    rw [hp] at hx0 hx1 X WF BHQ
    obtain ⟨q, hq⟩ : ∃ q, pairK (behK L cur) = q := ⟨_, rfl⟩
    have HQ := Lib.hid hq
    rw [hq] at BHQ
    obtain ⟨nf, hnf⟩ : ∃ m, f.length = m := ⟨_, rfl⟩
    have HNF := Lib.hid hnf
    rw [hnf] at hfl O
    obtain ⟨t, ht⟩ : ∃ t, trQ L n p = t := ⟨_, rfl⟩
    have TQ := Lib.hid ht
    obtain ⟨p0, hp0⟩ : ∃ z, p.1 = z := ⟨_, rfl⟩
    obtain ⟨p1, hp1⟩ : ∃ z, p.2 = z := ⟨_, rfl⟩
    have PE := Lib.hid (And.intro hp0 hp1)
    rw [hp0] at hx0 X
    rw [hp1] at hx1 X
    rw [hnf]
    clear hT hc hm ho hs hx hout ok hp hq ht hnf hp0 hp1
    go_upto_region 3 with (go_at_call 35; have hb := HB.out _ BG.out p; rw [BHQ.out.1, BHQ.out.2, PE.out.1, PE.out.2, TQ.out] at hb; refine hb.mono ?_; rintro e w2 ⟨rfl, b2⟩; have B2 := Lib.hid b2; clear b2 hb)
    obtain ⟨wx, hwx⟩ : ∃ X, X = (w2.alloc (.cells #[.int .i64 q.1, .int .i64 q.2] 28)) := ⟨_, rfl⟩
    have bx : Below wr.heap.size wr wx := by rw [hwx]; exact B2.out.alloc B2.out.size _
    have Y : Hid (wx.heap[w2.heap.size]? = some (.cells #[.int .i64 q.1, .int .i64 q.2] 28 (0, 0))) := Lib.hid (by rw [hwx]; exact heap_alloc_new w2 _)
    have hg2 : w2.heap.size < wx.heap.size := by rw [hwx]; simp
    have hr2 : wr.heap.size ≤ w2.heap.size := B2.out.size
    have hy0 : wx.cell? ⟨w2.heap.size, 0, none⟩ = some (.int .i64 q.1) := by rw [hwx]; go_simp
    have hy1 : wx.cell? ⟨w2.heap.size, 1, none⟩ = some (.int .i64 q.2) := by rw [hwx]; go_simp
    have x0 := (bx.cell (p := ⟨w.heap.size, 0, none⟩) hxl).trans hx0
    have x1 := (bx.cell (p := ⟨w.heap.size, 1, none⟩) hxl).trans hx1
    have xl := Nat.lt_of_lt_of_le hxl bx.size
    have BX := Lib.hid bx
    rw [← hwx]
    have SX : Hid (SetAt wx mb ((met ++ f).map pairK)) := Lib.hid (HS2.out.below bx (Nat.le_refl _))
    have lk := SX.out.look WF.out
    rw [PE.out.1, PE.out.2] at lk
    have hmem : (p ∈ (met ++ f).map pairK) ↔ cur ∈ met ++ f := by
      rw [← HP.out]
      constructor
      · intro h
        obtain ⟨j, hj, he⟩ := List.mem_map.1 h
        have := congrArg dkN he
        rw [dk_pair, dk_pair] at this
        exact this ▸ hj
      · exact fun h => List.mem_map.2 ⟨_, h, rfl⟩
    clear hwx bx hx0 hx1 hxl
    by_cases hin : cur ∈ met ++ f
    · have d0 : decide (p ∈ (met ++ f).map pairK) = true := decide_eq_true (hmem.2 hin)
      rw [d0] at lk
      have E : Hid (T = f) := Lib.hid (by rw [HT2.out, orb_in hin, List.append_nil])
      have EL : Hid (T.length = nf) := Lib.hid (by rw [E.out]; exact HNF.out)
      clear hmem d0 hin hy0 hy1
      go_wp2_with fail
      go_ret
      refine ⟨ao, co, by rw [EL.out]; rfl, ?_, ?_, ?_, by rw [EL.out]; omega⟩
      · rw [E.out, HNF.out]
        exact ((O.out.below BX.out (Nat.le_refl _)).below ((Below.refl _ _).alloc (Nat.le_refl _) _) (Nat.le_refl _)).base (Nat.le_succ _)
      · rw [E.out]
        exact SX.out.below ((Below.refl _ _).alloc (Nat.le_refl _) _) (Nat.le_refl _)
      · exact OU.out.trans (S' := fun _ => False) (Out.ofBelow (BX.out.alloc BX.out.size _)) (fun _ _ e => e.elim)
    · have d0 : decide (p ∈ (met ++ f).map pairK) = false := decide_eq_false (fun h => hin (hmem.1 h))
      rw [d0] at lk
      obtain ⟨os1, os2⟩ := orb_step HM2.out HC.out hin
      have OS := Lib.hid os1
      have hlm : (met ++ f).length < 4 * n := os2
      have HL := Lib.hid hlm
      have hnf4 : nf < 4 * n := by rw [List.length_append, HNF.out] at hlm; omega
      have MM := Lib.hid (HM2.out.more HC.out hin)
      clear hmem d0 hin os1 os2 hlm
      go_upto_region 6 with fail
      obtain ⟨wy, hwy⟩ : ∃ X, X = (wx.alloc (.cells #[] 90)) := ⟨_, rfl⟩
      have by_ : Below wx.heap.size wx wy := by rw [hwy]; exact (Below.refl _ _).alloc (Nat.le_refl _) _
      have BY := Lib.hid by_
      have SY : Hid (SetAt wy mb ((met ++ f).map pairK)) := Lib.hid (SX.out.below by_ (Nat.le_refl _))
      obtain ⟨w3, r3, s3, g3⟩ := SY.out.put WF.out (by rw [List.length_map]; have := HL.out; omega)
      rw [PE.out.1, PE.out.2] at r3
      have S3 := Lib.hid s3
      have G3 := Lib.hid g3
      have y0 := (by_.cell (p := ⟨w.heap.size, 0, none⟩) xl).trans x0
      have y1 := (by_.cell (p := ⟨w.heap.size, 1, none⟩) xl).trans x1
      have yl := Nat.lt_of_lt_of_le xl by_.size
      rw [← hwy]
      clear lk x0 x1 xl by_ hwy
      go_upto_region 7 with fail
      have o3 : Out (fun b => b = mb) wy w3 := (Out.refl _ _).grown g3 (fun _ _ e => by cases e; rfl)
      have oy : Out (fun b => b = mb) wr wy := (Out.ofBelow BX.out).trans (Out.ofBelow (S := fun b => b = mb) BY.out) (fun _ _ e => e)
      have hne : w.heap.size ≠ mb := by omega
      have x0 := (o3.cell (b := w.heap.size) 0 yl hne).trans y0
      have x1 := (o3.cell (b := w.heap.size) 1 yl hne).trans y1
      have xl := Nat.lt_of_lt_of_le yl o3.size
      have hgy : w2.heap.size < wy.heap.size := Nat.lt_of_lt_of_le hg2 BY.out.size
      have hne2 : w2.heap.size ≠ mb := by omega
      have z0 := (o3.cell (b := w2.heap.size) 0 hgy hne2).trans ((BY.out.cell (p := ⟨w2.heap.size, 0, none⟩) hg2).trans hy0)
      have z1 := (o3.cell (b := w2.heap.size) 1 hgy hne2).trans ((BY.out.cell (p := ⟨w2.heap.size, 1, none⟩) hg2).trans hy1)
      have zl := Nat.lt_of_lt_of_le hgy o3.size
      have oY : OwnPr 28 wy (w.heap.size + 1) (.slice ao nf co) (f.map pairK) := (O.out.below BX.out (Nat.le_refl _)).below BY.out (Nat.le_refl _)
      have oN : ∀ b, (Value.slice ao nf co).ownBlock = some b → b ≠ mb := fun b hb e => by subst e; exact SY.out.not_row oY hb
      have O3 : Hid (OwnPr 28 w3 (w.heap.size + 1) (.slice ao nf co) (f.map pairK)) := Lib.hid (ownsRow_out oY o3 (fun b hb e => oN b hb e))
      have OA : Hid (∀ o, (w3.alloc o).ownsRow (w.heap.size + 1) 28 2 (.slice ao nf co) nf ((f.map pairK).flatMap encP)) := Lib.hid (fun o => by
        have h := O3.out
        unfold OwnPr at h
        rw [List.length_map, HNF.out] at h
        exact row_below12 h ((Below.refl _ _).alloc (Nat.le_refl _) o) (Nat.le_refl _))
      have OU3 : Hid (Out (fun b => b = mb) w w3) := Lib.hid (OU.out.trans (oy.trans o3 (fun _ _ e => e)) (fun _ _ e => e))
      have hxw : w3.heap[w.heap.size]? = some (.cells #[.int .i64 p0, .int .i64 p1] 28 (0, 0)) := by
        rw [o3.block _ yl hne, BY.out.block _ (Nat.lt_of_lt_of_le (Array.getElem?_eq_some_iff.1 X.out).1 BX.out.size), BX.out.block _ (Array.getElem?_eq_some_iff.1 X.out).1]
        exact X.out
      have X3 := Lib.hid hxw
      have hw3 : w.heap.size ≤ w3.heap.size := OU3.out.size
      clear o3 oy hne hne2 hgy oY oN hxw y0 y1 yl hy0 hy1 s3 g3 r3 hg2
      go_upto_region 8 with (at_builtin; refine wpList_append_fresh rfl (.tmp 35) (.tmp 37) 42 rfl (w.heap.size + 1) 28 i0 (.agg #[.int .i64 0, .int .i64 0]) 2 16 Tryd.underlying42 hi hz0 hz1 hz2 rfl (by decide) (.slice ao nf co) nf ((f.map pairK).flatMap encP) rfl (OA.out _) ⟨w3.heap.size, 0, none⟩ 1 1 [.int .i64 p0, .int .i64 p1] rfl rfl (newsP12 _ _ _ _ 28 (heap_alloc_new w3 _)) (onePr12 _ _) (by unfold maxLen; omega) (by omega) (by simp; omega) ?_; intro v5 w5 hown hgrow hfr)
      have o5 : Out (fun b => (Value.slice ao nf co).ownBlock = some b) w3 w5 := ((Out.refl _ _).alloc _).grown hgrow (fun _ _ e => e)
      have hrow : ∀ b, (Value.slice ao nf co).ownBlock = some b → w.heap.size + 1 ≤ b ∧ b < wr.heap.size := fun b hb => World.ownsRow.lt O.out b hb
      have n1 : ¬ (Value.slice ao nf co).ownBlock = some w.heap.size := fun e => by have := (hrow _ e).1; omega
      have n2 : ¬ (Value.slice ao nf co).ownBlock = some w2.heap.size := fun e => by have := (hrow _ e).2; omega
      have n3 : ¬ (Value.slice ao nf co).ownBlock = some mb := fun e => by have := (hrow _ e).1; omega
      have V5 : Hid (OwnPr 28 w5 (w.heap.size + 1) v5 ((f ++ [cur]).map pairK)) := Lib.hid (by
        rw [List.map_append, List.map_cons, List.map_nil, HP.out]
        refine OwnPr.more (n := nf) (by rw [List.length_map]; exact HNF.out) ?_
        rw [PE.out.1, PE.out.2]
        exact hown)
      obtain ⟨a5, c5, e5⟩ := row_form12 hown
      subst e5
      have v5 : ∀ b, (Value.slice a5 (nf + 1) c5).ownBlock = some b → w.heap.size + 1 ≤ b := fun b hb => (World.ownsRow.lt V5.out b hb).1
      have S5 : Hid (SetAt w5 mb ((met ++ (f ++ [cur])).map pairK)) := Lib.hid (by
        rw [← List.append_assoc, List.map_append, List.map_cons, List.map_nil, HP.out]
        exact S3.out.blk (o5.block mb S3.out.lt n3))
      have q0 := (o5.cell (b := w2.heap.size) 0 zl n2).trans z0
      have q1 := (o5.cell (b := w2.heap.size) 1 zl n2).trans z1
      have ql := Nat.lt_of_lt_of_le zl o5.size
      have X5 := (o5.block w.heap.size xl n1).trans X3.out
      have xl5 := Nat.lt_of_lt_of_le xl o5.size
      have xf0 : w5.frozen? ⟨w.heap.size, 0, none⟩ = false := by simp [World.frozen?, X5]
      have xf1 : w5.frozen? ⟨w.heap.size, 1, none⟩ = false := by simp [World.frozen?, X5]
      have x50 : w5.cell? ⟨w.heap.size, 0, none⟩ = some (.int .i64 p0) := by simp [World.cell?, X5]
      have x51 : w5.cell? ⟨w.heap.size, 1, none⟩ = some (.int .i64 p1) := by simp [World.cell?, X5]
      have OU5 : Hid (Out (fun b => b = mb) w w5) := Lib.hid (OU3.out.trans o5 (fun i hi e => by have := (hrow i e).1; omega))
      have XX := Lib.hid X5
      have VB := Lib.hid v5
      clear o5 hrow n1 n2 n3 hown hgrow hfr x0 x1 xl z0 z1 zl X5 v5
      go_wp2_with fail
      go_roundw
      case rel =>
        refine ⟨f ++ [cur], behK L cur, ?_, beh_dart HC.out (chk_good.1 H0.out).2, ?_, ?_, ?_, ?_, ?_⟩
        · rw [← List.append_assoc, List.append_assoc f, List.singleton_append, ← OS.out]; exact HT2.out
        · rw [← List.append_assoc]; exact MM.out
        · have o7 : Out (fun b => b = w.heap.size) w5 ((w5.setCell ⟨w.heap.size, 0, none⟩ (.int .i64 q.1)).setCell ⟨w.heap.size, 1, none⟩ (.int .i64 q.2)) := ((Out.refl _ _).setIn _ _).setIn _ _
          exact ownsRow_out V5.out o7 (fun b hb e => by have := VB.out b hb; omega)
        · have o7 : Out (fun b => b = w.heap.size) w5 ((w5.setCell ⟨w.heap.size, 0, none⟩ (.int .i64 q.1)).setCell ⟨w.heap.size, 1, none⟩ (.int .i64 q.2)) := ((Out.refl _ _).setIn _ _).setIn _ _
          exact S5.out.blk (o7.block mb S5.out.lt (by omega))
        · rw [HQ.out]
          have h1 := heap_setCell_at (w := w5) XX.out 0 (.int .i64 q.1)
          rw [heap_setCell_at h1]
          rfl
        · exact (OU5.out.setCell (p := ⟨w.heap.size, 0, none⟩) (fun h => absurd h (Nat.lt_irrefl _)) _).setCell (p := ⟨w.heap.size, 1, none⟩) (fun h => absurd h (Nat.lt_irrefl _)) _
      case measure => (simp [lenV]; omega)
set_option maxHeartbeats 8000000 in
set_option maxRecDepth 100000 in
/-- From what is no dart. -/
theorem gatherNo {w wg : World} {L : List Int} {n mb k : Nat} {met : List Nat} {gv : Value} (hn : n ≤ 100000) (hB : BhAt L n gv wg) (hw : Below wg.heap.size wg w)
    (hs : SetAt w mb (met.map pairK)) (hk4 : k < 4 * n) (hk : nxK L k = -1) :
    Calls Tryd.prog 33 #[gv, .agg #[.int .i64 (pairK k).1, .int .i64 (pairK k).2], .map (some mb)] w (GatP n mb met [] w) := by
  have ok : okQ L n (pairK k) = false := by
    unfold okQ
    have := step_free (L := L) (n := n) (a := k / 4) (e := k % 4) hk
    show (_ && stepB L n ((k / 4 : Nat) : Int) ((k % 4 : Nat) : Int)) = false
    rw [this, Bool.and_false]
  have BHQ : Hid (bhQ L n (pairK k) = (0, 0) ∧ okQ L n (pairK k) = false) := Lib.hid ⟨by unfold bhQ; rw [if_neg (by rw [ok]; decide)], ok⟩
  have HB := Lib.hid hB
  have HS := Lib.hid hs
  have HW := Lib.hid hw
  have WF := Lib.hid (wfPair hn hk4)
  obtain ⟨p, hp⟩ : ∃ p, pairK k = p := ⟨_, rfl⟩
  rw [hp] at WF BHQ ⊢
  obtain ⟨t, ht⟩ : ∃ t, trQ L n p = t := ⟨_, rfl⟩
  have TQ := Lib.hid ht
  obtain ⟨p0, hp0⟩ : ∃ z, p.1 = z := ⟨_, rfl⟩
  obtain ⟨p1, hp1⟩ : ∃ z, p.2 = z := ⟨_, rfl⟩
  have PE := Lib.hid (And.intro hp0 hp1)
  rw [hp0, hp1]
  clear hB hw hs hk hk4 ok hp ht hp0 hp1
  go_enter Tryd.func33, Tryd.ntmps33
  go_upto_region 1 with (fail)
  obtain ⟨wb, hwb⟩ : ∃ X, X = (w.alloc (.cells #[.int .i64 p0, .int .i64 p1] 28)) := ⟨_, rfl⟩
  have bb : Below w.heap.size w wb := by rw [hwb]; exact (Below.refl _ _).alloc (Nat.le_refl _) _
  have hx0 : wb.cell? ⟨w.heap.size, 0, none⟩ = some (.int .i64 p0) := by rw [hwb]; go_simp
  have hx1 : wb.cell? ⟨w.heap.size, 1, none⟩ = some (.int .i64 p1) := by rw [hwb]; go_simp
  have hxl : w.heap.size < wb.heap.size := by rw [hwb]; simp
  have BB := Lib.hid bb
  rw [← hwb]
  clear hwb bb
  go_wp2_with fail
  refine wp_loop_rounds 1 ?_
  rw [rounds_succ]
  go_upto_region 3 with (go_at_call 35; have hb := HB.out _ (HW.out.trans (BB.out.mono HW.out.size)) p; rw [BHQ.out.1, BHQ.out.2, PE.out.1, PE.out.2, TQ.out] at hb; refine hb.mono ?_; rintro e w2 ⟨rfl, b2⟩; have B2 := Lib.hid b2; clear b2 hb)
  obtain ⟨wx, hwx⟩ : ∃ X, X = (w2.alloc (.cells #[.int .i64 0, .int .i64 0] 28)) := ⟨_, rfl⟩
  have bx : Below wb.heap.size wb wx := by rw [hwx]; exact B2.out.alloc B2.out.size _
  have x0 := (bx.cell (p := ⟨w.heap.size, 0, none⟩) hxl).trans hx0
  have x1 := (bx.cell (p := ⟨w.heap.size, 1, none⟩) hxl).trans hx1
  have xl := Nat.lt_of_lt_of_le hxl bx.size
  have BX := Lib.hid (BB.out.trans (bx.mono BB.out.size))
  rw [← hwx]
  have SX : Hid (SetAt wx mb (met.map pairK)) := Lib.hid (HS.out.below BX.out (Nat.le_refl _))
  have lk := SX.out.look WF.out
  rw [PE.out.1, PE.out.2] at lk
  obtain ⟨u, hu⟩ : ∃ u, decide (p ∈ met.map pairK) = u := ⟨_, rfl⟩
  rw [hu] at lk
  clear hwx bx hx0 hx1 hxl hu
  cases u
  all_goals
    go_wp2_with fail
    go_ret
    refine ⟨none, 0, rfl, OwnPr.nil _ _ _, ?_, Out.ofBelow (BX.out.alloc BX.out.size _), by simp⟩
    rw [List.append_nil]
    exact SX.out.below ((Below.refl _ _).alloc (Nat.le_refl _) _) (Nat.le_refl _)
end Go.Proofs.YtkgabklponjagaaDoor
