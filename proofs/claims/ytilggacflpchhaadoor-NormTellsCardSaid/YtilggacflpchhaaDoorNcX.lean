/-
  What the document fixes of shapes as cells is so: the law's 'wakes' answers true. Conditions: the borders read as the program lays them.
-/
import Derived.Test.YtilggacflpchhaaDoorNcW
import Derived.Test.YtilggacflpchhaaDoorNzPb
namespace Go.Proofs.YtilggacflpchhaaDoor
open Go.RowKit Go.Proofs.YtilggacflpchhaaDoor.LexM Go.Proofs.YtilggacflpchhaaDoor.ParM Go.Proofs.YtilggacflpchhaaDoor.GrM Go.Proofs.YtilggacflpchhaaDoor.NmM

set_option maxHeartbeats 8000000 in
set_option maxRecDepth 100000 in
theorem wakes11 (w : World) (hT : BorT w) : Calls Tryd.prog 9 #[] w fun e w' => e = .returned (.bool true) ∧ Below w.heap.size w w' := by
  have HT := Lib.hid hT
  have P1 := Lib.hid wk11a
  have P2 := Lib.hid wk11b
  have EQ := Lib.hid (fun w v u n hX hY hn => equalZ v u [0, 5] [0, 5] n 2 w hX hY hn (by decide))
  clear hT
  go_enter Tryd.func9, Tryd.ntmps9
  go_wp2_with (fail)
  generalize hwa : World.alloc (World.alloc w _) _ = wa
  have BA : Hid (Below w.heap.size w wa) := Lib.hid (by rw [← hwa]; exact ((Below.refl _ _).alloc (Nat.le_refl _) _).alloc (by simp) _)
  have HB : Hid (BlsAt wa (.slice (some ⟨w.heap.size, 0, none⟩) 2 2) [false, true]) := Lib.hid (blsNew11 _ _ _ _ rfl _ (by rw [← hwa, Below.heap_alloc _ _ _ (by simp)]; exact heap_alloc_new w _))
  have HE : Hid (EdsAt wa (.slice (some ⟨w.heap.size + 1, 0, none⟩) 1 1) [(0, 1, 0, [])]) := Lib.hid (edsOne11 _ _ _ _ _ _ _ (by rw [← hwa]; exact heap_second w _ _))
  clear hwa
  refine (P1.out wa (HT.out.below BA.out (Nat.le_refl _)) _ _ HB.out HE.out).mono ?_
  rintro e w1 ⟨⟨A1, c1, A2, c2, A3, c3, rfl, hf, b, o, A, m, c, rfl, hbl, hcl, hz⟩, b1⟩
  have B1 : Hid (Below w.heap.size w w1) := Lib.hid (BA.out.trans (b1.mono BA.out.size))
  obtain ⟨_, A', c', e1, hf2⟩ := hf
  obtain ⟨b2, o2, rfl, hb2, hc2⟩ := by
    cases e1
    exact hf2 (by decide)
  clear e1 hf2 b1
  have hc3 := hc2 1 (by decide)
  have F1 := Lib.hid hc3
  have FB := Lib.hid hb2
  have WB := Lib.hid hbl
  have WC := Lib.hid hcl
  have WZ := Lib.hid hz
  clear hc2 hc3 hb2 hbl hcl hz HB HE
  go_upto_region 2 with (fail)
  generalize hwb : World.alloc w1 _ = wb
  have bb : Below w1.heap.size w1 wb := by rw [← hwb]; exact (Below.refl _ _).alloc (Nat.le_refl _) _
  have hkb : wb.heap[w1.heap.size]? = some (.cells #[.slice A1 6 c1, .slice (some ⟨b2, o2, none⟩) 2 c2, .slice (some ⟨b, o, none⟩) 1 c3] 35 (0, 0)) := by rw [← hwb]; exact heap_alloc_new w1 _
  have K := Lib.hid hkb
  have hlb : w1.heap.size < wb.heap.size := (Array.getElem?_eq_some_iff.1 hkb).1
  have BB := Lib.hid bb
  clear hwb hkb bb
  go_wp2_with (fail)
  generalize hwc : World.alloc (World.alloc wb _) _ = wc
  have BC : Hid (Below wb.heap.size wb wc) := Lib.hid (by rw [← hwc]; exact ((Below.refl _ _).alloc (Nat.le_refl _) _).alloc (by simp) _)
  have HB : Hid (BlsAt wc (.slice (some ⟨wb.heap.size, 0, none⟩) 2 2) [false, false]) := Lib.hid (blsNew11 _ _ _ _ rfl _ (by rw [← hwc, Below.heap_alloc _ _ _ (by simp)]; exact heap_alloc_new wb _))
  have HE : Hid (EdsAt wc (.slice (some ⟨wb.heap.size + 1, 0, none⟩) 2 2) [(0, 1, 0, []), (0, 1, 0, [])]) := Lib.hid (edsTwo11 _ _ _ _ _ _ _ (by rw [← hwc]; exact heap_second wb _ _))
  clear hwc
  have B3 : Hid (Below w1.heap.size w1 wc) := Lib.hid (BB.out.trans (BC.out.mono BB.out.size))
  have B4 : Hid (Below w.heap.size w wc) := Lib.hid (B1.out.trans (B3.out.mono B1.out.size))
  refine (P2.out wc (HT.out.below B4.out (Nat.le_refl _)) _ _ HB.out HE.out).mono ?_
  rintro e w2 ⟨rfl, b2'⟩
  go_upto_region 3 with (fail)
  generalize hwd : World.alloc w2 _ = wd
  have bd : Below w2.heap.size w2 wd := by rw [← hwd]; exact (Below.refl _ _).alloc (Nat.le_refl _) _
  clear hwd
  have bx : Below wb.heap.size wb wd := BC.out.trans ((b2'.trans (bd.mono b2'.size)).mono BC.out.size)
  have by_ : Below w1.heap.size w1 wd := BB.out.trans (bx.mono BB.out.size)
  have BD : Hid (Below w.heap.size w wd) := Lib.hid (B1.out.trans (by_.mono B1.out.size))
  have hk := (bx.block _ hlb).trans K.out
  have c0 : wd.cell? ⟨w1.heap.size, 0, none⟩ = some (.slice A1 6 c1) := by simp [World.cell?, hk]
  have c1' : wd.cell? ⟨w1.heap.size, 1, none⟩ = some (.slice (some ⟨b2, o2, none⟩) 2 c2) := by simp [World.cell?, hk]
  have c2' : wd.cell? ⟨w1.heap.size, 2, none⟩ = some (.slice (some ⟨b, o, none⟩) 1 c3) := by simp [World.cell?, hk]
  have cl := Nat.lt_of_lt_of_le hlb bx.size
  have f1 : wd.cell? ⟨b2, o2 + 1, none⟩ = some (.int .i64 1) := (by_.cell (p := ⟨b2, o2 + 1, none⟩) FB.out).trans F1.out
  have f2 : wd.cell? ⟨b, o, none⟩ = some (.slice A m c) := (by_.cell (p := ⟨b, o, none⟩) WB.out).trans WC.out
  have fl := Nat.lt_of_lt_of_le FB.out by_.size
  have fk := Nat.lt_of_lt_of_le WB.out by_.size
  have WY := Lib.hid (WZ.out.below by_ (Nat.le_refl _))
  have hm : m = 2 := WZ.out.1.symm
  clear bx by_ hk bd b2'
  subst hm
  go_wp2_with (go_at_call 12; refine (EQ.out _ _ _ 2 (WY.out.below ((Below.refl _ _).alloc (Nat.le_refl _) _) (Nat.le_refl _)) (zsNew _ _ [0, 5] 2 rfl _ (heap_alloc_new wd _)) (by decide)).mono ?_; rintro e w5 ⟨rfl, b5⟩; have B5 : Hid (Below w.heap.size w w5) := Lib.hid (BD.out.trans ((((Below.refl _ _).alloc (Nat.le_refl _) _).trans (b5.mono (by simp))).mono BD.out.size)); clear b5)
  go_ret
  exact ⟨rfl, B5.out⟩
end Go.Proofs.YtilggacflpchhaaDoor
