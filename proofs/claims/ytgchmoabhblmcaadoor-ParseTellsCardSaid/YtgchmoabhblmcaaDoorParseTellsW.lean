/-
  ParseTells: the walk: at every text the call answers true and turns nothing that was there. Conditions: the library's tables are laid.
-/
import Derived.Test.YtgchmoabhblmcaaDoorParY
import Derived.Test.YtgchmoabhblmcaaDoorParU
import Derived.Test.YtgchmoabhblmcaaDoorParZ
namespace Go.Proofs.YtgchmoabhblmcaaDoor
open Go.RowKit Go.Proofs.YtgchmoabhblmcaaDoor.LexM Go.Proofs.YtgchmoabhblmcaaDoor.ParM

theorem par_lens (s : List UInt8) : (par s).2.2.1.length ≤ 1000000 ∧ (par s).2.2.2.length ≤ 1000000 := by
  by_cases h : (par s).1 = 0
  · have hM := par_may h
    exact ⟨Nat.le_trans hM.vs (by decide), Nat.le_trans hM.es (by decide)⟩
  · obtain ⟨h1, h2⟩ := par_none h
    rw [h1, h2]
    exact ⟨by decide, by decide⟩
theorem cut_text8t (s : ByteArray) (n : Nat) : (s.extract 0 (min (s.size : Int) n).toNat).size ≤ n := by
  rw [ByteArray.size_extract]; omega
set_option maxHeartbeats 8000000 in
set_option maxRecDepth 100000 in
theorem tells_core (s : ByteArray) (w : World) (hT : TabL w) (t : ByteArray) (ht : t.size ≤ 1000) (hs : s.extract 0 (min (s.size : Int) 1000).toNat = t) :
    Calls Tryd.prog 3 #[.string s] w fun r w' => r = .returned (.bool true) ∧ Below w.heap.size w w' := by
  have HT := Lib.hid hT
  have P := fun w hT => parse t w hT
  have R := fun w => refParse t w (by omega)
  have hl := par_lens t.data.toList
  unfold ParP at P R
  clear hT
  generalize (par t.data.toList).2.1 = n at P R
  obtain ⟨z, hz⟩ : ∃ z, (par t.data.toList).1 = z := ⟨_, rfl⟩
  rw [hz] at P R
  generalize (par t.data.toList).2.2.1 = B at P R hl
  generalize (par t.data.toList).2.2.2 = E at P R hl
  have PS := Lib.hid P
  have RS := Lib.hid R
  obtain ⟨nB, hnB⟩ : ∃ n, B.length = n := ⟨_, rfl⟩
  obtain ⟨nE, hnE⟩ : ∃ n, E.length = n := ⟨_, rfl⟩
  have SM : Hid (∀ A1 c1 A2 c2 A3 c3 A4 c4 w, BlsAt w (.slice A1 nB c1) B → EdsAt w (.slice A2 nE c2) E → BlsAt w (.slice A3 nB c3) B → EdsAt w (.slice A4 nE c4) E → Calls Tryd.prog 8 #[.agg #[.slice A1 nB c1, .slice A2 nE c2], .agg #[.slice A3 nB c3, .slice A4 nE c4]] w fun r w' => r = .returned (.bool true) ∧ Below w.heap.size w w') :=
    Lib.hid (fun A1 c1 A2 c2 A3 c3 A4 c4 w h1 h2 h3 h4 => refSame _ _ _ _ B E w h1 h2 h3 h4 hl.1 hl.2)
  have LB := Lib.hid hnB
  have LE := Lib.hid hnE
  clear P R hl hz hnB hnE
  go_enter Tryd.func3, Tryd.ntmps3
  go_wp2_with (fail)
  refine (PS.out _ HT.out).mono ?_
  rintro e w1 ⟨bv, ev, rfl, hb, he, hw⟩
  obtain ⟨A1, c1, e⟩ := hb.form
  obtain ⟨A2, c2, e'⟩ := he.form
  rw [LB.out] at e
  rw [LE.out] at e'
  subst e e'
  have HB := Lib.hid hb
  have HE := Lib.hid he
  have B1 := Lib.hid hw
  clear hb he hw
  go_wp2_with (fail)
  generalize hwa : World.alloc w1 _ = wa
  have ba : Below w1.heap.size w1 wa := by rw [← hwa]; exact (Below.refl _ _).alloc (Nat.le_refl _) _
  have hk : wa.heap[w1.heap.size]? = some (.cells #[.slice A1 nB c1, .slice A2 nE c2] 25 (0, 0)) := by rw [← hwa]; exact heap_alloc_new w1 _
  have K := Lib.hid hk
  have hlk : w1.heap.size < wa.heap.size := (Array.getElem?_eq_some_iff.1 hk).1
  have HB2 := Lib.hid (HB.out.below ba (Nat.le_refl _))
  have HE2 := Lib.hid (HE.out.below ba (Nat.le_refl _))
  have BA : Hid (Below w.heap.size w wa) := Lib.hid (B1.out.trans (ba.mono B1.out.size))
  clear hwa hk ba HB HE
  refine (RS.out wa).mono ?_
  rintro e w2 ⟨bv, ev, rfl, hb, he, hw⟩
  obtain ⟨A3, c3, e⟩ := hb.form
  obtain ⟨A4, c4, e'⟩ := he.form
  rw [LB.out] at e
  rw [LE.out] at e'
  subst e e'
  have HC := Lib.hid hb
  have HD := Lib.hid he
  have HB3 := Lib.hid (HB2.out.below hw (Nat.le_refl _))
  have HE3 := Lib.hid (HE2.out.below hw (Nat.le_refl _))
  have B2 : Hid (Below w.heap.size w w2) := Lib.hid (BA.out.trans (hw.mono BA.out.size))
  have hk2 : w2.heap[w1.heap.size]? = some (.cells #[.slice A1 nB c1, .slice A2 nE c2] 25 (0, 0)) := by rw [hw.block _ hlk]; exact K.out
  have hlk2 : w1.heap.size < w2.heap.size := Nat.lt_of_lt_of_le hlk hw.size
  have K2 := Lib.hid hk2
  clear hb he hw hk2 HB2 HE2
  go_upto_region 4 with (fail)
  generalize hwc : World.alloc w2 _ = wc
  have bc : Below w2.heap.size w2 wc := by rw [← hwc]; exact (Below.refl _ _).alloc (Nat.le_refl _) _
  have hm : wc.heap[w2.heap.size]? = some (.cells #[.slice A3 nB c3, .slice A4 nE c4] 25 (0, 0)) := by rw [← hwc]; exact heap_alloc_new w2 _
  have M := Lib.hid hm
  have hlm : w2.heap.size < wc.heap.size := (Array.getElem?_eq_some_iff.1 hm).1
  have hk3 : wc.heap[w1.heap.size]? = some (.cells #[.slice A1 nB c1, .slice A2 nE c2] 25 (0, 0)) := by rw [bc.block _ hlk2]; exact K2.out
  have hlk3 : w1.heap.size < wc.heap.size := by omega
  have K3 := Lib.hid hk3
  have HB4 := Lib.hid (HB3.out.below bc (Nat.le_refl _))
  have HE4 := Lib.hid (HE3.out.below bc (Nat.le_refl _))
  have HC4 := Lib.hid (HC.out.below bc (Nat.le_refl _))
  have HD4 := Lib.hid (HD.out.below bc (Nat.le_refl _))
  have BC : Hid (Below w.heap.size w wc) := Lib.hid (B2.out.trans (bc.mono B2.out.size))
  clear hwc hm hk3 bc HB3 HE3 HC HD
  have HTC := Lib.hid (HT.out.below BC.out (Nat.le_refl _))
  go_wp2_with (first
    | (go_at_call 7; refine (wakes8 _ HTC.out).mono ?_; rintro e w3 ⟨rfl, b3⟩; have B3 := Lib.hid b3; have y0 : w3.cell? ⟨w1.heap.size, 0, none⟩ = some (.slice A1 nB c1) := (by have h := b3.block _ hlk3; rw [K3.out] at h; simp [World.cell?, h]); have y1 : w3.cell? ⟨w1.heap.size, 1, none⟩ = some (.slice A2 nE c2) := (by have h := b3.block _ hlk3; rw [K3.out] at h; simp [World.cell?, h]); have y2 : w3.cell? ⟨w2.heap.size, 0, none⟩ = some (.slice A3 nB c3) := (by have h := b3.block _ hlm; rw [M.out] at h; simp [World.cell?, h]); have y3 : w3.cell? ⟨w2.heap.size, 1, none⟩ = some (.slice A4 nE c4) := (by have h := b3.block _ hlm; rw [M.out] at h; simp [World.cell?, h]); have yl := Nat.lt_of_lt_of_le hlk3 b3.size; have yl2 := Nat.lt_of_lt_of_le hlm b3.size; clear b3)
    | (go_at_call 8; refine (SM.out _ _ _ _ _ _ _ _ _ (HB4.out.below B3.out (Nat.le_refl _)) (HE4.out.below B3.out (Nat.le_refl _)) (HC4.out.below B3.out (Nat.le_refl _)) (HD4.out.below B3.out (Nat.le_refl _))).mono ?_; rintro e w4 ⟨rfl, b4⟩; have B4 := Lib.hid ((BC.out.trans (B3.out.mono BC.out.size)).trans (b4.mono (BC.out.trans (B3.out.mono BC.out.size)).size)); clear b4))
  go_ret
  exact ⟨ret_bool (by simp), B4.out⟩
theorem tells8 (s : ByteArray) (w : World) (hT : TabL w) :
    Calls Tryd.prog 3 #[.string s] w fun r w' => r = .returned (.bool true) ∧ Below w.heap.size w w' :=
  tells_core s w hT _ (cut_text8t s 1000) rfl
end Go.Proofs.YtgchmoabhblmcaaDoor
