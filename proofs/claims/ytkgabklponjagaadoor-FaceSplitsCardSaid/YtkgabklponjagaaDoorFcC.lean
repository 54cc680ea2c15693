/-
  What the code's Next, Turns and Rotation answer. Conditions: at most 100000 cells, a million darts; the ways read as the program lays them.
-/
import Derived.Test.YtkgabklponjagaaDoorFcB
import Derived.Test.YtkgabklponjagaaDoorNzDc
namespace Go.Proofs.YtkgabklponjagaaDoor
open Go.RowKit Go.Proofs.YtkgabklponjagaaDoor.GrM Go.Proofs.YtkgabklponjagaaDoor.FcM

def pairK (k : Nat) : Int × Int := (((k / 4 : Nat) : Int), ((k % 4 : Nat) : Int))
def dkN (p : Int × Int) : Nat := 4 * p.1.toNat + p.2.toNat
/-- Is it a dart of cells that may be? -/
def okQ (L : List Int) (n : Nat) (p : Int × Int) : Bool := decide (chkG L n = 0) && stepB L n p.1 p.2
def bhQ (L : List Int) (n : Nat) (p : Int × Int) : Int × Int := if okQ L n p = true then pairK (behK L (dkN p)) else (0, 0)
def trQ (L : List Int) (n : Nat) (p : Int × Int) : Int := if okQ L n p = true then trnK L (dkN p) else 0
theorem step_dart {L : List Int} {n : Nat} {p : Int × Int} (h : stepB L n p.1 p.2 = true) : isK L n (dkN p) ∧ p = pairK (dkN p) := by
  unfold stepB hasB goodB at h
  simp only [Bool.and_eq_true, decide_eq_true_eq] at h
  obtain ⟨⟨a1, a2⟩, ⟨b1, b2⟩, c⟩ := h
  have e1 : dkN p / 4 = p.1.toNat := by unfold dkN; omega
  have e2 : dkN p % 4 = p.2.toNat := by unfold dkN; omega
  refine ⟨⟨by unfold dkN; omega, by unfold nxK; rw [e1, e2]; exact c⟩, ?_⟩
  unfold pairK
  rw [e1, e2]
  exact Prod.ext (by simp; omega) (by simp; omega)
theorem okQ_dart {L : List Int} {n k : Nat} (h0 : chkG L n = 0) (hk : isK L n k) : okQ L n (pairK k) = true := by
  unfold okQ
  rw [decide_eq_true h0]
  have := (step_yes (L := L) (n := n) (a := k / 4) (e := k % 4) (by have := hk.1; omega) (by omega) hk.2).1
  exact this
theorem dk_pair (k : Nat) : dkN (pairK k) = k := by unfold dkN pairK; simp only [Int.toNat_natCast]; omega
theorem trQ_range (L : List Int) (n : Nat) (p : Int × Int) : -2 ≤ trQ L n p ∧ trQ L n p ≤ 1 := by
  unfold trQ
  split
  · exact trn_range L _
  · omega
/-- What behind answers of any two numbers, on the grid of cells, or on none. -/
theorem behindGrid {w : World} {g n : Nat} {v : Value} {L : List Int} (h : GrdAt w g v L n) (h0 : chkG L n = 0) (hT : WayT w) (p : Int × Int) :
    Calls Tryd.prog 35 #[.pointer (some ⟨g, 0, none⟩), .agg #[.int .i64 p.1, .int .i64 p.2]] w
      (BhP (.tuple #[.agg #[.int .i64 (bhQ L n p).1, .int .i64 (bhQ L n p).2], .int .i64 (trQ L n p), .bool (okQ L n p)]) w) := by
  by_cases hs : stepB L n p.1 p.2 = true
  · obtain ⟨hk, hp⟩ := step_dart hs
    have ok : okQ L n p = true := by unfold okQ; rw [decide_eq_true h0, hs]; rfl
    unfold bhQ trQ
    rw [if_pos ok, if_pos ok, ok]
    have := behindYes h (chk_good.1 h0).2 hT hk
    unfold dartV at this
    rw [show (.agg #[.int .i64 p.1, .int .i64 p.2] : Value) = .agg #[.int .i64 ((dkN p / 4 : Nat) : Int), .int .i64 ((dkN p % 4 : Nat) : Int)] by rw [congrArg Prod.fst hp, congrArg Prod.snd hp]; rfl]
    exact this
  · have hs' : stepB L n p.1 p.2 = false := by simpa using hs
    have ok : okQ L n p = false := by unfold okQ; rw [hs']; simp
    unfold bhQ trQ
    rw [if_neg (by rw [ok]; decide), if_neg (by rw [ok]; decide), ok]
    exact behindNo h hs'
theorem behindNone {n : Nat} {L : List Int} (h0 : chkG L n ≠ 0) (p : Int × Int) (w : World) :
    Calls Tryd.prog 35 #[.pointer none, .agg #[.int .i64 p.1, .int .i64 p.2]] w
      (BhP (.tuple #[.agg #[.int .i64 (bhQ L n p).1, .int .i64 (bhQ L n p).2], .int .i64 (trQ L n p), .bool (okQ L n p)]) w) := by
  have ok : okQ L n p = false := by unfold okQ; rw [decide_eq_false h0]; rfl
  unfold bhQ trQ
  rw [if_neg (by rw [ok]; decide), if_neg (by rw [ok]; decide), ok]
  exact behindNil _ _ w
/-- A grid, or none: what behind answers on it. -/
def BhAt (L : List Int) (n : Nat) (gv : Value) (w : World) : Prop := ∀ w', Below w.heap.size w w' → ∀ p : Int × Int, Calls Tryd.prog 35 #[gv, .agg #[.int .i64 p.1, .int .i64 p.2]] w'
      (BhP (.tuple #[.agg #[.int .i64 (bhQ L n p).1, .int .i64 (bhQ L n p).2], .int .i64 (trQ L n p), .bool (okQ L n p)]) w')
def OfAny (L : List Int) (n : Nat) (w : World) (e : Ending) (w' : World) : Prop := ∃ gv, e = .returned (.tuple #[gv, .int .i64 (chkG L n)]) ∧ BhAt L n gv w' ∧ Below w.heap.size w w'
theorem ofAny (lv : Value) (L : List Int) (n : Nat) (w : World) (hL : CelAt w lv L n) (hn : n ≤ 100000) (hT : WayT w) :
    Calls Tryd.prog 32 #[lv] w (OfAny L n w) := by
  by_cases h0 : chkG L n = 0
  · refine (ofY lv L n w hL hn h0).mono ?_
    rintro e w1 ⟨p, v, rfl, g, f, b⟩
    refine ⟨.pointer (some ⟨p, 0, none⟩), by rw [h0], fun w' b' q => ?_, b⟩
    exact behindGrid (g.below b') h0 (hT.below (b.trans (b'.mono b.size)) (Nat.le_refl _)) q
  · refine (ofN lv L n w hL hn h0).mono ?_
    rintro e w1 ⟨rfl, b⟩
    exact ⟨.pointer none, rfl, fun w' _ q => behindNone h0 q w', b⟩
set_option maxHeartbeats 4000000 in
set_option maxRecDepth 100000 in
theorem nextAny (lv : Value) (L : List Int) (n : Nat) (p : Int × Int) (w : World) (hL : CelAt w lv L n) (hn : n ≤ 100000) (hT : WayT w) :
    Calls Tryd.prog 18 #[lv, .agg #[.int .i64 p.1, .int .i64 p.2]] w (BhP (.tuple #[.agg #[.int .i64 (bhQ L n p).1, .int .i64 (bhQ L n p).2], .int .i64 (trQ L n p), .bool (okQ L n p)]) w) := by
  have HL := Lib.hid hL
  have HT := Lib.hid hT
  obtain ⟨a, b⟩ := p
  obtain ⟨P, hP⟩ : ∃ P : Int × Int, P = (a, b) := ⟨_, rfl⟩
  rw [← hP]
  have pe : P.1 = a ∧ P.2 = b := by rw [hP]; exact ⟨rfl, rfl⟩
  have PE := Lib.hid pe
  rw [pe.1, pe.2]
  obtain ⟨n0, hn0⟩ : ∃ z, (bhQ L n P).1 = z := ⟨_, rfl⟩
  obtain ⟨n1, hn1⟩ : ∃ z, (bhQ L n P).2 = z := ⟨_, rfl⟩
  obtain ⟨t, ht⟩ : ∃ z, trQ L n P = z := ⟨_, rfl⟩
  obtain ⟨k, hk⟩ : ∃ z, okQ L n P = z := ⟨_, rfl⟩
  have HQ := Lib.hid (And.intro hn0 (And.intro hn1 (And.intro ht hk)))
  rw [hn0, hn1, ht, hk]
  clear hP pe hn0 hn1 ht hk hL hT
  go_enter Tryd.func18, Tryd.ntmps18
  go_upto_region 1 with (fail)
  obtain ⟨wb, hwb⟩ : ∃ X, X = ((w.alloc (.cells #[.int .i64 a, .int .i64 b] 28)).alloc (.cells #[.int .i64 0, .int .i64 0] 28)) := ⟨_, rfl⟩
  have bb : Below w.heap.size w wb := by rw [hwb]; exact ((Below.refl _ _).alloc (Nat.le_refl _) _).alloc (by simp) _
  have x0 : wb.cell? ⟨w.heap.size, 0, none⟩ = some (.int .i64 a) := by rw [hwb]; go_simp
  have x1 : wb.cell? ⟨w.heap.size, 1, none⟩ = some (.int .i64 b) := by rw [hwb]; go_simp
  have r0 : wb.cell? ⟨w.heap.size + 1, 0, none⟩ = some (.int .i64 0) := by rw [hwb]; go_simp
  have r1 : wb.cell? ⟨w.heap.size + 1, 1, none⟩ = some (.int .i64 0) := by rw [hwb]; go_simp
  have f0 : wb.frozen? ⟨w.heap.size + 1, 0, none⟩ = false := by rw [hwb]; go_simp
  have f1 : wb.frozen? ⟨w.heap.size + 1, 1, none⟩ = false := by rw [hwb]; go_simp
  have hgb : w.heap.size + 1 < wb.heap.size := by rw [hwb]; simp
  have BB := Lib.hid bb
  have CX : Hid (∀ wr, Below wb.heap.size wb wr → wr.cell? ⟨w.heap.size, 0, none⟩ = some (.int .i64 a) ∧ wr.cell? ⟨w.heap.size, 1, none⟩ = some (.int .i64 b) ∧ wr.cell? ⟨w.heap.size + 1, 0, none⟩ = some (.int .i64 0) ∧ wr.cell? ⟨w.heap.size + 1, 1, none⟩ = some (.int .i64 0) ∧ wr.frozen? ⟨w.heap.size + 1, 0, none⟩ = false ∧ wr.frozen? ⟨w.heap.size + 1, 1, none⟩ = false ∧ w.heap.size + 1 < wr.heap.size ∧ w.heap.size < wr.heap.size) := Lib.hid (fun wr b => by
    have h0 : w.heap.size < wb.heap.size := by omega
    exact ⟨(b.cell (p := ⟨_, _, none⟩) h0).trans x0, (b.cell (p := ⟨_, _, none⟩) h0).trans x1, (b.cell (p := ⟨_, _, none⟩) hgb).trans r0, (b.cell (p := ⟨_, _, none⟩) hgb).trans r1, (b.frozen (p := ⟨_, _, none⟩) hgb).trans f0, (b.frozen (p := ⟨_, _, none⟩) hgb).trans f1, Nat.lt_of_lt_of_le hgb b.size, Nat.lt_of_lt_of_le h0 b.size⟩)
  rw [← hwb]
  clear hwb bb x0 x1 r0 r1 f0 f1 hgb
  go_upto_region 2 with (go_at_call 32; refine (ofAny _ L n _ (HL.out.below BB.out (Nat.le_refl _)) hn (HT.out.below BB.out (Nat.le_refl _))).mono ?_; rintro e w1 ⟨gv, rfl, h1, b1⟩; have H1 := Lib.hid h1; have B1 := Lib.hid b1; clear h1 b1)
  obtain ⟨x0, x1, r0, r1, f0, f1, z1, z0⟩ := CX.out _ B1.out
  go_wp2_with (go_at_call 35; have hb := H1.out _ (Below.refl _ _) P; rw [PE.out.1, PE.out.2, HQ.out.1, HQ.out.2.1, HQ.out.2.2.1, HQ.out.2.2.2] at hb; refine hb.mono ?_; rintro e w2 ⟨rfl, b2⟩; have B2 := Lib.hid b2; obtain ⟨-, -, s0, s1, e0, e1, y1, -⟩ := CX.out _ (B1.out.trans (b2.mono B1.out.size)); clear b2 hb r0 r1 f0 f1 z1 z0 x0 x1)
  refine bodyPost_ret (v := .tuple #[.agg #[.int .i64 n0, .int .i64 n1], .int .i64 t, .bool k]) (by simp [results, Tryd.results18, go_sem, s0, s1]) rfl ⟨rfl, ?_⟩
  have b12 := B1.out.trans (B2.out.mono B1.out.size)
  exact ((BB.out.trans (b12.mono BB.out.size)).setCell (p := ⟨w.heap.size + 1, 0, none⟩) (Nat.le_succ _) _).setCell (p := ⟨w.heap.size + 1, 1, none⟩) (Nat.le_succ _) _
def TurnsP (L : List Int) (n : Nat) (D : List (Int × Int)) (m : Nat) (w : World) (e : Ending) (w' : World) : Prop :=
  ∃ A c, e = .returned (.slice A m c) ∧ OwnZ w' w.heap.size (.slice A m c) (D.map (trQ L n)) m ∧ Below w.heap.size w w'
def TuRel (L : List Int) (n : Nat) (D : List (Int × Int)) (m g : Nat) (w0 wr : World) (iv : Value) : Prop :=
  ∃ k : Nat, iv = .int .i64 k ∧ k ≤ m ∧ OwnZ wr g (.slice (some ⟨g, 0, none⟩) m m) ((D.map (trQ L n)).take k ++ List.replicate (m - k) 0) m ∧ Below g w0 wr
theorem tu_step {Z : List Int} {m k : Nat} (hl : Z.length = m) (hk : k < m) : (Z.take k ++ List.replicate (m - k) 0).set k (Z.getD k 0) = Z.take (k + 1) ++ List.replicate (m - (k + 1)) 0 := by
  have e : m - k = (m - (k + 1)) + 1 := by omega
  have hkl : k < Z.length := by omega
  have ht : (Z.take k).length = k := by rw [List.length_take]; omega
  rw [e, List.replicate_succ, List.set_append_right _ _ (by omega), ht, Nat.sub_self, List.set_cons_zero, List.take_succ_eq_append_getElem hkl, List.append_assoc]
  simp [List.getD_eq_getElem?_getD, hkl]
set_option maxHeartbeats 4000000 in
set_option maxRecDepth 100000 in
theorem turnsAny (lv dv : Value) (L : List Int) (D : List (Int × Int)) (n m : Nat) (w : World) (hL : CelAt w lv L n) (hD : PtsAt w dv D) (hn : n ≤ 100000) (hm : D.length = m) (hm2 : m ≤ 1000000) (hT : WayT w) :
    Calls Tryd.prog 13 #[lv, dv] w (TurnsP L n D m w) := by
  have HL := Lib.hid hL
  have HT := Lib.hid hT
  have HD := Lib.hid hD
  obtain ⟨DA, dc, e, -, -⟩ := hD
  rw [hm] at e
  subst e
  have HM := Lib.hid hm
  have hmk := mkInts12 m hm2
  clear hL hT hm
  go_enter Tryd.func13, Tryd.ntmps13
  go_upto_region 2 with (go_at_call 32; refine (ofAny _ L n _ HL.out hn HT.out).mono ?_; rintro e w1 ⟨gv, rfl, h1, b1⟩; have H1 := Lib.hid h1; have B1 := Lib.hid b1; clear h1 b1)
  have MO := Lib.hid (ownZ_made w1 m hm2)
  have hgl : w.heap.size ≤ w1.heap.size := B1.out.size
  go_wp2_with fail
  clear hmk
  obtain ⟨g, hg⟩ : ∃ g, w1.heap.size = g := ⟨_, rfl⟩
  rw [hg] at MO hgl ⊢
  have HG := Lib.hid hg
  clear hg
  go_loopw [20] (fun iv wr => TuRel L n D m g w1 wr iv) (fun iv _ => m - (intOf iv).toNat)
  case atStart =>
    refine ⟨0, rfl, Nat.zero_le _, ?_, ?_⟩
    · simpa using MO.out
    · exact (Below.refl _ _).alloc (by rw [HG.out]; exact Nat.le_refl _) _
  case round =>
    clear MO
    obtain ⟨k, rfl, hk, hO, hB⟩ := hrel
    have O := Lib.hid hO
    have B := Lib.hid hB
    clear hO
    have hgr : g < wr.heap.size := (World.ownsRow.lt O.out g rfl).2
    by_cases hlt : k < m
    · have q0 : decide (k < m) = true := decide_eq_true hlt
      obtain ⟨A, cap, e, hc, hA⟩ := HD.out
      rw [HM.out] at e
      simp only [Value.slice.injEq, true_and] at e
      obtain ⟨rfl, rfl⟩ := e
      obtain ⟨b, o, rfl, hb, hx⟩ := hA (by rw [HM.out]; omega)
      obtain ⟨x0, x1⟩ := hx k (by rw [HM.out]; exact hlt)
      have hbw := B1.out.trans (hB.mono hgl)
      have f0 := (hbw.cell (p := ⟨b, o + k * 2, none⟩) hb).trans x0
      have f1 := (hbw.cell (p := ⟨b, o + k * 2 + 1, none⟩) hb).trans x1
      have z1 := Nat.lt_of_lt_of_le hb hbw.size
      have hkd : k < D.length := by rw [HM.out]; exact hlt
      have TZ := Lib.hid (tu_step (Z := D.map (trQ L n)) (m := m) (by rw [List.length_map]; exact HM.out) hlt)
      have GE : (D.map (trQ L n)).getD k 0 = trQ L n (D.getD k (0, 0)) := by simp [List.getD_eq_getElem?_getD, hkd]
      rw [GE] at TZ
      obtain ⟨P, hP⟩ : ∃ P, D.getD k (0, 0) = P := ⟨_, rfl⟩
      rw [hP] at f0 f1 TZ
      obtain ⟨p0, hp0⟩ : ∃ x, P.1 = x := ⟨_, rfl⟩
      obtain ⟨p1, hp1⟩ : ∃ x, P.2 = x := ⟨_, rfl⟩
      obtain ⟨t, ht⟩ : ∃ x, trQ L n P = x := ⟨_, rfl⟩
      have PE := Lib.hid (And.intro hp0 (And.intro hp1 ht))
      rw [hp0] at f0
      rw [hp1] at f1
      rw [ht] at TZ
      have BW1 : Hid (Below w1.heap.size w1 wr) := Lib.hid (by rw [HG.out]; exact hB)
      clear hx x0 x1 GE hP hp0 hp1 ht hA hbw hB
      go_upto_region 6 with (fail)
      obtain ⟨wx, hwx⟩ : ∃ X, X = (wr.alloc (.cells #[.int .i64 p0, .int .i64 p1] 28)) := ⟨_, rfl⟩
      have bx : Below wr.heap.size wr wx := by rw [hwx]; exact (Below.refl _ _).alloc (Nat.le_refl _) _
      have y0 : wx.cell? ⟨wr.heap.size, 0, none⟩ = some (.int .i64 p0) := by rw [hwx]; go_simp
      have y1 : wx.cell? ⟨wr.heap.size, 1, none⟩ = some (.int .i64 p1) := by rw [hwx]; go_simp
      have hzx : wr.heap.size < wx.heap.size := by rw [hwx]; simp
      have BX := Lib.hid (BW1.out.trans (bx.mono BW1.out.size))
      have BQ := Lib.hid (B.out.trans (bx.mono (by omega)))
      have O2 := Lib.hid (O.out)
      have OX : Hid (OwnZ wx g (.slice (some ⟨g, 0, none⟩) m m) ((D.map (trQ L n)).take k ++ List.replicate (m - k) 0) m) := Lib.hid (row_below12 O.out bx (Nat.le_refl _))
      rw [← hwx]
      clear hwx bx f0 f1 z1 O O2 B BW1
      go_wp2_with (go_at_call 35; have hb := H1.out _ BX.out P; rw [PE.out.1, PE.out.2.1, PE.out.2.2] at hb; refine hb.mono ?_; rintro e w2 ⟨rfl, b2⟩; have B2 := Lib.hid b2; have O2 : Hid (OwnZ w2 g (.slice (some ⟨g, 0, none⟩) m m) ((D.map (trQ L n)).take k ++ List.replicate (m - k) 0) m) := Lib.hid (row_below12 OX.out b2 (Nat.le_refl _)); obtain ⟨c9, hc9⟩ : ∃ c9, w2.cell? ⟨g, k, none⟩ = some c9 := (by have hl := O2.out.len; exact ⟨_, by rw [World.ownsRow.cellAt O2.out k (by simp; have := HM.out; omega)]; exact List.getElem?_eq_getElem (by simp; omega)⟩); have hf9 := World.ownsRow.frozenAt O2.out k; have hz9 := (World.ownsRow.lt O2.out g rfl).2; clear b2 hb)
      go_roundw
      case rel => exact ⟨k + 1, by go_num, by omega, by rw [← TZ.out]; exact OwnZ.set O2.out k t, (BQ.out.trans (B2.out.mono (by have := BQ.out.size; omega))).setCell (p := ⟨g, k, none⟩) (Nat.le_refl _) _⟩
      case measure => (simp [intOf] <;> omega)
    · have hkm : k = m := by omega
      subst hkm
      go_wp2_with fail
      go_ret
      have h := O.out
      rw [List.take_of_length_le (by rw [List.length_map]; have := HM.out; omega), Nat.sub_self, List.replicate_zero, List.append_nil] at h
      exact ⟨_, _, rfl, row_base12 h hgl, B1.out.trans (B.out.mono hgl)⟩
end Go.Proofs.YtkgabklponjagaaDoor
