/-
  A set of darts in memory: a map keyed by a struct of two numbers. Conditions: numbers of an int.
  A face's darts, gathered: what the code's gather answers. Conditions: cells that may be; darts that were met stand in a map.
  What the code's Faces answers. Conditions: at most 100000 cells; the ways read as the program lays them.
-/
import Derived.Test.YtkakeakdgidigaaDoorVzF2
import Derived.Maps.OwnSet
import Derived.Maps.OwnOps
import Derived.DeepKeys4
namespace Go.Proofs.YtkakeakdgidigaaDoor
open Go.RowKit Go.Maps Go.Proofs.YtkakeakdgidigaaDoor.GrM Go.Proofs.YtkakeakdgidigaaDoor.FcM

theorem laidOut12 : laidOutB Tryd.prog = true := by kernel_rfl
set_option maxRecDepth 100000 in
theorem wideD : (match Tryd.prog.underlying 62 with | some (.array _ _) | some (.struct _) => true | _ => false) = true := by rw [Tryd.underlying62]
theorem rowD : (62 : TypeId) < Tryd.prog.types.size := of_decide_eq_true (by kernel_rfl)
set_option maxRecDepth 100000 in
theorem keyedD : Keyed Tryd.prog 62 := Keyed.of_law (deep_law_laid laidOut12 (m := 2) (by omega) rowD (by kernel_rfl) wideD)
def dkL (a b : Int) : Lit := .string (keyBytes [.int .i64 a, .int .i64 b])
def Wf64 (a : Int) : Prop := (Lit.int .i64 a).wf = true
theorem wf64 {a : Int} (h0 : -9223372036854775808 ≤ a) (h1 : a ≤ 9223372036854775807) : Wf64 a := by
  unfold Wf64
  simp [Lit.wf, IntKind.min, IntKind.max, IntKind.bits, IntKind.signed]
  omega
set_option maxRecDepth 100000 in
theorem keyOfD {a b : Int} (ha : Wf64 a) (hb : Wf64 b) : keyOf Tryd.prog 62 (.agg #[.int .i64 a, .int .i64 b]) = some (dkL a b) := by
  unfold Wf64 at ha hb
  obtain ⟨m, hm⟩ : ∃ m, Tryd.prog.types.size = m + 1 := ⟨Tryd.prog.types.size - 1, by have : 0 < Tryd.prog.types.size := Nat.lt_of_le_of_lt (Nat.zero_le _) rowD; omega⟩
  have hk : Tryd.prog.keyType 62 = true := by kernel_rfl
  have hc : Tryd.prog.cellsOf 62 = 2 := by kernel_rfl
  have hci : Tryd.prog.cellsOf 3 = 1 := by kernel_rfl
  have hu := Tryd.underlying62
  have hi := Tryd.underlying3
  unfold keyOf
  rw [hu, hm]
  simp only [hk, Value.formed, hu, hc, Program.keyLits]
  simp [hci, hi, ha, hb, dkL, Value.cells]
theorem dk_inj {a b c d : Int} (ha : Wf64 a) (hb : Wf64 b) (hc : Wf64 c) (hd : Wf64 d) (h : dkL a b = dkL c d) : a = c ∧ b = d := by
  have h1 := keyOfD ha hb
  have h2 := keyOfD hc hd
  rw [← h] at h2
  have := keyedD.inj h1 h2
  simpa using this
def unitD : DataW Unit := .agg []
def WfP (p : Int × Int) : Prop := Wf64 p.1 ∧ Wf64 p.2
/-- A set of darts. -/
def SetAt (w : World) (b : Nat) (M : List (Int × Int)) : Prop := (∀ p ∈ M, WfP p) ∧ w.ownsMap Tryd.prog 62 unitElem b M.length (setOf unitD (M.map fun p => dkL p.1 p.2))
theorem isKeyDk (a b : Int) : WideAt.IsKeyLit (dkL a b) := trivial
theorem has_set {M : List (Int × Int)} (hM : ∀ p ∈ M, WfP p) {p : Int × Int} (hp : WfP p) : Maps.has (setOf unitD (M.map fun p => dkL p.1 p.2)) (dkL p.1 p.2) = decide (p ∈ M) := by
  rw [has_setOf _ _ _ (fun x hx => by obtain ⟨q, _, rfl⟩ := List.mem_map.1 hx; exact isKeyDk _ _), Bool.eq_iff_iff, List.any_eq_true, decide_eq_true_eq]
  constructor
  · rintro ⟨x, hx, hs⟩
    obtain ⟨q, hq, rfl⟩ := List.mem_map.1 hx
    have he := WideAt.sameKey_eq hs
    obtain ⟨e1, e2⟩ := dk_inj (hM q hq).1 (hM q hq).2 hp.1 hp.2 he
    have : q = p := Prod.ext e1 e2
    exact this ▸ hq
  · intro h
    exact ⟨_, List.mem_map.2 ⟨p, h, rfl⟩, WideAt.sameKey_self (isKeyDk _ _)⟩
theorem zeroUnit (w : World) : (zeroValue 107).run Tryd.prog w = .ok (.agg #[]) w := by kernel_rfl
theorem SetAt.made (w : World) : SetAt (w.alloc (.map #[] 0)) w.heap.size [] := ⟨fun p hp => absurd hp (by simp), World.ownsMap_made _ _ _ _⟩
theorem SetAt.look {w : World} {b : Nat} {M : List (Int × Int)} (h : SetAt w b M) {p : Int × Int} (hp : WfP p) :
    (Instr.lookup 88 (.map (some b)) (.agg #[.int .i64 p.1, .int .i64 p.2]) true).run Tryd.prog w = .ok (.tuple #[.agg #[], .bool (decide (p ∈ M))]) w := by
  obtain ⟨v, ps, hr, hv⟩ := World.ownsMap.look_ok h.2 keyedD Tryd.underlying88 (zeroUnit w) unitElem_mk (keyOfD hp.1 hp.2)
  obtain ⟨rfl, _⟩ := unitElem_inv hv
  rw [hr, has_set h.1 hp]
theorem SetAt.put {w : World} {b : Nat} {M : List (Int × Int)} (h : SetAt w b M) {p : Int × Int} (hp : WfP p) (hl : M.length < 1000000) :
    ∃ w', (Instr.mapUpdate 88 (.map (some b)) (.agg #[.int .i64 p.1, .int .i64 p.2]) (.agg #[])).run Tryd.prog w = .ok () w' ∧ SetAt w' b (M ++ [p]) ∧ w.grownBy w' (some b) := by
  obtain ⟨w', hr, ho, hg⟩ := World.ownsMap.update h.2 keyedD Tryd.underlying88 (by unfold maxLen; omega) (keyOfD hp.1 hp.2) unitElem_mk
  refine ⟨w', hr, ⟨fun q hq => ?_, ?_⟩, hg⟩
  · rcases List.mem_append.1 hq with hq | hq
    · exact h.1 q hq
    · obtain rfl := List.mem_singleton.1 hq; exact hp
  · rw [List.map_append, List.map_cons, List.map_nil, setOf_snoc, List.length_append]
    exact ho
theorem SetAt.lt {w : World} {b : Nat} {M : List (Int × Int)} (h : SetAt w b M) : b < w.heap.size := World.ownsMap.lt h.2
theorem SetAt.blk {w w' : World} {b : Nat} {M : List (Int × Int)} (h : SetAt w b M) (e : w'.heap[b]? = w.heap[b]?) : SetAt w' b M := by
  obtain ⟨hM, es, clock, hb, r⟩ := h
  exact ⟨hM, es, clock, e.trans hb, r⟩
theorem SetAt.below {w w' : World} {b C : Nat} {M : List (Int × Int)} (h : SetAt w b M) (o : Below C w w') (hC : w.heap.size ≤ C) : SetAt w' b M := h.blk (o.block b (Nat.lt_of_lt_of_le h.lt hC))
theorem SetAt.not_row {w : World} {B n k b : Nat} {e : TypeId} {v : Value} {xs : List Value} {M : List (Int × Int)} (hl : SetAt w b M) (h : w.ownsRow B e k v n xs) : v.ownBlock ≠ some b := by
  obtain ⟨_, es, clock, hb, _⟩ := hl
  intro hc
  rcases h.2 with ⟨rfl, _⟩ | ⟨g, cap, c2, rfl, _, hg, _⟩
  · cases hc
  · have : g = b := by simpa [Value.ownBlock] using hc
    subst this; rw [hg] at hb
    cases hb
theorem wfPair {n k : Nat} (hn : n ≤ 100000) (hk : k < 4 * n) : WfP (pairK k) := ⟨wf64 (by unfold pairK; simp only; omega) (by unfold pairK; simp only; omega), wf64 (by unfold pairK; simp only; omega) (by unfold pairK; simp only; omega)⟩
end Go.Proofs.YtkakeakdgidigaaDoor

namespace Go.Proofs.YtkakeakdgidigaaDoor
open Go.RowKit Go.Maps Go.Proofs.YtkakeakdgidigaaDoor.GrM Go.Proofs.YtkakeakdgidigaaDoor.FcM

def lenV : Value → Nat
  | .slice _ n _ => n
  | _ => 0
/-- What is gathered from a dart on. -/
def gatT (L : List Int) (n : Nat) (met : List Nat) (k : Nat) : List Nat := if nxK L k = -1 then [] else orb L (4 * n - met.length) met k
def GatP (n mb : Nat) (met T : List Nat) (w : World) (e : Ending) (w' : World) : Prop :=
  ∃ A c, e = .returned (.slice A T.length c) ∧ OwnPr 62 w' w.heap.size (.slice A T.length c) (T.map pairK) ∧ SetAt w' mb ((met ++ T).map pairK) ∧ Out (fun b => b = mb) w w' ∧ T.length ≤ 4 * n
def GaR (L : List Int) (n : Nat) (w0 : World) (mb db : Nat) (met T : List Nat) (fv : Value) (wr : World) : Prop :=
  ∃ (f : List Nat) (cur : Nat), T = f ++ orb L (4 * n - (met ++ f).length) (met ++ f) cur ∧ isK L n cur ∧ FcM.Met L n (met ++ f) ∧ OwnPr 62 wr (w0.heap.size + 1) fv (f.map pairK) ∧ SetAt wr mb ((met ++ f).map pairK) ∧
    wr.heap[db]? = some (.cells #[.int .i64 (pairK cur).1, .int .i64 (pairK cur).2] 62 (0, 0)) ∧ Out (fun b => b = mb) w0 wr
theorem infoD12 : (Tryd.prog.info? 62).map (fun i => (i.zero, i.size, i.bytes)) = some (some (.agg #[.int .i64 0, .int .i64 0]), 2, 16) := by kernel_rfl
theorem newsP12 (w : World) (g : Nat) (x y : Int) (T : TypeId) (h : w.heap[g]? = some (.cells #[.int .i64 x, .int .i64 y] T (0, 0))) : ∀ j z, [Value.int .i64 x, Value.int .i64 y][j]? = some z → w.cell? ((⟨g, 0, none⟩ : Addr).add j) = some z := by
  intro j z hz
  have ha : ∀ j, (⟨g, 0, none⟩ : Addr).add j = ⟨g, j, none⟩ := fun j => by unfold Addr.add; split <;> simp_all
  match j with
  | 0 =>
    simp only [List.getElem?_cons_zero, Option.some.injEq] at hz
    subst hz
    rw [ha]
    simp [World.cell?, h]
  | 1 =>
    simp only [List.getElem?_cons_succ, List.getElem?_cons_zero, Option.some.injEq] at hz
    subst hz
    rw [ha]
    simp [World.cell?, h]
  | j + 2 => simp at hz
theorem onePr12 (x y : Int) : ∀ u ∈ [Value.int .i64 x, Value.int .i64 y], u.oneCell' = true := fun u hu => by
  simp only [List.mem_cons, List.not_mem_nil, or_false] at hu
  rcases hu with rfl | rfl <;> rfl
set_option maxHeartbeats 8000000 in
set_option maxRecDepth 100000 in
theorem gatherYes {w wg : World} {L : List Int} {n mb k : Nat} {met : List Nat} {gv : Value} (hn : n ≤ 100000) (h0 : chkG L n = 0) (hB : BhAt L n gv wg) (hw : Below wg.heap.size wg w) (hmb : wg.heap.size ≤ mb)
    (hm : FcM.Met L n met) (hs : SetAt w mb (met.map pairK)) (hk : isK L n k) :
    Calls Tryd.prog 33 #[gv, .agg #[.int .i64 (pairK k).1, .int .i64 (pairK k).2], .map (some mb)] w (GatP n mb met (orb L (4 * n - met.length) met k) w) := by
  obtain ⟨i0, hi, hz0, hz1, hz2⟩ := info_parts infoD12
  have HB := Lib.hid hB
  have HW := Lib.hid hw
  have HS := Lib.hid hs
  have HM := Lib.hid hm
  have HK := Lib.hid hk
  have H0 := Lib.hid h0
  have hmw := hs.lt
  obtain ⟨T, hT⟩ : ∃ T, orb L (4 * n - met.length) met k = T := ⟨_, rfl⟩
  have HT := Lib.hid hT
  rw [hT]
  clear hB hw hs hm hk hT h0
  go_enter Tryd.func33, Tryd.ntmps33
  go_upto_region 1 with (fail)
  obtain ⟨wb, hwb⟩ : ∃ X, X = (w.alloc (.cells #[.int .i64 (pairK k).1, .int .i64 (pairK k).2] 62)) := ⟨_, rfl⟩
  have bb : Below w.heap.size w wb := by rw [hwb]; exact (Below.refl _ _).alloc (Nat.le_refl _) _
  have X0 : Hid (wb.heap[w.heap.size]? = some (.cells #[.int .i64 (pairK k).1, .int .i64 (pairK k).2] 62 (0, 0))) := Lib.hid (by rw [hwb]; exact heap_alloc_new w _)
  have BB := Lib.hid bb
  rw [← hwb]
  clear hwb bb
  go_wp2_with fail
  go_loopw [7] (fun fv wr => GaR L n w mb w.heap.size met T fv wr) (fun fv _ => 4 * n + 1 - lenV fv)
  case atStart => exact ⟨[], k, by rw [List.nil_append, List.append_nil]; exact HT.out.symm, HK.out, by rw [List.append_nil]; exact HM.out, OwnPr.nil _ _ _, by rw [List.append_nil]; exact HS.out.below BB.out (Nat.le_refl _), X0.out, Out.ofBelow BB.out⟩
  case round =>
    clear X0
    obtain ⟨f, cur, hT, hc, hm, ho, hs, hx, hout⟩ := hrel
    have HT2 := Lib.hid hT
    have HC := Lib.hid hc
    have HM2 := Lib.hid hm
    have O := Lib.hid ho
    have HS2 := Lib.hid hs
    have X := Lib.hid hx
    have OU := Lib.hid hout
    have BG : Hid (Below wg.heap.size wg wr) := Lib.hid (HW.out.trans (hout.below HW.out.size (fun i _ e => by subst e; exact hmb)))
    have hws := hout.size
    have hml := hs.lt
    obtain ⟨ao, co, e⟩ := ho.form
    rw [List.length_map] at e
    subst e
    have hx0 : wr.cell? ⟨w.heap.size, 0, none⟩ = some (.int .i64 (pairK cur).1) := by simp [World.cell?, hx]
    have hx1 : wr.cell? ⟨w.heap.size, 1, none⟩ = some (.int .i64 (pairK cur).2) := by simp [World.cell?, hx]
    have hxl : w.heap.size < wr.heap.size := (Array.getElem?_eq_some_iff.1 hx).1
    have hfl : f.length ≤ 4 * n := by have := hm.len; rw [List.length_append] at this; omega
    have WF := Lib.hid (wfPair hn hc.1)
    have ok := okQ_dart H0.out hc
    have BHQ : Hid (bhQ L n (pairK cur) = pairK (behK L cur) ∧ okQ L n (pairK cur) = true) := Lib.hid ⟨by unfold bhQ; rw [if_pos ok, dk_pair], ok⟩
    obtain ⟨p, hp⟩ : ∃ p, pairK cur = p := ⟨_, rfl⟩
    have HP := Lib.hid hp
    rw [hp] at hx0 hx1 X WF BHQ
    obtain ⟨q, hq⟩ : ∃ q, pairK (behK L cur) = q := ⟨_, rfl⟩
    have HQ := Lib.hid hq
    rw [hq] at BHQ
    obtain ⟨nf, hnf⟩ : ∃ m, f.length = m := ⟨_, rfl⟩
    have HNF := Lib.hid hnf
    rw [hnf] at hfl O
    obtain ⟨t, ht⟩ : ∃ t, trQ L n p = t := ⟨_, rfl⟩
    have TQ := Lib.hid ht
    obtain ⟨p0, hp0⟩ : ∃ z, p.1 = z := ⟨_, rfl⟩
    obtain ⟨p1, hp1⟩ : ∃ z, p.2 = z := ⟨_, rfl⟩
    have PE := Lib.hid (And.intro hp0 hp1)
    rw [hp0] at hx0 X
    rw [hp1] at hx1 X
    rw [hnf]
    clear hT hc hm ho hs hx hout ok hp hq ht hnf hp0 hp1
    go_upto_region 3 with (go_at_call 34; have hb := HB.out _ BG.out p; rw [BHQ.out.1, BHQ.out.2, PE.out.1, PE.out.2, TQ.out] at hb; refine hb.mono ?_; rintro e w2 ⟨rfl, b2⟩; have B2 := Lib.hid b2; clear b2 hb)
    obtain ⟨wx, hwx⟩ : ∃ X, X = (w2.alloc (.cells #[.int .i64 q.1, .int .i64 q.2] 62)) := ⟨_, rfl⟩
    have bx : Below wr.heap.size wr wx := by rw [hwx]; exact B2.out.alloc B2.out.size _
    have Y : Hid (wx.heap[w2.heap.size]? = some (.cells #[.int .i64 q.1, .int .i64 q.2] 62 (0, 0))) := Lib.hid (by rw [hwx]; exact heap_alloc_new w2 _)
    have hg2 : w2.heap.size < wx.heap.size := by rw [hwx]; simp
    have hr2 : wr.heap.size ≤ w2.heap.size := B2.out.size
    have hy0 : wx.cell? ⟨w2.heap.size, 0, none⟩ = some (.int .i64 q.1) := by rw [hwx]; go_simp
    have hy1 : wx.cell? ⟨w2.heap.size, 1, none⟩ = some (.int .i64 q.2) := by rw [hwx]; go_simp
    have x0 := (bx.cell (p := ⟨w.heap.size, 0, none⟩) hxl).trans hx0
    have x1 := (bx.cell (p := ⟨w.heap.size, 1, none⟩) hxl).trans hx1
    have xl := Nat.lt_of_lt_of_le hxl bx.size
    have BX := Lib.hid bx
    rw [← hwx]
    have SX : Hid (SetAt wx mb ((met ++ f).map pairK)) := Lib.hid (HS2.out.below bx (Nat.le_refl _))
    have lk := SX.out.look WF.out
    rw [PE.out.1, PE.out.2] at lk
    have hmem : (p ∈ (met ++ f).map pairK) ↔ cur ∈ met ++ f := by
      rw [← HP.out]
      constructor
      · intro h
        obtain ⟨j, hj, he⟩ := List.mem_map.1 h
        have := congrArg dkN he
        rw [dk_pair, dk_pair] at this
        exact this ▸ hj
      · exact fun h => List.mem_map.2 ⟨_, h, rfl⟩
    clear hwx bx hx0 hx1 hxl
    by_cases hin : cur ∈ met ++ f
    · have d0 : decide (p ∈ (met ++ f).map pairK) = true := decide_eq_true (hmem.2 hin)
      rw [d0] at lk
      have E : Hid (T = f) := Lib.hid (by rw [HT2.out, orb_in hin, List.append_nil])
      have EL : Hid (T.length = nf) := Lib.hid (by rw [E.out]; exact HNF.out)
      clear hmem d0 hin hy0 hy1
      go_wp2_with fail
      go_ret
      refine ⟨ao, co, by rw [EL.out]; rfl, ?_, ?_, ?_, by rw [EL.out]; omega⟩
      · rw [E.out, HNF.out]
        exact ((O.out.below BX.out (Nat.le_refl _)).below ((Below.refl _ _).alloc (Nat.le_refl _) _) (Nat.le_refl _)).base (Nat.le_succ _)
      · rw [E.out]
        exact SX.out.below ((Below.refl _ _).alloc (Nat.le_refl _) _) (Nat.le_refl _)
      · exact OU.out.trans (S' := fun _ => False) (Out.ofBelow (BX.out.alloc BX.out.size _)) (fun _ _ e => e.elim)
    · have d0 : decide (p ∈ (met ++ f).map pairK) = false := decide_eq_false (fun h => hin (hmem.1 h))
      rw [d0] at lk
      obtain ⟨os1, os2⟩ := orb_step HM2.out HC.out hin
      have OS := Lib.hid os1
      have hlm : (met ++ f).length < 4 * n := os2
      have HL := Lib.hid hlm
      have hnf4 : nf < 4 * n := by rw [List.length_append, HNF.out] at hlm; omega
      have MM := Lib.hid (HM2.out.more HC.out hin)
      clear hmem d0 hin os1 os2 hlm
      go_upto_region 6 with fail
      obtain ⟨wy, hwy⟩ : ∃ X, X = (wx.alloc (.cells #[] 107)) := ⟨_, rfl⟩
      have by_ : Below wx.heap.size wx wy := by rw [hwy]; exact (Below.refl _ _).alloc (Nat.le_refl _) _
      have BY := Lib.hid by_
      have SY : Hid (SetAt wy mb ((met ++ f).map pairK)) := Lib.hid (SX.out.below by_ (Nat.le_refl _))
      obtain ⟨w3, r3, s3, g3⟩ := SY.out.put WF.out (by rw [List.length_map]; have := HL.out; omega)
      rw [PE.out.1, PE.out.2] at r3
      have S3 := Lib.hid s3
      have G3 := Lib.hid g3
      have y0 := (by_.cell (p := ⟨w.heap.size, 0, none⟩) xl).trans x0
      have y1 := (by_.cell (p := ⟨w.heap.size, 1, none⟩) xl).trans x1
      have yl := Nat.lt_of_lt_of_le xl by_.size
      rw [← hwy]
      clear lk x0 x1 xl by_ hwy
      go_upto_region 7 with fail
      have o3 : Out (fun b => b = mb) wy w3 := (Out.refl _ _).grown g3 (fun _ _ e => by cases e; rfl)
      have oy : Out (fun b => b = mb) wr wy := (Out.ofBelow BX.out).trans (Out.ofBelow (S := fun b => b = mb) BY.out) (fun _ _ e => e)
      have hne : w.heap.size ≠ mb := by omega
      have x0 := (o3.cell (b := w.heap.size) 0 yl hne).trans y0
      have x1 := (o3.cell (b := w.heap.size) 1 yl hne).trans y1
      have xl := Nat.lt_of_lt_of_le yl o3.size
      have hgy : w2.heap.size < wy.heap.size := Nat.lt_of_lt_of_le hg2 BY.out.size
      have hne2 : w2.heap.size ≠ mb := by omega
      have z0 := (o3.cell (b := w2.heap.size) 0 hgy hne2).trans ((BY.out.cell (p := ⟨w2.heap.size, 0, none⟩) hg2).trans hy0)
      have z1 := (o3.cell (b := w2.heap.size) 1 hgy hne2).trans ((BY.out.cell (p := ⟨w2.heap.size, 1, none⟩) hg2).trans hy1)
      have zl := Nat.lt_of_lt_of_le hgy o3.size
      have oY : OwnPr 62 wy (w.heap.size + 1) (.slice ao nf co) (f.map pairK) := (O.out.below BX.out (Nat.le_refl _)).below BY.out (Nat.le_refl _)
      have oN : ∀ b, (Value.slice ao nf co).ownBlock = some b → b ≠ mb := fun b hb e => by subst e; exact SY.out.not_row oY hb
      have O3 : Hid (OwnPr 62 w3 (w.heap.size + 1) (.slice ao nf co) (f.map pairK)) := Lib.hid (ownsRow_out oY o3 (fun b hb e => oN b hb e))
      have OA : Hid (∀ o, (w3.alloc o).ownsRow (w.heap.size + 1) 62 2 (.slice ao nf co) nf ((f.map pairK).flatMap encP)) := Lib.hid (fun o => by
        have h := O3.out
        unfold OwnPr at h
        rw [List.length_map, HNF.out] at h
        exact row_below12 h ((Below.refl _ _).alloc (Nat.le_refl _) o) (Nat.le_refl _))
      have OU3 : Hid (Out (fun b => b = mb) w w3) := Lib.hid (OU.out.trans (oy.trans o3 (fun _ _ e => e)) (fun _ _ e => e))
      have hxw : w3.heap[w.heap.size]? = some (.cells #[.int .i64 p0, .int .i64 p1] 62 (0, 0)) := by
        rw [o3.block _ yl hne, BY.out.block _ (Nat.lt_of_lt_of_le (Array.getElem?_eq_some_iff.1 X.out).1 BX.out.size), BX.out.block _ (Array.getElem?_eq_some_iff.1 X.out).1]
        exact X.out
      have X3 := Lib.hid hxw
      have hw3 : w.heap.size ≤ w3.heap.size := OU3.out.size
      clear o3 oy hne hne2 hgy oY oN hxw y0 y1 yl hy0 hy1 s3 g3 r3 hg2
      go_upto_region 8 with (at_builtin; refine wpList_append_fresh rfl (.tmp 35) (.tmp 37) 59 rfl (w.heap.size + 1) 62 i0 (.agg #[.int .i64 0, .int .i64 0]) 2 16 Tryd.underlying59 hi hz0 hz1 hz2 rfl (by decide) (.slice ao nf co) nf ((f.map pairK).flatMap encP) rfl (OA.out _) ⟨w3.heap.size, 0, none⟩ 1 1 [.int .i64 p0, .int .i64 p1] rfl rfl (newsP12 _ _ _ _ 62 (heap_alloc_new w3 _)) (onePr12 _ _) (by unfold maxLen; omega) (by omega) (by simp; omega) ?_; intro v5 w5 hown hgrow hfr)
      have o5 : Out (fun b => (Value.slice ao nf co).ownBlock = some b) w3 w5 := ((Out.refl _ _).alloc _).grown hgrow (fun _ _ e => e)
      have hrow : ∀ b, (Value.slice ao nf co).ownBlock = some b → w.heap.size + 1 ≤ b ∧ b < wr.heap.size := fun b hb => World.ownsRow.lt O.out b hb
      have n1 : ¬ (Value.slice ao nf co).ownBlock = some w.heap.size := fun e => by have := (hrow _ e).1; omega
      have n2 : ¬ (Value.slice ao nf co).ownBlock = some w2.heap.size := fun e => by have := (hrow _ e).2; omega
      have n3 : ¬ (Value.slice ao nf co).ownBlock = some mb := fun e => by have := (hrow _ e).1; omega
      have V5 : Hid (OwnPr 62 w5 (w.heap.size + 1) v5 ((f ++ [cur]).map pairK)) := Lib.hid (by
        rw [List.map_append, List.map_cons, List.map_nil, HP.out]
        refine OwnPr.more (n := nf) (by rw [List.length_map]; exact HNF.out) ?_
        rw [PE.out.1, PE.out.2]
        exact hown)
      obtain ⟨a5, c5, e5⟩ := row_form12 hown
      subst e5
      have v5 : ∀ b, (Value.slice a5 (nf + 1) c5).ownBlock = some b → w.heap.size + 1 ≤ b := fun b hb => (World.ownsRow.lt V5.out b hb).1
      have S5 : Hid (SetAt w5 mb ((met ++ (f ++ [cur])).map pairK)) := Lib.hid (by
        rw [← List.append_assoc, List.map_append, List.map_cons, List.map_nil, HP.out]
        exact S3.out.blk (o5.block mb S3.out.lt n3))
      have q0 := (o5.cell (b := w2.heap.size) 0 zl n2).trans z0
      have q1 := (o5.cell (b := w2.heap.size) 1 zl n2).trans z1
      have ql := Nat.lt_of_lt_of_le zl o5.size
      have X5 := (o5.block w.heap.size xl n1).trans X3.out
      have xl5 := Nat.lt_of_lt_of_le xl o5.size
      have xf0 : w5.frozen? ⟨w.heap.size, 0, none⟩ = false := by simp [World.frozen?, X5]
      have xf1 : w5.frozen? ⟨w.heap.size, 1, none⟩ = false := by simp [World.frozen?, X5]
      have x50 : w5.cell? ⟨w.heap.size, 0, none⟩ = some (.int .i64 p0) := by simp [World.cell?, X5]
      have x51 : w5.cell? ⟨w.heap.size, 1, none⟩ = some (.int .i64 p1) := by simp [World.cell?, X5]
      have OU5 : Hid (Out (fun b => b = mb) w w5) := Lib.hid (OU3.out.trans o5 (fun i hi e => by have := (hrow i e).1; omega))
      have XX := Lib.hid X5
      have VB := Lib.hid v5
      clear o5 hrow n1 n2 n3 hown hgrow hfr x0 x1 xl z0 z1 zl X5 v5
      go_wp2_with fail
      go_roundw
      case rel =>
        refine ⟨f ++ [cur], behK L cur, ?_, beh_dart HC.out (chk_good.1 H0.out).2, ?_, ?_, ?_, ?_, ?_⟩
        · rw [← List.append_assoc, List.append_assoc f, List.singleton_append, ← OS.out]; exact HT2.out
        · rw [← List.append_assoc]; exact MM.out
        · have o7 : Out (fun b => b = w.heap.size) w5 ((w5.setCell ⟨w.heap.size, 0, none⟩ (.int .i64 q.1)).setCell ⟨w.heap.size, 1, none⟩ (.int .i64 q.2)) := ((Out.refl _ _).setIn _ _).setIn _ _
          exact ownsRow_out V5.out o7 (fun b hb e => by have := VB.out b hb; omega)
        · have o7 : Out (fun b => b = w.heap.size) w5 ((w5.setCell ⟨w.heap.size, 0, none⟩ (.int .i64 q.1)).setCell ⟨w.heap.size, 1, none⟩ (.int .i64 q.2)) := ((Out.refl _ _).setIn _ _).setIn _ _
          exact S5.out.blk (o7.block mb S5.out.lt (by omega))
        · rw [HQ.out]
          have h1 := heap_setCell_at (w := w5) XX.out 0 (.int .i64 q.1)
          rw [heap_setCell_at h1]
          rfl
        · exact (OU5.out.setCell (p := ⟨w.heap.size, 0, none⟩) (fun h => absurd h (Nat.lt_irrefl _)) _).setCell (p := ⟨w.heap.size, 1, none⟩) (fun h => absurd h (Nat.lt_irrefl _)) _
      case measure => (simp [lenV]; omega)
set_option maxHeartbeats 8000000 in
set_option maxRecDepth 100000 in
/-- From what is no dart. -/
theorem gatherNo {w wg : World} {L : List Int} {n mb k : Nat} {met : List Nat} {gv : Value} (hn : n ≤ 100000) (hB : BhAt L n gv wg) (hw : Below wg.heap.size wg w)
    (hs : SetAt w mb (met.map pairK)) (hk4 : k < 4 * n) (hk : nxK L k = -1) :
    Calls Tryd.prog 33 #[gv, .agg #[.int .i64 (pairK k).1, .int .i64 (pairK k).2], .map (some mb)] w (GatP n mb met [] w) := by
  have ok : okQ L n (pairK k) = false := by
    unfold okQ
    have := step_free (L := L) (n := n) (a := k / 4) (e := k % 4) hk
    show (_ && stepB L n ((k / 4 : Nat) : Int) ((k % 4 : Nat) : Int)) = false
    rw [this, Bool.and_false]
  have BHQ : Hid (bhQ L n (pairK k) = (0, 0) ∧ okQ L n (pairK k) = false) := Lib.hid ⟨by unfold bhQ; rw [if_neg (by rw [ok]; decide)], ok⟩
  have HB := Lib.hid hB
  have HS := Lib.hid hs
  have HW := Lib.hid hw
  have WF := Lib.hid (wfPair hn hk4)
  obtain ⟨p, hp⟩ : ∃ p, pairK k = p := ⟨_, rfl⟩
  rw [hp] at WF BHQ ⊢
  obtain ⟨t, ht⟩ : ∃ t, trQ L n p = t := ⟨_, rfl⟩
  have TQ := Lib.hid ht
  obtain ⟨p0, hp0⟩ : ∃ z, p.1 = z := ⟨_, rfl⟩
  obtain ⟨p1, hp1⟩ : ∃ z, p.2 = z := ⟨_, rfl⟩
  have PE := Lib.hid (And.intro hp0 hp1)
  rw [hp0, hp1]
  clear hB hw hs hk hk4 ok hp ht hp0 hp1
  go_enter Tryd.func33, Tryd.ntmps33
  go_upto_region 1 with (fail)
  obtain ⟨wb, hwb⟩ : ∃ X, X = (w.alloc (.cells #[.int .i64 p0, .int .i64 p1] 62)) := ⟨_, rfl⟩
  have bb : Below w.heap.size w wb := by rw [hwb]; exact (Below.refl _ _).alloc (Nat.le_refl _) _
  have hx0 : wb.cell? ⟨w.heap.size, 0, none⟩ = some (.int .i64 p0) := by rw [hwb]; go_simp
  have hx1 : wb.cell? ⟨w.heap.size, 1, none⟩ = some (.int .i64 p1) := by rw [hwb]; go_simp
  have hxl : w.heap.size < wb.heap.size := by rw [hwb]; simp
  have BB := Lib.hid bb
  rw [← hwb]
  clear hwb bb
  go_wp2_with fail
  refine wp_loop_rounds 1 ?_
  rw [rounds_succ]
  go_upto_region 3 with (go_at_call 34; have hb := HB.out _ (HW.out.trans (BB.out.mono HW.out.size)) p; rw [BHQ.out.1, BHQ.out.2, PE.out.1, PE.out.2, TQ.out] at hb; refine hb.mono ?_; rintro e w2 ⟨rfl, b2⟩; have B2 := Lib.hid b2; clear b2 hb)
  obtain ⟨wx, hwx⟩ : ∃ X, X = (w2.alloc (.cells #[.int .i64 0, .int .i64 0] 62)) := ⟨_, rfl⟩
  have bx : Below wb.heap.size wb wx := by rw [hwx]; exact B2.out.alloc B2.out.size _
  have x0 := (bx.cell (p := ⟨w.heap.size, 0, none⟩) hxl).trans hx0
  have x1 := (bx.cell (p := ⟨w.heap.size, 1, none⟩) hxl).trans hx1
  have xl := Nat.lt_of_lt_of_le hxl bx.size
  have BX := Lib.hid (BB.out.trans (bx.mono BB.out.size))
  rw [← hwx]
  have SX : Hid (SetAt wx mb (met.map pairK)) := Lib.hid (HS.out.below BX.out (Nat.le_refl _))
  have lk := SX.out.look WF.out
  rw [PE.out.1, PE.out.2] at lk
  obtain ⟨u, hu⟩ : ∃ u, decide (p ∈ met.map pairK) = u := ⟨_, rfl⟩
  rw [hu] at lk
  clear hwx bx hx0 hx1 hxl hu
  cases u
  all_goals
    go_wp2_with fail
    go_ret
    refine ⟨none, 0, rfl, OwnPr.nil _ _ _, ?_, Out.ofBelow (BX.out.alloc BX.out.size _), by simp⟩
    rw [List.append_nil]
    exact SX.out.below ((Below.refl _ _).alloc (Nat.le_refl _) _) (Nat.le_refl _)
end Go.Proofs.YtkakeakdgidigaaDoor

namespace Go.Proofs.YtkakeakdgidigaaDoor
open Go.RowKit Go.Maps Go.Proofs.YtkakeakdgidigaaDoor.GrM Go.Proofs.YtkakeakdgidigaaDoor.FcM

def pairF (F : List (List Nat)) : List (List (Int × Int)) := F.map (·.map pairK)
theorem pairF_len (F : List (List Nat)) : (pairF F).length = F.length := List.length_map ..
theorem pairF_more (F : List (List Nat)) (f : List Nat) : pairF (F ++ [f]) = pairF F ++ [f.map pairK] := by unfold pairF; rw [List.map_append]; rfl
theorem facs_len (L : List Int) (n : Nat) : ∀ j, (facS L n j).length ≤ j
  | 0 => Nat.le_refl _
  | j + 1 => by
    have := facs_len L n j
    rw [facS]
    split
    · omega
    · rw [List.length_append]; simp only [List.length_singleton]; omega
abbrev tyO12 : TypeId := 59
abbrev tyI12 : TypeId := 62
/-- What is true of memory when so many darts were tried. -/
structure FsR (L : List Int) (n mb j : Nat) (w0 wr : World) (fv : Value) : Prop where
  row : OwnFc tyO12 tyI12 wr (mb + 1) fv (pairF (facS L n j)) (facS L n j).length
  met : SetAt wr mb ((facS L n j).flatten.map pairK)
  bel : Below mb w0 wr
def FsO (L : List Int) (n mb : Nat) (w0 wr : World) (fv iv : Value) : Prop := ∃ v : Nat, iv = .int .i64 v ∧ v ≤ n ∧ FsR L n mb (4 * v) w0 wr fv
def FsI (L : List Int) (n mb v : Nat) (w0 wr : World) (fv iv : Value) : Prop := ∃ d : Nat, iv = .int .i64 d ∧ d ≤ 4 ∧ FsR L n mb (4 * v + d) w0 wr fv
def FacesP (L : List Int) (n : Nat) (w : World) (e : Ending) (w' : World) : Prop :=
  ∃ A c, e = .returned (.tuple #[.slice A (facesK L n).length c, .int .i64 0]) ∧ OwnFc tyO12 tyI12 w' w.heap.size (.slice A (facesK L n).length c) (pairF (facesK L n)) (facesK L n).length ∧ Below w.heap.size w w'
theorem infoO12 : (Tryd.prog.info? 59).map (fun i => (i.zero, i.size, i.bytes)) = some (some (.slice none 0 0), 1, 24) := by kernel_rfl
theorem newsS12 (w : World) (g : Nat) (x : Value) (T : TypeId) (h : w.heap[g]? = some (.cells #[x] T (0, 0))) : ∀ j z, [x][j]? = some z → w.cell? ((⟨g, 0, none⟩ : Addr).add j) = some z := by
  intro j z hz
  match j with
  | 0 =>
    simp only [List.getElem?_cons_zero, Option.some.injEq] at hz
    subst hz
    rw [show (⟨g, 0, none⟩ : Addr).add 0 = ⟨g, 0, none⟩ by unfold Addr.add; split <;> simp_all]
    simp [World.cell?, h]
  | j + 1 => simp at hz
theorem FsR.same {L : List Int} {n mb j : Nat} {w0 w w' : World} {fv : Value} (h : FsR L n mb j w0 w fv) (b : Below w.heap.size w w') (hm : mb ≤ w.heap.size) : FsR L n mb j w0 w' fv :=
  ⟨h.row.below b (Nat.le_refl _), h.met.below b (Nat.le_refl _), h.bel.trans (b.mono hm)⟩
/-- A dart that is none, or was met. -/
theorem FsR.skip {L : List Int} {n mb j : Nat} {w0 w w' : World} {fv : Value} (h : FsR L n mb j w0 w fv) (hc : nxK L j = -1 ∨ j ∈ (facS L n j).flatten) (hs : SetAt w' mb (((facS L n j).flatten ++ []).map pairK)) (o : Out (fun b => b = mb) w w') (hm : mb ≤ w.heap.size) : FsR L n mb (j + 1) w0 w' fv := by
  have e : facS L n (j + 1) = facS L n j := by rw [facS, if_pos hc]
  rw [List.append_nil] at hs
  refine ⟨?_, ?_, h.bel.trans (o.below hm (fun i _ e => by subst e; exact Nat.le_refl _))⟩
  · rw [e]; exact h.row.out o (fun b h1 _ h3 => by omega)
  · rw [e]; exact hs
/-- A face more. -/
theorem FsR.face {L : List Int} {n mb j : Nat} {w0 w w' w5 : World} {fv v5 s : Value} {f : List Nat} (h : FsR L n mb j w0 w fv) (h1 : nxK L j ≠ -1) (h2 : j ∉ (facS L n j).flatten) (hf : orb L (4 * n - (facS L n j).flatten.length) (facS L n j).flatten j = f)
    (hs : SetAt w' mb (((facS L n j).flatten ++ f).map pairK)) (o : Out (fun b => b = mb) w w') (hm : mb < w.heap.size) (hr : OwnPr tyI12 w' w.heap.size s (f.map pairK))
    {S : List Value} (hS : w'.ownsRow (mb + 1) tyO12 1 fv (facS L n j).length S) (hk : ∀ k, k < (facS L n j).length → ∃ s, S[k]? = some s ∧ OwnPr tyI12 w' (mb + 1) s ((pairF (facS L n j)).getD k []))
    (hown : w5.ownsRow (mb + 1) tyO12 1 v5 ((facS L n j).length + 1) (S ++ [s])) (ob : Obj) (hgrow : (w'.alloc ob).grownBy w5 fv.ownBlock) : FsR L n mb (j + 1) w0 w5 v5 := by
  have e : facS L n (j + 1) = facS L n j ++ [f] := by rw [facS, if_neg (fun e => e.elim h1 h2), hf]
  have ba : Below w'.heap.size w' (w'.alloc ob) := (Below.refl _ _).alloc (Nat.le_refl _) _
  have hsm : mb < w'.heap.size := Nat.lt_of_lt_of_le hm o.size
  have og : Out (fun b => fv.ownBlock = some b) (w'.alloc ob) w5 := (Out.refl _ _).grown hgrow (fun _ _ e => e)
  have hlt := fun b hb => World.ownsRow.lt hS b hb
  refine ⟨?_, ?_, ?_⟩
  · rw [e, pairF_more, List.length_append]
    exact OwnFc.more (To := tyO12) (Ti := tyI12) (w := w'.alloc ob) (by decide) (pairF_len _) (row_below12 hS ba (Nat.le_refl _)) (fun k hkk => let ⟨s, a, b⟩ := hk k hkk; ⟨s, a, b.below ba (Nat.le_refl _)⟩) ((hr.base (by omega)).below ba (Nat.le_refl _)) hown hgrow
  · rw [e, List.flatten_append, List.flatten_cons, List.flatten_nil, List.append_nil]
    exact (hs.below ba (Nat.le_refl _)).blk (og.block mb (by simp; omega) (fun e => by have := (hlt _ e).1; omega))
  · have b1 := h.bel.trans (o.below (Nat.le_of_lt hm) (fun i _ e => by subst e; exact Nat.le_refl _))
    have b2 := b1.trans (ba.mono (Nat.le_of_lt hsm))
    exact b2.grown hgrow (by simp; omega) (fun q hq => by have := (hlt q hq).1; omega)
set_option maxHeartbeats 8000000 in
theorem facesBad (lv : Value) (L : List Int) (n : Nat) (w : World) (hL : CelAt w lv L n) (hn : n ≤ 100000) (hT : WayT w) (h0 : chkG L n ≠ 0) :
    Calls Tryd.prog 16 #[lv] w (BhP (.tuple #[.slice none 0 0, .int .i64 (chkG L n)]) w) := by
  have OF := Lib.hid (ofAny lv L n w hL hn hT)
  have q4 : (chkG L n == 0) = false := by rw [beq_eq_false_iff_ne]; exact h0
  have q5 : (chkG L n != 0) = true := by rw [bne, q4]; rfl
  unfold OfAny at OF
  generalize chkG L n = cv at *
  clear h0 hL hT
  go_enter Tryd.func16, Tryd.ntmps16
  go_wp2_with (go_at_call 32; refine OF.out.mono ?_; rintro e w1 ⟨gv, rfl, h1, b1⟩; have B1 := Lib.hid b1; clear h1 b1)
  go_ret2
  exact ⟨rfl, B1.out⟩
set_option maxHeartbeats 16000000 in
set_option maxRecDepth 100000 in
theorem facesGood (lv : Value) (L : List Int) (n : Nat) (w : World) (hL : CelAt w lv L n) (hn : n ≤ 100000) (hT : WayT w) (h0 : chkG L n = 0) :
    Calls Tryd.prog 16 #[lv] w (FacesP L n w) := by
  obtain ⟨i0, hi, hz0, hz1, hz2⟩ := info_parts infoO12
  have OF := ofAny lv L n w hL hn hT
  unfold OfAny at OF
  rw [h0] at OF
  have HO := Lib.hid OF
  have HL := Lib.hid hL
  have H0 := Lib.hid h0
  have hmm := @run_makeMap Tryd.prog
  obtain ⟨A0, c0, e⟩ := hL.form
  subst e
  clear OF hL hT h0
  go_enter Tryd.func16, Tryd.ntmps16
  go_upto_region 2 with (go_at_call 32; refine HO.out.mono ?_; rintro e w1 ⟨gv, rfl, h1, b1⟩; have H1 := Lib.hid h1; have B1 := Lib.hid b1; clear h1 b1)
  go_wp2_with fail
  clear hmm
  obtain ⟨mb, hmb⟩ : ∃ m, w1.heap.size = m := ⟨_, rfl⟩
  have HMB := Lib.hid hmb
  have S0 : Hid (SetAt (w1.alloc (.map #[] 0)) mb []) := Lib.hid (by rw [← hmb]; exact SetAt.made w1)
  have hwm : w.heap.size ≤ mb := by rw [← hmb]; exact B1.out.size
  have BG : Hid (∀ wr, Below mb w1 wr → Below w1.heap.size w1 wr) := Lib.hid (fun wr b => by rw [hmb]; exact b)
  rw [hmb]
  clear hmb
  go_loopw [6, 23] (fun fv iv wr => FsO L n mb w1 wr fv iv) (fun _ iv _ => n - (intOf iv).toNat)
  case atStart => exact ⟨0, rfl, Nat.zero_le _, ⟨OwnFc.nil _ _ _ _, S0.out, (Below.refl _ _).alloc (by rw [HMB.out]; exact Nat.le_refl _) _⟩⟩
  case round =>
    clear S0
    obtain ⟨v, rfl, hv, hR⟩ := hrel
    have R := Lib.hid hR
    obtain ⟨ao, co, e⟩ := hR.row.form
    have hml := hR.met.lt
    have hBw := hR.bel
    obtain ⟨wo, hwo⟩ : ∃ W, W = wr := ⟨_, rfl⟩
    subst hwo
    subst e
    clear hR
    by_cases hlt : v < n
    · have q0 : decide (v < n) = true := decide_eq_true hlt
      obtain ⟨b, o9, c', e, hb, hx, hy⟩ := HL.out.nth hlt
      simp only [Value.slice.injEq, true_and] at e
      obtain ⟨rfl, rfl⟩ := e
      have hb2 := B1.out.trans (BG.out _ hBw |>.mono B1.out.size)
      have f0 : wo.cell? ⟨b, o9 + v * 8, none⟩ = some (.int .i64 (nxG L v 0)) := (hb2.cell (p := ⟨b, o9 + v * 8 + 0, none⟩) hb).trans (hx 0 (by decide))
      have f1 : wo.cell? ⟨b, o9 + v * 8 + 1, none⟩ = some (.int .i64 (nxG L v 1)) := (hb2.cell (p := ⟨b, o9 + v * 8 + 1, none⟩) hb).trans (hx 1 (by decide))
      have f2 : wo.cell? ⟨b, o9 + v * 8 + 2, none⟩ = some (.int .i64 (nxG L v 2)) := (hb2.cell (p := ⟨b, o9 + v * 8 + 2, none⟩) hb).trans (hx 2 (by decide))
      have f3 : wo.cell? ⟨b, o9 + v * 8 + 3, none⟩ = some (.int .i64 (nxG L v 3)) := (hb2.cell (p := ⟨b, o9 + v * 8 + 3, none⟩) hb).trans (hx 3 (by decide))
      have f4 : wo.cell? ⟨b, o9 + v * 8 + 4, none⟩ = some (.int .i64 (owG L v 0)) := (hb2.cell (p := ⟨b, o9 + v * 8 + 4 + 0, none⟩) hb).trans (hy 0 (by decide))
      have f5 : wo.cell? ⟨b, o9 + v * 8 + 5, none⟩ = some (.int .i64 (owG L v 1)) := (hb2.cell (p := ⟨b, o9 + v * 8 + 4 + 1, none⟩) hb).trans (hy 1 (by decide))
      have f6 : wo.cell? ⟨b, o9 + v * 8 + 6, none⟩ = some (.int .i64 (owG L v 2)) := (hb2.cell (p := ⟨b, o9 + v * 8 + 4 + 2, none⟩) hb).trans (hy 2 (by decide))
      have f7 : wo.cell? ⟨b, o9 + v * 8 + 7, none⟩ = some (.int .i64 (owG L v 3)) := (hb2.cell (p := ⟨b, o9 + v * 8 + 4 + 3, none⟩) hb).trans (hy 3 (by decide))
      have z1 := Nat.lt_of_lt_of_le hb hb2.size
      obtain ⟨y0, hy0⟩ : ∃ y, nxG L v 0 = y := ⟨_, rfl⟩
      obtain ⟨y1, hy1⟩ : ∃ y, nxG L v 1 = y := ⟨_, rfl⟩
      obtain ⟨y2, hy2⟩ : ∃ y, nxG L v 2 = y := ⟨_, rfl⟩
      obtain ⟨y3, hy3⟩ : ∃ y, nxG L v 3 = y := ⟨_, rfl⟩
      rw [hy0] at f0
      rw [hy1] at f1
      rw [hy2] at f2
      rw [hy3] at f3
      generalize owG L v 0 = y4 at *
      generalize owG L v 1 = y5 at *
      generalize owG L v 2 = y6 at *
      generalize owG L v 3 = y7 at *
      clear hx hy hy0 hy1 hy2 hy3 hb2 hBw
      go_wp2_with fail
      clear f0 f1 f2 f3 f4 f5 f6 f7 z1
      go_loopw [6, 28] (fun fv iv wr => FsI L n mb v w1 wr fv iv) (fun _ iv _ => 4 - (intOf iv).toNat)
      case atStart => exact ⟨0, rfl, Nat.zero_le _, R.out.same ((Below.refl _ _).alloc (Nat.le_refl _) _) (Nat.le_of_lt hml)⟩
      case round =>
        clear R hml
        obtain ⟨d, rfl, hd, hR⟩ := hrel
        have R := Lib.hid hR
        obtain ⟨ai, ci, e⟩ := hR.row.form
        have hml := hR.met.lt
        subst e
        clear hR
        by_cases hd4 : d < 4
        · have q1 : decide (d < 4) = true := decide_eq_true hd4
          have q2 : decide ((d : Int) < 4) = true := decide_eq_true (by omega)
          obtain ⟨k, hk⟩ : ∃ k, 4 * v + d = k := ⟨_, rfl⟩
          have hk4 : k < 4 * n := by omega
          have hkn : 4 * v + (d + 1) = k + 1 := by omega
          have HKN := Lib.hid hkn
          have pk : (pairK k).1 = (v : Int) ∧ (pairK k).2 = (d : Int) := by unfold pairK; constructor <;> (simp only; omega)
          rw [hk] at R ⊢
          have FI := facs_is (chk_good.1 H0.out).2 k (by omega)
          clear hk hkn
          by_cases hskip : nxK L k = -1 ∨ k ∈ (facS L n k).flatten
          · have GA : Calls Tryd.prog 33 #[gv, .agg #[.int .i64 v, .int .i64 d], .map (some mb)] wr (GatP n mb (facS L n k).flatten [] wr) := by
              rw [← pk.1, ← pk.2]
              by_cases h1 : nxK L k = -1
              · exact gatherNo hn H1.out (BG.out _ R.out.bel) R.out.met hk4 h1
              · have h2 := hskip.resolve_left h1
                have := gatherYes hn H0.out H1.out (BG.out _ R.out.bel) (by rw [HMB.out]; exact Nat.le_refl _) FI.met R.out.met ⟨hk4, h1⟩
                rw [orb_in h2] at this
                exact this
            have HGA := Lib.hid GA
            have HSK := Lib.hid hskip
            clear GA hskip FI pk hk4
            go_wp2_with (go_at_call 33; refine HGA.out.mono ?_; rintro e w3 ⟨A3, c3, rfl, o3, s3, u3, l3⟩; have R3 := Lib.hid (R.out.skip HSK.out s3 u3 (Nat.le_of_lt hml)); clear o3 s3 u3 l3)
            go_roundw
            case rel => exact ⟨d + 1, by go_num, by omega, by rw [HKN.out]; exact R3.out⟩
            case measure => (simp [intOf] <;> omega)
          · have h1 : nxK L k ≠ -1 := fun e => hskip (Or.inl e)
            have h2 : k ∉ (facS L n k).flatten := fun e => hskip (Or.inr e)
            have GA := gatherYes hn H0.out H1.out (BG.out _ R.out.bel) (by rw [HMB.out]; exact Nat.le_refl _) FI.met R.out.met ⟨hk4, h1⟩
            have hne := (orb_cyc (chk_good.1 H0.out).2 FI.met (facs_shut FI.cyc) ⟨hk4, h1⟩ h2).2.1.1
            rw [pk.1, pk.2] at GA
            obtain ⟨f, hf⟩ : ∃ f, orb L (4 * n - (facS L n k).flatten.length) (facS L n k).flatten k = f := ⟨_, rfl⟩
            rw [hf] at GA hne
            obtain ⟨m, hm⟩ : ∃ m, f.length = m := ⟨_, rfl⟩
            have hm0 : 0 < m := by
              rw [← hm]
              exact Nat.pos_of_ne_zero (fun e => hne (List.eq_nil_of_length_eq_zero e))
            have q3 : decide (0 < m) = true := decide_eq_true hm0
            have q4 : decide (0 < (m : Int)) = true := decide_eq_true (by omega)
            have HM := Lib.hid hm
            have HF := Lib.hid hf
            have HN1 := Lib.hid (And.intro h1 h2)
            unfold GatP at GA
            rw [hm] at GA
            have HGA := Lib.hid GA
            have hfl := facs_len L n k
            obtain ⟨nf, hnf⟩ : ∃ x, (facS L n k).length = x := ⟨_, rfl⟩
            have HNF := Lib.hid hnf
            rw [hnf] at hfl
            rw [hnf]
            clear GA hskip FI pk h1 h2 hm hf hnf hne
            go_upto_region 14 with (go_at_call 33; refine HGA.out.mono ?_; rintro e w3 ⟨A3, c3, rfl, o3, s3, u3, -⟩; have O3 := Lib.hid o3; have S3 := Lib.hid s3; have U3 := Lib.hid u3; clear o3 s3 u3)
            obtain ⟨-, S, hS, hkS⟩ := R.out.row.out U3.out (fun b h1 _ h3 => by omega)
            have RS := Lib.hid hS
            have KS := Lib.hid hkS
            have hrw : mb < w3.heap.size := Nat.lt_of_lt_of_le hml U3.out.size
            have OA : Hid (∀ o, (w3.alloc o).ownsRow (mb + 1) tyO12 1 (.slice ai nf ci) nf S) := Lib.hid (fun o => by
              have h := RS.out
              rw [HNF.out] at h
              exact row_below12 h ((Below.refl _ _).alloc (Nat.le_refl _) o) (Nat.le_refl _))
            clear hS hkS
            go_wp2_with (at_builtin; refine wpList_append_fresh rfl (.tmp 40) (.tmp 42) 55 rfl (mb + 1) tyO12 i0 (.slice none 0 0) 1 24 Tryd.underlying55 hi hz0 hz1 hz2 rfl (by decide) (.slice ai nf ci) nf S rfl (OA.out _) ⟨w3.heap.size, 0, none⟩ 1 1 [.slice A3 m c3] rfl rfl (newsS12 _ _ _ 59 (heap_alloc_new w3 _)) (fun u hu => by obtain rfl := List.mem_singleton.1 hu; rfl) (by unfold maxLen; omega) (by omega) (by simp; omega) ?_; intro v5 w5 hown hgrow hfr)
            have R5 : Hid (FsR L n mb (k + 1) w1 w5 v5) := Lib.hid (by
              have h := R.out
              refine h.face HN1.out.1 HN1.out.2 HF.out S3.out U3.out hml O3.out RS.out KS.out ?_ (.cells #[.slice A3 m c3] 59) ?_
              · rw [HNF.out]; exact hown
              · rw [HNF.out]; exact hgrow)
            clear hown hgrow hfr
            go_roundw
            case rel => exact ⟨d + 1, by go_num, by omega, by rw [HKN.out]; exact R5.out⟩
            case measure => (simp [intOf] <;> omega)
        · have hd5 : d = 4 := by omega
          subst hd5
          have q1 : decide (4 < 4) = false := by decide
          go_wp2_with fail
          go_roundw
          case rel => exact ⟨v + 1, by go_num, by omega, by rw [show 4 * (v + 1) = 4 * v + 4 by omega]; exact R.out⟩
          case measure => (simp [intOf] <;> omega)
    · have hvn : v = n := by omega
      subst hvn
      have q0 : decide (v < v) = false := decide_eq_false hlt
      go_wp2_with fail
      go_ret2
      have h := R.out
      refine ⟨ao, co, rfl, ?_, B1.out.trans (h.bel.mono hwm)⟩
      obtain ⟨hl, S, hr, hk⟩ := h.row
      exact ⟨hl, S, row_base12 hr (by omega), fun k hkk => let ⟨s, a, b⟩ := hk k hkk; ⟨s, a, b.base (by omega)⟩⟩
end Go.Proofs.YtkakeakdgidigaaDoor
