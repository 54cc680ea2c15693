/-
  What the reference's Count answers. Conditions: at most 4096 vertices, edges and bends; edges of directions.
-/
import Derived.Test.YtecifgaekefkpaaDoorNmA
import Derived.LoopN
namespace Go.Proofs.YtecifgaekefkpaaDoor
open Go.RowKit Go.Proofs.YtecifgaekefkpaaDoor.LexM Go.Proofs.YtecifgaekefkpaaDoor.ParM Go.Proofs.YtecifgaekefkpaaDoor.GrM Go.Proofs.YtecifgaekefkpaaDoor.NmM

/-- A shape in a box of its own. -/
def ShB (w : World) (xb : Nat) (bv ev : Value) : Prop := w.heap[xb]? = some (.cells #[bv, ev] 29 (0, 0))
theorem ShB.lt {w : World} {xb : Nat} {bv ev : Value} (h : ShB w xb bv ev) : xb < w.heap.size := (Array.getElem?_eq_some_iff.1 h).1
theorem ShB.at_ {w : World} {xb : Nat} {bv ev : Value} (h : ShB w xb bv ev) : w.cell? ⟨xb, 0, none⟩ = some bv ∧ w.cell? ⟨xb, 1, none⟩ = some ev := by
  unfold ShB at h
  exact ⟨by simp [World.cell?, h], by simp [World.cell?, h]⟩
theorem ShB.below {w w' : World} {xb C : Nat} {bv ev : Value} (h : ShB w xb bv ev) (b : Below C w w') (hC : w.heap.size ≤ C) : ShB w' xb bv ev := (b.block _ (Nat.lt_of_lt_of_le h.lt hC)).trans h
theorem BlsAt.one {w : World} {A : Option Addr} {n c : Nat} {B : List Bool} (h : BlsAt w (.slice A n c) B) {k : Nat} (hk : k < B.length) : ∃ b o, A = some ⟨b, o, none⟩ ∧ b < w.heap.size ∧ w.cell? ⟨b, o + k, none⟩ = some (.bool (B.getD k false)) := by
  obtain ⟨A', cap, e, hc, hA⟩ := h
  simp only [Value.slice.injEq] at e
  obtain ⟨rfl, _, _⟩ := e
  obtain ⟨b, o, rfl, hb, hcell⟩ := hA (by omega)
  refine ⟨b, o, rfl, hb, ?_⟩
  rw [hcell k hk, List.getD_eq_getElem?_getD, List.getElem?_eq_getElem hk]; rfl
theorem EdsAt.one {w : World} {A : Option Addr} {n c : Nat} {E : List Edg} (h : EdsAt w (.slice A n c) E) {k : Nat} (hk : k < E.length) : ∃ b o, A = some ⟨b, o, none⟩ ∧ b < w.heap.size ∧
    w.cell? ⟨b, o + k * 4, none⟩ = some (.int .i64 E[k].1) ∧ w.cell? ⟨b, o + k * 4 + 1, none⟩ = some (.int .i64 E[k].2.1) ∧ w.cell? ⟨b, o + k * 4 + 2, none⟩ = some (.int .i64 E[k].2.2.1) ∧ w.cell? ⟨b, o + k * 4 + 3, none⟩ = some (.string (bs E[k].2.2.2)) := by
  obtain ⟨A', cap, e, hc, hA⟩ := h
  simp only [Value.slice.injEq] at e
  obtain ⟨rfl, _, _⟩ := e
  obtain ⟨b, o, rfl, hb, hcell⟩ := hA (by omega)
  exact ⟨b, o, rfl, hb, hcell k hk⟩
theorem sidesK_mono {E : List Edg} {v : Int} {d e : Nat} (h : d ≤ e) : sidesK E v d ≤ sidesK E v e := by
  induction e with
  | zero => have : d = 0 := by omega
            subst this; exact Nat.le_refl _
  | succ e ih =>
    by_cases hd : d = e + 1
    · subst hd; exact Nat.le_refl _
    · have := ih (by omega)
      rw [sidesK]
      omega
def CnV (B : List Bool) (E : List Edg) (nB : Nat) (wb wr : World) (nv iv : Value) : Prop := ∃ k : Nat, iv = .int .i64 k ∧ k ≤ nB ∧ nv = .int .i64 (cntV B E k : Nat) ∧ Below wb.heap.size wb wr
def CnD (B : List Bool) (E : List Edg) (k : Nat) (wb wr : World) (nv dv : Value) : Prop := ∃ d q : Nat, dv = .int .i64 d ∧ d ≤ 4 ∧ nv = .int .i64 q ∧ q = cntV B E k + 1 + sidesK E (k : Int) d ∧ Below wb.heap.size wb wr
def CnE (B : List Bool) (E : List Edg) (nE : Nat) (wb wr : World) (nv iv : Value) : Prop := ∃ k q : Nat, iv = .int .i64 k ∧ k ≤ nE ∧ nv = .int .i64 q ∧ q = cntV B E B.length + bendsOf (E.take k) ∧ Below wb.heap.size wb wr
set_option maxHeartbeats 16000000 in
set_option maxRecDepth 100000 in
theorem refCount (bv ev : Value) (B : List Bool) (E : List Edg) (w : World) (hB : BlsAt w bv B) (hE : EdsAt w ev E) (hbl : B.length ≤ 4096) (hl : E.length ≤ 4096) (hok : OkEs E) (hbe : bendsOf E ≤ 4096) :
    Calls Tryd.prog 24 #[.agg #[bv, ev]] w fun r w' => r = .returned (.int .i64 (cntN B E : Nat)) ∧ Below w.heap.size w w' := by
  have HB := Lib.hid hB
  have HE := Lib.hid hE
  have HK := Lib.hid hok
  obtain ⟨nB, hnB⟩ : ∃ n, B.length = n := ⟨_, rfl⟩
  obtain ⟨nE, hnE⟩ : ∃ n, E.length = n := ⟨_, rfl⟩
  obtain ⟨AB, cB, e⟩ := hB.form
  subst e
  obtain ⟨AE, cE, e⟩ := hE.form
  subst e
  have ON := Lib.hid (fun (v d : Int) w1 (b : Below w.heap.size w w1) => refOn (.slice AB B.length cB) _ E v d w1 (hE.below b (Nat.le_refl _)) hl hok)
  rw [hnB] at HB ON ⊢
  rw [hnE] at HE ON ⊢
  rw [hnB] at hbl
  rw [hnE] at hl
  have NB := Lib.hid hnB
  have NE := Lib.hid hnE
  have HBE := Lib.hid hbe
  clear hB hE hok hnB hnE hbe
  go_enter Tryd.func24, Tryd.ntmps24
  go_upto_region 1 with (fail)
  obtain ⟨wb, hwb⟩ : ∃ W, W = (w.alloc (.cells #[.slice AB nB cB, .slice AE nE cE] 29)) := ⟨_, rfl⟩
  have BB : Hid (Below w.heap.size w wb) := Lib.hid (by rw [hwb]; exact (Below.refl _ _).alloc (Nat.le_refl _) _)
  have SB : Hid (ShB wb w.heap.size (.slice AB nB cB) (.slice AE nE cE)) := Lib.hid (by rw [hwb]; exact heap_alloc_new w _)
  rw [← hwb]
  clear hwb
  go_wp2_with fail
  go_loopw [3, 4] (fun nv iv wr => CnV B E nB wb wr nv iv) (fun _ iv _ => nB - (intOf iv).toNat)
  case atStart => exact ⟨0, rfl, Nat.zero_le _, rfl, Below.refl _ _⟩
  case round =>
    obtain ⟨k, rfl, hk, rfl, hD⟩ := hrel
    have D := Lib.hid hD
    clear hD
    obtain ⟨wo, hwo⟩ : ∃ W, W = wr := ⟨_, rfl⟩
    subst hwo
    have SO := Lib.hid (SB.out.below D.out (Nat.le_refl _))
    obtain ⟨x0, x1⟩ := SO.out.at_
    have xl := SO.out.lt
    have BO := Lib.hid (BB.out.trans (D.out.mono BB.out.size))
    have hcv := cntV_le B E k
    have hkk : k * (4 + 8 * E.length) ≤ 4096 * (4 + 8 * 4096) := by
      have := NE.out
      exact Nat.mul_le_mul (by omega) (by omega)
    have hcv2 : cntV B E k ≤ 200000000 := by omega
    clear hcv hkk
    by_cases hlt : k < nB
    · have q0 : decide (k < nB) = true := decide_eq_true hlt
      have hkB : k < B.length := by have := NB.out; omega
      obtain ⟨bb, ob, rfl, hbb, y0⟩ := HB.out.one hkB
      have f0 := (BO.out.cell (p := ⟨bb, ob + k, none⟩) hbb).trans y0
      have hbw := Nat.lt_of_lt_of_le hbb BO.out.size
      have CV : Hid (cntV B E (k + 1) = cntV B E k + vtxC B E k) := Lib.hid rfl
      obtain ⟨t, ht⟩ : ∃ t, B.getD k false = t := ⟨_, rfl⟩
      have VC : Hid (vtxC B E k = if t = true then 4 + sidesK E (k : Int) 4 else 1) := Lib.hid (by unfold vtxC; rw [ht])
      rw [ht] at f0
      have hs4 := sidesK_le E (k : Int) 4
      have hsd : ∀ d, d < 4 → sidesK E (k : Int) (d + 1) = sidesK E (k : Int) d + (onL E (k : Int) (d : Int)).length := fun d _ => rfl
      have HSD := Lib.hid hsd
      have HS4 : Hid (sidesK E (k : Int) 4 ≤ 4 * (2 * 4096)) := Lib.hid (by have := NE.out; omega)
      have CV0 : Hid (CnD B E k wb wo (.int .i64 ((cntV B E k : Nat) + 1)) (.int .i64 (0 : Nat))) := Lib.hid ⟨0, cntV B E k + 1, rfl, by omega, by congr 1, rfl, D.out⟩
      have FO := Lib.hid f0
      clear ht hs4 hsd y0
      obtain ⟨q0n, hq0⟩ : ∃ q, cntV B E k = q := ⟨_, rfl⟩
      rw [hq0] at hcv2 CV CV0 ⊢
      have HQ := Lib.hid hq0
      clear hq0
      cases t
      · go_upto_region 6 with (fail)
        go_wp2_with fail
        refine wp_loop_rounds 1 ?_
        rw [rounds_succ]
        go_wp2_with fail
        go_roundw
        case rel => exact ⟨k + 1, by go_num, by omega, by rw [CV.out, VC.out, if_neg (by decide)]; go_num, D.out⟩
        case measure => (simp [intOf] <;> omega)
      · go_upto_region 6 with (fail)
        go_wp2_with fail
        go_loopw [3, 5] (fun nv dv wr => CnD B E k wb wr nv dv) (fun _ dv _ => 4 - (intOf dv).toNat)
        case atStart => exact CV0.out
        case round =>
          clear CV0
          obtain ⟨d, q, rfl, hd, rfl, hq, hD2⟩ := hrel
          have D2 := Lib.hid hD2
          have HQ2 := Lib.hid hq
          have S2 := Lib.hid (SB.out.below hD2 (Nat.le_refl _))
          clear x0 x1 xl f0 hbw
          obtain ⟨x0, x1⟩ := S2.out.at_
          have xl := S2.out.lt
          have B2 := Lib.hid (BB.out.trans (hD2.mono BB.out.size))
          have f0 : wr.cell? ⟨bb, ob + k, none⟩ = some (.bool true) := by
            have h1 := (hD2.cell (p := ⟨bb, ob + k, none⟩) (Nat.lt_of_lt_of_le hbb BB.out.size))
            have h2 := (D.out.cell (p := ⟨bb, ob + k, none⟩) (Nat.lt_of_lt_of_le hbb BB.out.size))
            rw [h1, ← h2]
            exact FO.out
          have hbw := Nat.lt_of_lt_of_le hbb B2.out.size
          have hqb : q ≤ 200000000 + 1 + 8 * 4096 := by
            have h1 := HS4.out
            have h2 : sidesK E (k : Int) d ≤ sidesK E (k : Int) 4 := sidesK_mono hd
            have h3 := HQ.out
            omega
          clear hq hD2
          by_cases hd4 : d < 4
          · have q1 : decide (d < 4) = true := decide_eq_true hd4
            have q1' : decide ((d : Int) < 4) = true := decide_eq_true (by omega)
            go_wp2_with (go_at_call 25; refine (ON.out (k : Int) (d : Int) _ B2.out).mono ?_; rintro e w5 ⟨⟨A5, c5, n5, rfl, o5, hn5⟩, b5⟩; have O5 := Lib.hid o5.1; have B5 := Lib.hid b5; clear o5 b5)
            go_roundw
            case rel => exact ⟨d + 1, q + n5, by go_num, by omega, by go_num, by rw [HSD.out d hd4, HQ2.out, O5.out]; omega, D2.out.trans (B5.out.mono D2.out.size)⟩
            case measure => (simp [intOf] <;> omega)
          · have hd5 : d = 4 := by omega
            subst hd5
            have q1 : decide (4 < 4) = false := by decide
            have E4 : Hid ((q : Int) + 3 = ((cntV B E (k + 1) : Nat) : Int)) := Lib.hid (by
              have h1 := CV.out
              have h2 := VC.out
              have h3 := HQ2.out
              have h4 := HQ.out
              rw [if_pos trivial] at h2
              omega)
            go_wp2_with fail
            go_roundw
            case rel => exact ⟨k + 1, by go_num, by omega, by rw [← E4.out], D2.out⟩
            case measure => (simp [intOf] <;> omega)
    · have hkn : k = nB := by omega
      have q0 : decide (k < nB) = false := decide_eq_false hlt
      have CB : Hid (cntV B E k = cntV B E B.length) := Lib.hid (by rw [NB.out, hkn])
      obtain ⟨q0n, hq0⟩ : ∃ q, cntV B E k = q := ⟨_, rfl⟩
      rw [hq0] at hcv2 CB ⊢
      clear hq0
      go_wp2_with fail
      go_loopw [3, 7] (fun nv iv wr => CnE B E nE wb wr nv iv) (fun _ iv _ => nE - (intOf iv).toNat)
      case atStart => exact ⟨0, q0n, rfl, Nat.zero_le _, rfl, by rw [CB.out]; simp [bendsOf], D.out⟩
      case round =>
        obtain ⟨i, q, rfl, hi, rfl, hq, hD2⟩ := hrel
        have D2 := Lib.hid hD2
        have HQ2 := Lib.hid hq
        have S2 := Lib.hid (SB.out.below hD2 (Nat.le_refl _))
        clear x0 x1 xl
        obtain ⟨x0, x1⟩ := S2.out.at_
        have xl := S2.out.lt
        have B2 := Lib.hid (BB.out.trans (hD2.mono BB.out.size))
        have hqb : q ≤ 200000000 + 4096 := by
          have h1 := bends_le E i
          have h2 := HBE.out
          have h3 := CB.out
          omega
        clear hq hD2
        by_cases hlt2 : i < nE
        · have q2 : decide (i < nE) = true := decide_eq_true hlt2
          have hiE : i < E.length := by have := NE.out; omega
          obtain ⟨be, oe, rfl, hbe2, y0, y1, y2, y3⟩ := HE.out.one hiE
          have f3 := (B2.out.cell (p := ⟨be, oe + i * 4 + 3, none⟩) hbe2).trans y3
          have hbw := Nat.lt_of_lt_of_le hbe2 B2.out.size
          have BT := Lib.hid (bends_take E i hiE)
          have hsz := bs_size E[i].2.2.2
          have hbt : E[i].2.2.2.length ≤ 4096 := by
            have h1 := bends_take E i hiE
            have h2 := bends_le E (i + 1)
            have h3 := HBE.out
            omega
          obtain ⟨z, hz⟩ : ∃ z, E[i].2.2.2.length = z := ⟨_, rfl⟩
          rw [hz] at hsz hbt BT
          generalize bs E[i].2.2.2 = sk at *
          obtain ⟨zz, hzz⟩ : ∃ zz, sk.size = zz := ⟨_, rfl⟩
          have HZ : Hid (zz = z) := Lib.hid (by omega)
          have hzb : zz ≤ 4096 := by omega
          clear y0 y1 y2 y3 hz hsz hbt
          go_wp2_with fail
          go_roundw
          case rel => exact ⟨i + 1, q + zz, by go_num, by omega, by go_num, by rw [BT.out, HQ2.out, HZ.out]; omega, D2.out⟩
          case measure => (simp [intOf] <;> omega)
        · have hin : i = nE := by omega
          have q2 : decide (i < nE) = false := decide_eq_false hlt2
          have EC : Hid ((cntN B E : Nat) = q) := Lib.hid (by
            have h1 := HQ2.out
            rw [List.take_of_length_le (by have := NE.out; omega)] at h1
            unfold cntN
            omega)
          go_wp2_with fail
          go_ret
          exact ⟨ret_int (by rw [EC.out]), B2.out⟩
end Go.Proofs.YtecifgaekefkpaaDoor
