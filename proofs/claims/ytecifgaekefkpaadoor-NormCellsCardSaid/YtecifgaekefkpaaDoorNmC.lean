/-
  What the reference's Wrong answers. Conditions: a shape that may be written.
-/
import Derived.Test.YtecifgaekefkpaaDoorNmB
import Derived.Test.YtecifgaekefkpaaDoorNzT
namespace Go.Proofs.YtecifgaekefkpaaDoor
open Go.RowKit Go.Proofs.YtecifgaekefkpaaDoor.LexM Go.Proofs.YtecifgaekefkpaaDoor.ParM Go.Proofs.YtecifgaekefkpaaDoor.GrM Go.Proofs.YtecifgaekefkpaaDoor.NmM

theorem wr_many {B : List Bool} {E : List Edg} (h0 : chkS B E = 0) (h : 4096 < cntN B E) : wrN B E = 6 := by
  unfold wrN; rw [if_neg (by simp [h0]), if_pos h]
theorem wr_two {B : List Bool} {E : List Edg} (h0 : chkS B E = 0) (h : cntN B E ≤ 4096) (h1 : TwoOn B E) : wrN B E = 8 := by
  unfold wrN; rw [if_neg (by simp [h0]), if_neg (by omega), if_pos h1]
theorem wr_self {B : List Bool} {E : List Edg} (h0 : chkS B E = 0) (h : cntN B E ≤ 4096) (h1 : ¬ TwoOn B E) (h2 : SelfT B E) : wrN B E = 10 := by
  unfold wrN; rw [if_neg (by simp [h0]), if_neg (by omega), if_neg h1, if_pos h2]
theorem wr_none {B : List Bool} {E : List Edg} (h0 : chkS B E = 0) (h : cntN B E ≤ 4096) (h1 : ¬ TwoOn B E) (h2 : ¬ SelfT B E) : wrN B E = 0 := by
  unfold wrN; rw [if_neg (by simp [h0]), if_neg (by omega), if_neg h1, if_neg h2]
/-- No two ends on a side of the first so many points. -/
def NoTwo (B : List Bool) (E : List Edg) (k : Nat) : Prop := ∀ v d : Nat, v < k → d < 4 → B.getD v false = false → (onL E v d).length ≤ 1
def NoSelf (B : List Bool) (E : List Edg) (k : Nat) : Prop := ∀ i, i < k → ¬ ((E.getD i noE).1 = (E.getD i noE).2.1 ∧ (E.getD i noE).2.2.2 = [] ∧ B.getD (E.getD i noE).1.toNat false = false)
def WrV (B : List Bool) (E : List Edg) (nB : Nat) (wb wr : World) (iv : Value) : Prop := ∃ k : Nat, iv = .int .i64 k ∧ k ≤ nB ∧ NoTwo B E k ∧ Below wb.heap.size wb wr
def WrD (E : List Edg) (k : Nat) (wb wr : World) (dv : Value) : Prop := ∃ d : Nat, dv = .int .i64 d ∧ d ≤ 4 ∧ (∀ d' : Nat, d' < d → (onL E (k : Int) d').length ≤ 1) ∧ Below wb.heap.size wb wr
def WrE (B : List Bool) (E : List Edg) (nE : Nat) (wb wr : World) (iv : Value) : Prop := ∃ k : Nat, iv = .int .i64 k ∧ k ≤ nE ∧ NoSelf B E k ∧ Below wb.heap.size wb wr
set_option maxHeartbeats 16000000 in
set_option maxRecDepth 100000 in
theorem refWrong (bv ev : Value) (B : List Bool) (E : List Edg) (w : World) (hB : BlsAt w bv B) (hE : EdsAt w ev E) (hM : May B E) (h0 : chkS B E = 0) (hok : OkEs E) :
    Calls Tryd.prog 8 #[.agg #[bv, ev]] w fun r w' => r = .returned (.int .i64 (wrN B E)) ∧ Below w.heap.size w w' := by
  have HB := Lib.hid hB
  have HE := Lib.hid hE
  have HM := Lib.hid hM
  have hbl := hM.vs
  have hl := hM.es
  obtain ⟨nB, hnB⟩ : ∃ n, B.length = n := ⟨_, rfl⟩
  obtain ⟨nE, hnE⟩ : ∃ n, E.length = n := ⟨_, rfl⟩
  obtain ⟨AB, cB, e⟩ := hB.form
  subst e
  obtain ⟨AE, cE, e⟩ := hE.form
  subst e
  have ON := Lib.hid (fun (v d : Int) w1 (b : Below w.heap.size w w1) => refOn (.slice AB B.length cB) _ E v d w1 (hE.below b (Nat.le_refl _)) hl hok)
  have CN := Lib.hid (fun w1 (b : Below w.heap.size w w1) => refCount _ _ B E w1 (hB.below b (Nat.le_refl _)) (hE.below b (Nat.le_refl _)) hbl hl hok hM.bs)
  have ck := fun w1 (b : Below w.heap.size w w1) => refCheck _ _ B E w1 (hB.below b (Nat.le_refl _)) (hE.below b (Nat.le_refl _)) (by omega) (by omega) (fun e he => (hok e he).2.2)
  rw [h0] at ck
  have CK := Lib.hid ck
  have H0 := Lib.hid h0
  rw [hnB] at HB ON CN CK ⊢
  rw [hnE] at HE ON CN CK ⊢
  rw [hnB] at hbl
  rw [hnE] at hl
  have NB := Lib.hid hnB
  have NE := Lib.hid hnE
  clear hB hE hok hnB hnE hM ck h0
  obtain ⟨cn, hcn⟩ : ∃ c, cntN B E = c := ⟨_, rfl⟩
  rw [hcn] at CN
  have HC := Lib.hid hcn
  clear hcn
  go_enter Tryd.func8, Tryd.ntmps8
  go_upto_region 1 with (fail)
  obtain ⟨wb, hwb⟩ : ∃ W, W = (w.alloc (.cells #[.slice AB nB cB, .slice AE nE cE] 29)) := ⟨_, rfl⟩
  have BB : Hid (Below w.heap.size w wb) := Lib.hid (by rw [hwb]; exact (Below.refl _ _).alloc (Nat.le_refl _) _)
  have SB : Hid (ShB wb w.heap.size (.slice AB nB cB) (.slice AE nE cE)) := Lib.hid (by rw [hwb]; exact heap_alloc_new w _)
  rw [← hwb]
  clear hwb
  obtain ⟨x0, x1⟩ := SB.out.at_
  have xl := SB.out.lt
  go_upto_region 4 with (go_at_call 23; refine (CK.out _ BB.out).mono ?_; rintro e w1 ⟨rfl, b1⟩; have B1 := Lib.hid b1; clear b1)
  have S1 := Lib.hid (SB.out.below B1.out (Nat.le_refl _))
  have BW1 := Lib.hid (BB.out.trans (B1.out.mono BB.out.size))
  clear x0 x1 xl
  obtain ⟨x0, x1⟩ := S1.out.at_
  have xl := S1.out.lt
  by_cases hbig : 4096 < cn
  · have q0 : decide (4096 < cn) = true := decide_eq_true hbig
    have q0' : decide ((4096 : Int) < (cn : Int)) = true := decide_eq_true (by omega)
    have EQ : Hid (wrN B E = 6) := Lib.hid (wr_many H0.out (by rw [HC.out]; exact hbig))
    clear hbig
    go_wp2_with (go_at_call 24; refine (CN.out _ BW1.out).mono ?_; rintro e w2 ⟨rfl, b2⟩; have B2 := Lib.hid b2; clear b2)
    go_ret
    exact ⟨ret_int EQ.out.symm, BW1.out.trans (B2.out.mono BW1.out.size)⟩
  · have q0 : decide (4096 < cn) = false := decide_eq_false hbig
    have q0' : decide ((4096 : Int) < (cn : Int)) = false := decide_eq_false (by omega)
    have HC2 : Hid (cntN B E ≤ 4096) := Lib.hid (by rw [HC.out]; omega)
    clear hbig
    go_wp2_with (go_at_call 24; refine (CN.out _ BW1.out).mono ?_; rintro e w2 ⟨rfl, b2⟩; have B2 := Lib.hid b2; clear b2)
    have BW2 := Lib.hid (BW1.out.trans (B2.out.mono BW1.out.size))
    have S2 := Lib.hid (S1.out.below B2.out (Nat.le_refl _))
    clear x0 x1 xl S1 BW1 B1 B2 SB BB
    go_loopw [5] (fun iv wr => WrV B E nB w2 wr iv) (fun iv _ => nB - (intOf iv).toNat)
    case atStart => exact ⟨0, rfl, Nat.zero_le _, fun v d hv => absurd hv (by omega), Below.refl _ _⟩
    case round =>
      obtain ⟨k, rfl, hk, hT, hD⟩ := hrel
      have D := Lib.hid hD
      have TW := Lib.hid hT
      clear hD hT
      obtain ⟨wo, hwo⟩ : ∃ W, W = wr := ⟨_, rfl⟩
      subst hwo
      have SO := Lib.hid (S2.out.below D.out (Nat.le_refl _))
      obtain ⟨x0, x1⟩ := SO.out.at_
      have xl := SO.out.lt
      have BO := Lib.hid (BW2.out.trans (D.out.mono BW2.out.size))
      by_cases hlt : k < nB
      · have q1 : decide (k < nB) = true := decide_eq_true hlt
        have hkB : k < B.length := by have := NB.out; omega
        obtain ⟨bb, ob, rfl, hbb, y0⟩ := HB.out.one hkB
        have f0 := (BO.out.cell (p := ⟨bb, ob + k, none⟩) hbb).trans y0
        have hbw := Nat.lt_of_lt_of_le hbb BO.out.size
        obtain ⟨t, ht⟩ : ∃ t, B.getD k false = t := ⟨_, rfl⟩
        have HT := Lib.hid ht
        rw [ht] at f0
        have FO := Lib.hid f0
        clear ht y0
        cases t
        · go_upto_region 10 with (fail)
          go_wp2_with fail
          go_loopw [6] (fun dv wr => WrD E k w2 wr dv) (fun dv _ => 4 - (intOf dv).toNat)
          case atStart => exact ⟨0, rfl, by omega, fun d hd => absurd hd (by omega), D.out⟩
          case round =>
            obtain ⟨d, rfl, hd, hq, hD2⟩ := hrel
            have D2 := Lib.hid hD2
            have HQ2 := Lib.hid hq
            have S3 := Lib.hid (S2.out.below hD2 (Nat.le_refl _))
            clear x0 x1 xl f0 hbw
            obtain ⟨x0, x1⟩ := S3.out.at_
            have xl := S3.out.lt
            have B3 := Lib.hid (BW2.out.trans (hD2.mono BW2.out.size))
            have f0 : wr.cell? ⟨bb, ob + k, none⟩ = some (.bool false) := by
              have h1 := (hD2.cell (p := ⟨bb, ob + k, none⟩) (Nat.lt_of_lt_of_le hbb BW2.out.size))
              have h2 := (D.out.cell (p := ⟨bb, ob + k, none⟩) (Nat.lt_of_lt_of_le hbb BW2.out.size))
              rw [h1, ← h2]
              exact FO.out
            have hbw := Nat.lt_of_lt_of_le hbb B3.out.size
            clear hq hD2
            by_cases hd4 : d < 4
            · have q2 : decide (d < 4) = true := decide_eq_true hd4
              have q2' : decide ((d : Int) < 4) = true := decide_eq_true (by omega)
              go_upto_region 14 with (go_at_call 25; refine (ON.out (k : Int) (d : Int) _ B3.out).mono ?_; rintro e w5 ⟨⟨A5, c5, n5, rfl, o5, hn5⟩, b5⟩; have O5 := Lib.hid o5.1; have B5 := Lib.hid b5; clear o5 b5)
              by_cases hbig : 1 < n5
              · have q3 : decide (1 < n5) = true := decide_eq_true hbig
                have q3' : decide ((1 : Int) < (n5 : Int)) = true := decide_eq_true (by omega)
                have EQ : Hid (wrN B E = 8) := Lib.hid (wr_two H0.out HC2.out ⟨k, d, hkB, hd4, HT.out, by rw [O5.out]; exact hbig⟩)
                clear hbig
                go_wp2_with fail
                go_ret
                exact ⟨ret_int EQ.out.symm, B3.out.trans (B5.out.mono B3.out.size)⟩
              · have q3 : decide (1 < n5) = false := decide_eq_false hbig
                have q3' : decide ((1 : Int) < (n5 : Int)) = false := decide_eq_false (by omega)
                have NX : Hid (∀ d' : Nat, d' < d + 1 → (onL E (k : Int) d').length ≤ 1) := Lib.hid (fun d' h => by
                  by_cases e : d' = d
                  · subst e; rw [O5.out]; omega
                  · exact HQ2.out d' (by omega))
                clear hbig
                go_wp2_with fail
                go_roundw
                case rel => exact ⟨d + 1, by go_num, by omega, NX.out, D2.out.trans (B5.out.mono D2.out.size)⟩
                case measure => (simp [intOf] <;> omega)
            · have hd5 : d = 4 := by omega
              subst hd5
              have q2 : decide (4 < 4) = false := by decide
              have NX : Hid (NoTwo B E (k + 1)) := Lib.hid (fun v d hv hd hb => by
                by_cases e : v = k
                · subst e; exact HQ2.out d hd
                · exact TW.out v d (by omega) hd hb)
              go_wp2_with fail
              go_roundw
              case rel => exact ⟨k + 1, by go_num, by omega, NX.out, D2.out⟩
              case measure => (simp [intOf] <;> omega)
        · have NX : Hid (NoTwo B E (k + 1)) := Lib.hid (fun v d hv hd hb => by
            by_cases e : v = k
            · subst e; rw [HT.out] at hb; cases hb
            · exact TW.out v d (by omega) hd hb)
          go_upto_region 10 with (fail)
          go_wp2_with fail
          refine wp_loop_rounds 1 ?_
          rw [rounds_succ]
          go_wp2_with fail
          go_roundw
          case rel => exact ⟨k + 1, by go_num, by omega, NX.out, D.out⟩
          case measure => (simp [intOf] <;> omega)
      · have hkn : k = nB := by omega
        have q1 : decide (k < nB) = false := decide_eq_false hlt
        have T2 : Hid (¬ TwoOn B E) := Lib.hid (by
          rintro ⟨v, d, hv, hd, hb, h1⟩
          have := TW.out v d (by have := NB.out; omega) hd hb
          omega)
        go_wp2_with fail
        go_loopw [8] (fun iv wr => WrE B E nE w2 wr iv) (fun iv _ => nE - (intOf iv).toNat)
        case atStart => exact ⟨0, rfl, Nat.zero_le _, fun i hi => absurd hi (by omega), D.out⟩
        case round =>
          obtain ⟨i, rfl, hi, hS, hD2⟩ := hrel
          have D2 := Lib.hid hD2
          have NS := Lib.hid hS
          have S3 := Lib.hid (S2.out.below hD2 (Nat.le_refl _))
          clear x0 x1 xl
          obtain ⟨x0, x1⟩ := S3.out.at_
          have xl := S3.out.lt
          have B3 := Lib.hid (BW2.out.trans (hD2.mono BW2.out.size))
          clear hD2 hS
          by_cases hlt2 : i < nE
          · have q2 : decide (i < nE) = true := decide_eq_true hlt2
            have hiE : i < E.length := by have := NE.out; omega
            obtain ⟨be, oe, rfl, hbe2, y0, y1, y2, y3⟩ := HE.out.one hiE
            have f0 := (B3.out.cell (p := ⟨be, oe + i * 4, none⟩) hbe2).trans y0
            have f1 := (B3.out.cell (p := ⟨be, oe + i * 4 + 1, none⟩) hbe2).trans y1
            have f2 := (B3.out.cell (p := ⟨be, oe + i * 4 + 2, none⟩) hbe2).trans y2
            have f3 := (B3.out.cell (p := ⟨be, oe + i * 4 + 3, none⟩) hbe2).trans y3
            have hbw := Nat.lt_of_lt_of_le hbe2 B3.out.size
            have GE : Hid (E.getD i noE = E[i]) := Lib.hid (by rw [List.getD_eq_getElem?_getD, List.getElem?_eq_getElem hiE]; rfl)
            have hk1 := HM.out.ok E[i] (List.getElem_mem hiE)
            obtain ⟨a, ha⟩ : ∃ a : Nat, E[i].1 = (a : Int) := ⟨E[i].1.toNat, by have := hk1.1; omega⟩
            have haB : a < B.length := by have := hk1.2.1; omega
            have haN : a < nB := by have := NB.out; omega
            obtain ⟨bb, ob, rfl, hbb, z0⟩ := HB.out.one haB
            have g0 := (B3.out.cell (p := ⟨bb, ob + a, none⟩) hbb).trans z0
            have hbb2 := Nat.lt_of_lt_of_le hbb B3.out.size
            clear y0 y1 y2 y3 z0 hk1 hbb hbe2
            have HA := Lib.hid ha
            rw [ha] at f0
            obtain ⟨tk, htk⟩ : ∃ x, E[i].2.1 = x := ⟨_, rfl⟩
            rw [htk] at f1
            by_cases c1 : (a : Int) = tk
            · have p1 : ((a : Int) == tk) = true := by rw [beq_iff_eq]; exact c1
              by_cases c2 : E[i].2.2.2 = []
              · have hs0 : bs E[i].2.2.2 = ⟨#[]⟩ := by rw [c2]; rfl
                rw [hs0] at f3
                obtain ⟨t, ht⟩ : ∃ t, B.getD a false = t := ⟨_, rfl⟩
                have HT := Lib.hid ht
                rw [ht] at g0
                have C1 := Lib.hid c1
                have C2 := Lib.hid c2
                have HTK := Lib.hid htk
                clear ht c1 c2 hs0 ha htk
                cases t
                · have EQ : Hid (wrN B E = 10) := Lib.hid (wr_self H0.out HC2.out T2.out ⟨i, hiE, by rw [GE.out, HA.out, HTK.out]; exact C1.out, by rw [GE.out]; exact C2.out, by rw [GE.out, HA.out, Int.toNat_natCast]; exact HT.out⟩)
                  go_wp2_with fail
                  go_ret
                  exact ⟨ret_int EQ.out.symm, B3.out.alloc B3.out.size _⟩
                · have NX : Hid (NoSelf B E (i + 1)) := Lib.hid (fun q hq => by
                    by_cases e : q = i
                    · subst e; rw [GE.out]; rintro ⟨_, _, h⟩; rw [HA.out, Int.toNat_natCast, HT.out] at h; cases h
                    · exact NS.out q (by omega))
                  go_wp2_with fail
                  go_roundw
                  case rel => exact ⟨i + 1, by go_num, by omega, NX.out, D2.out.alloc D2.out.size _⟩
                  case measure => (simp [intOf] <;> omega)
              · have hs0 : ¬ (bs E[i].2.2.2).toList = [] := fun h => c2 (by
                  rw [Lib.toList_data, bs_data] at h
                  exact h)
                have NX : Hid (NoSelf B E (i + 1)) := Lib.hid (fun q hq => by
                  by_cases e : q = i
                  · subst e; rw [GE.out]; rintro ⟨_, h, _⟩; exact c2 h
                  · exact NS.out q (by omega))
                have hs1 : ((bs E[i].2.2.2).toList == []) = false := by rw [beq_eq_false_iff_ne]; exact hs0
                have hs2 : (bs E[i].2.2.2).toList.isEmpty = false := by
                  cases h : (bs E[i].2.2.2).toList with
                  | nil => exact absurd h hs0
                  | cons _ _ => rfl
                clear c1 c2 ha htk
                generalize bs E[i].2.2.2 = sk at *
                go_wp2_with fail
                go_roundw
                case rel => exact ⟨i + 1, by go_num, by omega, NX.out, D2.out.alloc D2.out.size _⟩
                case measure => (simp [intOf] <;> omega)
            · have p1 : ((a : Int) == tk) = false := by rw [beq_eq_false_iff_ne]; exact c1
              have NX : Hid (NoSelf B E (i + 1)) := Lib.hid (fun q hq => by
                by_cases e : q = i
                · subst e; rw [GE.out]; rintro ⟨h, _, _⟩; rw [HA.out, htk] at h; exact c1 h
                · exact NS.out q (by omega))
              clear c1 ha htk
              generalize bs E[i].2.2.2 = sk at *
              go_wp2_with fail
              go_roundw
              case rel => exact ⟨i + 1, by go_num, by omega, NX.out, D2.out.alloc D2.out.size _⟩
              case measure => (simp [intOf] <;> omega)
          · have hin : i = nE := by omega
            have q2 : decide (i < nE) = false := decide_eq_false hlt2
            have EQ : Hid (wrN B E = 0) := Lib.hid (wr_none H0.out HC2.out T2.out (by
              rintro ⟨q, hq, h1, h2, h3⟩
              exact NS.out q (by have := NE.out; omega) ⟨h1, h2, h3⟩))
            go_wp2_with fail
            go_ret
            exact ⟨ret_int EQ.out.symm, B3.out⟩
end Go.Proofs.YtecifgaekefkpaaDoor
