/-
  DagCosts: the walk. Conditions: none (numbers within their types).
-/
import Derived.Test.YtnofkddcnjdjnaaDagArg
import Derived.Test.YtnofkddcnjdjnaaDagW
namespace Go.Proofs.Ytnofkddcnjdjnaa
open Go.RowKit Go.Proofs.Ytnofkddcnjdjnaa.DagM

theorem farAt2 : PredAt 34 far := by
  refine ⟨enters_of Try.func34 (by kernel_rfl) rfl, fun W x => ?_⟩
  go_enter Try.func34, Try.ntmps34
  go_wp2
  all_goals
    go_ret
    refine ⟨ret_bool ?_, rfl⟩
    rw [Bool.eq_iff_iff]
    simp [far]
    try omega
theorem OwnI.snoc {w : World} {B : Nat} {v : Value} {l : List Int} {x : Int} (h : w.ownsRow B 3 1 v (l.length + 1) (l.map (Value.int .i64) ++ [.int .i64 x])) : OwnI w B v (l ++ [x]) := by
  unfold OwnI
  rw [List.length_append, List.map_append]
  exact h
theorem int_app {w0 w w' : World} {v v' : Value} {K : List Int} {a : Int} (hB : Below w0.heap.size w0 w) (hO : OwnI w w0.heap.size v K) (hown : w'.ownsRow w0.heap.size 3 1 v' (K.length + 1) (K.map (Value.int .i64) ++ [.int .i64 a])) (hgrow : w.grownBy w' v.ownBlock) :
    OwnI w' w0.heap.size v' (K ++ [a]) ∧ Below w0.heap.size w0 w' :=
  ⟨OwnI.snoc hown, hB.trans (((Out.refl _ w).grown (S := fun b => v.ownBlock = some b) hgrow (fun _ _ e => e)).below hB.size (fun i _ e => (World.ownsRow.lt hO i e).1))⟩
/-- The row without its first number. -/
theorem IntsAt.rest {w : World} {A : Option Addr} {n cap b o : Nat} {X : List Int} (h : IntsAt w (.slice A n cap) X) (hA : A = some ⟨b, o, none⟩) (h1 : 1 ≤ n) : IntsAt w (.slice (some ⟨b, o + 1, none⟩) (n - 1) (cap - 1)) (X.drop 1) := by
  subst hA
  obtain ⟨A', cap', e, hc, hh⟩ := h
  simp only [Value.slice.injEq] at e
  obtain ⟨rfl, rfl, rfl⟩ := e
  obtain ⟨b', o', e, hb, hcell⟩ := hh (by omega)
  simp only [Option.some.injEq, Addr.mk.injEq, and_true] at e
  obtain ⟨rfl, rfl⟩ := e
  refine ⟨_, _, by rw [List.length_drop], by simp; omega, fun _ => ⟨_, _, rfl, hb, fun k hk => ?_⟩⟩
  have hk2 : 1 + k < X.length := by simp at hk; omega
  have := hcell (1 + k) hk2
  rw [List.getElem_drop, ← this, Nat.add_assoc]
theorem IntsAt.none_ {w : World} (A : Option Addr) (cap : Nat) {X : List Int} (h : X.length = 0) : IntsAt w (.slice A 0 cap) X := ⟨A, cap, by rw [h], by omega, fun h0 => absurd h0 (by omega)⟩
theorem short_err {n : Nat} {K : List Arc} {X : List Int} (ho : ordErr n K = 0) (h : X.length ≠ n) : costErr n K X = 2 := by
  unfold costErr
  rw [if_pos ho]
  have : coordB n X = false := by unfold coordB; simp; intro e; exact absurd (by omega) h
  rw [this]
  rfl
def CsOut (wl wr : World) (iv : Value) : Prop := ∃ j : Nat, iv = .int .i64 j ∧ j ≤ 2 ∧ Below wl.heap.size wl wr
def CsIn (n : Nat) (wi wr : World) (lv iv : Value) : Prop := ∃ (k : Nat) (X : List Int), iv = .int .i64 k ∧ k ≤ n ∧ X.length = k ∧ Below wi.heap.size wi wr ∧ OwnI wr wi.heap.size lv X

set_option maxHeartbeats 16000000 in
set_option maxRecDepth 100000 in
theorem costs (N : Int) (A : Option Addr) (len cap : Nat) (D : Nat → Int × Int × Int) (xv : Value) (xs : List Int) (w : World) (hN0 : 0 ≤ N) (hN1 : N ≤ 255) (hT : TriAt w A len D) (hX : IntsAt w xv xs) :
    Calls Try.prog 5 #[.agg #[.int .u8 N, .slice A len cap], xv] w fun e w' => e = .returned (.bool true) ∧ Below w.heap.size w w' := by
  have T := Lib.hid hT
  have XS := Lib.hid hX
  clear hT
  obtain ⟨i0, hi, hz0, hz1, hz2⟩ := info_parts infoI
  obtain ⟨Ax, cx, rfl, hcx, -⟩ := hX
  go_enter Try.func5, Try.ntmps5
  go_wp2_with (go_at_call 31; refine (make_ N A len cap 10 D _ hN0 hN1 (by decide) (by decide) (T.out.below ((Below.refl _ _).alloc (Nat.le_refl _) _))).mono ?_; rintro e w1 ⟨n, vK, K, rfl, hn12, hRi, hO, hb⟩; obtain ⟨aK, cK, rfl⟩ := hO.form; have R := Lib.hid hRi; have hn1 : 1 ≤ n := hRi.n1; have AK := Lib.hid hO.arcs; have B1 : Hid (Below w.heap.size w w1) := Lib.hid (((Below.refl _ _).alloc (Nat.le_refl _) _).trans (hb.mono (by simp))); have z1 : w.heap.size ≤ w1.heap.size := B1.out.size; clear hRi hO hb)
  obtain ⟨wl, hwl⟩ : ∃ wl, wl = w1.alloc (.cells #[.bool true, .bool false] 4) := ⟨_, rfl⟩
  have bl : Below w1.heap.size w1 wl := by rw [hwl]; exact (Below.refl _ _).alloc (Nat.le_refl _) _
  have k0 : wl.cell? ⟨w1.heap.size, 0, none⟩ = some (.bool true) := by rw [hwl]; simp
  have k1 : wl.cell? ⟨w1.heap.size, 1, none⟩ = some (.bool false) := by rw [hwl]; simp
  have hll : w1.heap.size < wl.heap.size := by rw [hwl]; simp
  rw [← hwl]
  clear hwl
  have K0 := Lib.hid k0
  have K1 := Lib.hid k1
  have BL := Lib.hid (B1.out.trans (bl.mono z1))
  have AL := Lib.hid (AK.out.below bl)
  have hlw := BL.out.size
  clear k0 k1 bl
  go_loopw [24] (fun iv wr => CsOut wl wr iv) (fun iv _ => 2 - (intOf iv).toNat)
  case atStart => exact ⟨0, rfl, by omega, Below.refl _ _⟩
  case round =>
    obtain ⟨j, rfl, hj, hB⟩ := hrel
    have B := Lib.hid hB
    have hwz := hB.size
    clear hB
    by_cases hj0 : j = 0
    · subst hj0
      have y0 := (B.out.cell (p := ⟨w1.heap.size, 0, none⟩) hll).trans K0.out
      go_wp2
      obtain ⟨wi, rfl⟩ : ∃ W, W = wr := ⟨_, rfl⟩
      go_loopw [9, 29] (fun lv iv wr => CsIn n wi wr lv iv) (fun _ iv _ => n - (intOf iv).toNat)
      case atStart => exact ⟨0, [], rfl, by omega, rfl, Below.refl _ _, World.ownsRow_nil _ _ _ _⟩
      case round =>
        obtain ⟨k, X, rfl, hk, hXl, hB2, hO⟩ := hrel
        have B2 := Lib.hid hB2
        have O := Lib.hid hO
        have XL := Lib.hid hXl
        have hiz := hB2.size
        have hX10 : X.length ≤ 10 := by omega
        obtain ⟨ao, cp, e⟩ := hO.form
        subst e
        clear hB2 hO hXl
        by_cases hlt : k < n
        · by_cases hx : k < xs.length
          · obtain ⟨bx, ox, cx', e, hbx, x0⟩ := XS.out.at_ hx
            simp only [Value.slice.injEq, true_and] at e
            obtain ⟨rfl, rfl⟩ := e
            have hbb := BL.out.trans ((B.out.trans (B2.out.mono hwz)).mono hlw)
            have x1 := (hbb.cell (p := ⟨bx, ox + k, none⟩) hbx).trans x0
            clear x0 hbb
            generalize val xs k = u at *
            go_wp2_with (at_builtin; refine wpList_append_fresh rfl (.tmp 59) (.tmp 61) 51 rfl wi.heap.size 3 i0 (.int .i64 0) 1 8 Try.underlying51 hi hz0 hz1 hz2 rfl (by decide) (.slice ao X.length cp) X.length (X.map (Value.int .i64)) rfl (O.out.below ((Below.refl _ _).alloc (Nat.le_refl _) _)) ⟨wr.heap.size, 0, none⟩ 1 1 [.int .i64 (u)] rfl rfl (newsI _ _ _ _ (by simp)) (oneI _) (by unfold maxLen; omega) (by omega) (by simp; omega) ?_; intro v5 w5 hown hgrow hfr; obtain ⟨o5, b5⟩ := int_app (B2.out.trans (((Below.refl _ _).alloc (Nat.le_refl _) _).mono hiz)) (O.out.below ((Below.refl _ _).alloc (Nat.le_refl _) _)) hown hgrow; have O5 := Lib.hid o5; have B5 := Lib.hid b5; obtain ⟨g5, c5, rfl, _, _, _⟩ := ownsRow_form hown (by omega); clear hown hgrow hfr o5 b5)
            go_roundw
            case rel => first | exact ⟨k + 1, X ++ [u], by go_num, by omega, by simp [XL.out], B5.out, O5.out⟩ | ((repeat apply Exists.intro); exact ⟨⟨k + 1, X ++ [u], by go_num, by omega, by simp [XL.out], B5.out, O5.out⟩, rfl⟩)
            case measure => simp [intOf]; omega
          · go_wp2_with (at_builtin; refine wpList_append_fresh rfl (.tmp 59) (.tmp 61) 51 rfl wi.heap.size 3 i0 (.int .i64 0) 1 8 Try.underlying51 hi hz0 hz1 hz2 rfl (by decide) (.slice ao X.length cp) X.length (X.map (Value.int .i64)) rfl (O.out.below ((Below.refl _ _).alloc (Nat.le_refl _) _)) ⟨wr.heap.size, 0, none⟩ 1 1 [.int .i64 ((k : Int))] rfl rfl (newsI _ _ _ _ (by simp)) (oneI _) (by unfold maxLen; omega) (by omega) (by simp; omega) ?_; intro v5 w5 hown hgrow hfr; obtain ⟨o5, b5⟩ := int_app (B2.out.trans (((Below.refl _ _).alloc (Nat.le_refl _) _).mono hiz)) (O.out.below ((Below.refl _ _).alloc (Nat.le_refl _) _)) hown hgrow; have O5 := Lib.hid o5; have B5 := Lib.hid b5; obtain ⟨g5, c5, rfl, _, _, _⟩ := ownsRow_form hown (by omega); clear hown hgrow hfr o5 b5)
            go_roundw
            case rel => first | exact ⟨k + 1, X ++ [(k : Int)], by go_num, by omega, by simp [XL.out], B5.out, O5.out⟩ | ((repeat apply Exists.intro); exact ⟨⟨k + 1, X ++ [(k : Int)], by go_num, by omega, by simp [XL.out], B5.out, O5.out⟩, rfl⟩)
            case measure => simp [intOf]; omega
        · obtain hkn : n = k := by omega
          subst hkn
          clear hlt hk
          have AW := Lib.hid (AL.out.below (B.out.trans (B2.out.mono hwz)))
          have IW := Lib.hid O.out.ints
          have hOrd := R.out.ord (by omega)
          have HO := Lib.hid hOrd
          have MY := Lib.hid (R.out.may (by omega))
          have hXn : X.length = n := XL.out
          have HXN := Lib.hid hXn
          have SH : Hid (costErr n K (X.drop 1) = 2) := Lib.hid (short_err hOrd (by simp; omega))
          have BB := Lib.hid (B.out.trans (B2.out.mono hwz))
          obtain ⟨b5, c5, hao, _, _, hcp⟩ := ownsRow_form O.out (by omega)
          simp only [Value.slice.injEq, true_and] at hao
          obtain ⟨rfl, rfl⟩ := hao
          have hpos : 1 ≤ X.length := by omega
          clear hXn hOrd
          by_cases hc1 : cp = 1
          · subst hc1
            cases hf : X.any far with
            | true =>
              have HF := Lib.hid hf
              have E1 : Hid (costErr n K X = 2) := Lib.hid (by unfold costErr; rw [if_pos HO.out]; unfold coordB; rw [hf]; simp)
              have E2 : Hid (costVal n K X = 0) := Lib.hid (by unfold costVal; rw [E1.out]; rfl)
              clear hf
              go_wp2_with (first
                | (go_at_call 32; refine (cost n _ _ K (X.drop 1) _ (AW.out.below Q2.out) (IntsAt.none_ _ _ (by simp; omega))).mono ?_; rintro e w8 ⟨rfl, hb⟩; rw [SH.out]; have QZ := Lib.hid (Q2.out.trans (hb.mono Q2.out.size)); clear hb)
                | (go_at_call 32; refine (cost n _ _ K X _ AW.out IW.out).mono ?_; rintro e w6 ⟨rfl, hb⟩; rw [E1.out, E2.out]; have Q1 := Lib.hid hb; clear hb)
                | (go_at_call 33; refine (containsInt farAt2 _ X _ (IW.out.below Q1.out) (by omega)).mono ?_; rintro e w7 ⟨rfl, hb⟩; rw [HF.out]; have Q2 := Lib.hid (Q1.out.trans (hb.mono Q1.out.size)); clear hb))
              go_roundw
              case rel => exact ⟨1, by go_num, by omega, BB.out.trans (QZ.out.mono BB.out.size)⟩
              case measure => simp [intOf]
            | false =>
              have HF := Lib.hid hf
              have HCO : Hid (coordB n X = true) := Lib.hid (by have := HXN.out; unfold coordB; rw [hf]; simp; omega)
              clear hf
              cases hft : fitB X K with
              | false =>
                have HFT := Lib.hid hft
                have E1 : Hid (costErr n K X = 15) := Lib.hid (by unfold costErr; rw [if_pos HO.out, HCO.out, hft]; rfl)
                have E2 : Hid (costVal n K X = 0) := Lib.hid (by unfold costVal; rw [E1.out]; rfl)
                clear hft
                go_wp2_with (first
                  | (go_at_call 32; refine (cost n _ _ K (X.drop 1) _ (AW.out.below Q3.out) (IntsAt.none_ _ _ (by simp; omega))).mono ?_; rintro e w9 ⟨rfl, hb⟩; rw [SH.out]; have QZ := Lib.hid (Q3.out.trans (hb.mono Q3.out.size)); clear hb)
                  | (go_at_call 32; refine (cost n _ _ K X _ AW.out IW.out).mono ?_; rintro e w6 ⟨rfl, hb⟩; rw [E1.out, E2.out]; have Q1 := Lib.hid hb; clear hb)
                  | (go_at_call 33; refine (containsInt farAt2 _ X _ (IW.out.below Q1.out) (by omega)).mono ?_; rintro e w7 ⟨rfl, hb⟩; rw [HF.out]; have Q2 := Lib.hid (Q1.out.trans (hb.mono Q1.out.size)); clear hb)
                  | (go_at_call 35; refine (refFit n _ _ K X _ MY.out (by rw [HXN.out]) (AW.out.below Q2.out) (IW.out.below Q2.out)).mono ?_; rintro e w8 ⟨rfl, hb⟩; rw [HFT.out]; have Q3 := Lib.hid (Q2.out.trans (hb.mono Q2.out.size)); clear hb))
                go_roundw
                case rel => exact ⟨1, by go_num, by omega, BB.out.trans (QZ.out.mono BB.out.size)⟩
                case measure => simp [intOf]
              | true =>
                have HFT := Lib.hid hft
                have E1 : Hid (costErr n K X = 0) := Lib.hid (by unfold costErr; rw [if_pos HO.out, HCO.out, hft]; rfl)
                have E2 : Hid (costVal n K X = costSum X K) := Lib.hid (by unfold costVal; rw [E1.out]; rfl)
                clear hft
                go_wp2_with (first
                  | (go_at_call 32; refine (cost n _ _ K (X.drop 1) _ (AW.out.below Q4.out) (IntsAt.none_ _ _ (by simp; omega))).mono ?_; rintro e w10 ⟨rfl, hb⟩; rw [SH.out]; have QZ := Lib.hid (Q4.out.trans (hb.mono Q4.out.size)); clear hb)
                  | (go_at_call 32; refine (cost n _ _ K X _ AW.out IW.out).mono ?_; rintro e w6 ⟨rfl, hb⟩; rw [E1.out, E2.out]; have Q1 := Lib.hid hb; clear hb)
                  | (go_at_call 33; refine (containsInt farAt2 _ X _ (IW.out.below Q1.out) (by omega)).mono ?_; rintro e w7 ⟨rfl, hb⟩; rw [HF.out]; have Q2 := Lib.hid (Q1.out.trans (hb.mono Q1.out.size)); clear hb)
                  | (go_at_call 35; refine (refFit n _ _ K X _ MY.out (by rw [HXN.out]) (AW.out.below Q2.out) (IW.out.below Q2.out)).mono ?_; rintro e w8 ⟨rfl, hb⟩; rw [HFT.out]; have Q3 := Lib.hid (Q2.out.trans (hb.mono Q2.out.size)); clear hb)
                  | (go_at_call 36; refine (refCost n _ _ K X _ MY.out HCO.out HFT.out (AW.out.below Q3.out) (IW.out.below Q3.out)).mono ?_; rintro e w9 ⟨rfl, hb⟩; have Q4 := Lib.hid (Q3.out.trans (hb.mono Q3.out.size)); clear hb))
                go_roundw
                case rel => exact ⟨1, by go_num, by omega, BB.out.trans (QZ.out.mono BB.out.size)⟩
                case measure => simp [intOf]
          · skip
            cases hf : X.any far with
            | true =>
              have HF := Lib.hid hf
              have E1 : Hid (costErr n K X = 2) := Lib.hid (by unfold costErr; rw [if_pos HO.out]; unfold coordB; rw [hf]; simp)
              have E2 : Hid (costVal n K X = 0) := Lib.hid (by unfold costVal; rw [E1.out]; rfl)
              clear hf
              go_wp2_with (first
                | (go_at_call 32; refine (cost n _ _ K (X.drop 1) _ (AW.out.below Q2.out) ((IW.out.below Q2.out).rest rfl hpos)).mono ?_; rintro e w8 ⟨rfl, hb⟩; rw [SH.out]; have QZ := Lib.hid (Q2.out.trans (hb.mono Q2.out.size)); clear hb)
                | (go_at_call 32; refine (cost n _ _ K X _ AW.out IW.out).mono ?_; rintro e w6 ⟨rfl, hb⟩; rw [E1.out, E2.out]; have Q1 := Lib.hid hb; clear hb)
                | (go_at_call 33; refine (containsInt farAt2 _ X _ (IW.out.below Q1.out) (by omega)).mono ?_; rintro e w7 ⟨rfl, hb⟩; rw [HF.out]; have Q2 := Lib.hid (Q1.out.trans (hb.mono Q1.out.size)); clear hb))
              go_roundw
              case rel => exact ⟨1, by go_num, by omega, BB.out.trans (QZ.out.mono BB.out.size)⟩
              case measure => simp [intOf]
            | false =>
              have HF := Lib.hid hf
              have HCO : Hid (coordB n X = true) := Lib.hid (by have := HXN.out; unfold coordB; rw [hf]; simp; omega)
              clear hf
              cases hft : fitB X K with
              | false =>
                have HFT := Lib.hid hft
                have E1 : Hid (costErr n K X = 15) := Lib.hid (by unfold costErr; rw [if_pos HO.out, HCO.out, hft]; rfl)
                have E2 : Hid (costVal n K X = 0) := Lib.hid (by unfold costVal; rw [E1.out]; rfl)
                clear hft
                go_wp2_with (first
                  | (go_at_call 32; refine (cost n _ _ K (X.drop 1) _ (AW.out.below Q3.out) ((IW.out.below Q3.out).rest rfl hpos)).mono ?_; rintro e w9 ⟨rfl, hb⟩; rw [SH.out]; have QZ := Lib.hid (Q3.out.trans (hb.mono Q3.out.size)); clear hb)
                  | (go_at_call 32; refine (cost n _ _ K X _ AW.out IW.out).mono ?_; rintro e w6 ⟨rfl, hb⟩; rw [E1.out, E2.out]; have Q1 := Lib.hid hb; clear hb)
                  | (go_at_call 33; refine (containsInt farAt2 _ X _ (IW.out.below Q1.out) (by omega)).mono ?_; rintro e w7 ⟨rfl, hb⟩; rw [HF.out]; have Q2 := Lib.hid (Q1.out.trans (hb.mono Q1.out.size)); clear hb)
                  | (go_at_call 35; refine (refFit n _ _ K X _ MY.out (by rw [HXN.out]) (AW.out.below Q2.out) (IW.out.below Q2.out)).mono ?_; rintro e w8 ⟨rfl, hb⟩; rw [HFT.out]; have Q3 := Lib.hid (Q2.out.trans (hb.mono Q2.out.size)); clear hb))
                go_roundw
                case rel => exact ⟨1, by go_num, by omega, BB.out.trans (QZ.out.mono BB.out.size)⟩
                case measure => simp [intOf]
              | true =>
                have HFT := Lib.hid hft
                have E1 : Hid (costErr n K X = 0) := Lib.hid (by unfold costErr; rw [if_pos HO.out, HCO.out, hft]; rfl)
                have E2 : Hid (costVal n K X = costSum X K) := Lib.hid (by unfold costVal; rw [E1.out]; rfl)
                clear hft
                go_wp2_with (first
                  | (go_at_call 32; refine (cost n _ _ K (X.drop 1) _ (AW.out.below Q4.out) ((IW.out.below Q4.out).rest rfl hpos)).mono ?_; rintro e w10 ⟨rfl, hb⟩; rw [SH.out]; have QZ := Lib.hid (Q4.out.trans (hb.mono Q4.out.size)); clear hb)
                  | (go_at_call 32; refine (cost n _ _ K X _ AW.out IW.out).mono ?_; rintro e w6 ⟨rfl, hb⟩; rw [E1.out, E2.out]; have Q1 := Lib.hid hb; clear hb)
                  | (go_at_call 33; refine (containsInt farAt2 _ X _ (IW.out.below Q1.out) (by omega)).mono ?_; rintro e w7 ⟨rfl, hb⟩; rw [HF.out]; have Q2 := Lib.hid (Q1.out.trans (hb.mono Q1.out.size)); clear hb)
                  | (go_at_call 35; refine (refFit n _ _ K X _ MY.out (by rw [HXN.out]) (AW.out.below Q2.out) (IW.out.below Q2.out)).mono ?_; rintro e w8 ⟨rfl, hb⟩; rw [HFT.out]; have Q3 := Lib.hid (Q2.out.trans (hb.mono Q2.out.size)); clear hb)
                  | (go_at_call 36; refine (refCost n _ _ K X _ MY.out HCO.out HFT.out (AW.out.below Q3.out) (IW.out.below Q3.out)).mono ?_; rintro e w9 ⟨rfl, hb⟩; have Q4 := Lib.hid (Q3.out.trans (hb.mono Q3.out.size)); clear hb))
                go_roundw
                case rel => exact ⟨1, by go_num, by omega, BB.out.trans (QZ.out.mono BB.out.size)⟩
                case measure => simp [intOf]
    · by_cases hj1 : j = 1
      · subst hj1
        have y0 := (B.out.cell (p := ⟨w1.heap.size, 1, none⟩) hll).trans K1.out
        go_wp2
        obtain ⟨wi, rfl⟩ : ∃ W, W = wr := ⟨_, rfl⟩
        go_loopw [9, 29] (fun lv iv wr => CsIn n wi wr lv iv) (fun _ iv _ => n - (intOf iv).toNat)
        case atStart => exact ⟨0, [], rfl, by omega, rfl, Below.refl _ _, World.ownsRow_nil _ _ _ _⟩
        case round =>
          obtain ⟨k, X, rfl, hk, hXl, hB2, hO⟩ := hrel
          have B2 := Lib.hid hB2
          have O := Lib.hid hO
          have XL := Lib.hid hXl
          have hiz := hB2.size
          have hX10 : X.length ≤ 10 := by omega
          obtain ⟨ao, cp, e⟩ := hO.form
          subst e
          clear hB2 hO hXl
          by_cases hlt : k < n
          · by_cases hx : k < xs.length
            · obtain ⟨bx, ox, cx', e, hbx, x0⟩ := XS.out.at_ hx
              simp only [Value.slice.injEq, true_and] at e
              obtain ⟨rfl, rfl⟩ := e
              have hbb := BL.out.trans ((B.out.trans (B2.out.mono hwz)).mono hlw)
              have x1 := (hbb.cell (p := ⟨bx, ox + k, none⟩) hbx).trans x0
              clear x0 hbb
              generalize val xs k = u at *
              by_cases hu : u.tmod 2 = 0
              · have hub : (u.tmod 2 == 0) = true := by simpa using hu
                obtain ⟨z, hz⟩ : ∃ z : Int, u.tmod 50 = z := ⟨_, rfl⟩
                have hza : -49 ≤ z ∧ z ≤ 49 := by have h1 := Int.lt_tmod_of_pos u (b := 50) (by omega); have h2 := Int.tmod_lt_of_pos u (b := 50) (by omega); omega
                obtain ⟨hza1, hza2⟩ := hza
                go_wp2_with (at_builtin; refine wpList_append_fresh rfl (.tmp 59) (.tmp 61) 51 rfl wi.heap.size 3 i0 (.int .i64 0) 1 8 Try.underlying51 hi hz0 hz1 hz2 rfl (by decide) (.slice ao X.length cp) X.length (X.map (Value.int .i64)) rfl (O.out.below ((Below.refl _ _).alloc (Nat.le_refl _) _)) ⟨wr.heap.size, 0, none⟩ 1 1 [.int .i64 (z + 100 * (k : Int))] rfl rfl (newsI _ _ _ _ (by simp)) (oneI _) (by unfold maxLen; omega) (by omega) (by simp; omega) ?_; intro v5 w5 hown hgrow hfr; obtain ⟨o5, b5⟩ := int_app (B2.out.trans (((Below.refl _ _).alloc (Nat.le_refl _) _).mono hiz)) (O.out.below ((Below.refl _ _).alloc (Nat.le_refl _) _)) hown hgrow; have O5 := Lib.hid o5; have B5 := Lib.hid b5; obtain ⟨g5, c5, rfl, _, _, _⟩ := ownsRow_form hown (by omega); clear hown hgrow hfr o5 b5)
                go_roundw
                case rel => first | exact ⟨k + 1, X ++ [z + 100 * (k : Int)], by go_num, by omega, by simp [XL.out], B5.out, O5.out⟩ | ((repeat apply Exists.intro); exact ⟨⟨k + 1, X ++ [z + 100 * (k : Int)], by go_num, by omega, by simp [XL.out], B5.out, O5.out⟩, rfl⟩)
                case measure => simp [intOf]; omega
              · have hub : (u.tmod 2 == 0) = false := by simpa using hu
                have hkk : (k : Int) % 50 = (k : Int) := by omega
                have hkt : (k : Int).tmod 50 = (k : Int) := by rw [Int.tmod_eq_emod_of_nonneg (by omega)]; exact hkk
                go_wp2_with (at_builtin; refine wpList_append_fresh rfl (.tmp 59) (.tmp 61) 51 rfl wi.heap.size 3 i0 (.int .i64 0) 1 8 Try.underlying51 hi hz0 hz1 hz2 rfl (by decide) (.slice ao X.length cp) X.length (X.map (Value.int .i64)) rfl (O.out.below ((Below.refl _ _).alloc (Nat.le_refl _) _)) ⟨wr.heap.size, 0, none⟩ 1 1 [.int .i64 ((k : Int) + 100 * (k : Int))] rfl rfl (newsI _ _ _ _ (by simp)) (oneI _) (by unfold maxLen; omega) (by omega) (by simp; omega) ?_; intro v5 w5 hown hgrow hfr; obtain ⟨o5, b5⟩ := int_app (B2.out.trans (((Below.refl _ _).alloc (Nat.le_refl _) _).mono hiz)) (O.out.below ((Below.refl _ _).alloc (Nat.le_refl _) _)) hown hgrow; have O5 := Lib.hid o5; have B5 := Lib.hid b5; obtain ⟨g5, c5, rfl, _, _, _⟩ := ownsRow_form hown (by omega); clear hown hgrow hfr o5 b5)
                go_roundw
                case rel => first | exact ⟨k + 1, X ++ [(k : Int) + 100 * (k : Int)], by go_num, by omega, by simp [XL.out], B5.out, O5.out⟩ | ((repeat apply Exists.intro); exact ⟨⟨k + 1, X ++ [(k : Int) + 100 * (k : Int)], by go_num, by omega, by simp [XL.out], B5.out, O5.out⟩, rfl⟩)
                case measure => simp [intOf]; omega
            · have hkk : (k : Int) % 50 = (k : Int) := by omega
              have hkt : (k : Int).tmod 50 = (k : Int) := by rw [Int.tmod_eq_emod_of_nonneg (by omega)]; exact hkk
              go_wp2_with (at_builtin; refine wpList_append_fresh rfl (.tmp 59) (.tmp 61) 51 rfl wi.heap.size 3 i0 (.int .i64 0) 1 8 Try.underlying51 hi hz0 hz1 hz2 rfl (by decide) (.slice ao X.length cp) X.length (X.map (Value.int .i64)) rfl (O.out.below ((Below.refl _ _).alloc (Nat.le_refl _) _)) ⟨wr.heap.size, 0, none⟩ 1 1 [.int .i64 ((k : Int) + 100 * (k : Int))] rfl rfl (newsI _ _ _ _ (by simp)) (oneI _) (by unfold maxLen; omega) (by omega) (by simp; omega) ?_; intro v5 w5 hown hgrow hfr; obtain ⟨o5, b5⟩ := int_app (B2.out.trans (((Below.refl _ _).alloc (Nat.le_refl _) _).mono hiz)) (O.out.below ((Below.refl _ _).alloc (Nat.le_refl _) _)) hown hgrow; have O5 := Lib.hid o5; have B5 := Lib.hid b5; obtain ⟨g5, c5, rfl, _, _, _⟩ := ownsRow_form hown (by omega); clear hown hgrow hfr o5 b5)
              go_roundw
              case rel => first | exact ⟨k + 1, X ++ [(k : Int) + 100 * (k : Int)], by go_num, by omega, by simp [XL.out], B5.out, O5.out⟩ | ((repeat apply Exists.intro); exact ⟨⟨k + 1, X ++ [(k : Int) + 100 * (k : Int)], by go_num, by omega, by simp [XL.out], B5.out, O5.out⟩, rfl⟩)
              case measure => simp [intOf]; omega
          · obtain hkn : n = k := by omega
            subst hkn
            clear hlt hk
            have AW := Lib.hid (AL.out.below (B.out.trans (B2.out.mono hwz)))
            have IW := Lib.hid O.out.ints
            have hOrd := R.out.ord (by omega)
            have HO := Lib.hid hOrd
            have MY := Lib.hid (R.out.may (by omega))
            have hXn : X.length = n := XL.out
            have HXN := Lib.hid hXn
            have SH : Hid (costErr n K (X.drop 1) = 2) := Lib.hid (short_err hOrd (by simp; omega))
            have BB := Lib.hid (B.out.trans (B2.out.mono hwz))
            obtain ⟨b5, c5, hao, _, _, hcp⟩ := ownsRow_form O.out (by omega)
            simp only [Value.slice.injEq, true_and] at hao
            obtain ⟨rfl, rfl⟩ := hao
            have hpos : 1 ≤ X.length := by omega
            clear hXn hOrd
            by_cases hc1 : cp = 1
            · subst hc1
              cases hf : X.any far with
              | true =>
                have HF := Lib.hid hf
                have E1 : Hid (costErr n K X = 2) := Lib.hid (by unfold costErr; rw [if_pos HO.out]; unfold coordB; rw [hf]; simp)
                have E2 : Hid (costVal n K X = 0) := Lib.hid (by unfold costVal; rw [E1.out]; rfl)
                clear hf
                go_wp2_with (first
                  | (go_at_call 32; refine (cost n _ _ K (X.drop 1) _ (AW.out.below Q2.out) (IntsAt.none_ _ _ (by simp; omega))).mono ?_; rintro e w8 ⟨rfl, hb⟩; rw [SH.out]; have QZ := Lib.hid (Q2.out.trans (hb.mono Q2.out.size)); clear hb)
                  | (go_at_call 32; refine (cost n _ _ K X _ AW.out IW.out).mono ?_; rintro e w6 ⟨rfl, hb⟩; rw [E1.out, E2.out]; have Q1 := Lib.hid hb; clear hb)
                  | (go_at_call 33; refine (containsInt farAt2 _ X _ (IW.out.below Q1.out) (by omega)).mono ?_; rintro e w7 ⟨rfl, hb⟩; rw [HF.out]; have Q2 := Lib.hid (Q1.out.trans (hb.mono Q1.out.size)); clear hb))
                go_roundw
                case rel => exact ⟨2, by go_num, by omega, BB.out.trans (QZ.out.mono BB.out.size)⟩
                case measure => simp [intOf]
              | false =>
                have HF := Lib.hid hf
                have HCO : Hid (coordB n X = true) := Lib.hid (by have := HXN.out; unfold coordB; rw [hf]; simp; omega)
                clear hf
                cases hft : fitB X K with
                | false =>
                  have HFT := Lib.hid hft
                  have E1 : Hid (costErr n K X = 15) := Lib.hid (by unfold costErr; rw [if_pos HO.out, HCO.out, hft]; rfl)
                  have E2 : Hid (costVal n K X = 0) := Lib.hid (by unfold costVal; rw [E1.out]; rfl)
                  clear hft
                  go_wp2_with (first
                    | (go_at_call 32; refine (cost n _ _ K (X.drop 1) _ (AW.out.below Q3.out) (IntsAt.none_ _ _ (by simp; omega))).mono ?_; rintro e w9 ⟨rfl, hb⟩; rw [SH.out]; have QZ := Lib.hid (Q3.out.trans (hb.mono Q3.out.size)); clear hb)
                    | (go_at_call 32; refine (cost n _ _ K X _ AW.out IW.out).mono ?_; rintro e w6 ⟨rfl, hb⟩; rw [E1.out, E2.out]; have Q1 := Lib.hid hb; clear hb)
                    | (go_at_call 33; refine (containsInt farAt2 _ X _ (IW.out.below Q1.out) (by omega)).mono ?_; rintro e w7 ⟨rfl, hb⟩; rw [HF.out]; have Q2 := Lib.hid (Q1.out.trans (hb.mono Q1.out.size)); clear hb)
                    | (go_at_call 35; refine (refFit n _ _ K X _ MY.out (by rw [HXN.out]) (AW.out.below Q2.out) (IW.out.below Q2.out)).mono ?_; rintro e w8 ⟨rfl, hb⟩; rw [HFT.out]; have Q3 := Lib.hid (Q2.out.trans (hb.mono Q2.out.size)); clear hb))
                  go_roundw
                  case rel => exact ⟨2, by go_num, by omega, BB.out.trans (QZ.out.mono BB.out.size)⟩
                  case measure => simp [intOf]
                | true =>
                  have HFT := Lib.hid hft
                  have E1 : Hid (costErr n K X = 0) := Lib.hid (by unfold costErr; rw [if_pos HO.out, HCO.out, hft]; rfl)
                  have E2 : Hid (costVal n K X = costSum X K) := Lib.hid (by unfold costVal; rw [E1.out]; rfl)
                  clear hft
                  go_wp2_with (first
                    | (go_at_call 32; refine (cost n _ _ K (X.drop 1) _ (AW.out.below Q4.out) (IntsAt.none_ _ _ (by simp; omega))).mono ?_; rintro e w10 ⟨rfl, hb⟩; rw [SH.out]; have QZ := Lib.hid (Q4.out.trans (hb.mono Q4.out.size)); clear hb)
                    | (go_at_call 32; refine (cost n _ _ K X _ AW.out IW.out).mono ?_; rintro e w6 ⟨rfl, hb⟩; rw [E1.out, E2.out]; have Q1 := Lib.hid hb; clear hb)
                    | (go_at_call 33; refine (containsInt farAt2 _ X _ (IW.out.below Q1.out) (by omega)).mono ?_; rintro e w7 ⟨rfl, hb⟩; rw [HF.out]; have Q2 := Lib.hid (Q1.out.trans (hb.mono Q1.out.size)); clear hb)
                    | (go_at_call 35; refine (refFit n _ _ K X _ MY.out (by rw [HXN.out]) (AW.out.below Q2.out) (IW.out.below Q2.out)).mono ?_; rintro e w8 ⟨rfl, hb⟩; rw [HFT.out]; have Q3 := Lib.hid (Q2.out.trans (hb.mono Q2.out.size)); clear hb)
                    | (go_at_call 36; refine (refCost n _ _ K X _ MY.out HCO.out HFT.out (AW.out.below Q3.out) (IW.out.below Q3.out)).mono ?_; rintro e w9 ⟨rfl, hb⟩; have Q4 := Lib.hid (Q3.out.trans (hb.mono Q3.out.size)); clear hb))
                  go_roundw
                  case rel => exact ⟨2, by go_num, by omega, BB.out.trans (QZ.out.mono BB.out.size)⟩
                  case measure => simp [intOf]
            · skip
              cases hf : X.any far with
              | true =>
                have HF := Lib.hid hf
                have E1 : Hid (costErr n K X = 2) := Lib.hid (by unfold costErr; rw [if_pos HO.out]; unfold coordB; rw [hf]; simp)
                have E2 : Hid (costVal n K X = 0) := Lib.hid (by unfold costVal; rw [E1.out]; rfl)
                clear hf
                go_wp2_with (first
                  | (go_at_call 32; refine (cost n _ _ K (X.drop 1) _ (AW.out.below Q2.out) ((IW.out.below Q2.out).rest rfl hpos)).mono ?_; rintro e w8 ⟨rfl, hb⟩; rw [SH.out]; have QZ := Lib.hid (Q2.out.trans (hb.mono Q2.out.size)); clear hb)
                  | (go_at_call 32; refine (cost n _ _ K X _ AW.out IW.out).mono ?_; rintro e w6 ⟨rfl, hb⟩; rw [E1.out, E2.out]; have Q1 := Lib.hid hb; clear hb)
                  | (go_at_call 33; refine (containsInt farAt2 _ X _ (IW.out.below Q1.out) (by omega)).mono ?_; rintro e w7 ⟨rfl, hb⟩; rw [HF.out]; have Q2 := Lib.hid (Q1.out.trans (hb.mono Q1.out.size)); clear hb))
                go_roundw
                case rel => exact ⟨2, by go_num, by omega, BB.out.trans (QZ.out.mono BB.out.size)⟩
                case measure => simp [intOf]
              | false =>
                have HF := Lib.hid hf
                have HCO : Hid (coordB n X = true) := Lib.hid (by have := HXN.out; unfold coordB; rw [hf]; simp; omega)
                clear hf
                cases hft : fitB X K with
                | false =>
                  have HFT := Lib.hid hft
                  have E1 : Hid (costErr n K X = 15) := Lib.hid (by unfold costErr; rw [if_pos HO.out, HCO.out, hft]; rfl)
                  have E2 : Hid (costVal n K X = 0) := Lib.hid (by unfold costVal; rw [E1.out]; rfl)
                  clear hft
                  go_wp2_with (first
                    | (go_at_call 32; refine (cost n _ _ K (X.drop 1) _ (AW.out.below Q3.out) ((IW.out.below Q3.out).rest rfl hpos)).mono ?_; rintro e w9 ⟨rfl, hb⟩; rw [SH.out]; have QZ := Lib.hid (Q3.out.trans (hb.mono Q3.out.size)); clear hb)
                    | (go_at_call 32; refine (cost n _ _ K X _ AW.out IW.out).mono ?_; rintro e w6 ⟨rfl, hb⟩; rw [E1.out, E2.out]; have Q1 := Lib.hid hb; clear hb)
                    | (go_at_call 33; refine (containsInt farAt2 _ X _ (IW.out.below Q1.out) (by omega)).mono ?_; rintro e w7 ⟨rfl, hb⟩; rw [HF.out]; have Q2 := Lib.hid (Q1.out.trans (hb.mono Q1.out.size)); clear hb)
                    | (go_at_call 35; refine (refFit n _ _ K X _ MY.out (by rw [HXN.out]) (AW.out.below Q2.out) (IW.out.below Q2.out)).mono ?_; rintro e w8 ⟨rfl, hb⟩; rw [HFT.out]; have Q3 := Lib.hid (Q2.out.trans (hb.mono Q2.out.size)); clear hb))
                  go_roundw
                  case rel => exact ⟨2, by go_num, by omega, BB.out.trans (QZ.out.mono BB.out.size)⟩
                  case measure => simp [intOf]
                | true =>
                  have HFT := Lib.hid hft
                  have E1 : Hid (costErr n K X = 0) := Lib.hid (by unfold costErr; rw [if_pos HO.out, HCO.out, hft]; rfl)
                  have E2 : Hid (costVal n K X = costSum X K) := Lib.hid (by unfold costVal; rw [E1.out]; rfl)
                  clear hft
                  go_wp2_with (first
                    | (go_at_call 32; refine (cost n _ _ K (X.drop 1) _ (AW.out.below Q4.out) ((IW.out.below Q4.out).rest rfl hpos)).mono ?_; rintro e w10 ⟨rfl, hb⟩; rw [SH.out]; have QZ := Lib.hid (Q4.out.trans (hb.mono Q4.out.size)); clear hb)
                    | (go_at_call 32; refine (cost n _ _ K X _ AW.out IW.out).mono ?_; rintro e w6 ⟨rfl, hb⟩; rw [E1.out, E2.out]; have Q1 := Lib.hid hb; clear hb)
                    | (go_at_call 33; refine (containsInt farAt2 _ X _ (IW.out.below Q1.out) (by omega)).mono ?_; rintro e w7 ⟨rfl, hb⟩; rw [HF.out]; have Q2 := Lib.hid (Q1.out.trans (hb.mono Q1.out.size)); clear hb)
                    | (go_at_call 35; refine (refFit n _ _ K X _ MY.out (by rw [HXN.out]) (AW.out.below Q2.out) (IW.out.below Q2.out)).mono ?_; rintro e w8 ⟨rfl, hb⟩; rw [HFT.out]; have Q3 := Lib.hid (Q2.out.trans (hb.mono Q2.out.size)); clear hb)
                    | (go_at_call 36; refine (refCost n _ _ K X _ MY.out HCO.out HFT.out (AW.out.below Q3.out) (IW.out.below Q3.out)).mono ?_; rintro e w9 ⟨rfl, hb⟩; have Q4 := Lib.hid (Q3.out.trans (hb.mono Q3.out.size)); clear hb))
                  go_roundw
                  case rel => exact ⟨2, by go_num, by omega, BB.out.trans (QZ.out.mono BB.out.size)⟩
                  case measure => simp [intOf]
      · obtain rfl : j = 2 := by omega
        go_wp2_with (go_at_call 30; refine (wakes _).mono ?_; rintro e w9 ⟨rfl, hb⟩; have B9 := Lib.hid hb; clear hb)
        go_ret
        exact ⟨rfl, (BL.out.trans (B.out.mono hlw)).trans (B9.out.mono (by omega))⟩
end Go.Proofs.Ytnofkddcnjdjnaa
