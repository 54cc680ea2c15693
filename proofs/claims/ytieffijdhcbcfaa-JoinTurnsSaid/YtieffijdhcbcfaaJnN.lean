/-
  The code's way from a cell, nearer by each step: what nearer answers. Conditions: cells that may be, which hang together.
-/
import Derived.Test.YtieffijdhcbcfaaJnA
import Derived.Test.YtieffijdhcbcfaaJnP
namespace Go.Proofs.Ytieffijdhcbcfaa
open Go.RowKit Go.Proofs.Ytieffijdhcbcfaa.GrM Go.Proofs.Ytieffijdhcbcfaa.JoM

theorem drewN_bel13n {B : Nat} {w0 w : World} (n : Nat) (h : Below B w0 w) : Below B w0 (w.drewN n) := ⟨h.os, h.tape, h.output, h.size, h.block⟩
def lenV13 : Value → Nat
  | .slice _ n _ => n
  | _ => 0
def NearP (L : List Int) (v s : Nat) (w : World) (e : Ending) (w' : World) : Prop :=
  ∃ (P : List Nat) (A : Option Addr) (c m : Nat), e = .returned (.slice A m c) ∧ P.length = m ∧ OwnZ w' w.heap.size (.slice A m c) (castN P) m ∧ Pth L v P s ∧ farI L s v = (m : Int) ∧ Below w.heap.size w w'
def NrO (L : List Int) (n v s : Nat) (w0 : World) (vv pv : Value) (wr : World) : Prop :=
  ∃ (P : List Nat) (cur : Nat), vv = .int .i64 cur ∧ cur < n ∧ Con L s cur ∧ Pth L v P cur ∧ (P.length : Int) + farI L s cur = farI L s v ∧ OwnZ wr w0.heap.size pv (castN P) P.length ∧ Below w0.heap.size w0 wr
def NrI (L : List Int) (s cur : Nat) (p0 : Value) (w1 : World) (vv pv dv : Value) (wr : World) : Prop :=
  ∃ d : Nat, vv = .int .i64 cur ∧ pv = p0 ∧ dv = .int .i64 d ∧ d ≤ 4 ∧ Below w1.heap.size w1 wr ∧ ∀ e, e < d → ∀ u : Nat, nxG L cur e = (u : Int) → ¬ farI L s u < farI L s cur
set_option maxHeartbeats 8000000 in
set_option maxRecDepth 100000 in
theorem nearer_ (lv : Value) (L : List Int) (n v s B g : Nat) (w : World) (hL : CelAt w lv L n) (hn : n ≤ 100000) (hg : GoodG L n) (hs : s < n) (hv : v < n) (hc : Con L s v) (hF : FarAt w B g n (farI L s)) :
    Calls Try.prog 30 #[lv, .int .i64 v, .slice (some ⟨g, 0, none⟩) n n] w (NearP L v s w) := by
  obtain ⟨i0, hi, hz0, hz1, hz2⟩ := info_parts infoInt12
  have HL := Lib.hid hL
  have HG := Lib.hid hg
  have HF := Lib.hid hF
  have HC := Lib.hid hc
  obtain ⟨m0, hm0, -, -⟩ := far_nat hc
  have hm0n : m0 < n := by have := far_lt hg hs hv; omega
  have HM0 := Lib.hid hm0
  have hgw := hF.lt.2
  obtain ⟨A0, c0, e⟩ := hL.form
  subst e
  clear hL hg hF hc hm0
  go_enter Try.func30, Try.ntmps30
  go_wp2_with fail
  go_loopw [1, 7] (fun vv pv wr => NrO L n v s w vv pv wr) (fun _ pv _ => m0 - lenV13 pv)
  case atStart => exact ⟨[], v, rfl, hv, HC.out, rfl, by simp, World.ownsRow_nil _ _ _ _, Below.refl _ _⟩
  case round =>
    obtain ⟨P, cur, rfl, hcn, hcon, hP, hsum, hO, hB⟩ := hrel
    have CO := Lib.hid hcon
    have PP := Lib.hid hP
    have OP := Lib.hid hO
    have BB := Lib.hid hB
    obtain ⟨ao, co, e⟩ := row_form12 hO
    subst e
    obtain ⟨wo, hwo⟩ : ∃ W, W = wr := ⟨_, rfl⟩
    subst hwo
    obtain ⟨f, hf, hw2, -⟩ := far_nat hcon
    have FO := HF.out.below hB (Nat.le_refl _)
    have fc := FO.cell hcn
    rw [hf] at fc
    obtain ⟨m, hm⟩ : ∃ m, P.length = m := ⟨_, rfl⟩
    have HM := Lib.hid hm
    have hmm : m + f = m0 := by rw [← hm]; have := HM0.out; omega
    have HMM := Lib.hid hmm
    have hgo := FO.lt.2
    have FF := Lib.hid FO
    have HFC := Lib.hid hf
    rw [hm] at OP ⊢
    clear hcon hP hO hB hm hsum FO hf
    by_cases h0 : f = 0
    · subst h0
      have hcs : s = cur := by
        exact hw2.none
      subst hcs
      clear hw2 hmm
      go_wp2_with fail
      go_ret
      exact ⟨P, ao, co, m, rfl, HM.out, OP.out, PP.out, by rw [HM0.out]; have := HMM.out; omega, BB.out⟩
    · obtain ⟨f1, rfl⟩ : ∃ k, f = k + 1 := ⟨f - 1, by omega⟩
      clear h0 hw2
      have q0 : decide (0 < ((f1 + 1 : Nat) : Int)) = true := decide_eq_true (by omega)
      go_upto_region 4 with fail
      clear q0 hmm fc
      go_loopw [1, 7, 15] (fun vv pv dv wr => NrI L s cur (.slice ao m co) wo vv pv dv wr) (fun _ _ dv _ => 4 - (intOf dv).toNat)
      case atStart => exact ⟨0, rfl, rfl, rfl, Nat.zero_le _, Below.refl _ _, fun e he => absurd he (by omega)⟩
      case round =>
        obtain ⟨d, rfl, rfl, rfl, hd, hb0, hno⟩ := hrel
        have NO := Lib.hid hno
        have BI := Lib.hid hb0
        have BW := Lib.hid (BB.out.trans (hb0.mono BB.out.size))
        have OW := Lib.hid (row_below12 OP.out hb0 (Nat.le_refl _))
        have FW := Lib.hid (FF.out.below hb0 (Nat.le_refl _))
        have hgr := FW.out.lt.2
        clear hno hb0
        by_cases hd4 : d < 4
        · have q1 : decide (d < 4) = true := decide_eq_true hd4
          have q2 : decide ((d : Int) < 4) = true := decide_eq_true (by omega)
          obtain ⟨b, o9, c', e, hb, hx, -⟩ := (HL.out.below BW.out (Nat.le_refl _)).nth hcn
          simp only [Value.slice.injEq, true_and] at e
          obtain ⟨rfl, rfl⟩ := e
          have f0 := hx d hd4
          have hs2 := HG.out.side hcn hd4
          by_cases hz : nxG L cur d = -1
          · rw [hz] at f0
            have NN : Hid (∀ e, e < d + 1 → ∀ u : Nat, nxG L cur e = (u : Int) → ¬ farI L s u < farI L s cur) := Lib.hid (fun e he u hx => by
              by_cases c : e = d
              · subst c; omega
              · exact NO.out e (by omega) u hx)
            clear hx hs2 hz
            go_upto_region 7 with fail
            go_quiet (fail)
            go_wp2_with fail
            go_roundw
            case rel => exact ⟨d + 1, rfl, rfl, by go_num, by omega, drewN_bel13n _ BI.out, NN.out⟩
            case measure => (simp [intOf] <;> omega)
          · obtain ⟨u, hu⟩ : ∃ u : Nat, nxG L cur d = u := by
              rcases hs2 with h | h
              · exact absurd h.1 hz
              · exact ⟨(nxG L cur d).toNat, by omega⟩
            have hun := (next_lt HG.out hcn hd4 hu).1
            have hcu := CO.out.trans (Con.one hd4 hu)
            rw [hu] at f0
            have n1 : ((u : Int) == -1) = false := by rw [beq_eq_false_iff_ne]; omega
            have n2 : ((u : Int) != -1) = true := by rw [bne, n1]; rfl
            have fu := FW.out.cell hun
            have fc := FW.out.cell hcn
            rw [HFC.out] at fc
            obtain ⟨k, hk, -, -⟩ := far_nat hcu
            rw [hk] at fu
            by_cases hl : k < f1 + 1
            · have hkf : k = f1 := by
                have := near_one HG.out hcn HFC.out hd4 hu (by rw [hk, HFC.out]; omega)
                omega
              subst hkf
              have q3 : decide ((k : Int) < (k : Int) + 1) = true := decide_eq_true (by omega)
              have q4 : decide (k < k + 1) = true := decide_eq_true hl
              have PN := Lib.hid (PP.out.snoc hd4 hu)
              have HK := Lib.hid hk
              have CU := Lib.hid hcu
              have hmn : m < 100000 := by have := HMM.out; omega
              clear hx hs2 hz hu hcu hk hl
              go_upto_region 7 with fail
              go_quiet (fail)
              obtain ⟨w3, hw3⟩ : ∃ X, X = wr.drewN nq := ⟨_, rfl⟩
              have B3 : Hid (Below w.heap.size w w3) := Lib.hid (by rw [hw3]; exact drewN_bel13n _ BW.out)
              have O3 : Hid (OwnZ w3 w.heap.size (.slice ao m co) (castN P) m) := Lib.hid (by rw [hw3]; exact row_below12 OW.out (drewN_bel13n _ (Below.refl _ _)) (Nat.le_refl _))
              rw [← hw3]
              clear f0 fu fc q3 q4 n1 n2 hw3
              go_wp2_with (at_builtin; refine wpList_append_fresh rfl (.tmp 38) (.tmp 40) 38 rfl w.heap.size 3 i0 (.int .i64 0) 1 8 Try.underlying38 hi hz0 hz1 hz2 rfl (by decide) (.slice ao m co) m ((castN P).map intV) rfl (row_below12 O3.out ((Below.refl _ _).alloc (Nat.le_refl _) _) (Nat.le_refl _)) ⟨w3.heap.size, 0, none⟩ 1 1 [.int .i64 (d : Int)] rfl rfl (newsI13 _ _ _ 3 (heap_alloc_new w3 _)) (fun z hz => by obtain rfl := List.mem_singleton.1 hz; rfl) (by unfold maxLen; omega) (by omega) (by have := B3.out.size; simp; omega) ?_; intro v5 w5 hown hgrow hfr)
              have M5 : Hid (OwnZ w5 w.heap.size v5 (castN (P ++ [d])) (m + 1)) := Lib.hid (OwnZ.mores hown)
              have B5 : Hid (Below w.heap.size w w5) := Lib.hid ((B3.out.alloc B3.out.size _).grown hgrow (by have := B3.out.size; simp; omega) (fun q hq => (World.ownsRow.lt O3.out q hq).1))
              obtain ⟨a5, c5, e5⟩ := row_form12 hown
              subst e5
              clear hown hgrow hfr
              go_roundw
              case rel => exact ⟨P ++ [d], u, rfl, hun, CU.out, PN.out, by rw [List.length_append, HM.out, HK.out, HM0.out]; have := HMM.out; simp; omega, by rw [List.length_append, HM.out]; exact M5.out, B5.out⟩
              case measure => (simp [lenV13]; have := HMM.out; omega)
            · have q3 : decide ((k : Int) < (f1 : Int) + 1) = false := decide_eq_false (by omega)
              have q4 : decide (k < f1 + 1) = false := decide_eq_false hl
              have NN : Hid (∀ e, e < d + 1 → ∀ u : Nat, nxG L cur e = (u : Int) → ¬ farI L s u < farI L s cur) := Lib.hid (fun e he u2 hx => by
                by_cases c : e = d
                · subst c
                  obtain rfl : u = u2 := by omega
                  rw [hk, HFC.out]; omega
                · exact NO.out e (by omega) u2 hx)
              clear hx hs2 hz hu hcu hk
              go_upto_region 7 with fail
              go_quiet (fail)
              go_wp2_with fail
              go_roundw
              case rel => exact ⟨d + 1, rfl, rfl, by go_num, by omega, drewN_bel13n _ BI.out, NN.out⟩
              case measure => (simp [intOf] <;> omega)
        · exfalso
          have hd5 : d = 4 := by omega
          subst hd5
          obtain ⟨e, u, he, _, hx, hf⟩ := near_is HG.out hs HFC.out
          exact NO.out e he u hx (by rw [hf, HFC.out]; omega)
end Go.Proofs.Ytieffijdhcbcfaa
