/-
  Cells copied; a grid's cells; what Check and Of answer. Conditions: at most 100000 cells.
  What checkSide, Check and Of answer. Conditions: at most 100000 cells.
  What the document fixes of a grid: wakes answers true. Conditions: none.
  What the code's and the reference's Split and Join answer and leave, at any arguments, in one function each. Conditions: fewer than 4096 cells, that may be.
-/
import Derived.Test.YtieffijdhcbcfaaNzDb
import Derived.Test.YtieffijdhcbcfaaNzRc
import Derived.Laws.AppendOwnNone
import Derived.Lib.SliceRun
import Derived.Test.YtieffijdhcbcfaaNzRb
import Derived.Test.YtieffijdhcbcfaaNzRa
namespace Go.Proofs.Ytieffijdhcbcfaa
open Go.RowKit Go.Proofs.Ytieffijdhcbcfaa.GrM

theorem CelAt.news {w : World} {L : List Int} {n c : Nat} {a : Addr} (h : CelAt w (.slice (some a) n c) L n) : ∀ j z, (L.map intV)[j]? = some z → w.cell? (a.add j) = some z := by
  intro j z hz
  obtain ⟨hl, A, cap, e, _, hA⟩ := h
  obtain ⟨e1, _⟩ : some a = A ∧ c = cap := by simpa using e
  subst e1
  have hj : j < L.length := by
    have := (List.getElem?_eq_some_iff.1 hz).1
    simpa using this
  obtain ⟨b, o, e2, _, hc⟩ := hA (by omega)
  injection e2 with e2
  subst e2
  have e3 : (⟨b, o, none⟩ : Addr).add j = ⟨b, o + j, none⟩ := by unfold Addr.add; split <;> simp_all
  rw [e3, hc j (by omega)]
  rw [List.getElem?_map, List.getElem?_eq_getElem hj] at hz
  rw [← Option.some.inj hz, List.getD_eq_getElem?_getD, List.getElem?_eq_getElem hj]; rfl
/-- What a copy is. -/
def CopP (L : List Int) (n : Nat) (w : World) (e : Ending) (w' : World) : Prop :=
  ∃ A c, e = .returned (.slice A n c) ∧ OwnG w' w.heap.size (.slice A n c) L n ∧ RowKit.Below w.heap.size w w'
theorem cel_none {w : World} {L : List Int} {n c : Nat} (h : CelAt w (.slice none n c) L n) : n = 0 ∧ L = [] ∧ c = 0 := by
  obtain ⟨hl, A, cap, e, hc, hA⟩ := h
  obtain ⟨e1, e3⟩ : none = A ∧ c = cap := by simpa using e
  have hn : n = 0 := by
    apply Classical.byContradiction
    intro h
    obtain ⟨b, o, e2, _⟩ := hA (by omega)
    rw [e2] at e1
    cases e1
  exact ⟨hn, List.eq_nil_of_length_eq_zero (by omega), by rw [e3]; exact hc.2 e1.symm⟩
theorem cel_cap {w : World} {A : Option Addr} {L : List Int} {n c : Nat} (h : CelAt w (.slice A n c) L n) : n ≤ c := by
  obtain ⟨hl, A', cap, e, hc, hA⟩ := h
  obtain ⟨_, e2⟩ : A = A' ∧ c = cap := by simpa using e
  have := hc.1
  omega
theorem own_none8 (w : World) (T : TypeId) (k : Nat) : (w.alloc (.cells #[] T)).ownsRow w.heap.size T k (.slice (some ⟨w.heap.size, 0, none⟩) 0 0) 0 [] := by
  exact ⟨by simp, Or.inr ⟨w.heap.size, 0, #[], rfl, Nat.le_refl _, heap_alloc_new w _, Nat.le_refl _, by simp, by simp, by simp⟩⟩
theorem cap_zero (w : World) (n : Nat) (hn : n ≤ 1000000) : (w.alloc (.cells (madeCells zeroC (n * 8)) 48)).ownsRow w.heap.size 48 8 (.slice (some ⟨w.heap.size, 0, none⟩) 0 n) 0 [] := made_cap n hn w



end Go.Proofs.Ytieffijdhcbcfaa

namespace Go.Proofs.Ytieffijdhcbcfaa
open Go.RowKit Go.Proofs.Ytieffijdhcbcfaa.GrM

theorem CelAt.at2 {w : World} {b o n c : Nat} {L : List Int} (h : CelAt w (.slice (some ⟨b, o, none⟩) n c) L n) {i e : Nat} (hi : i < n) (he : e < 4) :
    w.cell? ⟨b, o + i * 8 + e, none⟩ = some (.int .i64 (nxG L i e)) ∧ w.cell? ⟨b, o + i * 8 + 4 + e, none⟩ = some (.int .i64 (owG L i e)) := by
  obtain ⟨b', o', c', e', _, h1, h2⟩ := h.nth hi
  simp only [Value.slice.injEq, Option.some.injEq, Addr.mk.injEq, true_and, and_true] at e'
  obtain ⟨⟨rfl, rfl⟩, rfl⟩ := e'
  exact ⟨h1 e he, h2 e he⟩
set_option maxHeartbeats 8000000 in
set_option maxRecDepth 100000 in
theorem sideY (lv : Value) (L : List Int) (n v d : Nat) (w : World) (hL : CelAt w lv L n) (hv : v < n) (hd : d < 4) :
    Calls Try.prog 32 #[lv, .int .i64 v, .int .i64 d] w fun r w' => r = .returned (.int .i64 (chk1 L n v d)) ∧ Below w.heap.size w w' := by
  have CO := Lib.hid (contraryY d)
  obtain ⟨b, o9, c0, e, hb, -, -⟩ := hL.nth hv
  subst e
  have HL := Lib.hid hL
  obtain ⟨f1, f2⟩ := hL.at2 hv hd
  clear hL
  by_cases g1 : nxG L v d = -1
  · by_cases g2 : owG L v d = 0
    · have E := Lib.hid (chk_free (n := n) g1 g2)
      rw [g1] at f1
      rw [g2] at f2
      clear g1 g2
      go_enter Try.func32, Try.ntmps32
      go_wp2_with fail
      go_quiet (fail)
      go_wp2_with fail
      go_ret
      exact ⟨ret_int E.out.symm, drewN_below (Below.refl _ _) _⟩
    · have E := Lib.hid (chk_owned (n := n) g1 g2)
      rw [g1] at f1
      have q2 : (owG L v d == 0) = false := by rw [beq_eq_false_iff_ne]; exact g2
      have q3 : (owG L v d != 0) = true := by rw [bne, q2]; rfl
      clear g1 g2
      generalize owG L v d = y2 at *
      go_enter Try.func32, Try.ntmps32
      go_wp2_with fail
      go_quiet (fail)
      go_wp2_with fail
      go_ret
      exact ⟨ret_int E.out.symm, drewN_below (Below.refl _ _) _⟩
  · have r1 : (nxG L v d == -1) = false := by rw [beq_eq_false_iff_ne]; exact g1
    by_cases g3 : nxG L v d < 0 ∨ (n : Int) ≤ nxG L v d ∨ nxG L v d = v
    · have E := Lib.hid (chk_out (n := n) g1 g3)
      clear g1
      generalize nxG L v d = y1 at *
      generalize owG L v d = y2 at *
      rcases Int.lt_or_le y1 0 with k1 | k1
      · have r2 : decide (y1 < 0) = true := by rw [decide_eq_true_eq]; exact k1
        clear g3 k1
        go_enter Try.func32, Try.ntmps32
        go_wp2_with fail
        go_quiet (fail)
        go_wp2_with fail
        go_ret
        exact ⟨ret_int E.out.symm, drewN_below (Below.refl _ _) _⟩
      · have r2 : decide (y1 < 0) = false := by rw [decide_eq_false_iff_not]; omega
        rcases Int.lt_or_le y1 n with k2 | k2
        · have k3 : y1 = (v : Int) := by omega
          have r3 : decide ((n : Int) ≤ y1) = false := by rw [decide_eq_false_iff_not]; omega
          have r4 : (y1 == (v : Int)) = true := by rw [beq_iff_eq]; exact k3
          clear g3 k1 k2 k3
          go_enter Try.func32, Try.ntmps32
          go_wp2_with fail
          go_quiet (fail)
          go_wp2_with fail
          go_ret
          exact ⟨ret_int E.out.symm, drewN_below (Below.refl _ _) _⟩
        · have r3 : decide ((n : Int) ≤ y1) = true := by rw [decide_eq_true_eq]; exact k2
          clear g3 k1 k2
          go_enter Try.func32, Try.ntmps32
          go_wp2_with fail
          go_quiet (fail)
          go_wp2_with fail
          go_ret
          exact ⟨ret_int E.out.symm, drewN_below (Below.refl _ _) _⟩
    · obtain ⟨x, hx⟩ : ∃ x : Nat, nxG L v d = (x : Int) := ⟨(nxG L v d).toNat, by omega⟩
      have hxn : x < n := by omega
      have hxv : x ≠ v := by omega
      have CF := chk_far hx hxn hxv
      rw [hx] at f1 r1
      have r2 : decide ((x : Int) < 0) = false := by rw [decide_eq_false_iff_not]; omega
      have r3 : decide ((n : Int) ≤ (x : Int)) = false := by rw [decide_eq_false_iff_not]; omega
      have r3' : decide (n ≤ x) = false := by rw [decide_eq_false_iff_not]; omega
      have r4 : ((x : Int) == (v : Int)) = false := by rw [beq_eq_false_iff_ne]; omega
      obtain ⟨f3, f4⟩ := HL.out.at2 hxn (opp_lt d)
      have hm4 := opp_lt d
      clear g1 g3 hx hxv
      generalize opp d = d2 at *
      have NF : Hid (nxG L x d2 = v → owG L x d2 = owG L v d → -2 ≤ owG L v d → chk1 L n v d = 0) := Lib.hid (fun a1 a2 a3 => by rw [CF, if_neg (by omega)])
      have EF : Hid (nxG L x d2 ≠ v ∨ owG L x d2 ≠ owG L v d ∨ owG L v d < -2 → chk1 L n v d = 9) := Lib.hid (fun a => by rw [CF, if_pos a])
      clear CF
      generalize owG L v d = y2 at *
      generalize nxG L x d2 = y3 at *
      generalize owG L x d2 = y4 at *
      by_cases t1 : y3 = v
      · have s1 : (y3 == (v : Int)) = true := by rw [beq_iff_eq]; exact t1
        have s1' : (y3 != (v : Int)) = false := by rw [bne, s1]; rfl
        by_cases t2 : y4 = y2
        · have s2 : (y4 == y2) = true := by rw [beq_iff_eq]; exact t2
          have s2' : (y4 != y2) = false := by rw [bne, s2]; rfl
          by_cases t3 : -2 ≤ y2
          · have s3 : decide (y2 < -2) = false := by rw [decide_eq_false_iff_not]; omega
            have E := Lib.hid (NF.out t1 t2 t3)
            clear t1 t2 t3 NF EF
            go_enter Try.func32, Try.ntmps32
            go_wp2_with fail
            go_quiet (fail)
            go_wp2_with (go_at_call 36; refine (CO.out _ hd).mono ?_; rintro e w' ⟨rfl, rfl⟩)
            go_ret
            exact ⟨ret_int E.out.symm, drewN_below (Below.refl _ _) _⟩
          · have s3 : decide (y2 < -2) = true := by rw [decide_eq_true_eq]; omega
            have E := Lib.hid (EF.out (by omega))
            clear t1 t2 t3 NF EF
            go_enter Try.func32, Try.ntmps32
            go_wp2_with fail
            go_quiet (fail)
            go_wp2_with (go_at_call 36; refine (CO.out _ hd).mono ?_; rintro e w' ⟨rfl, rfl⟩)
            go_ret
            exact ⟨ret_int E.out.symm, drewN_below (Below.refl _ _) _⟩
        · have s2 : (y4 == y2) = false := by rw [beq_eq_false_iff_ne]; exact t2
          have s2' : (y4 != y2) = true := by rw [bne, s2]; rfl
          have E := Lib.hid (EF.out (by omega))
          clear t1 t2 NF EF
          go_enter Try.func32, Try.ntmps32
          go_wp2_with fail
          go_quiet (fail)
          go_wp2_with (go_at_call 36; refine (CO.out _ hd).mono ?_; rintro e w' ⟨rfl, rfl⟩)
          go_ret
          exact ⟨ret_int E.out.symm, drewN_below (Below.refl _ _) _⟩
      · have s1 : (y3 == (v : Int)) = false := by rw [beq_eq_false_iff_ne]; exact t1
        have s1' : (y3 != (v : Int)) = true := by rw [bne, s1]; rfl
        have E := Lib.hid (EF.out (by omega))
        clear t1 NF EF
        go_enter Try.func32, Try.ntmps32
        go_wp2_with fail
        go_quiet (fail)
        go_wp2_with (go_at_call 36; refine (CO.out _ hd).mono ?_; rintro e w' ⟨rfl, rfl⟩)
        go_ret
        exact ⟨ret_int E.out.symm, drewN_below (Below.refl _ _) _⟩
set_option maxHeartbeats 8000000 in
set_option maxRecDepth 100000 in
theorem checkY (lv : Value) (L : List Int) (n : Nat) (w : World) (hL : CelAt w lv L n) (hn : n ≤ 100000) :
    Calls Try.prog 24 #[lv] w fun r w' => r = .returned (.int .i64 (chkG L n)) ∧ Below w.heap.size w w' := by
  have HL := Lib.hid hL
  obtain ⟨A0, c0, e⟩ := hL.form
  subst e
  clear hL
  by_cases hbig : 4096 < n
  · have E : Hid (chkG L n = 6) := Lib.hid (by unfold chkG; rw [if_pos hbig])
    have p0 : decide ((4096 : Int) < (n : Int)) = true := by rw [decide_eq_true_eq]; omega
    have p1 : decide (4096 < n) = true := by rw [decide_eq_true_eq]; omega
    clear hbig
    go_enter Try.func24, Try.ntmps24
    go_wp2
    go_ret
    exact ⟨ret_int E.out.symm, Below.refl _ _⟩
  · have hsm : n ≤ 4096 := by omega
    have p0 : decide ((4096 : Int) < (n : Int)) = false := by rw [decide_eq_false_iff_not]; omega
    have p1 : decide (4096 < n) = false := by rw [decide_eq_false_iff_not]; omega
    clear hbig hn
    go_enter Try.func24, Try.ntmps24
    go_wp2
    go_loopw [12] (fun iv wr => RcRel L n w wr iv) (fun iv _ => n - (intOf iv).toNat)
    case atStart => exact ⟨0, rfl, Nat.zero_le _, fun j hj => absurd hj (by omega), Below.refl _ _⟩
    case round =>
      obtain ⟨v, rfl, hv, hG, hB⟩ := hrel
      have G := Lib.hid hG
      have B := Lib.hid hB
      clear hG hB
      obtain ⟨wo, hwo⟩ : ∃ W, W = wr := ⟨_, rfl⟩
      subst hwo
      by_cases hlt : v < n
      · have q1 : decide (v < n) = true := by rw [decide_eq_true_eq]; exact hlt
        obtain ⟨b, o9, c', e, hb, -, -⟩ := HL.out.nth hlt
        simp only [Value.slice.injEq, true_and] at e
        obtain ⟨rfl, rfl⟩ := e
        have HN := HL.out.below B.out (Nat.le_refl _)
        have f0 := (HN.at2 hlt (e := 0) (by decide)).1
        have f1 := (HN.at2 hlt (e := 1) (by decide)).1
        have f2 := (HN.at2 hlt (e := 2) (by decide)).1
        have f3 := (HN.at2 hlt (e := 3) (by decide)).1
        have f4 := (HN.at2 hlt (e := 0) (by decide)).2
        have f5 := (HN.at2 hlt (e := 1) (by decide)).2
        have f6 := (HN.at2 hlt (e := 2) (by decide)).2
        have f7 := (HN.at2 hlt (e := 3) (by decide)).2
        simp only [Nat.add_zero, Nat.add_assoc, Nat.reduceAdd] at f0 f1 f2 f3 f4 f5 f6 f7
        simp only [← Nat.add_assoc] at f0 f1 f2 f3 f4 f5 f6 f7
        clear HN
        generalize nxG L v 0 = y0 at *
        generalize nxG L v 1 = y1 at *
        generalize nxG L v 2 = y2 at *
        generalize nxG L v 3 = y3 at *
        generalize owG L v 0 = y4 at *
        generalize owG L v 1 = y5 at *
        generalize owG L v 2 = y6 at *
        generalize owG L v 3 = y7 at *
        go_wp2_with fail
        clear f0 f1 f2 f3 f4 f5 f6 f7 hb
        go_loopw [17] (fun iv wr2 => RcIn L n v w wr2 iv) (fun iv _ => 4 - (intOf iv).toNat)
        case atStart =>
          exact ⟨0, rfl, Nat.zero_le _, G.out, B.out.alloc B.out.size _⟩
        case round =>
          clear G B
          obtain ⟨d, rfl, hd, hG, hB⟩ := hrel
          have G := Lib.hid hG
          have B := Lib.hid hB
          clear hG hB
          by_cases hd4 : d < 4
          · have q2 : decide (d < 4) = true := by rw [decide_eq_true_eq]; exact hd4
            have q3 : decide ((d : Int) < 4) = true := by rw [decide_eq_true_eq]; omega
            have SI := Lib.hid (sideY _ L n v d wr (HL.out.below B.out (Nat.le_refl _)) hlt hd4)
            by_cases hz : chk1 L n v d = 0
            · have GN := Lib.hid (chk_more hd4 G.out hz)
              rw [hz] at SI
              clear hz
              go_wp2_with (go_at_call 32; refine SI.out.mono ?_; rintro e w1 ⟨rfl, b1⟩; have B1 := Lib.hid b1; clear b1)
              go_roundw
              case rel => exact ⟨d + 1, by go_num, by omega, GN.out, B.out.trans (B1.out.mono B.out.size)⟩
              case measure => (simp [intOf] <;> omega)
            · have E := Lib.hid (chk_first hsm hlt hd4 G.out hz)
              have q4 : (chk1 L n v d == 0) = false := by rw [beq_eq_false_iff_ne]; exact hz
              have q5 : (chk1 L n v d != 0) = true := by rw [bne, q4]; rfl
              clear hz
              generalize chk1 L n v d = cv at *
              go_wp2_with (go_at_call 32; refine SI.out.mono ?_; rintro e w1 ⟨rfl, b1⟩; have B1 := Lib.hid b1; clear b1)
              go_ret
              exact ⟨ret_int E.out.symm, B.out.trans (B1.out.mono B.out.size)⟩
          · have hd5 : d = 4 := by omega
            subst hd5
            go_wp2_with fail
            go_roundw
            case rel => exact ⟨v + 1, by go_num, by omega, fun j hj => G.out j (by omega), B.out⟩
            case measure => (simp [intOf] <;> omega)
      · have hvn : v = n := by omega
        subst hvn
        have E : Hid (chkG L v = 0) := Lib.hid (chk_all hsm G.out)
        have q1 : decide (v < v) = false := by rw [decide_eq_false_iff_not]; exact hlt
        go_wp2_with fail
        go_ret
        exact ⟨ret_int E.out.symm, B.out⟩


end Go.Proofs.Ytieffijdhcbcfaa

namespace Go.Proofs.Ytieffijdhcbcfaa
open Go.RowKit Go.Proofs.Ytieffijdhcbcfaa.GrM

theorem cel_lit (w : World) (T : TypeId) (L : List Int) (n : Nat) (hl : L.length = n * 8) : CelAt (w.alloc (.cells (L.map intV).toArray T)) (.slice (some ⟨w.heap.size, 0, none⟩) n n) L n := by
  refine ⟨hl, _, n, rfl, ⟨Nat.le_refl _, fun e => by cases e⟩, fun _ => ⟨w.heap.size, 0, rfl, by simp, fun j hj => ?_⟩⟩
  have h := heap_alloc_new w (.cells (L.map intV).toArray T)
  have hj' : j < L.length := by omega
  rw [Nat.zero_add]
  simp only [World.cell?, h]
  simp [intV, hj', List.getD_eq_getElem?_getD]
def wk1 : List Int := joinG (newG 2) 0 0 1 0
def wk2 : List Int := splitG wk1 2 0 0 1 (owG wk1 0 0)
def wk0 : List Int := [0, 0, 0, 0, 0, 0, 0, 0]


end Go.Proofs.Ytieffijdhcbcfaa

namespace Go.Proofs.Ytieffijdhcbcfaa
open Go.RowKit Go.Proofs.Ytieffijdhcbcfaa.GrM

structure SpR where
  u : Int
  e : Int
  L : List Int
  n : Nat
/-- What a split is: the new cell, the error, the cells then. -/
noncomputable def splO (L : List Int) (n : Nat) (x d : Int) : SpR := open Classical in
  if badS n x d then ⟨0, 2, L, n⟩ else if nxG L x.toNat d.toNat = -1 then ⟨0, 9, L, n⟩
  else ⟨n, 0, splitG L n x.toNat d.toNat (nxG L x.toNat d.toNat).toNat (owG L x.toNat d.toNat), n + 1⟩
theorem spl_good {L : List Int} {n : Nat} {x d : Int} (hl : L.length = n * 8) (hg : GoodG L n) : GoodG (splO L n x d).L (splO L n x d).n ∧ (splO L n x d).n ≤ n + 1 ∧ n ≤ (splO L n x d).n := by
  unfold splO
  by_cases hb : badS n x d
  · rw [if_pos hb]; exact ⟨hg, Nat.le_succ _, Nat.le_refl _⟩
  · rw [if_neg hb]
    by_cases h1 : nxG L x.toNat d.toNat = -1
    · rw [if_pos h1]; exact ⟨hg, Nat.le_succ _, Nat.le_refl _⟩
    · rw [if_neg h1]
      unfold badS at hb
      have hs := hg.side (v := x.toNat) (d := d.toNat) (by omega) (by omega)
      rcases hs with hs | hs
      · exact absurd hs.1 h1
      · exact ⟨split_good hl hg (by omega) (by omega) (by omega) (by omega) rfl, Nat.le_refl _, Nat.le_succ _⟩




def RSplAny (lv : Value) (r : SpR) (w : World) (e : Ending) (w' : World) : Prop :=
  ∃ A c, e = .returned (.tuple #[.slice A r.n c, .int .i64 r.u, .int .i64 r.e]) ∧ LstR lv r.L r.n w (.slice A r.n c) w'
theorem refSplitAny {w : World} {n : Nat} {lv : Value} {L : List Int} (h : OwnG w 0 lv L n) (hg : GoodG L n) (hn : n < 4096) (x d : Int) :
    Calls Try.prog 18 #[lv, .int .i64 x, .int .i64 d] w (RSplAny lv (splO L n x d) w) := by
  unfold splO
  obtain ⟨A, c, rfl⟩ := h.form
  by_cases hb : badS n x d
  · rw [if_pos hb]
    exact (refSplit_arg A n c x d w hb).mono fun e w' ⟨a, b⟩ => ⟨A, c, a, LstR.same h b⟩
  · rw [if_neg hb]
    unfold badS at hb
    obtain ⟨a, rfl⟩ : ∃ a : Nat, x = a := ⟨x.toNat, by omega⟩
    obtain ⟨f, rfl⟩ : ∃ c : Nat, d = c := ⟨d.toNat, by omega⟩
    rw [Int.toNat_natCast, Int.toNat_natCast]
    by_cases h1 : nxG L a f = -1
    · rw [if_pos h1]
      exact (refSplit_no _ L n a f w h.cel (by omega) (by omega) h1).mono fun e w' ⟨a, b⟩ => ⟨A, c, a, LstR.same h b⟩
    · rw [if_neg h1]
      have hs := hg.side (v := a) (d := f) (by omega) (by omega)
      exact (refSplit_yes _ L n a f (nxG L a f).toNat (owG L a f) w h.cel hn (by omega) (by omega) (by omega) (by omega) rfl).mono fun e w' ⟨⟨A', c', a, o⟩, b⟩ => ⟨A', c', a, LstR.new o b⟩



end Go.Proofs.Ytieffijdhcbcfaa
