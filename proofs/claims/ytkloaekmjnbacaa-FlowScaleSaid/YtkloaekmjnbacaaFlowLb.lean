/-
  The reference's Fit. Conditions: the graph may be; as many numbers as nodes.
  The reference's Fit and Cost; Make. Conditions: the graph may be; all numbers are near.
  One int appended to a row of the call's own. Conditions: none.
  The reference's Ranks answers what the program's does. Conditions: at most a thousand numbers.
  right: of what solves a dag it answers true. Conditions: that.
-/
import Derived.Test.YtkloaekmjnbacaaFlowLa
import Derived.IntWalk
import Derived.Test.YtkloaekmjnbacaaFlowN
import Derived.Deep.RegionHeld3
namespace Go.Proofs.Ytkloaekmjnbacaa
open Go.RowKit Go.Proofs.Ytkloaekmjnbacaa.DagM

def FtRel (x : List Int) (L : List Arc) (w wr : World) (iv : Value) : Prop := ∃ k : Nat, iv = .int .i64 k ∧ k ≤ L.length ∧ fitB x (L.take k) = true ∧ Below w.heap.size w wr

set_option maxHeartbeats 4000000 in
set_option maxRecDepth 100000 in
theorem refFit (n : Int) (v xv : Value) (L : List Arc) (x : List Int) (w : World) (hM : May n L) (hl : (x.length : Int) = n) (hA : ArcsAt w v L) (hX : IntsAt w xv x) :
    Calls Try.prog 19 #[v, xv] w fun e w' => e = .returned (.bool (fitB x L)) ∧ Below w.heap.size w w' := by
  have HA := Lib.hid hA
  have HX := Lib.hid hX
  have MY := Lib.hid hM
  have HL := Lib.hid hl
  have hLl := hM.len
  clear hM hX hl
  obtain ⟨A, cap, rfl, hcap, -⟩ := hA
  go_enter Try.func19, Try.ntmps19
  go_wp2
  go_loopw [5] (fun iv wr => FtRel x L w wr iv) (fun iv _ => L.length - (intOf iv).toNat)
  case atStart => exact ⟨0, rfl, by omega, rfl, Below.refl _ _⟩
  case round =>
    obtain ⟨k, rfl, hk, hF, hB⟩ := hrel
    have B := Lib.hid hB
    have FT := Lib.hid hF
    clear hB hF
    by_cases hlt : k < L.length
    · obtain ⟨A', cap', e, _, hA⟩ := HA.out
      simp only [Value.slice.injEq, true_and] at e
      obtain ⟨rfl, rfl⟩ := e
      obtain ⟨b, o, rfl, hb, hcell⟩ := hA (by omega)
      obtain ⟨c0, c1, c2⟩ := hcell k hlt
      have d0 := (B.out.cell (p := ⟨b, o + k * 3, none⟩) hb).trans c0
      have d1 := (B.out.cell (p := ⟨b, o + k * 3 + 1, none⟩) hb).trans c1
      have ok := MY.out.ok L[k] (List.getElem_mem hlt)
      have hfs := fit_snoc x L k hlt
      have hfn := fit_not x L k hlt
      clear hA hcell c0 c1 c2
      generalize L[k] = a at *
      obtain ⟨f, t, z⟩ := a
      obtain ⟨f, rfl⟩ : ∃ u : Nat, f = (u : Int) := ⟨f.toNat, by simp only at ok; omega⟩
      obtain ⟨t, rfl⟩ : ∃ u : Nat, t = (u : Int) := ⟨t.toNat, by simp only at ok; omega⟩
      simp only at ok d0 d1
      have hl := HL.out
      have n3 : f < x.length := by omega
      have n6 : t < x.length := by omega
      clear ok hl
      obtain ⟨bx, ox, cx, rfl, hbx, x0⟩ := HX.out.at_ n3
      obtain ⟨bx', ox', cx', e, _, x1⟩ := HX.out.at_ n6
      simp only [Value.slice.injEq, Option.some.injEq, Addr.mk.injEq, and_true, true_and] at e
      obtain ⟨⟨rfl, rfl⟩, rfl⟩ := e
      have y0 := (B.out.cell (p := ⟨bx, ox + f, none⟩) hbx).trans x0
      have y1 := (B.out.cell (p := ⟨bx, ox + t, none⟩) hbx).trans x1
      clear x0 x1
      simp only [fitA] at hfs hfn
      generalize val x f = p at *
      generalize val x t = q at *
      have HFS := Lib.hid hfs
      have HFN := Lib.hid hfn
      clear hfs hfn
      by_cases hpq : p < q
      · have hle : decide (q ≤ p) = false := by simp; omega
        go_wp2
        go_quiet (fail)
        all_goals
          go_wp2
          go_roundw
          case rel => exact ⟨k + 1, by go_num, by omega, by rw [HFS.out, FT.out]; simp; omega, belowN B.out _⟩
          case measure => simp [intOf]; omega
      · have hle : decide (q ≤ p) = true := by simp; omega
        have e := HFN.out (by simpa using hpq)
        have E := Lib.hid e
        clear e
        go_wp2
        go_quiet (fail)
        all_goals
          go_wp2
          go_ret
          exact ⟨ret_bool E.out.symm, belowN B.out _⟩
    · obtain rfl : L.length = k := by omega
      have h := FT.out
      rw [List.take_length] at h
      have E := Lib.hid h
      clear h hlt
      go_wp2
      go_ret
      exact ⟨ret_bool E.out.symm, B.out⟩
end Go.Proofs.Ytkloaekmjnbacaa

namespace Go.Proofs.Ytkloaekmjnbacaa
open Go.RowKit Go.Proofs.Ytkloaekmjnbacaa.DagM

def RcRel (x : List Int) (L : List Arc) (w wr : World) (sv iv : Value) : Prop := ∃ k : Nat, iv = .int .i64 k ∧ k ≤ L.length ∧ sv = .int .i64 (costSum x (L.take k)) ∧ 0 ≤ costSum x (L.take k) ∧ costSum x (L.take k) ≤ 2000000000000 * (k : Int) ∧ Below w.heap.size w wr
theorem fit_at (x : List Int) (L : List Arc) (h : fitB x L = true) (k : Nat) (hk : k < L.length) : fitA x L[k] = true := by
  unfold fitB at h
  exact List.all_eq_true.1 h _ (List.getElem_mem hk)
set_option maxHeartbeats 4000000 in
set_option maxRecDepth 100000 in
theorem refCost (n : Int) (v xv : Value) (L : List Arc) (x : List Int) (w : World) (hM : May n L) (hC : coordB n x = true) (hf : fitB x L = true) (hA : ArcsAt w v L) (hX : IntsAt w xv x) :
    Calls Try.prog 13 #[v, xv] w fun e w' => e = .returned (.int .i64 (costSum x L)) ∧ Below w.heap.size w w' := by
  have HA := Lib.hid hA
  have HX := Lib.hid hX
  have MY := Lib.hid hM
  have NR := Lib.hid (fun i h1 h2 => val_near hC i h1 h2)
  have FA := Lib.hid (fit_at x L hf)
  have hLl := hM.len
  clear hM hX hC hf
  obtain ⟨A, cap, rfl, hcap, -⟩ := hA
  go_enter Try.func13, Try.ntmps13
  go_wp2
  go_loopw [5, 6] (fun sv iv wr => RcRel x L w wr sv iv) (fun _ iv _ => L.length - (intOf iv).toNat)
  case atStart => exact ⟨0, rfl, by omega, rfl, Int.le_refl _, by simp [costSum], Below.refl _ _⟩
  case round =>
    obtain ⟨k, rfl, hk, rfl, hc0, hc1, hB⟩ := hrel
    have B := Lib.hid hB
    clear hB
    by_cases hlt : k < L.length
    · obtain ⟨A', cap', e, _, hA⟩ := HA.out
      simp only [Value.slice.injEq, true_and] at e
      obtain ⟨rfl, rfl⟩ := e
      obtain ⟨b, o, rfl, hb, hcell⟩ := hA (by omega)
      obtain ⟨c0, c1, c2⟩ := hcell k hlt
      have d0 := (B.out.cell (p := ⟨b, o + k * 3, none⟩) hb).trans c0
      have d1 := (B.out.cell (p := ⟨b, o + k * 3 + 1, none⟩) hb).trans c1
      have d2 := (B.out.cell (p := ⟨b, o + k * 3 + 2, none⟩) hb).trans c2
      have ok := MY.out.ok L[k] (List.getElem_mem hlt)
      have hsn := costSum_snoc x L k hlt
      have hfa := FA.out k hlt
      clear hA hcell c0 c1 c2
      generalize L[k] = a at *
      obtain ⟨f, t, z⟩ := a
      obtain ⟨f, rfl⟩ : ∃ u : Nat, f = (u : Int) := ⟨f.toNat, by simp only at ok; omega⟩
      obtain ⟨t, rfl⟩ : ∃ u : Nat, t = (u : Int) := ⟨t.toNat, by simp only at ok; omega⟩
      simp only at ok d0 d1 d2
      obtain ⟨ok0, ok1, ok2, ok3, ok4, ok5⟩ := ok
      obtain ⟨n1, n2, n3⟩ := NR.out f ok0 ok1
      obtain ⟨n4, n5, n6⟩ := NR.out t ok2 ok3
      simp only [Int.toNat_natCast] at n3 n6
      obtain ⟨bx, ox, cx, rfl, hbx, x0⟩ := HX.out.at_ n3
      obtain ⟨bx', ox', cx', e, _, x1⟩ := HX.out.at_ n6
      simp only [Value.slice.injEq, Option.some.injEq, Addr.mk.injEq, and_true, true_and] at e
      obtain ⟨⟨rfl, rfl⟩, rfl⟩ := e
      have y0 := (B.out.cell (p := ⟨bx, ox + f, none⟩) hbx).trans x0
      have y1 := (B.out.cell (p := ⟨bx, ox + t, none⟩) hbx).trans x1
      clear x0 x1
      simp only [fitA, decide_eq_true_eq] at hfa
      simp only [costA] at hsn
      generalize val x f = p at *
      generalize val x t = q at *
      have HS := Lib.hid hsn
      clear hsn
      obtain ⟨m0, m1⟩ := mul_near ok4 ok5 (d := q - p) (by omega) (by omega)
      have hw1 : IntKind.i64.wrap (q - p) = q - p := IntWalk.i64_in _ (by omega)
      have hw2 : IntKind.i64.wrap (z * (q - p)) = z * (q - p) := IntWalk.i64_in _ (by omega)
      have hw3 : IntKind.i64.wrap (costSum x (L.take k) + z * (q - p)) = costSum x (L.take k) + z * (q - p) := IntWalk.i64_in _ (by omega)
      go_wp2
      go_quiet (fail)
      all_goals
        clear hw1 hw2 hw3
        go_wp2
        go_roundw
        case rel => exact ⟨k + 1, by go_num, by omega, by rw [HS.out], by rw [HS.out]; omega, by rw [HS.out]; push_cast; omega, belowN B.out _⟩
        case measure => simp [intOf]; omega
    · obtain rfl : L.length = k := by omega
      go_wp2
      go_ret
      exact ⟨by rw [List.take_length]; rfl, B.out⟩
end Go.Proofs.Ytkloaekmjnbacaa

namespace Go.Proofs.Ytkloaekmjnbacaa
open Go.RowKit Go.Proofs.Ytkloaekmjnbacaa.DagM

theorem newsI (w : World) (t : TypeId) (x : Int) (b : Nat) (hb : w.heap.size = b) : ∀ j z, [Value.int .i64 x][j]? = some z → (w.alloc (.cells #[.int .i64 x] t)).cell? ((⟨b, 0, none⟩ : Addr).add j) = some z := by
  intro j z hz
  have hj : j = 0 := by have := List.getElem?_eq_some_iff.1 hz; simp at this; omega
  subst hj hb
  simp at hz
  subst hz
  go_simp
theorem oneI (x : Int) : ∀ z ∈ [Value.int .i64 x], z.oneCell' = true := by
  intro z hz
  simp at hz
  subst hz
  rfl
theorem OwnI.snoc {w : World} {B : Nat} {v : Value} {l : List Int} {x : Int} (h : w.ownsRow B 3 1 v (l.length + 1) (l.map (Value.int .i64) ++ [.int .i64 x])) : OwnI w B v (l ++ [x]) := by
  unfold OwnI
  rw [List.length_append, List.map_append]
  exact h
theorem int_app {w0 w w' : World} {v v' : Value} {K : List Int} {a : Int} (hB : Below w0.heap.size w0 w) (hO : OwnI w w0.heap.size v K) (hown : w'.ownsRow w0.heap.size 3 1 v' (K.length + 1) (K.map (Value.int .i64) ++ [.int .i64 a])) (hgrow : w.grownBy w' v.ownBlock) :
    OwnI w' w0.heap.size v' (K ++ [a]) ∧ Below w0.heap.size w0 w' :=
  ⟨OwnI.snoc hown, hB.trans (((Out.refl _ w).grown (S := fun b => v.ownBlock = some b) hgrow (fun _ _ e => e)).below hB.size (fun i _ e => (World.ownsRow.lt hO i e).1))⟩
end Go.Proofs.Ytkloaekmjnbacaa

namespace Go.Proofs.Ytkloaekmjnbacaa
open Go.RowKit Go.Proofs.Ytkloaekmjnbacaa.DagM

/-- The unlike numbers of the first k of x that are less than a. -/
structure LsOf (x : List Int) (a : Int) (k : Nat) (Ls : List Int) : Prop where
  nd : Ls.Nodup
  iff : ∀ y, y ∈ Ls ↔ y ∈ x.take k ∧ y < a
  len : Ls.length ≤ k
theorem LsOf.step {x : List Int} {a : Int} {k : Nat} {Ls : List Int} (h : LsOf x a k Ls) (hk : k < x.length) :
    LsOf x a (k + 1) (if (decide (a ≤ x[k]) || Ls.any (fun y => y == x[k])) = true then Ls else Ls ++ [x[k]]) := by
  have ht : ∀ y, y ∈ x.take (k + 1) ↔ y ∈ x.take k ∨ y = x[k] := fun y => by rw [List.take_succ_eq_append_getElem hk, List.mem_append, List.mem_singleton]
  by_cases h1 : a ≤ x[k]
  · rw [if_pos (by simp [h1])]
    refine ⟨h.nd, fun y => ?_, by have := h.len; omega⟩
    rw [h.iff, ht]
    constructor
    · rintro ⟨h2, h3⟩; exact ⟨Or.inl h2, h3⟩
    · rintro ⟨h2 | h2, h3⟩
      · exact ⟨h2, h3⟩
      · subst h2; omega
  · by_cases h2 : x[k] ∈ Ls
    · rw [if_pos (by simp [h2])]
      refine ⟨h.nd, fun y => ?_, by have := h.len; omega⟩
      rw [h.iff, ht]
      constructor
      · rintro ⟨h3, h4⟩; exact ⟨Or.inl h3, h4⟩
      · rintro ⟨h3 | h3, h4⟩
        · exact ⟨h3, h4⟩
        · subst h3; exact (h.iff _).1 h2
    · rw [if_neg (by simp [h1, h2] <;> omega)]
      refine ⟨List.nodup_append.2 ⟨h.nd, by simp, fun u hu v hv e => h2 (by rw [List.mem_singleton.1 hv] at e; exact e ▸ hu)⟩, fun y => ?_, by have := h.len; simp; omega⟩
      rw [List.mem_append, h.iff, ht, List.mem_singleton]
      constructor
      · rintro (⟨h3, h4⟩ | h3)
        · exact ⟨Or.inl h3, h4⟩
        · subst h3; exact ⟨Or.inr rfl, by omega⟩
      · rintro ⟨h3 | h3, h4⟩
        · exact Or.inl ⟨h3, h4⟩
        · exact Or.inr h3
theorem LsOf.rk {x : List Int} {a : Int} {Ls : List Int} (h : LsOf x a x.length Ls) : Ls.length = rk x a := rk_of h.nd (fun y => by rw [h.iff, List.take_length])
def RrRel (x : List Int) (w wr : World) (ov iv : Value) : Prop := ∃ k : Nat, iv = .int .i64 k ∧ k ≤ x.length ∧ Below w.heap.size w wr ∧ OwnN wr w.heap.size ov ((x.take k).map (rk x))
def MdRel (x : List Int) (a : Int) (wi wr : World) (lv iv : Value) : Prop := ∃ (k : Nat) (Ls : List Int), iv = .int .i64 k ∧ k ≤ x.length ∧ Below wi.heap.size wi wr ∧ OwnI wr wi.heap.size lv Ls ∧ LsOf x a k Ls
def InRel (Ls : List Int) (a b : Int) (wm wr : World) (mv iv : Value) : Prop := ∃ j : Nat, iv = .int .i64 j ∧ j ≤ Ls.length ∧ mv = .bool (decide (a ≤ b) || (Ls.take j).any (fun y => y == b)) ∧ Below wm.heap.size wm wr
theorem any_part {Ls : List Int} {j : Nat} {b : Int} (h : (Ls.take j).any (fun y => y == b) = true) : Ls.any (fun y => y == b) = true := by
  rw [List.any_eq_true] at h ⊢
  obtain ⟨y, hy, e⟩ := h
  exact ⟨y, List.mem_of_mem_take hy, e⟩
theorem val_get {x : List Int} {k : Nat} (h : k < x.length) : val x k = x[k] := by simp [val, List.getD_eq_getElem?_getD, h]

theorem newsNb2 (w : World) (t : TypeId) (x b : Nat) (hb : w.heap.size = b) : ∀ j z, [encNat x][j]? = some z → (w.alloc (.cells #[.int .i64 (x : Int)] t)).cell? ((⟨b, 0, none⟩ : Addr).add j) = some z := by
  subst hb
  exact newsN w t x
set_option maxHeartbeats 16000000 in
set_option maxRecDepth 100000 in
theorem refRanks (v : Value) (x : List Int) (w : World) (hX : IntsAt w v x) (hl : x.length ≤ 1000) :
    Calls Try.prog 26 #[v] w (Ranked x w) := by
  have XS := Lib.hid hX
  obtain ⟨Ax, cx, rfl, hcx, -⟩ := hX
  obtain ⟨i0, hi, hz0, hz1, hz2⟩ := info_parts infoI
  go_enter Try.func26, Try.ntmps26
  go_wp2
  go_loopw [3, 4] (fun ov iv wr => RrRel x w wr ov iv) (fun _ iv _ => x.length - (intOf iv).toNat)
  case atStart => exact ⟨0, rfl, by omega, Below.refl _ _, World.ownsRow_nil _ _ _ _⟩
  case round =>
    obtain ⟨i, rfl, hik, hB, hO⟩ := hrel
    have B := Lib.hid hB
    have O := Lib.hid hO
    have hwz := hB.size
    obtain ⟨ao, co, e⟩ := hO.form
    rw [List.length_map, List.length_take, Nat.min_eq_left hik] at e
    subst e
    clear hB hO
    by_cases hlt : i < x.length
    · obtain ⟨bx, ox, cx', e, hbx, a0⟩ := XS.out.at_ hlt
      simp only [Value.slice.injEq, true_and] at e
      obtain ⟨rfl, rfl⟩ := e
      have VG := Lib.hid (val_get hlt)
      have a1 := (B.out.cell (p := ⟨bx, ox + i, none⟩) hbx).trans a0
      have TS := Lib.hid (List.take_succ_eq_append_getElem hlt)
      clear a0
      rw [VG.out] at a1
      generalize x[i] = a at *
      go_wp2
      obtain ⟨wi, rfl⟩ : ∃ W, W = wr := ⟨_, rfl⟩
      go_loopw [5, 6] (fun lv iv wr => MdRel x a wi wr lv iv) (fun _ iv _ => x.length - (intOf iv).toNat)
      case atStart => exact ⟨0, [], rfl, by omega, Below.refl _ _, World.ownsRow_nil _ _ _ _, List.nodup_nil, fun y => by simp, by simp⟩
      case round =>
        obtain ⟨k, Ls, rfl, hk, hB2, hO2, hL⟩ := hrel
        have B2 := Lib.hid hB2
        have O2 := Lib.hid hO2
        have LS := Lib.hid hL
        have hiz := hB2.size
        have hLl := hL.len
        obtain ⟨al, cl, e⟩ := hO2.form
        subst e
        clear hB2 hO2 hL
        have a2 := (B2.out.cell (p := ⟨bx, ox + i, none⟩) (Nat.lt_of_lt_of_le hbx hwz)).trans a1
        by_cases hkt : k < x.length
        · obtain ⟨bx', ox', cx', e, _, b0⟩ := XS.out.at_ hkt
          simp only [Value.slice.injEq, Option.some.injEq, Addr.mk.injEq, and_true, true_and] at e
          obtain ⟨⟨rfl, rfl⟩, rfl⟩ := e
          have b2 := ((B.out.trans (B2.out.mono hwz)).cell (p := ⟨bx, ox + k, none⟩) hbx).trans b0
          rw [val_get hkt] at b2
          have ST := Lib.hid (LS.out.step hkt)
          clear b0
          generalize x[k] = b at *
          obtain ⟨wm, rfl⟩ : ∃ W, W = wr := ⟨_, rfl⟩
          go_wp2
          go_quiet (fail)
          all_goals
            go_wp2
            go_loopw [7, 8] (fun mv iv wr => InRel Ls a b wm wr mv iv) (fun _ iv _ => Ls.length - (intOf iv).toNat)
            case atStart => exact ⟨0, rfl, by omega, by simp, belowN (Below.refl _ _) _⟩
            case round =>
              obtain ⟨j, rfl, hj, rfl, hB3⟩ := hrel
              have B3 := Lib.hid hB3
              have hmz := hB3.size
              clear hB3
              generalize hbm : (decide (a ≤ b) || (Ls.take j).any (fun y => y == b)) = bm at *
              have BM := Lib.hid hbm
              clear hbm
              by_cases hjl : j < Ls.length
              · cases bm with
                | true =>
                  have hmt : (decide (a ≤ b) || Ls.any (fun y => y == b)) = true := by
                    have h := BM.out
                    rw [Bool.or_eq_true] at h ⊢
                    rcases h with h | h
                    · exact Or.inl h
                    · exact Or.inr (any_part h)
                  have MT := Lib.hid hmt
                  clear hmt
                  go_wp2
                  go_roundw
                  case rel =>
                    have s := ST.out
                    rw [if_pos (by rw [MT.out])] at s
                    exact ⟨k + 1, Ls, by go_num, by omega, B2.out.trans (B3.out.mono hiz), O2.out.below B3.out, s⟩
                  case measure => (simp [intOf] <;> omega)
                | false =>
                  have hmf : decide (a ≤ b) = false ∧ (Ls.take j).any (fun y => y == b) = false := by
                    have h := BM.out
                    rw [Bool.or_eq_false_iff] at h
                    exact h
                  have MF := Lib.hid hmf
                  obtain ⟨gl, ol, cl', e, _, lc⟩ := (O2.out.below B3.out).ints.at_ hjl
                  simp only [Value.slice.injEq, true_and] at e
                  obtain ⟨rfl, rfl⟩ := e
                  rw [val_get hjl] at lc
                  have b3 := (B3.out.cell (p := ⟨bx, ox + k, none⟩) (Nat.lt_of_lt_of_le hbx (Nat.le_trans hwz hiz))).trans b2
                  have AT := Lib.hid (any_take (fun y => y == b) Ls j hjl)
                  generalize Ls[j] = y at *
                  go_wp2
                  go_quiet (fail)
                  all_goals
                    go_wp2
                    go_roundw
                    case rel => exact ⟨j + 1, by go_num, by omega, by rw [AT.out, MF.out.1, MF.out.2]; simp, belowN B3.out _⟩
                    case measure => simp [intOf]; omega
              · obtain hjl2 : j = Ls.length := by omega
                subst hjl2
                have hbf := BM.out
                rw [List.take_length] at hbf
                have MT := Lib.hid hbf
                clear hbf hjl hj
                cases bm with
                | true =>
                  go_wp2
                  go_roundw
                  case rel =>
                    have s := ST.out
                    rw [if_pos (by rw [MT.out])] at s
                    exact ⟨k + 1, Ls, by go_num, by omega, B2.out.trans (B3.out.mono hiz), O2.out.below B3.out, s⟩
                  case measure => (simp [intOf] <;> omega)
                | false =>
                  have b3 := (B3.out.cell (p := ⟨bx, ox + k, none⟩) (Nat.lt_of_lt_of_le hbx (Nat.le_trans hwz hiz))).trans b2
                  go_wp2_with (at_builtin; refine wpList_append_fresh rfl (.tmp 51) (.tmp 56) 29 rfl wi.heap.size 3 i0 (.int .i64 0) 1 8 Try.underlying29 hi hz0 hz1 hz2 rfl (by decide) (.slice al Ls.length cl) Ls.length (Ls.map (Value.int .i64)) rfl ((O2.out.below B3.out).below ((Below.refl _ _).alloc (Nat.le_refl _) _)) ⟨wr.heap.size, 0, none⟩ 1 1 [.int .i64 b] rfl rfl (newsI _ _ _ _ (by simp)) (oneI _) (by unfold maxLen; omega) (by omega) (by simp; omega) ?_; intro v5 w5 hown hgrow hfr; obtain ⟨o5, b5⟩ := int_app ((B2.out.trans (B3.out.mono hiz)).trans (((Below.refl _ _).alloc (Nat.le_refl _) _).mono (Nat.le_trans hiz hmz))) ((O2.out.below B3.out).below ((Below.refl _ _).alloc (Nat.le_refl _) _)) hown hgrow; have O5 := Lib.hid o5; have B5 := Lib.hid b5; obtain ⟨g5, c5, rfl, _, _, _⟩ := ownsRow_form hown (by omega); clear hown hgrow hfr o5 b5)
                  go_roundw
                  case rel =>
                    have s := ST.out
                    rw [if_neg (by rw [MT.out]; decide)] at s
                    exact ⟨k + 1, Ls ++ [b], by go_num, by omega, B5.out, O5.out, s⟩
                  case measure => (simp [intOf] <;> omega)
        · obtain hkx : k = x.length := by omega
          subst hkx
          have hrk := LS.out.rk
          have RK := Lib.hid hrk
          have hll : Ls.length ≤ 1000 := by have := LS.out.len; omega
          have OW : Hid (wr.ownsRow w.heap.size 3 1 (.slice ao i co) i (((x.take i).map (rk x)).map encNat)) := by
            have h := O.out
            unfold OwnN at h
            rw [List.length_map, List.length_take, Nat.min_eq_left hik] at h
            exact Lib.hid (ownsRow_out (S := fun _ => False) h (Out.ofBelow B2.out) (fun _ _ e => e))
          have BW := Lib.hid (B.out.trans (B2.out.mono hwz))
          have hbz := BW.out.size
          clear hrk hkt hk
          go_wp2_with (at_builtin; refine wpList_append_fresh rfl (.tmp 58) (.tmp 61) 29 rfl w.heap.size 3 i0 (.int .i64 0) 1 8 Try.underlying29 hi hz0 hz1 hz2 rfl (by decide) (.slice ao i co) i (((x.take i).map (rk x)).map encNat) rfl (OW.out.alloc _) ⟨wr.heap.size, 0, none⟩ 1 1 [encNat Ls.length] rfl rfl (newsNb2 _ _ _ _ (by simp)) (oneN _) (by unfold maxLen; omega) (by omega) (by simp; omega) ?_; intro v5 w5 hown hgrow hfr; have b5 := Lib.hid ((BW.out.alloc hbz _).trans (((Out.refl _ _).grown (S := fun b => (Value.slice ao i co).ownBlock = some b) hgrow (fun _ _ e => e)).below (B := w.heap.size) (by simp; omega) (fun q _ e => (OW.out.lt q e).1))); have O5 : Hid (OwnN w5 w.heap.size v5 ((x.take (i + 1)).map (rk x))) := Lib.hid (by rw [TS.out, List.map_append]; refine OwnN.snoc ?_; rw [List.length_map, List.length_take, Nat.min_eq_left hik, ← RK.out]; exact hown); obtain ⟨g5, c5, rfl, _, _, _⟩ := ownsRow_form hown (by omega); clear hown hgrow hfr)
          go_roundw
          case rel => exact ⟨i + 1, by go_num, by omega, b5.out, O5.out⟩
          case measure => simp [intOf]; omega
    · obtain hix : i = x.length := by omega
      subst hix
      have h := O.out
      rw [List.take_length] at h
      have OO := Lib.hid h
      clear h hlt hik
      go_wp2
      go_ret
      exact ⟨_, rfl, OwnN.toI OO.out, B.out⟩
end Go.Proofs.Ytkloaekmjnbacaa

namespace Go.Proofs.Ytkloaekmjnbacaa
open Go.RowKit Go.Proofs.Ytkloaekmjnbacaa.DagM

def RiRel (L : List Arc) (w4 wr : World) (iv : Value) : Prop := ∃ k : Nat, iv = .int .i64 k ∧ k ≤ L.length ∧ Below w4.heap.size w4 wr

set_option maxHeartbeats 8000000 in
set_option maxRecDepth 100000 in
theorem rightLaw (n : Nat) (v xv fv : Value) (L : List Arc) (x f : List Int) (ways : Int) (w : World) (hA : ArcsAt w v L) (hM : May n L) (hX : IntsAt w xv x) (hF : IntsAt w fv f) (hS : SolvedF n L x f ways) (hn1000 : n ≤ 1000) :
    Calls Try.prog 11 #[.int .i64 n, v, .agg #[xv, fv, .int .i64 ways]] w fun e w' => e = .returned (.bool true) ∧ Below w.heap.size w w' := by
  have HA := Lib.hid hA
  have HM := Lib.hid hM
  have HX := Lib.hid hX
  have HF := Lib.hid hF
  have S := Lib.hid hS
  have hN : n ≤ 4096 := by have := hM.n1; omega
  have hL := hM.len
  obtain ⟨A, cap, rfl, hcap, -⟩ := hA
  obtain ⟨ax, cx, rfl⟩ := hX.form
  obtain ⟨af, cf, rfl⟩ := hF.form
  have hxl := hS.len
  have hfl := hS.flen
  rw [hxl] at HX
  rw [hfl] at HF
  rw [hxl, hfl]
  have XL := Lib.hid hxl
  have FL := Lib.hid hfl
  have w0 := hS.ways0
  have w1' := hS.ways1
  clear hM hX hF hS hxl hfl
  go_enter Try.func11, Try.ntmps11
  go_wp2
  have k0 : (w.alloc (.cells #[.slice ax n cx, .slice af L.length cf, .int .i64 ways] 31)).cell? ⟨w.heap.size, 0, none⟩ = some (.slice ax n cx) := by simp
  have k1 : (w.alloc (.cells #[.slice ax n cx, .slice af L.length cf, .int .i64 ways] 31)).cell? ⟨w.heap.size, 1, none⟩ = some (.slice af L.length cf) := by simp
  have k2 : (w.alloc (.cells #[.slice ax n cx, .slice af L.length cf, .int .i64 ways] 31)).cell? ⟨w.heap.size, 2, none⟩ = some (.int .i64 ways) := by simp
  have b0 : Below w.heap.size w (w.alloc (.cells #[.slice ax n cx, .slice af L.length cf, .int .i64 ways] 31)) := (Below.refl _ _).alloc (Nat.le_refl _) _
  have z0 : w.heap.size < (w.alloc (.cells #[.slice ax n cx, .slice af L.length cf, .int .i64 ways] 31)).heap.size := by simp
  generalize w.alloc (.cells #[.slice ax n cx, .slice af L.length cf, .int .i64 ways] 31) = wb at *
  have BB := Lib.hid b0
  clear b0
  go_region_held3 (fun w' => w'.cell? ⟨w.heap.size, 0, none⟩ = some (.slice ax n cx) ∧ w'.cell? ⟨w.heap.size, 1, none⟩ = some (.slice af L.length cf) ∧ w'.cell? ⟨w.heap.size, 2, none⟩ = some (.int .i64 ways))
    (first
      | go_keep
      | (go_split_ands
         refine ⟨?_, ?_, ?_⟩
         · (first | (rw [Q4.out.cell (p := ⟨w.heap.size, 0, none⟩) z0]; exact k0) | (rw [Q3.out.cell (p := ⟨w.heap.size, 0, none⟩) z0]; exact k0) | (rw [Q2.out.cell (p := ⟨w.heap.size, 0, none⟩) z0]; exact k0) | (rw [Q1.out.cell (p := ⟨w.heap.size, 0, none⟩) z0]; exact k0))
         · (first | (rw [Q4.out.cell (p := ⟨w.heap.size, 1, none⟩) z0]; exact k1) | (rw [Q3.out.cell (p := ⟨w.heap.size, 1, none⟩) z0]; exact k1) | (rw [Q2.out.cell (p := ⟨w.heap.size, 1, none⟩) z0]; exact k1) | (rw [Q1.out.cell (p := ⟨w.heap.size, 1, none⟩) z0]; exact k1))
         · (first | (rw [Q4.out.cell (p := ⟨w.heap.size, 2, none⟩) z0]; exact k2) | (rw [Q3.out.cell (p := ⟨w.heap.size, 2, none⟩) z0]; exact k2) | (rw [Q2.out.cell (p := ⟨w.heap.size, 2, none⟩) z0]; exact k2) | (rw [Q1.out.cell (p := ⟨w.heap.size, 2, none⟩) z0]; exact k2))))
    ((first
      | (go_at_call 19; refine (refFit n _ _ L x _ HM.out (by rw [XL.out]) (HA.out.below (BB.out.trans ((Below.refl wb.heap.size wb).drew.mono BB.out.size))) (HX.out.below (BB.out.trans ((Below.refl wb.heap.size wb).drew.mono BB.out.size)))).mono ?_; rintro e w1 ⟨rfl, hb⟩; rw [S.out.fit]; have Q1 : Hid (Below wb.heap.size wb w1) := Lib.hid ((Below.refl wb.heap.size wb).drew.trans hb); clear hb)
      | (go_at_call 26; refine (refRanks _ x _ (HX.out.below (BB.out.trans (Q1.out.mono BB.out.size))) (by rw [XL.out]; omega)).mono ?_; rintro e w2 ⟨v2, rfl, ho, hb⟩; rw [S.out.rank] at ho; obtain ⟨a2, c2, rfl⟩ := ho.form; have O2 := Lib.hid ho; have Q2 := Lib.hid (Q1.out.trans (hb.mono Q1.out.size)); clear ho hb)
      | (go_at_call 14; refine (equalI _ _ x x _ O2.out.ints (HX.out.below (BB.out.trans (Q2.out.mono BB.out.size))) (by rw [XL.out]; omega) (by rw [XL.out]; omega)).mono ?_; rintro e w3 ⟨rfl, hb⟩; rw [show (x == x) = true by simp]; have Q3 := Lib.hid (Q2.out.trans (hb.mono Q2.out.size)); clear hb)
      | (go_at_call 21; refine (refRightF n _ _ L f _ (HA.out.below (BB.out.trans (Q3.out.mono BB.out.size))) HM.out (HF.out.below (BB.out.trans (Q3.out.mono BB.out.size))) S.out.right (S.out.sum_near HM.out)).mono ?_; rintro e w4 ⟨rfl, hb⟩; have Q4 := Lib.hid (Q3.out.trans (hb.mono Q3.out.size)); clear hb)))
  all_goals
    have h4 := Q4.out.size
    have k3 := Lib.hid ((Q4.out.cell (p := ⟨w.heap.size, 0, none⟩) z0).trans k0)
    have k4 := Lib.hid ((Q4.out.cell (p := ⟨w.heap.size, 1, none⟩) z0).trans k1)
    have k5 := Lib.hid ((Q4.out.cell (p := ⟨w.heap.size, 2, none⟩) z0).trans k2)
    have BW := Lib.hid (BB.out.trans (Q4.out.mono BB.out.size))
    clear k0 k1 k2 Q1 Q2 Q3 O2
    go_wp2
    go_loopw [40, 7, 8] (fun iv _ _ wr => RiRel L w4 wr iv) (fun iv _ _ _ => L.length - (intOf iv).toNat)
    case atStart => exact ⟨0, rfl, by omega, Below.refl _ _⟩
    case round =>
      obtain ⟨k, rfl, hk, hB⟩ := hrel
      have B := Lib.hid hB
      have hwz := hB.size
      clear hB
      have m0 := (B.out.cell (p := ⟨w.heap.size, 0, none⟩) (show w.heap.size < w4.heap.size by omega)).trans k3.out
      have m1 := (B.out.cell (p := ⟨w.heap.size, 1, none⟩) (show w.heap.size < w4.heap.size by omega)).trans k4.out
      have m2 := (B.out.cell (p := ⟨w.heap.size, 2, none⟩) (show w.heap.size < w4.heap.size by omega)).trans k5.out
      have hzw := BW.out.size
      have BR := Lib.hid (BW.out.trans (B.out.mono hzw))
      by_cases hlt : k < L.length
      · obtain ⟨A', cap', e, _, hA⟩ := HA.out
        simp only [Value.slice.injEq, true_and] at e
        obtain ⟨rfl, rfl⟩ := e
        obtain ⟨b, o, rfl, hb, hcell⟩ := hA (by omega)
        obtain ⟨c0, c1, c2⟩ := hcell k hlt
        have hkf : k < f.length := by rw [FL.out]; exact hlt
        obtain ⟨bf, of_, cf', e, hbf, c3⟩ := HF.out.nth hkf
        rw [FL.out] at e
        simp only [Value.slice.injEq, true_and] at e
        obtain ⟨rfl, rfl⟩ := e
        have d0 := (BR.out.cell (p := ⟨b, o + k * 3, none⟩) hb).trans c0
        have d1 := (BR.out.cell (p := ⟨b, o + k * 3 + 1, none⟩) hb).trans c1
        have d2 := (BR.out.cell (p := ⟨b, o + k * 3 + 2, none⟩) hb).trans c2
        have d3 := (BR.out.cell (p := ⟨bf, of_ + k, none⟩) hbf).trans c3
        have ok := HM.out.ok L[k] (List.getElem_mem hlt)
        have hc0 := S.out.right.nn f[k] (List.getElem_mem hkf)
        have htg := S.out.tight (L[k], f[k]) (by
          have e : (L.zip f)[k]'(by simp; omega) = (L[k], f[k]) := by simp
          rw [← e]
          exact List.getElem_mem _)
        have v1 := S.out.val_near L[k].1 (by omega) (by omega)
        have v2 := S.out.val_near L[k].2.1 (by omega) (by omega)
        clear hA hcell c0 c1 c2 c3
        simp only at htg
        generalize L[k] = a at *
        generalize f[k] = c at *
        obtain ⟨u, t, z⟩ := a
        obtain ⟨u, rfl⟩ : ∃ m : Nat, u = (m : Int) := ⟨u.toNat, by simp only at ok; omega⟩
        obtain ⟨t, rfl⟩ : ∃ m : Nat, t = (m : Int) := ⟨t.toNat, by simp only at ok; omega⟩
        simp only at ok d0 d1 d2 htg v1 v2
        have hu : u < n := by omega
        have ht : t < n := by omega
        have hu2 : u < x.length := by rw [XL.out]; exact hu
        have ht2 : t < x.length := by rw [XL.out]; exact ht
        obtain ⟨bx, ox, cx', e, hbx, x0⟩ := HX.out.nth hu2
        rw [XL.out] at e
        simp only [Value.slice.injEq, true_and] at e
        obtain ⟨rfl, rfl⟩ := e
        obtain ⟨bx', ox', cx'', e, _, x1⟩ := HX.out.nth ht2
        rw [XL.out] at e
        simp only [Value.slice.injEq, Option.some.injEq, Addr.mk.injEq, and_true, true_and] at e
        obtain ⟨⟨rfl, rfl⟩, rfl⟩ := e
        have y0 := (BR.out.cell (p := ⟨bx, ox + u, none⟩) hbx).trans x0
        have y1 := (BR.out.cell (p := ⟨bx, ox + t, none⟩) hbx).trans x1
        have e0 : val x (u : Int) = x[u] := by simp [val, List.getD_eq_getElem?_getD, hu2]
        have e1 : val x (t : Int) = x[t] := by simp [val, List.getD_eq_getElem?_getD, ht2]
        rw [← e0] at y0
        rw [← e1] at y1
        clear x0 x1 e0 e1 ok
        generalize val x (u : Int) = p at *
        generalize val x (t : Int) = q at *
        obtain ⟨v1a, v1b⟩ := v1
        obtain ⟨v2a, v2b⟩ := v2
        have hbz := BR.out.size
        have hbox : w.heap.size < wr.heap.size := by omega
        have hb' : b < wr.heap.size := by omega
        have hbf' : bf < wr.heap.size := by omega
        have hbx' : bx < wr.heap.size := by omega
        by_cases hc : 0 < c
        · have hqp := htg hc
          have hw1 : IntKind.i64.wrap (q - p) = 1 := by rw [hqp]; rfl
          have t1 : decide (0 < c) = true := by simpa using hc
          clear htg hqp
          go_wp2
          go_quiet (fail)
          all_goals
            clear hw1
            go_wp2
            go_roundw
            case rel => exact ⟨k + 1, by go_num, by omega, B.out.trans ((belowN ((Below.refl _ _).alloc (Nat.le_refl _) _) _).mono hwz)⟩
            case measure => simp [intOf]; omega
        · have t1 : decide (0 < c) = false := by simpa using hc
          clear htg
          go_wp2
          go_quiet (fail)
          all_goals
            go_wp2
            go_roundw
            case rel => exact ⟨k + 1, by go_num, by omega, B.out.trans ((belowN ((Below.refl _ _).alloc (Nat.le_refl _) _) _).mono hwz)⟩
            case measure => simp [intOf]; omega
      · have t0 : decide (k < L.length) = false := by simpa using hlt
        have t1 : decide (0 ≤ ways) = true := by simpa using w0
        obtain ⟨tt, htt⟩ : ∃ tt, totF n L = tt := ⟨_, rfl⟩
        have TT := Lib.hid htt
        have t2 : decide (ways ≤ tt) = true := by rw [← htt]; simpa using w1'
        clear hlt hk htt
        go_wp2
        go_region_held3 (fun w' => w'.cell? ⟨w.heap.size, 2, none⟩ = some (.int .i64 ways))
          (first | go_keep | (rw [Q6.out.cell (p := ⟨w.heap.size, 2, none⟩) (show w.heap.size < wr.heap.size by omega)]; exact m2))
          ((first
            | (go_at_call 27; refine (refTotal n _ L _ (HA.out.below (BR.out.trans ((Below.refl wr.heap.size wr).drew.mono BR.out.size))) HM.out).mono ?_; rintro e w6 ⟨rfl, hb⟩; rw [TT.out]; have Q6 : Hid (Below wr.heap.size wr w6) := Lib.hid ((Below.refl wr.heap.size wr).drew.trans hb); clear hb)))
        all_goals
          go_wp2
          go_ret
          exact ⟨rfl, BR.out.trans (Q6.out.mono BR.out.size)⟩
end Go.Proofs.Ytkloaekmjnbacaa
