/-
  The reference's Fit. Conditions: the graph may be; as many numbers as nodes.
  The reference's Fit and Cost; Make. Conditions: the graph may be; all numbers are near.
  One int appended to a row of the call's own. Conditions: none.
  The reference's Ranks answers what the program's does. Conditions: at most a thousand numbers.
  right: of what solves a dag it answers true. Conditions: that.
-/
import Derived.Test.YtdpacaomkahgfaaGreatDoorCrLa
import Derived.IntWalk
import Derived.Test.YtdpacaomkahgfaaGreatDoorCqF
import Derived.Deep.RegionHeld3
namespace Go.Proofs.YtdpacaomkahgfaaGreatDoor
open Go.RowKit Go.Proofs.YtdpacaomkahgfaaGreatDoor.DagM

def FtRel (x : List Int) (L : List Arc) (w wr : World) (iv : Value) : Prop := ∃ k : Nat, iv = .int .i64 k ∧ k ≤ L.length ∧ fitB x (L.take k) = true ∧ Below w.heap.size w wr

set_option maxHeartbeats 4000000 in
set_option maxRecDepth 100000 in
theorem refFit (n : Int) (v xv : Value) (L : List Arc) (x : List Int) (w : World) (hM : May n L) (hl : (x.length : Int) = n) (hA : ArcsAt w v L) (hX : IntsAt w xv x) :
    Calls Tryz.prog 15 #[v, xv] w fun e w' => e = .returned (.bool (fitB x L)) ∧ Below w.heap.size w w' := by
  have HA := Lib.hid hA
  have HX := Lib.hid hX
  have MY := Lib.hid hM
  have HL := Lib.hid hl
  have hLl := hM.len
  clear hM hX hl
  obtain ⟨A, cap, rfl, hcap, -⟩ := hA
  go_enter Tryz.func15, Tryz.ntmps15
  go_wp2
  go_loopw [5] (fun iv wr => FtRel x L w wr iv) (fun iv _ => L.length - (intOf iv).toNat)
  case atStart => exact ⟨0, rfl, by omega, rfl, Below.refl _ _⟩
  case round =>
    obtain ⟨k, rfl, hk, hF, hB⟩ := hrel
    have B := Lib.hid hB
    have FT := Lib.hid hF
    clear hB hF
    by_cases hlt : k < L.length
    · obtain ⟨A', cap', e, _, hA⟩ := HA.out
      simp only [Value.slice.injEq, true_and] at e
      obtain ⟨rfl, rfl⟩ := e
      obtain ⟨b, o, rfl, hb, hcell⟩ := hA (by omega)
      obtain ⟨c0, c1, c2⟩ := hcell k hlt
      have d0 := (B.out.cell (p := ⟨b, o + k * 3, none⟩) hb).trans c0
      have d1 := (B.out.cell (p := ⟨b, o + k * 3 + 1, none⟩) hb).trans c1
      have ok := MY.out.ok L[k] (List.getElem_mem hlt)
      have hfs := fit_snoc x L k hlt
      have hfn := fit_not x L k hlt
      clear hA hcell c0 c1 c2
      generalize L[k] = a at *
      obtain ⟨f, t, z⟩ := a
      obtain ⟨f, rfl⟩ : ∃ u : Nat, f = (u : Int) := ⟨f.toNat, by simp only at ok; omega⟩
      obtain ⟨t, rfl⟩ : ∃ u : Nat, t = (u : Int) := ⟨t.toNat, by simp only at ok; omega⟩
      simp only at ok d0 d1
      have hl := HL.out
      have n3 : f < x.length := by omega
      have n6 : t < x.length := by omega
      clear ok hl
      obtain ⟨bx, ox, cx, rfl, hbx, x0⟩ := HX.out.at_ n3
      obtain ⟨bx', ox', cx', e, _, x1⟩ := HX.out.at_ n6
      simp only [Value.slice.injEq, Option.some.injEq, Addr.mk.injEq, and_true, true_and] at e
      obtain ⟨⟨rfl, rfl⟩, rfl⟩ := e
      have y0 := (B.out.cell (p := ⟨bx, ox + f, none⟩) hbx).trans x0
      have y1 := (B.out.cell (p := ⟨bx, ox + t, none⟩) hbx).trans x1
      clear x0 x1
      simp only [fitA] at hfs hfn
      generalize val x f = p at *
      generalize val x t = q at *
      have HFS := Lib.hid hfs
      have HFN := Lib.hid hfn
      clear hfs hfn
      by_cases hpq : p < q
      · have hle : decide (q ≤ p) = false := by simp; omega
        go_wp2
        go_quiet (fail)
        all_goals
          go_wp2
          go_roundw
          case rel => exact ⟨k + 1, by go_num, by omega, by rw [HFS.out, FT.out]; simp; omega, belowN B.out _⟩
          case measure => simp [intOf]; omega
      · have hle : decide (q ≤ p) = true := by simp; omega
        have e := HFN.out (by simpa using hpq)
        have E := Lib.hid e
        clear e
        go_wp2
        go_quiet (fail)
        all_goals
          go_wp2
          go_ret
          exact ⟨ret_bool E.out.symm, belowN B.out _⟩
    · obtain rfl : L.length = k := by omega
      have h := FT.out
      rw [List.take_length] at h
      have E := Lib.hid h
      clear h hlt
      go_wp2
      go_ret
      exact ⟨ret_bool E.out.symm, B.out⟩
end Go.Proofs.YtdpacaomkahgfaaGreatDoor

namespace Go.Proofs.YtdpacaomkahgfaaGreatDoor
open Go.RowKit Go.Proofs.YtdpacaomkahgfaaGreatDoor.DagM

def RcRel (x : List Int) (L : List Arc) (w wr : World) (sv iv : Value) : Prop := ∃ k : Nat, iv = .int .i64 k ∧ k ≤ L.length ∧ sv = .int .i64 (costSum x (L.take k)) ∧ 0 ≤ costSum x (L.take k) ∧ costSum x (L.take k) ≤ 2000000000000 * (k : Int) ∧ Below w.heap.size w wr
theorem fit_at (x : List Int) (L : List Arc) (h : fitB x L = true) (k : Nat) (hk : k < L.length) : fitA x L[k] = true := by
  unfold fitB at h
  exact List.all_eq_true.1 h _ (List.getElem_mem hk)
set_option maxHeartbeats 4000000 in
set_option maxRecDepth 100000 in
theorem refCost (n : Int) (v xv : Value) (L : List Arc) (x : List Int) (w : World) (hM : May n L) (hC : coordB n x = true) (hf : fitB x L = true) (hA : ArcsAt w v L) (hX : IntsAt w xv x) :
    Calls Tryz.prog 16 #[v, xv] w fun e w' => e = .returned (.int .i64 (costSum x L)) ∧ Below w.heap.size w w' := by
  have HA := Lib.hid hA
  have HX := Lib.hid hX
  have MY := Lib.hid hM
  have NR := Lib.hid (fun i h1 h2 => val_near hC i h1 h2)
  have FA := Lib.hid (fit_at x L hf)
  have hLl := hM.len
  clear hM hX hC hf
  obtain ⟨A, cap, rfl, hcap, -⟩ := hA
  go_enter Tryz.func16, Tryz.ntmps16
  go_wp2
  go_loopw [5, 6] (fun sv iv wr => RcRel x L w wr sv iv) (fun _ iv _ => L.length - (intOf iv).toNat)
  case atStart => exact ⟨0, rfl, by omega, rfl, Int.le_refl _, by simp [costSum], Below.refl _ _⟩
  case round =>
    obtain ⟨k, rfl, hk, rfl, hc0, hc1, hB⟩ := hrel
    have B := Lib.hid hB
    clear hB
    by_cases hlt : k < L.length
    · obtain ⟨A', cap', e, _, hA⟩ := HA.out
      simp only [Value.slice.injEq, true_and] at e
      obtain ⟨rfl, rfl⟩ := e
      obtain ⟨b, o, rfl, hb, hcell⟩ := hA (by omega)
      obtain ⟨c0, c1, c2⟩ := hcell k hlt
      have d0 := (B.out.cell (p := ⟨b, o + k * 3, none⟩) hb).trans c0
      have d1 := (B.out.cell (p := ⟨b, o + k * 3 + 1, none⟩) hb).trans c1
      have d2 := (B.out.cell (p := ⟨b, o + k * 3 + 2, none⟩) hb).trans c2
      have ok := MY.out.ok L[k] (List.getElem_mem hlt)
      have hsn := costSum_snoc x L k hlt
      have hfa := FA.out k hlt
      clear hA hcell c0 c1 c2
      generalize L[k] = a at *
      obtain ⟨f, t, z⟩ := a
      obtain ⟨f, rfl⟩ : ∃ u : Nat, f = (u : Int) := ⟨f.toNat, by simp only at ok; omega⟩
      obtain ⟨t, rfl⟩ : ∃ u : Nat, t = (u : Int) := ⟨t.toNat, by simp only at ok; omega⟩
      simp only at ok d0 d1 d2
      obtain ⟨ok0, ok1, ok2, ok3, ok4, ok5⟩ := ok
      obtain ⟨n1, n2, n3⟩ := NR.out f ok0 ok1
      obtain ⟨n4, n5, n6⟩ := NR.out t ok2 ok3
      simp only [Int.toNat_natCast] at n3 n6
      obtain ⟨bx, ox, cx, rfl, hbx, x0⟩ := HX.out.at_ n3
      obtain ⟨bx', ox', cx', e, _, x1⟩ := HX.out.at_ n6
      simp only [Value.slice.injEq, Option.some.injEq, Addr.mk.injEq, and_true, true_and] at e
      obtain ⟨⟨rfl, rfl⟩, rfl⟩ := e
      have y0 := (B.out.cell (p := ⟨bx, ox + f, none⟩) hbx).trans x0
      have y1 := (B.out.cell (p := ⟨bx, ox + t, none⟩) hbx).trans x1
      clear x0 x1
      simp only [fitA, decide_eq_true_eq] at hfa
      simp only [costA] at hsn
      generalize val x f = p at *
      generalize val x t = q at *
      have HS := Lib.hid hsn
      clear hsn
      obtain ⟨m0, m1⟩ := mul_near ok4 ok5 (d := q - p) (by omega) (by omega)
      have hw1 : IntKind.i64.wrap (q - p) = q - p := IntWalk.i64_in _ (by omega)
      have hw2 : IntKind.i64.wrap (z * (q - p)) = z * (q - p) := IntWalk.i64_in _ (by omega)
      have hw3 : IntKind.i64.wrap (costSum x (L.take k) + z * (q - p)) = costSum x (L.take k) + z * (q - p) := IntWalk.i64_in _ (by omega)
      go_wp2
      go_quiet (fail)
      all_goals
        clear hw1 hw2 hw3
        go_wp2
        go_roundw
        case rel => exact ⟨k + 1, by go_num, by omega, by rw [HS.out], by rw [HS.out]; omega, by rw [HS.out]; push_cast; omega, belowN B.out _⟩
        case measure => simp [intOf]; omega
    · obtain rfl : L.length = k := by omega
      go_wp2
      go_ret
      exact ⟨by rw [List.take_length]; rfl, B.out⟩
end Go.Proofs.YtdpacaomkahgfaaGreatDoor

namespace Go.Proofs.YtdpacaomkahgfaaGreatDoor
open Go.RowKit Go.Proofs.YtdpacaomkahgfaaGreatDoor.DagM

theorem newsI (w : World) (t : TypeId) (x : Int) (b : Nat) (hb : w.heap.size = b) : ∀ j z, [Value.int .i64 x][j]? = some z → (w.alloc (.cells #[.int .i64 x] t)).cell? ((⟨b, 0, none⟩ : Addr).add j) = some z := by
  intro j z hz
  have hj : j = 0 := by have := List.getElem?_eq_some_iff.1 hz; simp at this; omega
  subst hj hb
  simp at hz
  subst hz
  go_simp
theorem oneI (x : Int) : ∀ z ∈ [Value.int .i64 x], z.oneCell' = true := by
  intro z hz
  simp at hz
  subst hz
  rfl
theorem OwnI.snoc {w : World} {B : Nat} {v : Value} {l : List Int} {x : Int} (h : w.ownsRow B 3 1 v (l.length + 1) (l.map (Value.int .i64) ++ [.int .i64 x])) : OwnI w B v (l ++ [x]) := by
  unfold OwnI
  rw [List.length_append, List.map_append]
  exact h
theorem int_app {w0 w w' : World} {v v' : Value} {K : List Int} {a : Int} (hB : Below w0.heap.size w0 w) (hO : OwnI w w0.heap.size v K) (hown : w'.ownsRow w0.heap.size 3 1 v' (K.length + 1) (K.map (Value.int .i64) ++ [.int .i64 a])) (hgrow : w.grownBy w' v.ownBlock) :
    OwnI w' w0.heap.size v' (K ++ [a]) ∧ Below w0.heap.size w0 w' :=
  ⟨OwnI.snoc hown, hB.trans (((Out.refl _ w).grown (S := fun b => v.ownBlock = some b) hgrow (fun _ _ e => e)).below hB.size (fun i _ e => (World.ownsRow.lt hO i e).1))⟩
end Go.Proofs.YtdpacaomkahgfaaGreatDoor

namespace Go.Proofs.YtdpacaomkahgfaaGreatDoor
open Go.RowKit Go.Proofs.YtdpacaomkahgfaaGreatDoor.DagM

/-- The unlike numbers of the first k of x that are less than a. -/
structure LsOf (x : List Int) (a : Int) (k : Nat) (Ls : List Int) : Prop where
  nd : Ls.Nodup
  iff : ∀ y, y ∈ Ls ↔ y ∈ x.take k ∧ y < a
  len : Ls.length ≤ k
theorem LsOf.step {x : List Int} {a : Int} {k : Nat} {Ls : List Int} (h : LsOf x a k Ls) (hk : k < x.length) :
    LsOf x a (k + 1) (if (decide (a ≤ x[k]) || Ls.any (fun y => y == x[k])) = true then Ls else Ls ++ [x[k]]) := by
  have ht : ∀ y, y ∈ x.take (k + 1) ↔ y ∈ x.take k ∨ y = x[k] := fun y => by rw [List.take_succ_eq_append_getElem hk, List.mem_append, List.mem_singleton]
  by_cases h1 : a ≤ x[k]
  · rw [if_pos (by simp [h1])]
    refine ⟨h.nd, fun y => ?_, by have := h.len; omega⟩
    rw [h.iff, ht]
    constructor
    · rintro ⟨h2, h3⟩; exact ⟨Or.inl h2, h3⟩
    · rintro ⟨h2 | h2, h3⟩
      · exact ⟨h2, h3⟩
      · subst h2; omega
  · by_cases h2 : x[k] ∈ Ls
    · rw [if_pos (by simp [h2])]
      refine ⟨h.nd, fun y => ?_, by have := h.len; omega⟩
      rw [h.iff, ht]
      constructor
      · rintro ⟨h3, h4⟩; exact ⟨Or.inl h3, h4⟩
      · rintro ⟨h3 | h3, h4⟩
        · exact ⟨h3, h4⟩
        · subst h3; exact (h.iff _).1 h2
    · rw [if_neg (by simp [h1, h2] <;> omega)]
      refine ⟨List.nodup_append.2 ⟨h.nd, by simp, fun u hu v hv e => h2 (by rw [List.mem_singleton.1 hv] at e; exact e ▸ hu)⟩, fun y => ?_, by have := h.len; simp; omega⟩
      rw [List.mem_append, h.iff, ht, List.mem_singleton]
      constructor
      · rintro (⟨h3, h4⟩ | h3)
        · exact ⟨Or.inl h3, h4⟩
        · subst h3; exact ⟨Or.inr rfl, by omega⟩
      · rintro ⟨h3 | h3, h4⟩
        · exact Or.inl ⟨h3, h4⟩
        · exact Or.inr h3
theorem LsOf.rk {x : List Int} {a : Int} {Ls : List Int} (h : LsOf x a x.length Ls) : Ls.length = rk x a := rk_of h.nd (fun y => by rw [h.iff, List.take_length])
def RrRel (x : List Int) (w wr : World) (ov iv : Value) : Prop := ∃ k : Nat, iv = .int .i64 k ∧ k ≤ x.length ∧ Below w.heap.size w wr ∧ OwnN wr w.heap.size ov ((x.take k).map (rk x))
def MdRel (x : List Int) (a : Int) (wi wr : World) (lv iv : Value) : Prop := ∃ (k : Nat) (Ls : List Int), iv = .int .i64 k ∧ k ≤ x.length ∧ Below wi.heap.size wi wr ∧ OwnI wr wi.heap.size lv Ls ∧ LsOf x a k Ls
def InRel (Ls : List Int) (a b : Int) (wm wr : World) (mv iv : Value) : Prop := ∃ j : Nat, iv = .int .i64 j ∧ j ≤ Ls.length ∧ mv = .bool (decide (a ≤ b) || (Ls.take j).any (fun y => y == b)) ∧ Below wm.heap.size wm wr
theorem any_part {Ls : List Int} {j : Nat} {b : Int} (h : (Ls.take j).any (fun y => y == b) = true) : Ls.any (fun y => y == b) = true := by
  rw [List.any_eq_true] at h ⊢
  obtain ⟨y, hy, e⟩ := h
  exact ⟨y, List.mem_of_mem_take hy, e⟩
theorem val_get {x : List Int} {k : Nat} (h : k < x.length) : val x k = x[k] := by simp [val, List.getD_eq_getElem?_getD, h]

theorem newsNb2 (w : World) (t : TypeId) (x b : Nat) (hb : w.heap.size = b) : ∀ j z, [encNat x][j]? = some z → (w.alloc (.cells #[.int .i64 (x : Int)] t)).cell? ((⟨b, 0, none⟩ : Addr).add j) = some z := by
  subst hb
  exact newsN w t x

end Go.Proofs.YtdpacaomkahgfaaGreatDoor

namespace Go.Proofs.YtdpacaomkahgfaaGreatDoor
open Go.RowKit Go.Proofs.YtdpacaomkahgfaaGreatDoor.DagM

def RiRel (L : List Arc) (w4 wr : World) (iv : Value) : Prop := ∃ k : Nat, iv = .int .i64 k ∧ k ≤ L.length ∧ Below w4.heap.size w4 wr


end Go.Proofs.YtdpacaomkahgfaaGreatDoor
