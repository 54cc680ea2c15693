/-
  The reference's Cost where numbers are a little further away than the graph's coordinates may be. Conditions: the graph may be; all numbers are near.
-/
import Derived.Test.YtdpacaomkahgfaaGreatDoorCtK
import Derived.Test.YtdpacaomkahgfaaGreatDoorCrLb
import Derived.IntWalk
namespace Go.Proofs.YtdpacaomkahgfaaGreatDoor
open Go.RowKit Go.Proofs.YtdpacaomkahgfaaGreatDoor.DagM

theorem mul_wide {z d : Int} (h0 : 0 ≤ z) (h1 : z ≤ 1000000) (d0 : 0 ≤ d) (d1 : d ≤ 2200000) : 0 ≤ z * d ∧ z * d ≤ 2200000000000 := by
  refine ⟨Int.mul_nonneg h0 d0, ?_⟩
  have := Int.mul_le_mul h1 d1 d0 (by omega : (0 : Int) ≤ 1000000)
  omega
theorem ints_take {w : World} {a : Option Addr} {c : Nat} {x : List Int} (h : IntsAt w (.slice a x.length c) x) (k : Nat) (hk : k ≤ x.length) : IntsAt w (.slice a k c) (x.take k) := by
  obtain ⟨A, cap, e, hc, hA⟩ := h
  simp only [Value.slice.injEq, true_and] at e
  obtain ⟨rfl, rfl⟩ := e
  have hl : (x.take k).length = k := by rw [List.length_take]; omega
  refine ⟨a, c, by rw [hl], by omega, fun h0 => ?_⟩
  obtain ⟨b, o, rfl, hb, hcell⟩ := hA (by omega)
  refine ⟨b, o, rfl, hb, fun j hj => ?_⟩
  rw [hcell j (by omega)]
  simp
def RcRelW (x : List Int) (L : List Arc) (w wr : World) (sv iv : Value) : Prop := ∃ k : Nat, iv = .int .i64 k ∧ k ≤ L.length ∧ sv = .int .i64 (costSum x (L.take k)) ∧ 0 ≤ costSum x (L.take k) ∧ costSum x (L.take k) ≤ 2200000000000 * (k : Int) ∧ Below w.heap.size w wr
set_option maxHeartbeats 4000000 in
set_option maxRecDepth 100000 in
theorem refCostW (n : Int) (v xv : Value) (L : List Arc) (x : List Int) (w : World) (hM : May n L) (hC : ∀ i : Int, 0 ≤ i → i < n → -1100000 ≤ val x i ∧ val x i ≤ 1100000 ∧ i.toNat < x.length) (hf : fitB x L = true) (hA : ArcsAt w v L) (hX : IntsAt w xv x) :
    Calls Tryz.prog 16 #[v, xv] w fun e w' => e = .returned (.int .i64 (costSum x L)) ∧ Below w.heap.size w w' := by
  have HA := Lib.hid hA
  have HX := Lib.hid hX
  have MY := Lib.hid hM
  have NR := Lib.hid hC
  have FA := Lib.hid (fit_at x L hf)
  have hLl := hM.len
  clear hM hX hC hf
  obtain ⟨A, cap, rfl, hcap, -⟩ := hA
  go_enter Tryz.func16, Tryz.ntmps16
  go_wp2
  go_loopw [5, 6] (fun sv iv wr => RcRelW x L w wr sv iv) (fun _ iv _ => L.length - (intOf iv).toNat)
  case atStart => exact ⟨0, rfl, by omega, rfl, Int.le_refl _, by simp [costSum], Below.refl _ _⟩
  case round =>
    obtain ⟨k, rfl, hk, rfl, hc0, hc1, hB⟩ := hrel
    have B := Lib.hid hB
    clear hB
    by_cases hlt : k < L.length
    · obtain ⟨A', cap', e, _, hA⟩ := HA.out
      simp only [Value.slice.injEq, true_and] at e
      obtain ⟨rfl, rfl⟩ := e
      obtain ⟨b, o, rfl, hb, hcell⟩ := hA (by omega)
      obtain ⟨c0, c1, c2⟩ := hcell k hlt
      have d0 := (B.out.cell (p := ⟨b, o + k * 3, none⟩) hb).trans c0
      have d1 := (B.out.cell (p := ⟨b, o + k * 3 + 1, none⟩) hb).trans c1
      have d2 := (B.out.cell (p := ⟨b, o + k * 3 + 2, none⟩) hb).trans c2
      have ok := MY.out.ok L[k] (List.getElem_mem hlt)
      have hsn := costSum_snoc x L k hlt
      have hfa := FA.out k hlt
      clear hA hcell c0 c1 c2
      generalize L[k] = a at *
      obtain ⟨f, t, z⟩ := a
      obtain ⟨f, rfl⟩ : ∃ u : Nat, f = (u : Int) := ⟨f.toNat, by simp only at ok; omega⟩
      obtain ⟨t, rfl⟩ : ∃ u : Nat, t = (u : Int) := ⟨t.toNat, by simp only at ok; omega⟩
      simp only at ok d0 d1 d2
      obtain ⟨ok0, ok1, ok2, ok3, ok4, ok5⟩ := ok
      obtain ⟨n1, n2, n3⟩ := NR.out f ok0 ok1
      obtain ⟨n4, n5, n6⟩ := NR.out t ok2 ok3
      simp only [Int.toNat_natCast] at n3 n6
      obtain ⟨bx, ox, cx, rfl, hbx, x0⟩ := HX.out.at_ n3
      obtain ⟨bx', ox', cx', e, _, x1⟩ := HX.out.at_ n6
      simp only [Value.slice.injEq, Option.some.injEq, Addr.mk.injEq, and_true, true_and] at e
      obtain ⟨⟨rfl, rfl⟩, rfl⟩ := e
      have y0 := (B.out.cell (p := ⟨bx, ox + f, none⟩) hbx).trans x0
      have y1 := (B.out.cell (p := ⟨bx, ox + t, none⟩) hbx).trans x1
      clear x0 x1
      simp only [fitA, decide_eq_true_eq] at hfa
      simp only [costA] at hsn
      generalize val x f = p at *
      generalize val x t = q at *
      have HS := Lib.hid hsn
      clear hsn
      obtain ⟨m0, m1⟩ := mul_wide ok4 ok5 (d := q - p) (by omega) (by omega)
      have hw1 : IntKind.i64.wrap (q - p) = q - p := IntWalk.i64_in _ (by omega)
      have hw2 : IntKind.i64.wrap (z * (q - p)) = z * (q - p) := IntWalk.i64_in _ (by omega)
      have hw3 : IntKind.i64.wrap (costSum x (L.take k) + z * (q - p)) = costSum x (L.take k) + z * (q - p) := IntWalk.i64_in _ (by omega)
      go_wp2
      go_quiet (fail)
      all_goals
        clear hw1 hw2 hw3
        go_wp2
        go_roundw
        case rel => exact ⟨k + 1, by go_num, by omega, by rw [HS.out], by rw [HS.out]; omega, by rw [HS.out]; push_cast; omega, belowN B.out _⟩
        case measure => simp [intOf]; omega
    · obtain rfl : L.length = k := by omega
      go_wp2
      go_ret
      exact ⟨by rw [List.take_length]; rfl, B.out⟩
end Go.Proofs.YtdpacaomkahgfaaGreatDoor
