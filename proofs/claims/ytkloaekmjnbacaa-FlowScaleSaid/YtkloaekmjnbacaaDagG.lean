/-
  Order, Check, Cost: what they answer. Conditions: none (Cost: at most a million numbers and nodes are reckoned with).
-/
import Derived.Test.YtkloaekmjnbacaaDagF
import Derived.Test.YtkloaekmjnbacaaDagN
import Derived.IntWalk
namespace Go.Proofs.Ytkloaekmjnbacaa
open Go.RowKit Go.Proofs.Ytkloaekmjnbacaa.DagM

def Ordered (n : Int) (L : List Arc) (w : World) (e : Ending) (w' : World) : Prop := ∃ v, e = .returned (.tuple #[v, .int .i64 (ordErr n L)]) ∧ OwnN w' w.heap.size v (ordRes n L) ∧ Below w.heap.size w w'
theorem OwnN.form {w : World} {B : Nat} {v : Value} {l : List Nat} (h : OwnN w B v l) : ∃ ao cap, v = .slice ao l.length cap := by
  rcases h.2 with ⟨h1, h2⟩ | ⟨_, _, _, h, _⟩
  · exact ⟨none, 0, by rw [h2]; exact h1⟩
  · exact ⟨_, _, h⟩

set_option maxHeartbeats 1000000 in
theorem order (n : Int) (v : Value) (L : List Arc) (w : World) (hA : ArcsAt w v L) :
    Calls Try.prog 30 #[.int .i64 n, v] w (Ordered n L w) := by
  have HA := Lib.hid hA
  cases hm : mayB n L with
  | false =>
    have e1 : ordErr n L = 2 := by unfold ordErr; rw [hm]; rfl
    have e2 : ordRes n L = [] := by unfold ordRes; rw [hm]; rfl
    have HM := Lib.hid hm
    have E1 := Lib.hid e1
    have E2 := Lib.hid e2
    clear hm e1 e2 hA
    go_enter Try.func30, Try.ntmps30
    go_wp2_with (go_at_call 39; refine (mayBe n v L _ HA.out).mono ?_; rintro e w1 ⟨rfl, b1⟩; rw [HM.out]; have B1 := Lib.hid b1; clear b1)
    go_ret2
    refine ⟨.slice none 0 0, by rw [E1.out]; rfl, ?_, B1.out⟩
    rw [E2.out]
    exact World.ownsRow_nil _ _ _ _
  | true =>
    have hM := (mayB_iff n L).1 hm
    obtain ⟨N, rfl⟩ : ∃ N : Nat, n = (N : Int) := ⟨n.toNat, by have := hM.n0; omega⟩
    have HM := Lib.hid hm
    have MY := Lib.hid hM
    clear hm hM hA
    go_enter Try.func30, Try.ntmps30
    by_cases hl : (topo (ends L) N).length < N
    · have E1 : Hid (ordErr N L = 11) := Lib.hid (by rw [ordErr_ok MY.out]; simp [hl])
      have E2 : Hid (ordRes N L = []) := Lib.hid (by unfold ordRes; rw [HM.out]; simp [hl])
      have h1 : decide ((topo (ends L) N).length < N) = true := by simpa using hl
      clear hl
      go_wp2_with (first
        | (go_at_call 39; refine (mayBe N v L _ HA.out).mono ?_; rintro e w1 ⟨rfl, b1⟩; rw [HM.out]; have B1 := Lib.hid b1; clear b1)
        | (go_at_call 40; refine (leastFirst N v L _ (HA.out.below B1.out) MY.out).mono ?_; rintro e w2 ⟨v2, rfl, ho, hb⟩; obtain ⟨ao, cp, rfl⟩ := ho.form; have B2 := Lib.hid hb; clear ho hb))
      go_ret2
      refine ⟨.slice none 0 0, by rw [E1.out]; rfl, ?_, B1.out.trans (B2.out.mono B1.out.size)⟩
      rw [E2.out]
      exact World.ownsRow_nil _ _ _ _
    · have E1 : Hid (ordErr N L = 0) := Lib.hid (by rw [ordErr_ok MY.out]; simp [hl])
      have E2 : Hid (ordRes N L = topo (ends L) N) := Lib.hid (by unfold ordRes; rw [HM.out]; simp [hl])
      have h1 : decide ((topo (ends L) N).length < N) = false := by simpa using hl
      clear hl
      go_wp2_with (first
        | (go_at_call 39; refine (mayBe N v L _ HA.out).mono ?_; rintro e w1 ⟨rfl, b1⟩; rw [HM.out]; have B1 := Lib.hid b1; clear b1)
        | (go_at_call 40; refine (leastFirst N v L _ (HA.out.below B1.out) MY.out).mono ?_; rintro e w2 ⟨v2, rfl, ho, hb⟩; obtain ⟨ao, cp, rfl⟩ := ho.form; have B2 := Lib.hid hb; have O2 := Lib.hid ho; clear ho hb))
      go_ret2
      refine ⟨.slice ao (topo (ends L) N).length cp, by rw [E1.out]; rfl, ?_, B1.out.trans (B2.out.mono B1.out.size)⟩
      rw [E2.out]
      exact OwnN.base O2.out B1.out.size

theorem check (n : Int) (v : Value) (L : List Arc) (w : World) (hA : ArcsAt w v L) :
    Calls Try.prog 28 #[.int .i64 n, v] w fun e w' => e = .returned (.int .i64 (ordErr n L)) ∧ Below w.heap.size w w' := by
  have HA := Lib.hid hA
  clear hA
  go_enter Try.func28, Try.ntmps28
  go_wp2_with (go_at_call 30; refine (order n v L _ HA.out).mono ?_; rintro e w1 ⟨v1, rfl, ho, hb⟩; have B1 := Lib.hid hb; clear ho hb)
  go_ret
  exact ⟨rfl, B1.out⟩

/-- The numbers of an arc's two ends. -/
theorem IntsAt.at_ {w : World} {v : Value} {x : List Int} (h : IntsAt w v x) {i : Nat} (hi : i < x.length) : ∃ b o cap, v = .slice (some ⟨b, o, none⟩) x.length cap ∧ b < w.heap.size ∧ w.cell? ⟨b, o + i, none⟩ = some (.int .i64 (val x i)) := by
  obtain ⟨A, cap, rfl, _, hA⟩ := h
  obtain ⟨b, o, rfl, hb, hc⟩ := hA (by omega)
  refine ⟨b, o, cap, rfl, hb, ?_⟩
  rw [hc i hi]
  simp [val, List.getD_eq_getElem?_getD, hi]
def Cst (x : List Int) (L : List Arc) (w wr : World) (iv cv : Value) : Prop :=
  ∃ k : Nat, iv = .int .i64 k ∧ k ≤ L.length ∧ cv = .int .i64 (costSum x (L.take k)) ∧ 0 ≤ costSum x (L.take k) ∧ costSum x (L.take k) ≤ 2000000000000 * (k : Int) ∧ fitB x (L.take k) = true ∧ Below w.heap.size w wr
def CostOf (n : Int) (L : List Arc) (x : List Int) (w : World) (e : Ending) (w' : World) : Prop := e = .returned (.tuple #[.int .i64 (costVal n L x), .int .i64 (costErr n L x)]) ∧ Below w.heap.size w w'


end Go.Proofs.Ytkloaekmjnbacaa
