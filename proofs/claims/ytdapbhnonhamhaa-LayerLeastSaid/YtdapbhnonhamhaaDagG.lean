/-
  Order, Check, Cost: what they answer. Conditions: none (Cost: at most a million numbers and nodes are reckoned with).
-/
import Derived.Test.YtdapbhnonhamhaaDagF
import Derived.Test.YtdapbhnonhamhaaDagN
import Derived.IntWalk
namespace Go.Proofs.Ytdapbhnonhamhaa
open Go.RowKit Go.Proofs.Ytdapbhnonhamhaa.DagM

def Ordered (n : Int) (L : List Arc) (w : World) (e : Ending) (w' : World) : Prop := ∃ v, e = .returned (.tuple #[v, .int .i64 (ordErr n L)]) ∧ OwnN w' w.heap.size v (ordRes n L) ∧ Below w.heap.size w w'
theorem OwnN.form {w : World} {B : Nat} {v : Value} {l : List Nat} (h : OwnN w B v l) : ∃ ao cap, v = .slice ao l.length cap := by
  rcases h.2 with ⟨h1, h2⟩ | ⟨_, _, _, h, _⟩
  · exact ⟨none, 0, by rw [h2]; exact h1⟩
  · exact ⟨_, _, h⟩

set_option maxHeartbeats 1000000 in
theorem order (n : Int) (v : Value) (L : List Arc) (w : World) (hA : ArcsAt w v L) :
    Calls Try.prog 9 #[.int .i64 n, v] w (Ordered n L w) := by
  have HA := Lib.hid hA
  cases hm : mayB n L with
  | false =>
    have e1 : ordErr n L = 2 := by unfold ordErr; rw [hm]; rfl
    have e2 : ordRes n L = [] := by unfold ordRes; rw [hm]; rfl
    have HM := Lib.hid hm
    have E1 := Lib.hid e1
    have E2 := Lib.hid e2
    clear hm e1 e2 hA
    go_enter Try.func9, Try.ntmps9
    go_wp2_with (go_at_call 25; refine (mayBe n v L _ HA.out).mono ?_; rintro e w1 ⟨rfl, b1⟩; rw [HM.out]; have B1 := Lib.hid b1; clear b1)
    go_ret2
    refine ⟨.slice none 0 0, by rw [E1.out]; rfl, ?_, B1.out⟩
    rw [E2.out]
    exact World.ownsRow_nil _ _ _ _
  | true =>
    have hM := (mayB_iff n L).1 hm
    obtain ⟨N, rfl⟩ : ∃ N : Nat, n = (N : Int) := ⟨n.toNat, by have := hM.n0; omega⟩
    have HM := Lib.hid hm
    have MY := Lib.hid hM
    clear hm hM hA
    go_enter Try.func9, Try.ntmps9
    by_cases hl : (topo (ends L) N).length < N
    · have E1 : Hid (ordErr N L = 11) := Lib.hid (by rw [ordErr_ok MY.out]; simp [hl])
      have E2 : Hid (ordRes N L = []) := Lib.hid (by unfold ordRes; rw [HM.out]; simp [hl])
      have h1 : decide ((topo (ends L) N).length < N) = true := by simpa using hl
      clear hl
      go_wp2_with (first
        | (go_at_call 25; refine (mayBe N v L _ HA.out).mono ?_; rintro e w1 ⟨rfl, b1⟩; rw [HM.out]; have B1 := Lib.hid b1; clear b1)
        | (go_at_call 26; refine (leastFirst N v L _ (HA.out.below B1.out) MY.out).mono ?_; rintro e w2 ⟨v2, rfl, ho, hb⟩; obtain ⟨ao, cp, rfl⟩ := ho.form; have B2 := Lib.hid hb; clear ho hb))
      go_ret2
      refine ⟨.slice none 0 0, by rw [E1.out]; rfl, ?_, B1.out.trans (B2.out.mono B1.out.size)⟩
      rw [E2.out]
      exact World.ownsRow_nil _ _ _ _
    · have E1 : Hid (ordErr N L = 0) := Lib.hid (by rw [ordErr_ok MY.out]; simp [hl])
      have E2 : Hid (ordRes N L = topo (ends L) N) := Lib.hid (by unfold ordRes; rw [HM.out]; simp [hl])
      have h1 : decide ((topo (ends L) N).length < N) = false := by simpa using hl
      clear hl
      go_wp2_with (first
        | (go_at_call 25; refine (mayBe N v L _ HA.out).mono ?_; rintro e w1 ⟨rfl, b1⟩; rw [HM.out]; have B1 := Lib.hid b1; clear b1)
        | (go_at_call 26; refine (leastFirst N v L _ (HA.out.below B1.out) MY.out).mono ?_; rintro e w2 ⟨v2, rfl, ho, hb⟩; obtain ⟨ao, cp, rfl⟩ := ho.form; have B2 := Lib.hid hb; have O2 := Lib.hid ho; clear ho hb))
      go_ret2
      refine ⟨.slice ao (topo (ends L) N).length cp, by rw [E1.out]; rfl, ?_, B1.out.trans (B2.out.mono B1.out.size)⟩
      rw [E2.out]
      exact OwnN.base O2.out B1.out.size

theorem check (n : Int) (v : Value) (L : List Arc) (w : World) (hA : ArcsAt w v L) :
    Calls Try.prog 12 #[.int .i64 n, v] w fun e w' => e = .returned (.int .i64 (ordErr n L)) ∧ Below w.heap.size w w' := by
  have HA := Lib.hid hA
  clear hA
  go_enter Try.func12, Try.ntmps12
  go_wp2_with (go_at_call 9; refine (order n v L _ HA.out).mono ?_; rintro e w1 ⟨v1, rfl, ho, hb⟩; have B1 := Lib.hid hb; clear ho hb)
  go_ret
  exact ⟨rfl, B1.out⟩

/-- The numbers of an arc's two ends. -/
theorem IntsAt.at_ {w : World} {v : Value} {x : List Int} (h : IntsAt w v x) {i : Nat} (hi : i < x.length) : ∃ b o cap, v = .slice (some ⟨b, o, none⟩) x.length cap ∧ b < w.heap.size ∧ w.cell? ⟨b, o + i, none⟩ = some (.int .i64 (val x i)) := by
  obtain ⟨A, cap, rfl, _, hA⟩ := h
  obtain ⟨b, o, rfl, hb, hc⟩ := hA (by omega)
  refine ⟨b, o, cap, rfl, hb, ?_⟩
  rw [hc i hi]
  simp [val, List.getD_eq_getElem?_getD, hi]
def Cst (x : List Int) (L : List Arc) (w wr : World) (iv cv : Value) : Prop :=
  ∃ k : Nat, iv = .int .i64 k ∧ k ≤ L.length ∧ cv = .int .i64 (costSum x (L.take k)) ∧ 0 ≤ costSum x (L.take k) ∧ costSum x (L.take k) ≤ 2000000000000 * (k : Int) ∧ fitB x (L.take k) = true ∧ Below w.heap.size w wr
def CostOf (n : Int) (L : List Arc) (x : List Int) (w : World) (e : Ending) (w' : World) : Prop := e = .returned (.tuple #[.int .i64 (costVal n L x), .int .i64 (costErr n L x)]) ∧ Below w.heap.size w w'

set_option maxHeartbeats 4000000 in
set_option maxRecDepth 100000 in
theorem cost (n : Int) (v xv : Value) (L : List Arc) (x : List Int) (w : World) (hA : ArcsAt w v L) (hX : IntsAt w xv x) :
    Calls Try.prog 28 #[.int .i64 n, v, xv] w (CostOf n L x w) := by
  have HA := Lib.hid hA
  have HX := Lib.hid hX
  have hr := ordErr_range n L
  by_cases h0 : ordErr n L = 0
  · have MY := Lib.hid (ordErr_may h0)
    have hn := MY.out.n1
    have hLl := MY.out.len
    cases hcb : coordB n x with
    | false =>
      have E1 : Hid (costErr n L x = 2) := Lib.hid (by unfold costErr; rw [if_pos h0, hcb]; rfl)
      have E2 : Hid (costVal n L x = 0) := Lib.hid (by unfold costVal; rw [E1.out]; rfl)
      have H0 := Lib.hid h0
      have HC := Lib.hid hcb
      clear h0 hcb hA hX hr
      go_enter Try.func28, Try.ntmps28
      go_wp2_with (first
        | (go_at_call 12; refine (check n v L _ HA.out).mono ?_; rintro e w1 ⟨rfl, b1⟩; rw [H0.out]; have B1 := Lib.hid b1; clear b1)
        | (go_at_call 42; refine (areCoordinates n xv x _ (HX.out.below B1.out) (by omega)).mono ?_; rintro e w2 ⟨rfl, b2⟩; rw [HC.out]; have B2 := Lib.hid b2; clear b2))
      go_ret2
      exact ⟨by rw [E1.out, E2.out]; rfl, B1.out.trans (B2.out.mono B1.out.size)⟩
    | true =>
      have NR := Lib.hid (fun i h1 h2 => val_near hcb i h1 h2)
      have H0 := Lib.hid h0
      have HC := Lib.hid hcb
      have EQ : Hid (costErr n L x = if fitB x L then 0 else 15) := Lib.hid (by unfold costErr; rw [if_pos h0, hcb]; rfl)
      clear h0 hcb hr
      obtain ⟨A, cap, rfl, hcap, -⟩ := hA
      go_enter Try.func28, Try.ntmps28
      go_wp2_with (first
        | (go_at_call 12; refine (check n _ L _ HA.out).mono ?_; rintro e w1 ⟨rfl, b1⟩; rw [H0.out]; have B1 := Lib.hid b1; clear b1)
        | (go_at_call 42; refine (areCoordinates n xv x _ (HX.out.below B1.out) (by omega)).mono ?_; rintro e w2 ⟨rfl, b2⟩; rw [HC.out]; have B2 := Lib.hid (B1.out.trans (b2.mono B1.out.size)); clear b2))
      go_loopw [25, 9] (fun iv cv wr => Cst x L w wr iv cv) (fun iv _ _ => L.length - (intOf iv).toNat)
      case atStart => exact ⟨0, rfl, by omega, rfl, Int.le_refl _, by simp [costSum], rfl, B2.out⟩
      case round =>
        clear B1 B2
        obtain ⟨k, rfl, hk, rfl, hc0, hc1, hF, hB⟩ := hrel
        have B := Lib.hid hB
        have FT := Lib.hid hF
        clear hB hF
        by_cases hlt : k < L.length
        · obtain ⟨A', cap', e, _, hA⟩ := HA.out
          simp only [Value.slice.injEq, true_and] at e
          obtain ⟨rfl, rfl⟩ := e
          obtain ⟨b, o, rfl, hb, hcell⟩ := hA (by omega)
          obtain ⟨c0, c1, c2⟩ := hcell k hlt
          have d0 := (B.out.cell (p := ⟨b, o + k * 3, none⟩) hb).trans c0
          have d1 := (B.out.cell (p := ⟨b, o + k * 3 + 1, none⟩) hb).trans c1
          have d2 := (B.out.cell (p := ⟨b, o + k * 3 + 2, none⟩) hb).trans c2
          have ok := MY.out.ok L[k] (List.getElem_mem hlt)
          have hsn := costSum_snoc x L k hlt
          have hfs := fit_snoc x L k hlt
          have hfn := fit_not x L k hlt
          clear hA hcell c0 c1 c2
          generalize L[k] = a at *
          obtain ⟨f, t, z⟩ := a
          obtain ⟨f, rfl⟩ : ∃ u : Nat, f = (u : Int) := ⟨f.toNat, by simp only at ok; omega⟩
          obtain ⟨t, rfl⟩ : ∃ u : Nat, t = (u : Int) := ⟨t.toNat, by simp only at ok; omega⟩
          simp only at ok d0 d1 d2
          obtain ⟨ok0, ok1, ok2, ok3, ok4, ok5⟩ := ok
          obtain ⟨n1, n2, n3⟩ := NR.out f ok0 ok1
          obtain ⟨n4, n5, n6⟩ := NR.out t ok2 ok3
          simp only [Int.toNat_natCast] at n3 n6
          obtain ⟨bx, ox, cx, rfl, hbx, x0⟩ := HX.out.at_ n3
          obtain ⟨bx', ox', cx', e, _, x1⟩ := HX.out.at_ n6
          simp only [Value.slice.injEq, Option.some.injEq, Addr.mk.injEq, and_true, true_and] at e
          obtain ⟨⟨rfl, rfl⟩, rfl⟩ := e
          have y0 := (B.out.cell (p := ⟨bx, ox + f, none⟩) hbx).trans x0
          have y1 := (B.out.cell (p := ⟨bx, ox + t, none⟩) hbx).trans x1
          clear x0 x1
          have hbz := B.out.size
          have hbx2 := Nat.lt_of_lt_of_le hbx hbz
          simp only [fitA, costA] at hsn hfs hfn
          generalize val x f = p at *
          generalize val x t = q at *
          have HS := Lib.hid hsn
          have HFS := Lib.hid hfs
          have HFN := Lib.hid hfn
          clear hsn hfs hfn
          have hw1 : IntKind.i64.wrap (q - p) = q - p := IntWalk.i64_in _ (by omega)
          by_cases hpq : p < q
          · obtain ⟨m0, m1⟩ := mul_near ok4 ok5 (d := q - p) (by omega) (by omega)
            have hle : decide (q - p ≤ 0) = false := by simp; omega
            go_wp2
            go_quiet (fail)
            all_goals
              clear hw1
              go_wp2
              go_roundw
              case rel => exact ⟨k + 1, by go_num, by omega, by rw [HS.out], by rw [HS.out]; omega, by rw [HS.out]; push_cast; omega, by rw [HFS.out, FT.out]; simp; omega, B.out.trans ((belowN ((Below.refl _ _).alloc (Nat.le_refl _) _) _).mono hbz)⟩
              case measure => simp [intOf]; omega
          · have hle : decide (q - p ≤ 0) = true := by simp; omega
            have E1 : Hid (costErr n L x = 15) := Lib.hid (by rw [EQ.out, HFN.out (by simpa using hpq)]; rfl)
            have E2 : Hid (costVal n L x = 0) := Lib.hid (by unfold costVal; rw [E1.out]; rfl)
            go_wp2
            go_quiet (fail)
            all_goals
              clear hw1
              go_wp2
              go_ret2
              exact ⟨by rw [E1.out, E2.out]; rfl, B.out.trans ((belowN ((Below.refl _ _).alloc (Nat.le_refl _) _) _).mono hbz)⟩
        · obtain rfl : k = L.length := by omega
          have h := FT.out
          rw [List.take_length] at h
          have E1 : Hid (costErr n L x = 0) := Lib.hid (by rw [EQ.out, h]; rfl)
          have E2 : Hid (costVal n L x = costSum x L) := Lib.hid (by unfold costVal; rw [E1.out]; rfl)
          clear h hlt
          go_wp2
          go_ret2
          exact ⟨by rw [E1.out, E2.out, List.take_length]; rfl, B.out⟩
  · have E1 : Hid (costErr n L x = ordErr n L) := Lib.hid (by unfold costErr; rw [if_neg h0])
    have E2 : Hid (costVal n L x = 0) := Lib.hid (by unfold costVal; rw [E1.out, if_neg h0])
    have hb : (ordErr n L == 0) = false := by simpa using h0
    have hb2 : (ordErr n L != 0) = true := by simpa using h0
    clear hA hX h0
    go_enter Try.func28, Try.ntmps28
    go_wp2_with (go_at_call 12; refine (check n _ L _ HA.out).mono ?_; rintro e w1 ⟨rfl, b1⟩; have B1 := Lib.hid b1; clear b1)
    go_ret2
    exact ⟨by rw [E1.out, E2.out]; rfl, B1.out⟩
end Go.Proofs.Ytdapbhnonhamhaa
