/-
  A row of ints told by a function; the reference's Supply, Right, Total and Sum. Conditions: the graph may be; a flow's sum is within 10^15.
  What Solve and Supply are asked to leave. Conditions: none.
-/
import Derived.Test.YtdpacaomkahgfaaGreatDoorCqE
import Derived.Test.YtdpacaomkahgfaaGreatDoorCqW
import Derived.Test.YtdpacaomkahgfaaGreatDoorCqM
import Derived.StillTailTactics
import Derived.IntWalk
namespace Go.Proofs.YtdpacaomkahgfaaGreatDoor
open Go.RowKit Go.Proofs.YtdpacaomkahgfaaGreatDoor.DagM

/-- The ints s of n nodes, in a row of the call's own at g. -/
structure XiAt (w0 w : World) (g n : Nat) (s : Nat → Int) : Prop where
  below : Below w0.heap.size w0 w
  g0 : w0.heap.size ≤ g
  row : w.ownsRow w0.heap.size 3 1 (.slice (some ⟨g, 0, none⟩) n n) n ((List.range n).map fun v => encInt (s v))
section
variable {w0 w w' : World} {g n : Nat} {s : Nat → Int}
theorem XiAt.gl (h : XiAt w0 w g n s) : g < w.heap.size := (h.row.lt g rfl).2
theorem XiAt.quiet (h : XiAt w0 w g n s) (o : Below w.heap.size w w') : XiAt w0 w' g n s :=
  ⟨h.below.trans (o.mono h.below.size), h.g0, ownsRow_out (S := fun _ => False) h.row (Out.ofBelow o) (fun _ _ e => e)⟩
theorem XiAt.set (h : XiAt w0 w g n s) (t : Nat) (d : Int) : XiAt w0 (w.setCell ⟨g, t, none⟩ (.int .i64 d)) g n (fun v => if v = t then d else s v) := by
  have o2 : Out (fun b => b = g) w (w.setCell ⟨g, t, none⟩ (.int .i64 d)) := Out.setCell (S := fun b => b = g) (Out.refl _ w) (p := ⟨g, t, none⟩) (fun _ => rfl) _
  refine ⟨h.below.trans (o2.below h.below.size (fun i _ e => by subst e; exact h.g0)), h.g0, ?_⟩
  have e : ((List.range n).map fun v => encInt (if v = t then d else s v)) = ((List.range n).map fun v => encInt (s v)).set t (.int .i64 d) := by
    rw [← map_set]
    exact List.map_congr_left (fun v _ => by by_cases e : v = t <;> simp [e, encInt])
  rw [e]
  exact (h.row.stored t _).1
theorem XiAt.cell (h : XiAt w0 w g n s) {v : Nat} (hv : v < n) : w.cell? ⟨g, v, none⟩ = some (.int .i64 (s v)) := by
  rw [h.row.cellAt v (by simpa using hv)]
  simp [hv, encInt]
theorem XiAt.fr (h : XiAt w0 w g n s) (v : Nat) : w.frozen? ⟨g, v, none⟩ = false := h.row.frozenAt v
theorem XiAt.own (h : XiAt w0 w g n s) : OwnI w w0.heap.size (.slice (some ⟨g, 0, none⟩) n n) ((List.range n).map s) := by
  have := h.row
  unfold OwnI
  rw [List.length_map, List.length_range, List.map_map]
  exact this
theorem XiAt.turn {s' : Nat → Int} (h : XiAt w0 w g n s) (e : ∀ v, v < n → s v = s' v) : XiAt w0 w g n s' := by
  refine ⟨h.below, h.g0, ?_⟩
  have e2 : ((List.range n).map fun v => encInt (s' v)) = (List.range n).map fun v => encInt (s v) := List.map_congr_left (fun v hv => by rw [e v (by simpa using hv)])
  rw [e2]
  exact h.row
theorem xi_start (hb : Below w0.heap.size w0 w) (hg : w0.heap.size ≤ g) (h1 : w.heap[g]? = some (.cells (madeCells #[.int .i64 0] n) 3 (0, 0))) (hN : n ≤ 1000000) : XiAt w0 w g n (fun _ => 0) := by
  refine ⟨hb, hg, ⟨by simp, Or.inr ⟨g, n, _, rfl, hg, h1, Nat.le_refl _, by unfold maxLen; omega, by simp [size_madeCells], ?_⟩⟩⟩
  rw [toList_madeCells_one, made_map, List.take_of_length_le (by simp)]
  rfl
end
def Supplied (n : Nat) (L : List Arc) (w : World) (e : Ending) (w' : World) : Prop := ∃ g, e = .returned (.slice (some ⟨g, 0, none⟩) n n) ∧ XiAt w w' g n (fun v => supF L v)
def SuRel (n : Nat) (L : List Arc) (w wr : World) (iv : Value) : Prop := ∃ k : Nat, iv = .int .i64 k ∧ k ≤ L.length ∧ XiAt w wr w.heap.size n (fun v => supF (L.take k) v)

set_option maxHeartbeats 4000000 in
set_option maxRecDepth 100000 in
theorem refSupply (n : Nat) (v : Value) (L : List Arc) (w : World) (hA : ArcsAt w v L) (hM : May n L) :
    Calls Tryz.prog 58 #[.int .i64 n, v] w (Supplied n L w) := by
  have HA := Lib.hid hA
  have HM := Lib.hid hM
  have hN : n ≤ 4096 := by have := hM.n1; omega
  have hL := hM.len
  obtain ⟨A, cap, rfl, hcap, -⟩ := hA
  have hmk := mkInts n hN
  clear hM
  go_enter Tryz.func58, Tryz.ntmps58
  go_wp2
  clear hmk
  go_loopw [6] (fun iv wr => SuRel n L w wr iv) (fun iv _ => L.length - (intOf iv).toNat)
  case atStart => exact ⟨0, rfl, by omega, (xi_start ((Below.refl _ _).alloc (Nat.le_refl _) _) (Nat.le_refl _) (heap_alloc_new w _) (by omega)).turn (fun v _ => by simp [supF, netF])⟩
  case round =>
    obtain ⟨k, rfl, hk, hX⟩ := hrel
    have X := Lib.hid hX
    have hgl := hX.gl
    have hbs := hX.below.size
    clear hX
    by_cases hlt : k < L.length
    · obtain ⟨A', cap', e, _, hA⟩ := HA.out
      simp only [Value.slice.injEq, true_and] at e
      obtain ⟨rfl, rfl⟩ := e
      obtain ⟨b, o, rfl, hb, hcell⟩ := hA (by omega)
      obtain ⟨c0, c1, c2⟩ := hcell k hlt
      have d0 := (X.out.below.cell (p := ⟨b, o + k * 3, none⟩) hb).trans c0
      have d1 := (X.out.below.cell (p := ⟨b, o + k * 3 + 1, none⟩) hb).trans c1
      have d2 := (X.out.below.cell (p := ⟨b, o + k * 3 + 2, none⟩) hb).trans c2
      have ok := HM.out.ok L[k] (List.getElem_mem hlt)
      have hst := fun v => supF_take L k hlt v
      have ST := Lib.hid hst
      have C0 := Lib.hid c0
      have C1 := Lib.hid c1
      have C2 := Lib.hid c2
      clear hst hA hcell c0 c1 c2
      generalize L[k] = a at *
      obtain ⟨f, t, z⟩ := a
      obtain ⟨f, rfl⟩ : ∃ u : Nat, f = (u : Int) := ⟨f.toNat, by simp only at ok; omega⟩
      obtain ⟨t, rfl⟩ : ∃ u : Nat, t = (u : Int) := ⟨t.toNat, by simp only at ok; omega⟩
      simp only at ok d0 d1 d2 ST
      obtain ⟨ok0, ok1, ok2, ok3, ok4, ok5⟩ := ok
      have hf : f < n := by omega
      have ht : t < n := by omega
      have x0 := X.out.cell hf
      have x2 := X.out.fr f
      have hpn := sup_near HM.out k f
      have hqn := sup_near HM.out k t
      obtain ⟨p, hp⟩ : ∃ p, supF (L.take k) f = p := ⟨_, rfl⟩
      have HP := Lib.hid hp
      rw [hp] at x0 hpn
      obtain ⟨hp1, hp2⟩ := hpn
      obtain ⟨q, hq⟩ : ∃ q, (if t = f then p + z else supF (L.take k) t) = q := ⟨_, rfl⟩
      have HQ := Lib.hid hq
      have hq1 : -17000000000 ≤ q ∧ q ≤ 17000000000 := by rw [← hq]; split <;> omega
      obtain ⟨hq1, hq2⟩ := hq1
      have hw1 : IntKind.i64.wrap (p + z) = p + z := IntWalk.i64_in _ (by omega)
      have hw3 : IntKind.i64.wrap (q - z) = q - z := IntWalk.i64_in _ (by omega)
      clear hp hq hqn ok0 ok1 ok2 ok3
      go_wp2
      go_still_tail 21, (by kernel_rfl)
      change wpList _ _ _ _ _ wr.drew
      go_wp2
      generalize hw2 : (World.setCell wr _ _).drew = w2
      have X2 : Hid (XiAt w w2 w.heap.size n (fun v => if v = f then p + z else supF (L.take k) v)) := Lib.hid (by rw [← hw2]; exact (X.out.set f (p + z)).quiet (Below.refl _ _).drew)
      clear hw2 d0 d1 d2 x0 x2 hgl hbs
      have hgl2 := X2.out.gl
      have hbs2 := X2.out.below.size
      have d0 := (X2.out.below.cell (p := ⟨b, o + k * 3, none⟩) hb).trans C0.out
      have d1 := (X2.out.below.cell (p := ⟨b, o + k * 3 + 1, none⟩) hb).trans C1.out
      have d2 := (X2.out.below.cell (p := ⟨b, o + k * 3 + 2, none⟩) hb).trans C2.out
      have x0 := X2.out.cell ht
      have x2 := X2.out.fr t
      (try simp only at d0 d1 d2 x0)
      rw [HQ.out] at x0
      refine wp_region_still_tail 21 (by kernel_rfl) (by kernel_rfl) ?_
      simp only [List.take_succ_cons, List.take_zero, List.drop_succ_cons, List.drop_zero]
      change wpStill _ _ (World.drew _) (fun a' => wpList _ _ _ _ a' (World.drew _)) _ _
      repeat still_step
      refine wpStill_nil ?_
      go_wp2
      go_roundw
      case rel =>
        refine ⟨k + 1, by go_num, by omega, ((X2.out.set t (q - z)).quiet (Below.refl _ _).drew).turn fun v _ => ?_⟩
        rw [ST.out, ← HQ.out, ← HP.out]
        unfold netP
        simp only
        by_cases e1 : v = t
        · by_cases e2 : v = f
          · subst e1 e2; simp
          · subst e1
            have : ¬ (f : Int) = (v : Int) := by omega
            simp [e2, this]
            omega
        · have e3 : ¬ (t : Int) = (v : Int) := by omega
          by_cases e2 : v = f
          · subst e2; simp [e1, e3]
          · have : ¬ (f : Int) = (v : Int) := by omega
            simp [e1, e2, e3, this]
      case measure => simp [intOf]; omega
    · obtain rfl : L.length = k := by omega
      go_wp2
      go_ret
      refine ⟨_, rfl, ?_⟩
      have h := X.out
      rw [List.take_length] at h
      exact h

def RgRel (n : Nat) (L : List Arc) (f : List Int) (g : Nat) (w wr : World) (iv : Value) : Prop := ∃ k : Nat, iv = .int .i64 k ∧ k ≤ L.length ∧ XiAt w wr g n (fun v => supF L v - netF (L.take k) (f.take k) v)
def RzRel (n : Nat) (w wr : World) (iv : Value) : Prop := ∃ k : Nat, iv = .int .i64 k ∧ k ≤ n ∧ wr = w

set_option maxHeartbeats 4000000 in
set_option maxRecDepth 100000 in
theorem refRightF (n : Nat) (v fv : Value) (L : List Arc) (f : List Int) (w : World) (hA : ArcsAt w v L) (hM : May n L) (hF : IntsAt w fv f) (hR : RightF n L f) (hs : f.sum ≤ 1000000000000000) :
    Calls Tryz.prog 33 #[.int .i64 n, v, fv] w fun e w' => e = .returned (.bool true) ∧ Below w.heap.size w w' := by
  have HA := Lib.hid hA
  have HM := Lib.hid hM
  have HF := Lib.hid hF
  have HR := Lib.hid hR
  have hN : n ≤ 4096 := by have := hM.n1; omega
  have hL := hM.len
  have hlen := hR.len
  obtain ⟨A, cap, rfl, hcap, -⟩ := hA
  obtain ⟨af, cf, rfl⟩ := hF.form
  rw [hlen]
  have HL := Lib.hid hlen
  clear hM hF hR hlen
  go_enter Tryz.func33, Tryz.ntmps33
  go_wp2_with (go_at_call 58; refine (refSupply n _ L _ HA.out HM.out).mono ?_; rintro e w1 ⟨g, rfl, hx⟩; have X1 := Lib.hid hx; clear hx)
  go_loopw [8] (fun iv wr => RgRel n L f g w wr iv) (fun iv _ => L.length - (intOf iv).toNat)
  case atStart => exact ⟨0, rfl, by omega, X1.out.turn (fun v _ => by simp [netF])⟩
  case round =>
    clear X1
    obtain ⟨k, rfl, hk, hX⟩ := hrel
    have X := Lib.hid hX
    have hgl := hX.gl
    have hbs := hX.below.size
    clear hX
    by_cases hlt : k < L.length
    · obtain ⟨A', cap', e, _, hA⟩ := HA.out
      simp only [Value.slice.injEq, true_and] at e
      obtain ⟨rfl, rfl⟩ := e
      obtain ⟨b, o, rfl, hb, hcell⟩ := hA (by omega)
      obtain ⟨c0, c1, c2⟩ := hcell k hlt
      have hkf : k < f.length := by rw [HL.out]; exact hlt
      obtain ⟨bf, of_, cf', e, hbf, c3⟩ := HF.out.nth hkf
      rw [HL.out] at e
      simp only [Value.slice.injEq, true_and] at e
      obtain ⟨rfl, rfl⟩ := e
      have d0 := (X.out.below.cell (p := ⟨b, o + k * 3, none⟩) hb).trans c0
      have d1 := (X.out.below.cell (p := ⟨b, o + k * 3 + 1, none⟩) hb).trans c1
      have d3 := (X.out.below.cell (p := ⟨bf, of_ + k, none⟩) hbf).trans c3
      have ok := HM.out.ok L[k] (List.getElem_mem hlt)
      have hc0 := HR.out.nn f[k] (List.getElem_mem hkf)
      have hst := fun v => netF_take L f k hlt hkf v
      have nn := HR.out.nn
      have hks := sum_take_le f nn k
      have hks2 := sum_take_le f nn (k + 1)
      have hcs : f[k] ≤ 1000000000000000 := by
        have e : (f.take (k + 1)).sum = (f.take k).sum + f[k] := by rw [List.take_succ_eq_append_getElem hkf, List.sum_append]; simp
        omega
      have hfk : (f.take (k + 1)).sum = (f.take k).sum + f[k] := by rw [List.take_succ_eq_append_getElem hkf, List.sum_append]; simp
      have near : ∀ u : Int, -2000000000000000 ≤ supF L u - netF (L.take k) (f.take k) u ∧ supF L u - netF (L.take k) (f.take k) u ≤ 2000000000000000 := fun u => by
        have h1 := sup_near HM.out L.length u
        rw [List.take_length] at h1
        have h2 := netF_near u (L.take k) (f.take k) (fun c hc => nn c (List.mem_of_mem_take hc))
        omega
      have ST := Lib.hid hst
      have C0 := Lib.hid c0
      have C1 := Lib.hid c1
      have C3 := Lib.hid c3
      clear hst hA hcell c0 c1 c2 c3 nn hks2
      generalize L[k] = a at *
      generalize f[k] = c at *
      obtain ⟨u, t, z⟩ := a
      obtain ⟨u, rfl⟩ : ∃ m : Nat, u = (m : Int) := ⟨u.toNat, by simp only at ok; omega⟩
      obtain ⟨t, rfl⟩ : ∃ m : Nat, t = (m : Int) := ⟨t.toNat, by simp only at ok; omega⟩
      simp only at ok d0 d1 ST
      obtain ⟨ok0, ok1, ok2, ok3, _, _⟩ := ok
      have hu : u < n := by omega
      have ht : t < n := by omega
      have x0 := X.out.cell hu
      have x2 := X.out.fr u
      obtain ⟨p, hp⟩ : ∃ p, supF L u - netF (L.take k) (f.take k) u = p := ⟨_, rfl⟩
      have HP := Lib.hid hp
      have hpn := near u
      rw [hp] at hpn
      (try simp only at x0)
      rw [hp] at x0
      obtain ⟨hp1, hp2⟩ := hpn
      have hqn := near t
      obtain ⟨q, hq⟩ : ∃ q, (if t = u then p - c else supF L t - netF (L.take k) (f.take k) t) = q := ⟨_, rfl⟩
      have HQ := Lib.hid hq
      have hq1 : -4000000000000000 ≤ q ∧ q ≤ 4000000000000000 := by rw [← hq]; split <;> omega
      obtain ⟨hq1, hq2⟩ := hq1
      have hneg : decide (c < 0) = false := by simpa using hc0
      have hw1 : IntKind.i64.wrap (p - c) = p - c := IntWalk.i64_in _ (by omega)
      have hw3 : IntKind.i64.wrap (q + c) = q + c := IntWalk.i64_in _ (by omega)
      clear hp hq hqn ok0 ok1 ok2 ok3 near hks hfk
      go_wp2
      go_still_tail 20, (by kernel_rfl)
      change wpList _ _ _ _ _ wr.drew
      go_wp2
      generalize hw2 : (World.setCell wr _ _).drew = w2
      have X2 : Hid (XiAt w w2 g n (fun v => if v = u then p - c else supF L v - netF (L.take k) (f.take k) v)) := Lib.hid (by rw [← hw2]; exact (X.out.set u (p - c)).quiet (Below.refl _ _).drew)
      clear hw2 d0 d1 d3 x0 x2 hgl hbs
      have hgl2 := X2.out.gl
      have hbs2 := X2.out.below.size
      have d0 := (X2.out.below.cell (p := ⟨b, o + k * 3, none⟩) hb).trans C0.out
      have d1 := (X2.out.below.cell (p := ⟨b, o + k * 3 + 1, none⟩) hb).trans C1.out
      have d3 := (X2.out.below.cell (p := ⟨bf, of_ + k, none⟩) hbf).trans C3.out
      have x0 := X2.out.cell ht
      have x2 := X2.out.fr t
      (try simp only at d0 d1 x0)
      rw [HQ.out] at x0
      refine wp_region_still_tail 20 (by kernel_rfl) (by kernel_rfl) ?_
      simp only [List.take_succ_cons, List.take_zero, List.drop_succ_cons, List.drop_zero]
      change wpStill _ _ (World.drew _) (fun a' => wpList _ _ _ _ a' (World.drew _)) _ _
      repeat still_step
      refine wpStill_nil ?_
      go_wp2
      go_roundw
      case rel =>
        refine ⟨k + 1, by go_num, by omega, ((X2.out.set t (q + c)).quiet (Below.refl _ _).drew).turn fun v _ => ?_⟩
        rw [ST.out, ← HQ.out, ← HP.out]
        unfold netP
        simp only
        by_cases e1 : v = t
        · by_cases e2 : v = u
          · subst e1 e2; simp
          · subst e1
            have : ¬ (u : Int) = (v : Int) := by omega
            simp [e2, this]
            omega
        · have e3 : ¬ (t : Int) = (v : Int) := by omega
          by_cases e2 : v = u
          · subst e2; simp [e1, e3]; omega
          · have : ¬ (u : Int) = (v : Int) := by omega
            simp [e1, e2, e3, this]
      case measure => simp [intOf]; omega
    · obtain hkl : k = L.length := by omega
      have XZ : Hid (XiAt w wr g n (fun _ => 0)) := Lib.hid (X.out.turn (fun v hv => by
        have h := HR.out.net v hv
        have e : netF (L.take k) (f.take k) v = netF L f v := by rw [hkl, List.take_length, ← HL.out, List.take_length]
        rw [e, h]
        omega))
      have t0 : decide (k < L.length) = false := by simpa using hlt
      clear X hlt hkl hk
      go_wp2
      obtain ⟨wz, hwz⟩ : ∃ W, W = wr := ⟨_, rfl⟩
      subst hwz
      go_loopw [9] (fun iv wr2 => RzRel n wz wr2 iv) (fun iv _ => n - (intOf iv).toNat)
      case atStart => exact ⟨0, rfl, by omega, rfl⟩
      case round =>
        obtain ⟨j, rfl, hj, rfl⟩ := hrel
        by_cases hjn : j < n
        · have x0 := XZ.out.cell hjn
          (try simp only at x0)
          go_wp2
          go_roundw
          case rel => exact ⟨j + 1, by go_num, by omega, rfl⟩
          case measure => simp [intOf]; omega
        · have t1 : decide (j < n) = false := by simpa using hjn
          go_wp2
          go_ret
          exact ⟨rfl, XZ.out.below⟩

def TtRel (n : Nat) (L : List Arc) (w wr : World) (sv iv : Value) : Prop := ∃ k : Nat, iv = .int .i64 k ∧ k ≤ n ∧ sv = .int .i64 ((List.range k).map fun (v : Nat) => max 0 (supF L v)).sum ∧ 0 ≤ ((List.range k).map fun (v : Nat) => max 0 (supF L v)).sum ∧ ((List.range k).map fun (v : Nat) => max 0 (supF L v)).sum ≤ 16384000000 * (k : Int) ∧ wr = w


def SmRel (f : List Int) (sv iv : Value) : Prop := ∃ k : Nat, iv = .int .i64 k ∧ k ≤ f.length ∧ sv = .int .i64 (f.take k).sum
set_option maxHeartbeats 1000000 in
theorem refSum (v : Value) (f : List Int) (w : World) (hF : IntsAt w v f) (hn : ∀ c ∈ f, 0 ≤ c) (hs : f.sum ≤ 1000000000000000) (hl : f.length ≤ 1000000) :
    Calls Tryz.prog 34 #[v] w fun e w' => e = .returned (.int .i64 f.sum) ∧ w = w' := by
  have HF := Lib.hid hF
  have HN := Lib.hid hn
  obtain ⟨af, cf, rfl⟩ := hF.form
  clear hF hn
  go_enter Tryz.func34, Tryz.ntmps34
  go_wp2
  go_loop [3, 4] (fun sv iv => SmRel f sv iv) (fun _ iv => f.length - (intOf iv).toNat)
  case atStart => exact ⟨0, rfl, by omega, by simp⟩
  case round =>
    obtain ⟨k, rfl, hk, rfl⟩ := hrel
    by_cases hlt : k < f.length
    · obtain ⟨bf, of_, cf', e, hbf, c3⟩ := HF.out.nth hlt
      simp only [Value.slice.injEq, true_and] at e
      obtain ⟨rfl, rfl⟩ := e
      have h1 := sum_take_le f HN.out k
      have h2 := sum_take_le f HN.out (k + 1)
      have e2 : (f.take (k + 1)).sum = (f.take k).sum + f[k] := by rw [List.take_succ_eq_append_getElem hlt, List.sum_append]; simp
      have SE := Lib.hid e2
      have hc := HN.out f[k] (List.getElem_mem hlt)
      have hc2 : f[k] ≤ 1000000000000000 := by omega
      clear e2 h2
      obtain ⟨h1a, h1b⟩ := h1
      generalize f[k] = c at *
      generalize (f.take k).sum = s at *
      go_wp2
      go_round
      case rel => exact ⟨k + 1, by go_num, by omega, by rw [SE.out]⟩
      case measure => simp [intOf]; omega
    · obtain hkl : f.length = k := by omega
      subst hkl
      go_wp2
      go_ret
      exact ⟨rfl, rfl⟩
end Go.Proofs.YtdpacaomkahgfaaGreatDoor

namespace Go.Proofs.YtdpacaomkahgfaaGreatDoor
open Go.RowKit Go.Proofs.YtdpacaomkahgfaaGreatDoor.DagM

def SolveOk (n : Nat) (L : List Arc) (w : World) (e : Ending) (w' : World) : Prop :=
  ∃ xv fv x f ways, e = .returned (.tuple #[.agg #[xv, fv, .int .i64 ways], .int .i64 0]) ∧ OwnI w' w.heap.size xv x ∧ OwnI w' w.heap.size fv f ∧ SolvedF n L x f ways ∧ Below w.heap.size w w'
def SolveNo (n : Int) (L : List Arc) (w : World) (e : Ending) (w' : World) : Prop :=
  e = .returned (.tuple #[.agg #[.slice none 0 0, .slice none 0 0, .int .i64 0], .int .i64 (ordErr n L)]) ∧ Below w.heap.size w w'
structure SolveSpec : Prop where
  ok : ∀ (n : Nat) (v : Value) (L : List Arc) (w : World), ArcsAt w v L → ordErr n L = 0 → Calls Tryz.prog 9 #[.int .i64 n, v] w (SolveOk n L w)
  no : ∀ (n : Int) (v : Value) (L : List Arc) (w : World), ArcsAt w v L → ordErr n L ≠ 0 → Calls Tryz.prog 9 #[.int .i64 n, v] w (SolveNo n L w)
def SuppOk (n : Nat) (L : List Arc) (w : World) (e : Ending) (w' : World) : Prop := ∃ v, e = .returned v ∧ OwnI w' w.heap.size v ((List.range n).map fun (u : Nat) => supF L u) ∧ Below w.heap.size w w'
structure SupplySpec : Prop where
  ok : ∀ (n : Nat) (v : Value) (L : List Arc) (w : World), ArcsAt w v L → May n L → Calls Tryz.prog 25 #[.int .i64 n, v] w (SuppOk n L w)
  no : ∀ (n : Int) (v : Value) (L : List Arc) (w : World), ArcsAt w v L → ¬ May n L → Calls Tryz.prog 25 #[.int .i64 n, v] w fun e w' => e = .returned (.slice none 0 0) ∧ Below w.heap.size w w'
end Go.Proofs.YtdpacaomkahgfaaGreatDoor
