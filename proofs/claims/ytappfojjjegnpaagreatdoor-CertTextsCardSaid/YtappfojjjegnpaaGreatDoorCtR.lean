/-
  Whether a flow is right: the program's answer, and the reference's. Conditions: the graph may be; the flow has a number from 0 on for each arc, of a sum of 10^15 at most.
-/
import Derived.Test.YtappfojjjegnpaaGreatDoorCqN
import Derived.Test.YtappfojjjegnpaaGreatDoorCtM
namespace Go.Proofs.YtappfojjjegnpaaGreatDoor
open Go.RowKit Go.Proofs.YtappfojjjegnpaaGreatDoor.DagM

def RyRel (n : Nat) (L : List Arc) (f : List Int) (w wr : World) (iv : Value) : Prop := ∃ k : Nat, iv = .int .i64 k ∧ k ≤ n ∧ (∀ u : Nat, u < k → netF L f u = supF L u) ∧ wr = w

theorem notZeroAt : PredAt 43 (fun c => !(c == 0)) := by
  refine ⟨enters_of Tryz.func43 (by kernel_rfl) rfl, fun W x => ?_⟩
  go_enter Tryz.func43, Tryz.ntmps43
  go_wp2
  all_goals
    go_ret
    refine ⟨ret_bool ?_, rfl⟩
    rw [Bool.eq_iff_iff]
    simp
theorem any_left (n : Nat) (L : List Arc) (f : List Int) : ((List.range n).map fun (v : Nat) => supF L v - netF L f v).any (fun c => !(c == 0)) = !rightB n L f := by
  rw [Bool.eq_iff_iff]
  unfold rightB
  simp only [List.any_eq_true, List.mem_map, List.mem_range, Bool.not_eq_true', List.all_eq_false, beq_eq_false_iff_ne, ne_eq]
  constructor
  · rintro ⟨x, ⟨u, hu, rfl⟩, hx⟩
    exact ⟨u, by simpa using hu, by simp; omega⟩
  · rintro ⟨u, hu, hx⟩
    exact ⟨_, ⟨u, by simpa using hu, rfl⟩, by simp at hx; omega⟩
set_option maxHeartbeats 4000000 in
set_option maxRecDepth 100000 in
theorem isRight (n : Nat) (v fv : Value) (L : List Arc) (f : List Int) (w : World) (hA : ArcsAt w v L) (hM : May n L) (hF : IntsAt w fv f) (hlen : f.length = L.length) (hnn : ∀ c ∈ f, 0 ≤ c) (hs : f.sum ≤ 1000000000000000) :
    Calls Tryz.prog 28 #[.int .i64 n, v, fv] w fun e w' => e = .returned (.bool (rightB n L f)) ∧ Below w.heap.size w w' := by
  have HA := Lib.hid hA
  have HM := Lib.hid hM
  have HF := Lib.hid hF
  have NN := Lib.hid hnn
  have hN : n ≤ 4096 := by have := hM.n1; omega
  have hL := hM.len
  obtain ⟨A, cap, rfl, hcap, -⟩ := hA
  obtain ⟨af, cf, rfl⟩ := hF.form
  rw [hlen]
  have HL := Lib.hid hlen
  clear hM hF hnn hlen
  go_enter Tryz.func28, Tryz.ntmps28
  go_wp2_with (go_at_call 42; refine (supplyOk n _ L _ HA.out HM.out).mono ?_; rintro e w1 ⟨g, rfl, hg0, hrow, hbl⟩; have X1 : Hid (XiAt w w1 g n (fun v => supF L v)) := Lib.hid ⟨hbl, hg0, hrow⟩; clear hg0 hrow hbl)
  go_loopw [15] (fun iv wr => RgRel n L f g w wr iv) (fun iv _ => L.length - (intOf iv).toNat)
  case atStart => exact ⟨0, rfl, by omega, X1.out.turn (fun v _ => by simp [netF])⟩
  case round =>
    clear X1
    obtain ⟨k, rfl, hk, hX⟩ := hrel
    have X := Lib.hid hX
    have hgl := hX.gl
    have hbs := hX.below.size
    clear hX
    by_cases hlt : k < L.length
    · obtain ⟨A', cap', e, _, hA⟩ := HA.out
      simp only [Value.slice.injEq, true_and] at e
      obtain ⟨rfl, rfl⟩ := e
      obtain ⟨b, o, rfl, hb, hcell⟩ := hA (by omega)
      obtain ⟨c0, c1, c2⟩ := hcell k hlt
      have hkf : k < f.length := by rw [HL.out]; exact hlt
      obtain ⟨bf, of_, cf', e, hbf, c3⟩ := HF.out.nth hkf
      rw [HL.out] at e
      simp only [Value.slice.injEq, true_and] at e
      obtain ⟨rfl, rfl⟩ := e
      have d0 := (X.out.below.cell (p := ⟨b, o + k * 3, none⟩) hb).trans c0
      have d1 := (X.out.below.cell (p := ⟨b, o + k * 3 + 1, none⟩) hb).trans c1
      have d2 := (X.out.below.cell (p := ⟨b, o + k * 3 + 2, none⟩) hb).trans c2
      have d3 := (X.out.below.cell (p := ⟨bf, of_ + k, none⟩) hbf).trans c3
      have ok := HM.out.ok L[k] (List.getElem_mem hlt)
      have hc0 := NN.out f[k] (List.getElem_mem hkf)
      have hst := fun v => netF_take L f k hlt hkf v
      have nn := NN.out
      have hks := sum_take_le f nn k
      have hks2 := sum_take_le f nn (k + 1)
      have hcs : f[k] ≤ 1000000000000000 := by
        have e : (f.take (k + 1)).sum = (f.take k).sum + f[k] := by rw [List.take_succ_eq_append_getElem hkf, List.sum_append]; simp
        omega
      have hfk : (f.take (k + 1)).sum = (f.take k).sum + f[k] := by rw [List.take_succ_eq_append_getElem hkf, List.sum_append]; simp
      have near : ∀ u : Int, -2000000000000000 ≤ supF L u - netF (L.take k) (f.take k) u ∧ supF L u - netF (L.take k) (f.take k) u ≤ 2000000000000000 := fun u => by
        have h1 := sup_near HM.out L.length u
        rw [List.take_length] at h1
        have h2 := netF_near u (L.take k) (f.take k) (fun c hc => nn c (List.mem_of_mem_take hc))
        omega
      have ST := Lib.hid hst
      have C0 := Lib.hid c0
      have C1 := Lib.hid c1
      have C3 := Lib.hid c3
      clear hst hA hcell c0 c1 c2 c3 nn hks2
      generalize L[k] = a at *
      generalize f[k] = c at *
      obtain ⟨u, t, z⟩ := a
      obtain ⟨u, rfl⟩ : ∃ m : Nat, u = (m : Int) := ⟨u.toNat, by simp only at ok; omega⟩
      obtain ⟨t, rfl⟩ : ∃ m : Nat, t = (m : Int) := ⟨t.toNat, by simp only at ok; omega⟩
      simp only at ok d0 d1 d2 ST
      obtain ⟨ok0, ok1, ok2, ok3, _, _⟩ := ok
      have hu : u < n := by omega
      have ht : t < n := by omega
      obtain ⟨p, hp⟩ : ∃ p, supF L u - netF (L.take k) (f.take k) u = p := ⟨_, rfl⟩
      have HP := Lib.hid hp
      have hpn := near u
      rw [hp] at hpn
      obtain ⟨hp1, hp2⟩ := hpn
      have hqn := near t
      obtain ⟨q, hq⟩ : ∃ q, (if t = u then p - c else supF L t - netF (L.take k) (f.take k) t) = q := ⟨_, rfl⟩
      have HQ := Lib.hid hq
      have hq1 : -4000000000000000 ≤ q ∧ q ≤ 4000000000000000 := by rw [← hq]; split <;> omega
      obtain ⟨hq1, hq2⟩ := hq1
      have hw1 : IntKind.i64.wrap (p - c) = p - c := IntWalk.i64_in _ (by omega)
      have hw3 : IntKind.i64.wrap (q + c) = q + c := IntWalk.i64_in _ (by omega)
      clear hp hq hqn ok0 ok1 ok2 ok3 near hks hfk
      go_wp2
      generalize hwa : World.alloc wr _ = wa
      have XA : Hid (XiAt w wa g n (fun v => supF L v - netF (L.take k) (f.take k) v)) := Lib.hid (by rw [← hwa]; exact X.out.quiet ((Below.refl _ _).alloc (Nat.le_refl _) _))
      have hB : BoxA wa wr.heap.size u t z := by rw [← hwa]; exact BoxA.new _ _ _ _ _
      have HB := Lib.hid hB
      have e3 := (XA.out.below.cell (p := ⟨bf, of_ + k, none⟩) hbf).trans C3.out
      have x0 := XA.out.cell hu
      have x2 := XA.out.fr u
      (try simp only at x0)
      rw [HP.out] at x0
      have a0 := hB.c0
      have a1 := hB.c1
      have a2 := hB.c2
      have al := hB.lt
      have gl2 := XA.out.gl
      have hbfa := Nat.lt_of_lt_of_le hbf XA.out.below.size
      clear hwa hB hgl hbs d0 d1 d2 d3
      go_still_tail 11, (by kernel_rfl)
      change wpList _ _ _ _ _ wa.drew
      go_wp2
      generalize hw2 : (World.setCell wa _ _).drew = w2
      have X2 : Hid (XiAt w w2 g n (fun v => if v = u then p - c else supF L v - netF (L.take k) (f.take k) v)) := Lib.hid (by rw [← hw2]; exact (XA.out.set u (p - c)).quiet (Below.refl _ _).drew)
      have hB2 : BoxA w2 wr.heap.size u t z := by
        rw [← hw2]
        have o : Out (fun b => b = g) wa (World.setCell wa ⟨g, u, none⟩ (.int .i64 (p - c))).drew := ((Out.refl _ wa).setIn _ _).drew
        exact HB.out.out o (by have := X.out.gl; omega)
      clear hw2 x0 x2 gl2 a0 a1 a2 al e3 hbfa
      have hgl2 := X2.out.gl
      have e3 := (X2.out.below.cell (p := ⟨bf, of_ + k, none⟩) hbf).trans C3.out
      have x0 := X2.out.cell ht
      have x2 := X2.out.fr t
      have a0 := hB2.c0
      have a1 := hB2.c1
      have a2 := hB2.c2
      have al := hB2.lt
      (try simp only at x0)
      rw [HQ.out] at x0
      refine wp_region_still_tail 11 (by kernel_rfl) (by kernel_rfl) ?_
      simp only [List.take_succ_cons, List.take_zero, List.drop_succ_cons, List.drop_zero]
      change wpStill _ _ (World.drew _) (fun a' => wpList _ _ _ _ a' (World.drew _)) _ _
      repeat still_step
      refine wpStill_nil ?_
      go_wp2
      go_roundw
      case rel =>
        refine ⟨k + 1, by go_num, by omega, ((X2.out.set t (q + c)).quiet (Below.refl _ _).drew).turn fun v _ => ?_⟩
        rw [ST.out, ← HQ.out, ← HP.out]
        unfold netP
        simp only
        by_cases e1 : v = t
        · by_cases e2 : v = u
          · subst e1 e2; simp
          · subst e1
            have : ¬ (u : Int) = (v : Int) := by omega
            simp [e2, this]
            omega
        · have e3 : ¬ (t : Int) = (v : Int) := by omega
          by_cases e2 : v = u
          · subst e2; simp [e1, e3]; omega
          · have : ¬ (u : Int) = (v : Int) := by omega
            simp [e1, e2, e3, this]
      case measure => simp [intOf]; omega
    · obtain hkl : k = L.length := by omega
      have XZ : Hid (XiAt w wr g n (fun v => supF L v - netF L f v)) := Lib.hid (X.out.turn (fun v hv => by
        have e : netF (L.take k) (f.take k) v = netF L f v := by rw [hkl, List.take_length, ← HL.out, List.take_length]
        rw [e]))
      have t0 : decide (k < L.length) = false := by simpa using hlt
      have C := containsInt notZeroAt _ _ wr XZ.out.own.ints (by rw [List.length_map, List.length_range]; omega)
      have e := any_left n L f
      rw [e] at C
      have CC := Lib.hid C
      clear X hlt hkl hk hgl hbs e C
      go_wp2_with (go_at_call 40; refine CC.out.mono ?_; rintro e w2 ⟨rfl, b2⟩; have B2 := Lib.hid b2; clear b2)
      go_ret
      exact ⟨ret_bool (by simp), XZ.out.below.trans (B2.out.mono XZ.out.below.size)⟩

end Go.Proofs.YtappfojjjegnpaaGreatDoor
