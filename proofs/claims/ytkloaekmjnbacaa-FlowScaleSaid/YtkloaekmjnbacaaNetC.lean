/-
  Supply: of each node. Whether something is left. Conditions: none.
-/
import Derived.Test.YtkloaekmjnbacaaFlowN
import Derived.Test.YtkloaekmjnbacaaNetB
import Derived.Test.YtkloaekmjnbacaaDagG
namespace Go.Proofs.Ytkloaekmjnbacaa
open Go.RowKit Go.Proofs.Ytkloaekmjnbacaa.DagM

def Spl (n : Nat) (L : List Arc) (w : World) (e : Ending) (w' : World) : Prop := ∃ g, e = .returned (.slice (some ⟨g, 0, none⟩) n n) ∧ w.heap.size ≤ g ∧ RowI w' w.heap.size g n (fun v => supF L v) ∧ Below w.heap.size w w'
/-- An arc in a box of the call's own. -/
structure BoxA (w : World) (b : Nat) (f t z : Int) : Prop where
  lt : b < w.heap.size
  c0 : w.cell? ⟨b, 0, none⟩ = some (.int .i64 f)
  c1 : w.cell? ⟨b, 1, none⟩ = some (.int .i64 t)
  c2 : w.cell? ⟨b, 2, none⟩ = some (.int .i64 z)
theorem BoxA.out {w w' : World} {b : Nat} {f t z : Int} {S : Nat → Prop} (h : BoxA w b f t z) (o : Out S w w') (hS : ¬ S b) : BoxA w' b f t z :=
  ⟨Nat.lt_of_lt_of_le h.lt o.size, (o.cell 0 h.lt hS).trans h.c0, (o.cell 1 h.lt hS).trans h.c1, (o.cell 2 h.lt hS).trans h.c2⟩
theorem BoxA.new (w : World) (f t z : Int) (T : TypeId) : BoxA (w.alloc (.cells #[.int .i64 f, .int .i64 t, .int .i64 z] T)) w.heap.size f t z := ⟨by simp, by go_simp, by go_simp, by go_simp⟩

set_option maxHeartbeats 4000000 in
set_option maxRecDepth 100000 in
theorem supplyOk (n : Nat) (v : Value) (L : List Arc) (w : World) (hA : ArcsAt w v L) (hM : May n L) :
    Calls Try.prog 15 #[.int .i64 n, v] w (Spl n L w) := by
  have HA := Lib.hid hA
  have HM := Lib.hid hM
  have hN : n ≤ 4096 := by have := hM.n1; omega
  have hL := hM.len
  have hne : ordErr n L ≠ 2 := by rw [ordErr_ok hM]; split <;> simp
  obtain ⟨A, cap, rfl, hcap, -⟩ := hA
  have hmk := mkInts n hN
  have ht : (ordErr n L == 2) = false := by simpa using hne
  clear hM hne
  go_enter Try.func15, Try.ntmps15
  go_wp2_with (go_at_call 28; refine (check n _ L _ HA.out).mono ?_; rintro e w1 ⟨rfl, hb⟩; have B1 := Lib.hid hb; clear hb)
  clear hmk
  have A1 := Lib.hid (HA.out.below B1.out)
  go_loopw [16] (fun iv wr => SuRel n L w1 wr iv) (fun iv _ => L.length - (intOf iv).toNat)
  case atStart => exact ⟨0, rfl, by omega, (xi_start ((Below.refl _ _).alloc (Nat.le_refl _) _) (Nat.le_refl _) (heap_alloc_new w1 _) (by omega)).turn (fun v _ => by simp [supF, netF])⟩
  case round =>
    obtain ⟨k, rfl, hk, hX⟩ := hrel
    have X := Lib.hid hX
    have hgl := hX.gl
    have hbs := hX.below.size
    clear hX
    by_cases hlt : k < L.length
    · obtain ⟨A', cap', e, _, hA⟩ := A1.out
      simp only [Value.slice.injEq, true_and] at e
      obtain ⟨rfl, rfl⟩ := e
      obtain ⟨b, o, rfl, hb, hcell⟩ := hA (by omega)
      obtain ⟨c0, c1, c2⟩ := hcell k hlt
      have d0 := (X.out.below.cell (p := ⟨b, o + k * 3, none⟩) hb).trans c0
      have d1 := (X.out.below.cell (p := ⟨b, o + k * 3 + 1, none⟩) hb).trans c1
      have d2 := (X.out.below.cell (p := ⟨b, o + k * 3 + 2, none⟩) hb).trans c2
      have ok := HM.out.ok L[k] (List.getElem_mem hlt)
      have hst := fun v => supF_take L k hlt v
      have ST := Lib.hid hst
      clear hst hA hcell c0 c1 c2
      generalize L[k] = a at *
      obtain ⟨f, t, z⟩ := a
      obtain ⟨f, rfl⟩ : ∃ u : Nat, f = (u : Int) := ⟨f.toNat, by simp only at ok; omega⟩
      obtain ⟨t, rfl⟩ : ∃ u : Nat, t = (u : Int) := ⟨t.toNat, by simp only at ok; omega⟩
      simp only at ok d0 d1 d2 ST
      obtain ⟨ok0, ok1, ok2, ok3, ok4, ok5⟩ := ok
      have hf : f < n := by omega
      have ht : t < n := by omega
      have hpn := sup_near HM.out k f
      have hqn := sup_near HM.out k t
      obtain ⟨p, hp⟩ : ∃ p, supF (L.take k) f = p := ⟨_, rfl⟩
      have HP := Lib.hid hp
      rw [hp] at hpn
      obtain ⟨hp1, hp2⟩ := hpn
      obtain ⟨q, hq⟩ : ∃ q, (if t = f then p + z else supF (L.take k) t) = q := ⟨_, rfl⟩
      have HQ := Lib.hid hq
      have hq1 : -17000000000 ≤ q ∧ q ≤ 17000000000 := by rw [← hq]; split <;> omega
      obtain ⟨hq1, hq2⟩ := hq1
      have hw1 : IntKind.i64.wrap (p + z) = p + z := IntWalk.i64_in _ (by omega)
      have hw3 : IntKind.i64.wrap (q - z) = q - z := IntWalk.i64_in _ (by omega)
      clear hp hq hqn ok0 ok1 ok2 ok3
      go_wp2
      generalize hwa : World.alloc wr _ = wa
      have XA : Hid (XiAt w1 wa w1.heap.size n (fun v => supF (L.take k) v)) := Lib.hid (by rw [← hwa]; exact X.out.quiet ((Below.refl _ _).alloc (Nat.le_refl _) _))
      have hB : BoxA wa wr.heap.size f t z := by rw [← hwa]; exact BoxA.new _ _ _ _ _
      have HB := Lib.hid hB
      have x0 := XA.out.cell hf
      have x2 := XA.out.fr f
      (try simp only at x0)
      rw [HP.out] at x0
      have a0 := hB.c0
      have a1 := hB.c1
      have a2 := hB.c2
      have al := hB.lt
      have gl2 := XA.out.gl
      clear hwa hB hgl hbs d0 d1 d2
      go_still_tail 9, (by kernel_rfl)
      change wpList _ _ _ _ _ wa.drew
      go_wp2
      generalize hw2 : (World.setCell wa _ _).drew = w2
      have X2 : Hid (XiAt w1 w2 w1.heap.size n (fun v => if v = f then p + z else supF (L.take k) v)) := Lib.hid (by rw [← hw2]; exact (XA.out.set f (p + z)).quiet (Below.refl _ _).drew)
      have hB2 : BoxA w2 wr.heap.size f t z := by
        rw [← hw2]
        have o : Out (fun b => b = w1.heap.size) wa (World.setCell wa ⟨w1.heap.size, f, none⟩ (.int .i64 (p + z))).drew := ((Out.refl _ wa).setIn _ _).drew
        exact HB.out.out o (by have := X.out.gl; omega)
      clear hw2 x0 x2 gl2 a0 a1 a2 al
      have hgl2 := X2.out.gl
      have x0 := X2.out.cell ht
      have x2 := X2.out.fr t
      have a0 := hB2.c0
      have a1 := hB2.c1
      have a2 := hB2.c2
      have al := hB2.lt
      (try simp only at x0)
      rw [HQ.out] at x0
      refine wp_region_still_tail 9 (by kernel_rfl) (by kernel_rfl) ?_
      simp only [List.take_succ_cons, List.take_zero, List.drop_succ_cons, List.drop_zero]
      change wpStill _ _ (World.drew _) (fun a' => wpList _ _ _ _ a' (World.drew _)) _ _
      repeat still_step
      refine wpStill_nil ?_
      go_wp2
      go_roundw
      case rel =>
        refine ⟨k + 1, by go_num, by omega, ((X2.out.set t (q - z)).quiet (Below.refl _ _).drew).turn fun v _ => ?_⟩
        rw [ST.out, ← HQ.out, ← HP.out]
        unfold netP
        simp only
        by_cases e1 : v = t
        · by_cases e2 : v = f
          · subst e1 e2; simp
          · subst e1
            have : ¬ (f : Int) = (v : Int) := by omega
            simp [e2, this]
            omega
        · have e3 : ¬ (t : Int) = (v : Int) := by omega
          by_cases e2 : v = f
          · subst e2; simp [e1, e3]
          · have : ¬ (f : Int) = (v : Int) := by omega
            simp [e1, e2, e3, this]
      case measure => simp [intOf]; omega
    · obtain rfl : L.length = k := by omega
      go_wp2
      go_ret
      have h := X.out
      rw [List.take_length] at h
      have hz := B1.out.size
      refine ⟨_, rfl, hz, ⟨h.row.1, ?_⟩, B1.out.trans (h.below.mono hz)⟩
      rcases h.row.2 with ⟨e, _⟩ | ⟨g, cap, cur, hv, hg, r⟩
      · simp at e
      · exact Or.inr ⟨g, cap, cur, hv, Nat.le_trans hz hg, r⟩
set_option maxHeartbeats 1000000 in
theorem supplyNo (n : Int) (v : Value) (L : List Arc) (w : World) (hA : ArcsAt w v L) (hM : ¬ May n L) :
    Calls Try.prog 15 #[.int .i64 n, v] w fun e w' => e = .returned (.slice none 0 0) ∧ Below w.heap.size w w' := by
  have HA := Lib.hid hA
  have he : ordErr n L = 2 := by
    unfold ordErr
    rw [if_neg (fun h => hM ((mayB_iff n L).1 h))]
  have ht : (ordErr n L == 2) = true := by simpa using he
  obtain ⟨A, cap, rfl, hcap, -⟩ := hA
  clear hM he
  go_enter Try.func15, Try.ntmps15
  go_wp2_with (go_at_call 28; refine (check n _ L _ HA.out).mono ?_; rintro e w1 ⟨rfl, hb⟩; have B1 := Lib.hid hb; clear hb)
  go_ret
  exact ⟨rfl, B1.out⟩
theorem supplySpec : SupplySpec :=
  ⟨fun n v L w hA hM => (supplyOk n v L w hA hM).mono fun e w' ⟨g, h1, h2, h3, h4⟩ => ⟨_, h1, by
    unfold RowI at h3
    unfold OwnI
    rw [List.length_map, List.length_range, List.map_map]
    exact h3, h4⟩, supplyNo⟩
/-- Is something left? -/
def someLeft (lf : Nat → Int) (n : Nat) : Bool := (List.range n).any fun v => decide (0 < lf v)
set_option maxHeartbeats 1000000 in
theorem leftClos (x : Int) (w : World) : Calls Try.prog 34 #[.int .i64 x] w fun e w' => e = .returned (.bool (decide (0 < x))) ∧ w = w' := by
  go_enter Try.func34, Try.ntmps34
  go_wp2
  go_ret
  exact ⟨rfl, rfl⟩
set_option maxHeartbeats 2000000 in
theorem indexLeft {B g n : Nat} {lf : Nat → Int} {w : World} (hR : RowI w B g n lf) (hn : n ≤ 4096) :
    Calls Try.prog 41 #[.slice (some ⟨g, 0, none⟩) n n, .func (.func 34) #[] #[]] w (Idx (someLeft lf n) w) := by
  have eg := enters_of Try.func34 (by kernel_rfl) rfl
  have HR := Lib.hid hR
  have hgl := hR.gl.2
  clear hR
  go_enter Try.func41, Try.ntmps41
  go_wp2
  go_loopw [8] (fun iv wr => IdxAt n (fun k => someLeft lf k) w wr iv) (fun iv _ => n - (intOf iv).toNat)
  case atStart => exact ⟨0, rfl, by omega, Below.refl _ _, rfl⟩
  case round =>
    obtain ⟨k, rfl, hk, hB, hN⟩ := hrel
    have B := Lib.hid hB
    have N := Lib.hid hN
    clear hB hN
    by_cases hlt : k < n
    · have d0 := (B.out.cell (p := ⟨g, k, none⟩) hgl).trans (HR.out.cell hlt)
      have ht : someLeft lf (k + 1) = (someLeft lf k || decide (0 < lf k)) := by
        unfold someLeft
        rw [List.range_succ, List.any_append]
        simp
      have hf : 0 < lf k → someLeft lf n = true := fun h => List.any_eq_true.2 ⟨k, by simpa using hlt, by simpa using h⟩
      have HT := Lib.hid ht
      have HF := Lib.hid hf
      have hz := B.out.size
      clear ht hf
      (try simp only at d0)
      generalize lf k = c at *
      by_cases hc : 0 < c
      · have t1 : decide (0 < c) = true := by simpa using hc
        have HC := Lib.hid hc
        clear hc
        go_wp2_with (first
          | (go_at_fn 34; refine (leftClos c _).mono ?_; rintro e w1 ⟨rfl, rfl⟩)
          | (go_at_call 34; refine (leftClos c _).mono ?_; rintro e w1 ⟨rfl, rfl⟩))
        go_ret
        exact ⟨k, rfl, by rw [HF.out HC.out]; simp, B.out⟩
      · have t1 : decide (0 < c) = false := by simpa using hc
        clear hc
        go_wp2_with (first
          | (go_at_fn 34; refine (leftClos c _).mono ?_; rintro e w1 ⟨rfl, rfl⟩)
          | (go_at_call 34; refine (leftClos c _).mono ?_; rintro e w1 ⟨rfl, rfl⟩))
        go_roundw
        case rel => exact ⟨k + 1, by go_num, by omega, B.out, by simp only []; rw [HT.out, N.out, t1]; rfl⟩
        case measure => simp [intOf]; omega
    · obtain rfl : n = k := by omega
      go_wp2
      go_ret
      exact ⟨-1, rfl, by rw [N.out]; rfl, B.out⟩
set_option maxHeartbeats 1000000 in
theorem containsLeft {B g n : Nat} {lf : Nat → Int} {w : World} (hR : RowI w B g n lf) (hn : n ≤ 4096) :
    Calls Try.prog 33 #[.slice (some ⟨g, 0, none⟩) n n, .func (.func 34) #[] #[]] w fun e w' => e = .returned (.bool (someLeft lf n)) ∧ Below w.heap.size w w' := by
  have I := indexLeft hR hn
  clear hR hn
  go_enter Try.func33, Try.ntmps33
  go_wp2_with (go_at_call 41; refine I.mono ?_; rintro e w1 ⟨i, rfl, hi, b1⟩; have HI := Lib.hid hi; have B1 := Lib.hid b1; clear hi b1)
  go_ret
  exact ⟨ret_bool HI.out, B1.out⟩
theorem someLeft_no {lf : Nat → Int} {n : Nat} (h : someLeft lf n = false) : ∀ v, v < n → ¬ 0 < lf v := by
  intro v hv hl
  have : someLeft lf n = true := List.any_eq_true.2 ⟨v, by simpa using hv, by simpa using hl⟩
  rw [h] at this; cases this
theorem someLeft_yes {lf : Nat → Int} {n : Nat} (h : someLeft lf n = true) : ∃ v, v < n ∧ 0 < lf v := by
  obtain ⟨v, hv, hl⟩ := List.any_eq_true.1 h
  exact ⟨v, by simpa using hv, by simpa using hl⟩
end Go.Proofs.Ytkloaekmjnbacaa
