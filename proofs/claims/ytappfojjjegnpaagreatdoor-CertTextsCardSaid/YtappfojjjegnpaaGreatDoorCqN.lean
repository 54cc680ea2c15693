/-
  A network in memory; a step's slack, whether a step is open, which distance is less. Conditions: coordinates are within 8192.
  lower: each node's number is lowered by its slack, at most by near. Supply: of each node. Whether something is left. Conditions: numbers within 8192; the graph may be.
  Supply: of each node. Whether something is left. Conditions: none.
  A round in memory; what next leaves. Conditions: none.
-/
import Derived.Test.YtappfojjjegnpaaGreatDoorCqF
import Derived.Test.YtappfojjjegnpaaGreatDoorCqM
import Derived.Test.YtappfojjjegnpaaGreatDoorCqV
import Derived.Test.YtappfojjjegnpaaGreatDoorCqG
import Derived.Lib.QuietBelow
import Derived.Handy
import Derived.BigRegion
namespace Go.Proofs.YtappfojjjegnpaaGreatDoor
open Go.RowKit Go.Proofs.YtappfojjjegnpaaGreatDoor.DagM

def encS (s : Stp) : List Value := [.int .i64 (s.1 : Int), .int .i64 (s.2.1 : Int), .int .i64 (s.2.2.1 : Int), .int .i64 (s.2.2.2 : Int)]
theorem encS_len (s : Stp) : (encS s).length = 4 := rfl
def stpV (s : Stp) : Value := .agg #[.int .i64 (s.1 : Int), .int .i64 (s.2.1 : Int), .int .i64 (s.2.2.1 : Int), .int .i64 (s.2.2.2 : Int)]
def encD (d : Dst) : List Value := [.int .i64 d.1, .int .i64 d.2]
theorem encD_len (d : Dst) : (encD d).length = 2 := rfl
/-- The ints s of n things in a row of the call's own at g. -/
def RowI (w : World) (B g n : Nat) (s : Nat → Int) : Prop := w.ownsRow B 3 1 (.slice (some ⟨g, 0, none⟩) n n) n ((List.range n).map fun v => encInt (s v))


theorem row_type {w : World} {B k n : Nat} {e : TypeId} {v : Value} {xs : List Value} (h : w.ownsRow B e k v n xs) {b : Nat} (hb : v.ownBlock = some b) : ∃ cur, w.heap[b]? = some (.cells cur e (0, 0)) := by
  rcases h.2 with ⟨rfl, _⟩ | ⟨g', cap', cur', rfl, _, hh', _⟩
  · simp [Value.ownBlock] at hb
  · simp only [Value.ownBlock, Option.some.injEq] at hb
    subst hb
    exact ⟨_, hh'⟩
theorem rows_ne {w : World} {B k n B' k' n' : Nat} {e e' : TypeId} {v v' : Value} {xs xs' : List Value} (h : w.ownsRow B e k v n xs) (h' : w.ownsRow B' e' k' v' n' xs') (hne : e ≠ e') {b : Nat} (hb : v.ownBlock = some b) : v'.ownBlock ≠ some b := by
  intro hb'
  obtain ⟨c1, h1⟩ := row_type h hb
  obtain ⟨c2, h2⟩ := row_type h' hb'
  rw [h1] at h2
  injection h2 with h2
  injection h2 with _ ht
  exact hne ht
theorem blk_ne {w : World} {B k n p : Nat} {e e' : TypeId} {v : Value} {xs : List Value} {cs : Array Value} (h : w.ownsRow B e k v n xs) (h' : w.heap[p]? = some (.cells cs e' (0, 0))) (hne : e ≠ e') : v.ownBlock ≠ some p := by
  intro hb
  obtain ⟨c1, h1⟩ := row_type h hb
  rw [h1] at h'
  injection h' with h2
  injection h2 with _ ht
  exact hne ht
section
variable {w w' : World} {B g n : Nat} {s : Nat → Int} {d : Nat → Dst}
theorem RowI.gl (h : RowI w B g n s) : B ≤ g ∧ g < w.heap.size := World.ownsRow.lt h g rfl
theorem RowI.cell (h : RowI w B g n s) {v : Nat} (hv : v < n) : w.cell? ⟨g, v, none⟩ = some (.int .i64 (s v)) := by
  unfold RowI at h
  rw [h.cellAt v (by simpa using hv)]
  simp [hv, encInt]
theorem RowI.fr (h : RowI w B g n s) (v : Nat) : w.frozen? ⟨g, v, none⟩ = false := by unfold RowI at h; exact h.frozenAt v
theorem RowI.set (h : RowI w B g n s) (t : Nat) (c : Int) : RowI (w.setCell ⟨g, t, none⟩ (.int .i64 c)) B g n (fun v => if v = t then c else s v) := by
  unfold RowI at h ⊢
  have e : ((List.range n).map fun v => encInt (if v = t then c else s v)) = ((List.range n).map fun v => encInt (s v)).set t (.int .i64 c) := by
    rw [← map_set]
    exact List.map_congr_left (fun v _ => by by_cases e : v = t <;> simp [e, encInt])
  rw [e]
  exact (h.stored t _).1
theorem RowI.turn (h : RowI w B g n s) {s' : Nat → Int} (e : ∀ v, v < n → s v = s' v) : RowI w B g n s' := by
  unfold RowI at h ⊢
  have e2 : ((List.range n).map fun v => encInt (s' v)) = (List.range n).map fun v => encInt (s v) := List.map_congr_left (fun v hv => by rw [e v (by simpa using hv)])
  rw [e2]
  exact h
theorem RowI.made (hB : B ≤ g) (h1 : w.heap[g]? = some (.cells (madeCells #[.int .i64 0] n) 3 (0, 0))) (hN : n ≤ 1000000) : RowI w B g n (fun _ => 0) := by
  refine ⟨by simp, Or.inr ⟨g, n, _, rfl, hB, h1, Nat.le_refl _, by unfold maxLen; omega, by simp [size_madeCells], ?_⟩⟩
  rw [toList_madeCells_one, made_map, List.take_of_length_le (by simp)]
  rfl





end


section
variable {w0 w w' : World} {T p gx gf gl gs n m : Nat} {V : Nat → Value} {R : Nat → List Stp} {x f lf : Nat → Int} {tk : Int} {S : Nat → Prop}

















end


/-- The heap's order: by distance. -/
def ltV (a b : Int × Int × Int) : Bool := ltD a.2 b.2
theorem ordV : HeapM.Ord ltV := ⟨fun x y h => by
    unfold ltV at *
    rw [ltD_not]
    exact ltD_le h, fun x y z h k => by
    unfold ltV at *
    rw [ltD_not] at *
    exact leD_trans k h⟩


end Go.Proofs.YtappfojjjegnpaaGreatDoor

namespace Go.Proofs.YtappfojjjegnpaaGreatDoor
open Go.RowKit Go.Proofs.YtappfojjjegnpaaGreatDoor.DagM



end Go.Proofs.YtappfojjjegnpaaGreatDoor

namespace Go.Proofs.YtappfojjjegnpaaGreatDoor
open Go.RowKit Go.Proofs.YtappfojjjegnpaaGreatDoor.DagM

def Spl (n : Nat) (L : List Arc) (w : World) (e : Ending) (w' : World) : Prop := ∃ g, e = .returned (.slice (some ⟨g, 0, none⟩) n n) ∧ w.heap.size ≤ g ∧ RowI w' w.heap.size g n (fun v => supF L v) ∧ Below w.heap.size w w'
/-- An arc in a box of the call's own. -/
structure BoxA (w : World) (b : Nat) (f t z : Int) : Prop where
  lt : b < w.heap.size
  c0 : w.cell? ⟨b, 0, none⟩ = some (.int .i64 f)
  c1 : w.cell? ⟨b, 1, none⟩ = some (.int .i64 t)
  c2 : w.cell? ⟨b, 2, none⟩ = some (.int .i64 z)
theorem BoxA.out {w w' : World} {b : Nat} {f t z : Int} {S : Nat → Prop} (h : BoxA w b f t z) (o : Out S w w') (hS : ¬ S b) : BoxA w' b f t z :=
  ⟨Nat.lt_of_lt_of_le h.lt o.size, (o.cell 0 h.lt hS).trans h.c0, (o.cell 1 h.lt hS).trans h.c1, (o.cell 2 h.lt hS).trans h.c2⟩
theorem BoxA.new (w : World) (f t z : Int) (T : TypeId) : BoxA (w.alloc (.cells #[.int .i64 f, .int .i64 t, .int .i64 z] T)) w.heap.size f t z := ⟨by simp, by go_simp, by go_simp, by go_simp⟩

set_option maxHeartbeats 4000000 in
set_option maxRecDepth 100000 in
theorem supplyOk (n : Nat) (v : Value) (L : List Arc) (w : World) (hA : ArcsAt w v L) (hM : May n L) :
    Calls Tryz.prog 42 #[.int .i64 n, v] w (Spl n L w) := by
  have HA := Lib.hid hA
  have HM := Lib.hid hM
  have hN : n ≤ 4096 := by have := hM.n1; omega
  have hL := hM.len
  have hne : ordErr n L ≠ 2 := by rw [ordErr_ok hM]; split <;> simp
  obtain ⟨A, cap, rfl, hcap, -⟩ := hA
  have hmk := mkInts n hN
  have ht : (ordErr n L == 2) = false := by simpa using hne
  clear hM hne
  go_enter Tryz.func42, Tryz.ntmps42
  go_wp2_with (go_at_call 38; refine (check n _ L _ HA.out).mono ?_; rintro e w1 ⟨rfl, hb⟩; have B1 := Lib.hid hb; clear hb)
  clear hmk
  have A1 := Lib.hid (HA.out.below B1.out)
  go_loopw [16] (fun iv wr => SuRel n L w1 wr iv) (fun iv _ => L.length - (intOf iv).toNat)
  case atStart => exact ⟨0, rfl, by omega, (xi_start ((Below.refl _ _).alloc (Nat.le_refl _) _) (Nat.le_refl _) (heap_alloc_new w1 _) (by omega)).turn (fun v _ => by simp [supF, netF])⟩
  case round =>
    obtain ⟨k, rfl, hk, hX⟩ := hrel
    have X := Lib.hid hX
    have hgl := hX.gl
    have hbs := hX.below.size
    clear hX
    by_cases hlt : k < L.length
    · obtain ⟨A', cap', e, _, hA⟩ := A1.out
      simp only [Value.slice.injEq, true_and] at e
      obtain ⟨rfl, rfl⟩ := e
      obtain ⟨b, o, rfl, hb, hcell⟩ := hA (by omega)
      obtain ⟨c0, c1, c2⟩ := hcell k hlt
      have d0 := (X.out.below.cell (p := ⟨b, o + k * 3, none⟩) hb).trans c0
      have d1 := (X.out.below.cell (p := ⟨b, o + k * 3 + 1, none⟩) hb).trans c1
      have d2 := (X.out.below.cell (p := ⟨b, o + k * 3 + 2, none⟩) hb).trans c2
      have ok := HM.out.ok L[k] (List.getElem_mem hlt)
      have hst := fun v => supF_take L k hlt v
      have ST := Lib.hid hst
      clear hst hA hcell c0 c1 c2
      generalize L[k] = a at *
      obtain ⟨f, t, z⟩ := a
      obtain ⟨f, rfl⟩ : ∃ u : Nat, f = (u : Int) := ⟨f.toNat, by simp only at ok; omega⟩
      obtain ⟨t, rfl⟩ : ∃ u : Nat, t = (u : Int) := ⟨t.toNat, by simp only at ok; omega⟩
      simp only at ok d0 d1 d2 ST
      obtain ⟨ok0, ok1, ok2, ok3, ok4, ok5⟩ := ok
      have hf : f < n := by omega
      have ht : t < n := by omega
      have hpn := sup_near HM.out k f
      have hqn := sup_near HM.out k t
      obtain ⟨p, hp⟩ : ∃ p, supF (L.take k) f = p := ⟨_, rfl⟩
      have HP := Lib.hid hp
      rw [hp] at hpn
      obtain ⟨hp1, hp2⟩ := hpn
      obtain ⟨q, hq⟩ : ∃ q, (if t = f then p + z else supF (L.take k) t) = q := ⟨_, rfl⟩
      have HQ := Lib.hid hq
      have hq1 : -17000000000 ≤ q ∧ q ≤ 17000000000 := by rw [← hq]; split <;> omega
      obtain ⟨hq1, hq2⟩ := hq1
      have hw1 : IntKind.i64.wrap (p + z) = p + z := IntWalk.i64_in _ (by omega)
      have hw3 : IntKind.i64.wrap (q - z) = q - z := IntWalk.i64_in _ (by omega)
      clear hp hq hqn ok0 ok1 ok2 ok3
      go_wp2
      generalize hwa : World.alloc wr _ = wa
      have XA : Hid (XiAt w1 wa w1.heap.size n (fun v => supF (L.take k) v)) := Lib.hid (by rw [← hwa]; exact X.out.quiet ((Below.refl _ _).alloc (Nat.le_refl _) _))
      have hB : BoxA wa wr.heap.size f t z := by rw [← hwa]; exact BoxA.new _ _ _ _ _
      have HB := Lib.hid hB
      have x0 := XA.out.cell hf
      have x2 := XA.out.fr f
      (try simp only at x0)
      rw [HP.out] at x0
      have a0 := hB.c0
      have a1 := hB.c1
      have a2 := hB.c2
      have al := hB.lt
      have gl2 := XA.out.gl
      clear hwa hB hgl hbs d0 d1 d2
      go_still_tail 9, (by kernel_rfl)
      change wpList _ _ _ _ _ wa.drew
      go_wp2
      generalize hw2 : (World.setCell wa _ _).drew = w2
      have X2 : Hid (XiAt w1 w2 w1.heap.size n (fun v => if v = f then p + z else supF (L.take k) v)) := Lib.hid (by rw [← hw2]; exact (XA.out.set f (p + z)).quiet (Below.refl _ _).drew)
      have hB2 : BoxA w2 wr.heap.size f t z := by
        rw [← hw2]
        have o : Out (fun b => b = w1.heap.size) wa (World.setCell wa ⟨w1.heap.size, f, none⟩ (.int .i64 (p + z))).drew := ((Out.refl _ wa).setIn _ _).drew
        exact HB.out.out o (by have := X.out.gl; omega)
      clear hw2 x0 x2 gl2 a0 a1 a2 al
      have hgl2 := X2.out.gl
      have x0 := X2.out.cell ht
      have x2 := X2.out.fr t
      have a0 := hB2.c0
      have a1 := hB2.c1
      have a2 := hB2.c2
      have al := hB2.lt
      (try simp only at x0)
      rw [HQ.out] at x0
      refine wp_region_still_tail 9 (by kernel_rfl) (by kernel_rfl) ?_
      simp only [List.take_succ_cons, List.take_zero, List.drop_succ_cons, List.drop_zero]
      change wpStill _ _ (World.drew _) (fun a' => wpList _ _ _ _ a' (World.drew _)) _ _
      repeat still_step
      refine wpStill_nil ?_
      go_wp2
      go_roundw
      case rel =>
        refine ⟨k + 1, by go_num, by omega, ((X2.out.set t (q - z)).quiet (Below.refl _ _).drew).turn fun v _ => ?_⟩
        rw [ST.out, ← HQ.out, ← HP.out]
        unfold netP
        simp only
        by_cases e1 : v = t
        · by_cases e2 : v = f
          · subst e1 e2; simp
          · subst e1
            have : ¬ (f : Int) = (v : Int) := by omega
            simp [e2, this]
            omega
        · have e3 : ¬ (t : Int) = (v : Int) := by omega
          by_cases e2 : v = f
          · subst e2; simp [e1, e3]
          · have : ¬ (f : Int) = (v : Int) := by omega
            simp [e1, e2, e3, this]
      case measure => simp [intOf]; omega
    · obtain rfl : L.length = k := by omega
      go_wp2
      go_ret
      have h := X.out
      rw [List.take_length] at h
      have hz := B1.out.size
      refine ⟨_, rfl, hz, ⟨h.row.1, ?_⟩, B1.out.trans (h.below.mono hz)⟩
      rcases h.row.2 with ⟨e, _⟩ | ⟨g, cap, cur, hv, hg, r⟩
      · simp at e
      · exact Or.inr ⟨g, cap, cur, hv, Nat.le_trans hz hg, r⟩
set_option maxHeartbeats 1000000 in
theorem supplyNo (n : Int) (v : Value) (L : List Arc) (w : World) (hA : ArcsAt w v L) (hM : ¬ May n L) :
    Calls Tryz.prog 42 #[.int .i64 n, v] w fun e w' => e = .returned (.slice none 0 0) ∧ Below w.heap.size w w' := by
  have HA := Lib.hid hA
  have he : ordErr n L = 2 := by
    unfold ordErr
    rw [if_neg (fun h => hM ((mayB_iff n L).1 h))]
  have ht : (ordErr n L == 2) = true := by simpa using he
  obtain ⟨A, cap, rfl, hcap, -⟩ := hA
  clear hM he
  go_enter Tryz.func42, Tryz.ntmps42
  go_wp2_with (go_at_call 38; refine (check n _ L _ HA.out).mono ?_; rintro e w1 ⟨rfl, hb⟩; have B1 := Lib.hid hb; clear hb)
  go_ret
  exact ⟨rfl, B1.out⟩
theorem supplySpec : SupplySpec :=
  ⟨fun n v L w hA hM => (supplyOk n v L w hA hM).mono fun e w' ⟨g, h1, h2, h3, h4⟩ => ⟨_, h1, by
    unfold RowI at h3
    unfold OwnI
    rw [List.length_map, List.length_range, List.map_map]
    exact h3, h4⟩, supplyNo⟩
/-- Is something left? -/
def someLeft (lf : Nat → Int) (n : Nat) : Bool := (List.range n).any fun v => decide (0 < lf v)



theorem someLeft_no {lf : Nat → Int} {n : Nat} (h : someLeft lf n = false) : ∀ v, v < n → ¬ 0 < lf v := by
  intro v hv hl
  have : someLeft lf n = true := List.any_eq_true.2 ⟨v, by simpa using hv, by simpa using hl⟩
  rw [h] at this; cases this
theorem someLeft_yes {lf : Nat → Int} {n : Nat} (h : someLeft lf n = true) : ∃ v, v < n ∧ 0 < lf v := by
  obtain ⟨v, hv, hl⟩ := List.any_eq_true.1 h
  exact ⟨v, by simpa using hv, by simpa using hl⟩
end Go.Proofs.YtappfojjjegnpaaGreatDoor

namespace Go.Proofs.YtappfojjjegnpaaGreatDoor
open Go.RowKit Go.Proofs.YtappfojjjegnpaaGreatDoor.DagM


section
variable {w0 w w' : World} {T p gx gf gl gs n r gd gt : Nat} {E : EndL} {V : Nat → Value} {x f lf : Nat → Int} {tk : Int} {far : Nat → Dst} {tr : Nat → Nat} {S : Nat → Prop}








theorem stpA_len (v i : Nat) (e : Nat × Nat) : (stpA v i e).length ≤ 2 := by
  unfold stpA
  split <;> split <;> simp
theorem stps_len (E : EndL) (v : Nat) : (stps E v).length ≤ 2 * E.length := by
  have : ∀ k, (stpsK E k v).length ≤ 2 * k := by
    intro k
    induction k with
    | zero => simp [stpsK]
    | succ k ih => rw [stpsK_succ, List.length_append]; have := stpA_len v k (E.getD k (0, 0)); omega
  exact this _
end

theorem cells4 {w : World} {b : Nat} {a0 a1 a2 a3 c0 c1 c2 c3 : Value} {t : TypeId} (h : w.heap[b]? = some (.cells #[a0, a1, a2, a3] t (0, 0))) :
    ((((w.setCell ⟨b, 0, none⟩ c0).setCell ⟨b, 1, none⟩ c1).setCell ⟨b, 2, none⟩ c2).setCell ⟨b, 3, none⟩ c3).heap[b]? = some (.cells #[c0, c1, c2, c3] t (0, 0)) := by
  rw [heap_setCell_at (heap_setCell_at (heap_setCell_at (heap_setCell_at h 0 c0) 1 c1) 2 c2) 3 c3]
  rfl
theorem out4 {S : Nat → Prop} {w0 w : World} {b : Nat} (h : Out S w0 w) (hb : w0.heap.size ≤ b) (c0 c1 c2 c3 : Value) : Out S w0 ((((w.setCell ⟨b, 0, none⟩ c0).setCell ⟨b, 1, none⟩ c1).setCell ⟨b, 2, none⟩ c2).setCell ⟨b, 3, none⟩ c3) := by
  have k : ∀ j : Nat, (⟨b, j, none⟩ : Addr).block < w0.heap.size → S (⟨b, j, none⟩ : Addr).block := fun j hj => absurd hj (by simp only; omega)
  exact Out.setCell (Out.setCell (Out.setCell (Out.setCell h (k 0) _) (k 1) _) (k 2) _) (k 3) _
noncomputable def trOf (w : World) (gt v : Nat) : Nat := Classical.epsilon fun k : Nat => w.cell? ⟨gt, v, none⟩ = some (.int .i64 (k : Int))
theorem trOf_eq {w : World} {gt v t : Nat} (h : w.cell? ⟨gt, v, none⟩ = some (.int .i64 (t : Int))) : trOf w gt v = t := by
  have h2 : w.cell? ⟨gt, v, none⟩ = some (.int .i64 ((trOf w gt v : Nat) : Int)) := Classical.epsilon_spec (p := fun k : Nat => w.cell? ⟨gt, v, none⟩ = some (.int .i64 (k : Int))) ⟨t, h⟩
  rw [h] at h2
  simp only [Option.some.injEq, Value.int.injEq, true_and] at h2
  omega





end Go.Proofs.YtappfojjjegnpaaGreatDoor
