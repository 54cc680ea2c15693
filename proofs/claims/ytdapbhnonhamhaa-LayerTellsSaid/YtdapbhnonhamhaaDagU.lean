/-
  The reference's Right and Order answer what the program's do. Conditions: none.
-/
import Derived.Test.YtdapbhnonhamhaaDagG
namespace Go.Proofs.Ytdapbhnonhamhaa
open Go.RowKit Go.Proofs.Ytdapbhnonhamhaa.DagM

def RtRel (n : Int) (L : List Arc) (w wr : World) (iv : Value) : Prop := ∃ k : Nat, iv = .int .i64 k ∧ k ≤ L.length ∧ Below w.heap.size w wr ∧ (L.take k).any (badA n) = false
theorem badA_cases {n : Int} {a : Arc} (h : badA n a = true) : a.1 < 0 ∨ (0 ≤ a.1 ∧ n ≤ a.1) ∨ (0 ≤ a.1 ∧ a.1 < n ∧ a.2.1 < 0) ∨ (0 ≤ a.1 ∧ a.1 < n ∧ 0 ≤ a.2.1 ∧ n ≤ a.2.1) ∨ (0 ≤ a.1 ∧ a.1 < n ∧ 0 ≤ a.2.1 ∧ a.2.1 < n ∧ a.2.2 < 0) ∨ (0 ≤ a.1 ∧ a.1 < n ∧ 0 ≤ a.2.1 ∧ a.2.1 < n ∧ 0 ≤ a.2.2 ∧ 1000000 < a.2.2) := by
  have : ¬ (0 ≤ a.1 ∧ a.1 < n ∧ 0 ≤ a.2.1 ∧ a.2.1 < n ∧ 0 ≤ a.2.2 ∧ a.2.2 ≤ 1000000) := fun e => by rw [(badA_iff n a).2 e] at h; cases h
  omega
set_option maxHeartbeats 4000000 in
set_option maxRecDepth 100000 in
theorem right (n : Int) (v : Value) (L : List Arc) (w : World) (hA : ArcsAt w v L) :
    Calls Try.prog 27 #[.int .i64 n, v] w fun e w' => e = .returned (.bool (mayB n L)) ∧ Below w.heap.size w w' := by
  have HA := Lib.hid hA
  obtain ⟨A, cap, rfl, hcap, -⟩ := hA
  by_cases h : 0 ≤ n ∧ n ≤ 4096 ∧ L.length ≤ 16384
  · obtain ⟨h1, h2, h3⟩ := h
    have e : mayB n L = !L.any (badA n) := by
      unfold mayB
      have a1 : decide (n < 0) = false := by simpa using h1
      have a2 : decide (4096 < n) = false := by simpa using h2
      have a3 : decide (16384 < L.length) = false := by simpa using h3
      rw [a1, a2, a3]
      rfl
    have E := Lib.hid e
    clear e
    go_enter Try.func27, Try.ntmps27
    go_wp2
    go_loopw [5] (fun iv wr => RtRel n L w wr iv) (fun iv _ => L.length - (intOf iv).toNat)
    case atStart => exact ⟨0, rfl, by omega, Below.refl _ _, rfl⟩
    case round =>
      obtain ⟨k, rfl, hk, hB, hN⟩ := hrel
      have B := Lib.hid hB
      have N := Lib.hid hN
      clear hB hN
      by_cases hlt : k < L.length
      · obtain ⟨A', cap', e, _, hA⟩ := HA.out
        simp only [Value.slice.injEq, true_and] at e
        obtain ⟨rfl, rfl⟩ := e
        obtain ⟨b, o, rfl, hb, hcell⟩ := hA (by omega)
        obtain ⟨c0, c1, c2⟩ := hcell k hlt
        have d0 := (B.out.cell (p := ⟨b, o + k * 3, none⟩) hb).trans c0
        have d1 := (B.out.cell (p := ⟨b, o + k * 3 + 1, none⟩) hb).trans c1
        have d2 := (B.out.cell (p := ⟨b, o + k * 3 + 2, none⟩) hb).trans c2
        have ht := Lib.hid (any_take (badA n) L k hlt)
        have hf := Lib.hid (any_found (badA n) L k hlt)
        clear hA hcell c0 c1 c2
        generalize L[k] = a at *
        have hz := B.out.size
        cases hbad : badA n a with
        | true =>
          have hf2 := Lib.hid (hf.out hbad)
          have hc := badA_cases hbad
          clear hbad ht hf
          obtain ⟨x, y, z⟩ := a
          simp only at hc d0 d1 d2
          rcases hc with h | ⟨q1, h⟩ | ⟨q1, q2, h⟩ | ⟨q1, q2, q3, h⟩ | ⟨q1, q2, q3, q4, h⟩ | ⟨q1, q2, q3, q4, q5, h⟩
          all_goals
            go_wp2
            go_ret
            exact ⟨ret_bool (by rw [E.out, hf2.out]; rfl), B.out.trans (((Below.refl _ _).alloc (Nat.le_refl _) _).mono hz)⟩
        | false =>
          have hb2 := Lib.hid hbad
          obtain ⟨q1, q2, q3, q4, q5, q6⟩ := (badA_iff n a).1 hbad
          clear hbad hf
          obtain ⟨x, y, z⟩ := a
          simp only at q1 q2 q3 q4 q5 q6 d0 d1 d2
          go_wp2
          go_roundw
          case rel => exact ⟨k + 1, by go_num, by omega, B.out.trans (((Below.refl _ _).alloc (Nat.le_refl _) _).mono hz), by rw [ht.out, N.out, hb2.out]; rfl⟩
          case measure => simp [intOf]; omega
      · obtain rfl : L.length = k := by omega
        go_wp2
        go_ret
        have h := N.out
        rw [List.take_length] at h
        exact ⟨ret_bool (by rw [E.out, h]; rfl), B.out⟩
  · have e : mayB n L = false := by
      cases e : mayB n L
      · rfl
      · have := (mayB_iff n L).1 e
        exact absurd ⟨this.n0, this.n1, this.len⟩ h
    rw [e]
    clear e
    by_cases h1 : n < 0
    · clear h
      go_enter Try.func27, Try.ntmps27
      go_wp2
      go_ret
      exact ⟨rfl, Below.refl _ _⟩
    · by_cases h2 : 4096 < n
      · clear h
        go_enter Try.func27, Try.ntmps27
        go_wp2
        go_ret
        exact ⟨rfl, Below.refl _ _⟩
      · have h3 : 16384 < L.length := by omega
        clear h
        go_enter Try.func27, Try.ntmps27
        go_wp2
        go_ret
        exact ⟨rfl, Below.refl _ _⟩

/-- The least of k.. below N that can come next, or -1. -/
def scan (E : EndL) (P : List Nat) (N k : Nat) : Int := match (List.range' k (N - k)).find? (free E P) with
  | none => -1
  | some u => (u : Int)
theorem scan_end (E : EndL) (P : List Nat) (N : Nat) : scan E P N N = -1 := by simp [scan]
theorem scan_step (E : EndL) (P : List Nat) (N k : Nat) (h : k < N) : scan E P N k = if free E P k then (k : Int) else scan E P N (k + 1) := by
  unfold scan
  have e : N - k = (N - (k + 1)) + 1 := by omega
  rw [e, List.range'_succ, List.find?_cons]
  by_cases hf : free E P k <;> simp [hf]
theorem scan_zero (E : EndL) (P : List Nat) (N : Nat) : (scan E P N 0 = -1 ∧ nextOf E N P = none) ∨ ∃ u, u < N ∧ scan E P N 0 = (u : Int) ∧ nextOf E N P = some u := by
  have e : nextOf E N P = (List.range' 0 (N - 0)).find? (free E P) := by rw [nextOf, List.range_eq_range']; rfl
  unfold scan
  rw [← e]
  cases h : nextOf E N P with
  | none => exact Or.inl ⟨rfl, rfl⟩
  | some u => exact Or.inr ⟨u, ((next_some u).1 h).1, rfl, rfl⟩
def okE (P : List Nat) (v : Nat) (e : Nat × Nat) : Bool := e.2 != v || P.contains e.1
theorem free_okE (E : EndL) (P : List Nat) (v : Nat) : free E P v = (!P.contains v && E.all (okE P v)) := rfl
theorem all_take {α : Type} (p : α → Bool) (L : List α) (k : Nat) (h : k < L.length) : (L.take (k + 1)).all p = ((L.take k).all p && p L[k]) := by
  rw [List.take_succ_eq_append_getElem h, List.all_append]
  simp
theorem all_part {α : Type} {p : α → Bool} {L : List α} {k : Nat} (h : (L.take k).all p = false) : L.all p = false := by
  rw [List.all_eq_false] at h ⊢
  obtain ⟨x, hx, hp⟩ := h
  exact ⟨x, List.mem_of_mem_take hx, hp⟩
theorem infoB : (Try.prog.info? 4).map (fun i => (i.zero, i.size, i.bytes)) = some (some (.bool false), 1, 1) := by kernel_rfl
theorem mkBools (N : Nat) (hN : N ≤ 4096) (w : World) : (Instr.makeSlice 54 (.int .i64 (N : Int)) (.int .i64 (N : Int))).run Try.prog w = .ok (.slice (some ⟨w.heap.size, 0, none⟩) N N) (w.alloc (.cells (madeCells #[.bool false] N) 4)) := by
  obtain ⟨i, hi, h0, h1, h2⟩ := info_parts infoB
  have h := run_make (P := Try.prog) w 54 4 i _ Try.underlying54 hi h0 .i64 .i64 N N (by omega) (by omega) (by rw [h2]; omega) (by omega)
  rw [h1] at h
  simpa [Value.cells] using h
theorem row_neT {w : World} {B B' n n' k k' : Nat} {v v' : Value} {xs xs' : List Value} {t t' : TypeId} (ht : t ≠ t') (h : w.ownsRow B t k v n xs) (h' : w.ownsRow B' t' k' v' n' xs') : ∀ b, v.ownBlock = some b → v'.ownBlock ≠ some b := by
  have key : ∀ {B n k : Nat} {v : Value} {xs : List Value} {t : TypeId}, w.ownsRow B t k v n xs → ∀ b, v.ownBlock = some b → ∃ cur, w.heap[b]? = some (.cells cur t (0, 0)) := by
    intro B n k v xs t h b hb
    rcases h.2 with ⟨rfl, _⟩ | ⟨g', cap', cur', rfl, _, hh', _⟩
    · simp [Value.ownBlock] at hb
    · simp only [Value.ownBlock, Option.some.injEq] at hb
      subst hb
      exact ⟨_, hh'⟩
  intro b hb hb'
  obtain ⟨c1, e1⟩ := key h b hb
  obtain ⟨c2, e2⟩ := key h' b hb'
  rw [e1] at e2
  injection e2 with e2
  injection e2 with _ e3
  exact ht e3
/-- Where the reference's Order stands: which nodes have come, at g; the order in lv. -/
structure RoAt (w0 w : World) (g N : Nat) (C : Nat → Bool) (P : List Nat) (lv : Value) : Prop where
  below : Below w0.heap.size w0 w
  g0 : w0.heap.size ≤ g
  come : w.ownsRow w0.heap.size 4 1 (.slice (some ⟨g, 0, none⟩) N N) N ((List.range N).map fun v => .bool (C v))
  ord : OwnN w w0.heap.size lv P
section
variable {w0 w w' : World} {g N : Nat} {C : Nat → Bool} {P : List Nat} {lv : Value}
theorem RoAt.cell (h : RoAt w0 w g N C P lv) {v : Nat} (hv : v < N) : w.cell? ⟨g, v, none⟩ = some (.bool (C v)) := by
  rw [h.come.cellAt v (by simpa using hv)]
  simp [hv]
theorem RoAt.quiet (h : RoAt w0 w g N C P lv) (o : Below w.heap.size w w') : RoAt w0 w' g N C P lv :=
  ⟨h.below.trans (o.mono h.below.size), h.g0, ownsRow_out (S := fun _ => False) h.come (Out.ofBelow o) (fun _ _ e => e), ownsRow_out (S := fun _ => False) h.ord (Out.ofBelow o) (fun _ _ e => e)⟩
theorem RoAt.put (h : RoAt w0 w g N C P lv) (u : Nat) : RoAt w0 (w.setCell ⟨g, u, none⟩ (.bool true)) g N (fun v => if v = u then true else C v) P lv := by
  have o2 : Out (fun b => b = g) w (w.setCell ⟨g, u, none⟩ (.bool true)) := Out.setCell (S := fun b => b = g) (Out.refl _ w) (p := ⟨g, u, none⟩) (fun _ => rfl) _
  refine ⟨h.below.trans (o2.below h.below.size (fun i _ e => by subst e; exact h.g0)), h.g0, ?_, ownsRow_out h.ord o2 (fun b hb e => by subst e; exact row_neT (by decide) h.come h.ord b rfl hb)⟩
  have e : ((List.range N).map fun v => Value.bool (if v = u then true else C v)) = ((List.range N).map fun v => Value.bool (C v)).set u (.bool true) := by
    rw [← map_set]
    exact List.map_congr_left (fun v _ => by by_cases e : v = u <;> simp [e])
  rw [e]
  exact (h.come.stored u _).1
theorem RoAt.app (h : RoAt w0 w g N C P lv) {lv' : Value} {P' : List Nat} (hg : w.grownBy w' lv.ownBlock) (ho : OwnN w' w0.heap.size lv' P') : RoAt w0 w' g N C P' lv' := by
  have o : Out (fun b => lv.ownBlock = some b) w w' := (Out.refl _ w).grown hg (fun _ _ e => e)
  exact ⟨h.below.trans (o.below h.below.size (fun i _ e => (h.ord.lt i e).1)), h.g0, ownsRow_out h.come o (row_neT (by decide) h.come h.ord), ho⟩
end
def RoRel (E : EndL) (N g : Nat) (w wr : World) (lv : Value) : Prop := ∃ P, RoAt w wr g N (fun v => P.contains v) P lv ∧ Gr E N P
def ScRel (E : EndL) (P : List Nat) (N : Nat) (nv vv : Value) : Prop := ∃ (k : Nat) (z : Int), k ≤ N ∧ z = (k : Int) - 1 ∧ vv = .int .i64 z ∧ nv = .int .i64 (scan E P N k)
def okA (P : List Nat) (v : Nat) (a : Arc) : Bool := okE P v (a.1.toNat, a.2.1.toNat)
theorem free_okA (L : List Arc) (P : List Nat) (v : Nat) : free (ends L) P v = (!P.contains v && L.all (okA P v)) := by
  rw [free_okE]
  unfold ends
  rw [List.all_map]
  rfl
def FrRel (L : List Arc) (P : List Nat) (v : Nat) (fv iv : Value) : Prop := ∃ i : Nat, i ≤ L.length ∧ iv = .int .i64 i ∧ fv = .bool (!P.contains v && (L.take i).all (okA P v))
theorem contains_snoc (P : List Nat) (u : Nat) : (fun v => if v = u then true else P.contains v) = fun v => (P ++ [u]).contains v := by
  funext v
  by_cases h : v = u
  · subst h; simp
  · simp [h]
end Go.Proofs.Ytdapbhnonhamhaa
