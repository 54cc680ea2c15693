/-
  Two rows of ints compared; two cells, one to the right of the other one; what the document fixes of faces is so: the law's 'wakes' answers true. Conditions: the ways read as the program lays them.
-/
import Derived.Test.YtkgabklponjagaaDoorFcG
import Derived.Test.YtkgabklponjagaaDoorNzRb
import Derived.Test.YtkgabklponjagaaDoorShelf
import Derived.Deep.RegionHeld3
namespace Go.Proofs.YtkgabklponjagaaDoor
open Go.RowKit Go.Proofs.YtkgabklponjagaaDoor.GrM Go.Proofs.YtkgabklponjagaaDoor.FcM

theorem drewN_bel12 (w : World) (n : Nat) : Below w.heap.size w (w.drewN n) := ⟨rfl, rfl, rfl, Nat.le_refl _, fun _ _ => rfl⟩
theorem equalZ (v u : Value) (x y : List Int) (n m : Nat) (w : World) (hX : ZsAt w v x n) (hY : ZsAt w u y m) (hx : n ≤ 9223372036854775807) (hy : m ≤ 9223372036854775807) :
    Calls Tryd.prog 14 #[v, u] w fun e w' => e = .returned (.bool (x == y)) ∧ Below w.heap.size w w' := by
  obtain ⟨hl, A, cap, rfl, hA⟩ := hX
  obtain ⟨hm, A', cap', rfl, hA'⟩ := hY
  subst hl hm
  by_cases h0 : x.length = y.length
  · by_cases h1 : x.length = 0
    · have h2 : y.length = 0 := by omega
      obtain rfl := List.eq_nil_of_length_eq_zero h1
      obtain rfl := List.eq_nil_of_length_eq_zero h2
      refine (Go.Proofs.Tryd.slices_Equal_int_empty A A' cap 0 cap' w (by omega)).mono ?_
      rintro e w' ⟨rfl, rfl⟩
      exact ⟨rfl, Below.refl _ _⟩
    · obtain ⟨b, o, rfl, _, hc⟩ := hA (by omega)
      obtain ⟨b', o', rfl, _, hc'⟩ := hA' (by omega)
      refine (Go.Proofs.Tryd.slices_Equal_int b o x.length cap b' o' y.length cap' x y w (Nat.le_refl _) (Nat.le_refl _) (by omega) (by omega) hc hc').mono ?_
      rintro e w' ⟨rfl, q, rfl⟩
      rw [List.take_length, List.take_length]
      exact ⟨rfl, drewN_bel12 w q⟩
  · refine (Go.Proofs.Tryd.slices_Equal_int_lens A A' x.length cap y.length cap' w h0).mono ?_
    rintro e w' ⟨rfl, rfl⟩
    refine ⟨ret_bool ?_, Below.refl _ _⟩
    have : x ≠ y := fun e => h0 (by rw [e])
    simpa using this
theorem zsNew (w : World) (g : Nat) (x : List Int) (n : Nat) (hn : x.length = n) (T : TypeId) (h : w.heap[g]? = some (.cells (x.map (Value.int .i64)).toArray T (0, 0))) : ZsAt w (.slice (some ⟨g, 0, none⟩) n n) x n := by
  subst hn
  refine ⟨rfl, _, _, rfl, fun _ => ⟨g, 0, rfl, (Array.getElem?_eq_some_iff.1 h).1, fun k hk => ?_⟩⟩
  simp [World.cell?, h, hk]
def wkP : List Int := joinG (newG 2) 0 0 1 0
theorem pairW (w : World) : Calls Tryd.prog 34 #[] w fun e w' => ∃ A c, e = .returned (.slice A 2 c) ∧ OwnG w' w.heap.size (.slice A 2 c) wkP 2 ∧ Below w.heap.size w w' := by
  have N2 := Lib.hid (fun w => refNew 2 w (by decide))
  have J1 : Hid (∀ lv w, CelAt w lv (newG 2) 2 → Calls Tryd.prog 40 #[lv, .int .i64 0, .int .i64 0, .int .i64 1, .int .i64 0] w fun r w' => (∃ A c, r = .returned (.tuple #[.slice A 2 c, .int .i64 0]) ∧ OwnG w' w.heap.size (.slice A 2 c) wkP 2) ∧ Below w.heap.size w w') := Lib.hid (fun lv w h =>
    refJoin_yes lv (newG 2) 2 0 0 1 0 w h (by decide) (by decide) (by decide) (by decide) (by decide) (by decide) (by decide) (by decide))
  go_enter Tryd.func34, Tryd.ntmps34
  go_wp2_with (first
    | (go_at_call 40; refine (J1.out _ _ (OwnG.cel O1.out)).mono ?_; rintro e w2 ⟨⟨A, c, rfl, o2⟩, b2⟩; have O2 := Lib.hid o2; have B2 := Lib.hid b2; clear o2 b2)
    | (go_at_call 28; refine (N2.out _).mono ?_; rintro e w1 ⟨⟨g, rfl, o1⟩, b1⟩; have O1 := Lib.hid o1; have B1 := Lib.hid b1; clear o1 b1))
  go_ret
  exact ⟨_, _, rfl, O2.out.base B1.out.size, B1.out.trans (B2.out.mono B1.out.size)⟩
theorem goodP : chkG wkP 2 = 0 := by decide
theorem facesWk : facesK wkP 2 = [[0, 6]] := by decide
def FwP (w : World) (e : Ending) (w' : World) : Prop := ∃ b o c A c', e = .returned (.tuple #[.slice (some ⟨b, o, none⟩) 1 c, .int .i64 0]) ∧ b < w'.heap.size ∧ w'.cell? ⟨b, o, none⟩ = some (.slice A 2 c') ∧ PtsAt w' (.slice A 2 c') [(0, 0), (1, 2)] ∧ Below w.heap.size w w'
theorem facesW (lv : Value) (w : World) (hL : CelAt w lv wkP 2) (hT : WayT w) : Calls Tryd.prog 9 #[lv] w (FwP w) := by
  refine (facesGood lv wkP 2 w hL (by decide) hT goodP).mono ?_
  rintro e w' ⟨A, c, he, ho, hb⟩
  have hf := ho.fcs
  rw [facesWk] at hf he
  obtain ⟨b, o, c2, s, hv, hlt, hs, hp⟩ := hf.nth (k := 0) (by decide)
  obtain ⟨A', c', es, h2⟩ := hp
  have hp : PtsAt w' s [(0, 0), (1, 2)] := ⟨A', c', es, h2⟩
  have es' : s = .slice A' 2 c' := es
  subst es'
  refine ⟨b, o, c2, A', c', ?_, hlt, hs, hp, hb⟩
  rw [he]
  simp only [List.length_singleton] at hv ⊢
  rw [hv]
theorem turnsW (lv dv : Value) (w : World) (hL : CelAt w lv wkP 2) (hD : PtsAt w dv [(0, 0), (1, 2)]) (hT : WayT w) : Calls Tryd.prog 13 #[lv, dv] w fun e w' => ∃ A c, e = .returned (.slice A 2 c) ∧ ZsAt w' (.slice A 2 c) [-2, -2] 2 ∧ Below w.heap.size w w' := by
  refine (turnsAny lv dv wkP [(0, 0), (1, 2)] 2 2 w hL hD (by decide) rfl (by decide) hT).mono ?_
  rintro e w' ⟨A, c, rfl, ho, hb⟩
  have e : [((0 : Int), (0 : Int)), (1, 2)].map (trQ wkP 2) = [-2, -2] := by decide
  rw [e] at ho
  exact ⟨A, c, rfl, ho.zs, hb⟩
theorem nextW (lv : Value) (w : World) (hL : CelAt w lv wkP 2) (hT : WayT w) : Calls Tryd.prog 18 #[lv, .agg #[.int .i64 0, .int .i64 0]] w (BhP (.tuple #[.agg #[.int .i64 1, .int .i64 2], .int .i64 (-2), .bool true]) w) := by
  have h := nextAny lv wkP 2 (0, 0) w hL (by decide) hT
  have e1 : bhQ wkP 2 (0, 0) = (1, 2) := by decide
  have e2 : trQ wkP 2 (0, 0) = -2 := by decide
  have e3 : okQ wkP 2 (0, 0) = true := by decide
  rw [e1, e2, e3] at h
  exact h
theorem heldD : Tryd.prog.stoodInHeld 28 = false := by kernel_rfl
theorem eqD (w : World) (a0 a1 b0 b1 : Int) : (binOp .eql 28 (.agg #[.int .i64 a0, .int .i64 a1]) (.agg #[.int .i64 b0, .int .i64 b1])).run Tryd.prog w = .ok (.bool (a0 == b0 && a1 == b1)) w := by
  have hu := Tryd.underlying28
  have hi := Tryd.underlying3
  rw [run_eql_struct]
  have h := run_equalIn_agg (P := Tryd.prog) w 9999 28 #[.int .i64 a0, .int .i64 a1] #[.int .i64 b0, .int .i64 b1] (by kernel_rfl) heldD
  rw [h]
  unfold Program.fieldsOf
  rw [hu]
  simp [Op.eqFields, go_sem]
  by_cases h0 : a0 = b0
  · by_cases h1 : a1 = b1
    · simp [h0, h1]
    · simp [h0, h1]
  · simp [h0]
end Go.Proofs.YtkgabklponjagaaDoor
