/-
  hasTooMany, Check, Equal. Conditions: bends of at most 1000000 letters each.
-/
import Derived.Test.YtgedcalplfnjmaaDoorParW
namespace Go.Proofs.YtgedcalplfnjmaaDoor
open Go.RowKit Go.Proofs.YtgedcalplfnjmaaDoor.LexM Go.Proofs.YtgedcalplfnjmaaDoor.ParM

def manyS (B : List Bool) (E : List Edg) : Bool := decide (4096 < B.length) || decide (4096 < E.length) || decide (4096 < bendsOf E)
def chkL (n : Nat) : List Edg → Int
  | [] => 0
  | e :: E => if chkE n e ≠ 0 then chkE n e else chkL n E
def chkS (B : List Bool) (E : List Edg) : Int := if manyS B E = true then 6 else chkL B.length E
theorem bends_take (E : List Edg) (k : Nat) (h : k < E.length) : bendsOf (E.take (k + 1)) = bendsOf (E.take k) + E[k].2.2.2.length := by
  rw [List.take_succ_eq_append_getElem h, bendsOf_snoc]
theorem bends_le (E : List Edg) (k : Nat) : bendsOf (E.take k) ≤ bendsOf E := by
  conv => rhs; rw [← List.take_append_drop k E]
  unfold bendsOf
  rw [List.map_append, List.sum_append]; omega
def HmRel (E : List Edg) (w wr : World) (lv iv : Value) : Prop := ∃ (k : Nat) (z : Int), iv = .int .i64 k ∧ lv = .int .i64 z ∧ z = 4096 - (bendsOf (E.take k) : Int) ∧ 0 ≤ z ∧ k ≤ E.length ∧ Below w.heap.size w wr
set_option maxHeartbeats 8000000 in
set_option maxRecDepth 100000 in
theorem hasTooMany (bv ev : Value) (B : List Bool) (E : List Edg) (w : World) (hB : BlsAt w bv B) (hE : EdsAt w ev E) (hl : E.length ≤ 1000000) (hBl : B.length ≤ 1000000) (hz : ∀ e ∈ E, e.2.2.2.length ≤ 1000000) :
    Calls Tryd.prog 24 #[.agg #[bv, ev]] w fun r w' => r = .returned (.bool (manyS B E)) ∧ Below w.heap.size w w' := by
  have HE := Lib.hid hE
  have ZE := Lib.hid hz
  obtain ⟨nB, hnB⟩ : ∃ n, B.length = n := ⟨_, rfl⟩
  obtain ⟨nE, hnE⟩ : ∃ n, E.length = n := ⟨_, rfl⟩
  obtain ⟨A, c, e⟩ := hB.form
  rw [hnB] at e hBl
  subst e
  obtain ⟨A2, c2, e⟩ := hE.form
  rw [hnE] at e hl
  subst e
  have LE := Lib.hid hnE
  have MS : Hid (manyS B E = (decide (4096 < nB) || decide (4096 < nE) || decide (4096 < bendsOf E))) := Lib.hid (by unfold manyS; rw [hnB, hnE])
  clear hB hE hz hnB hnE
  by_cases h1 : 4096 < nB
  · have M : Hid (manyS B E = true) := Lib.hid (by rw [MS.out, decide_eq_true h1]; rfl)
    have q1 : decide ((4096 : Int) < nB) = true := by rw [decide_eq_true_eq]; omega
    clear MS
    go_enter Tryd.func24, Tryd.ntmps24
    go_wp2
    go_ret
    exact ⟨ret_bool M.out.symm, (Below.refl _ _).alloc (Nat.le_refl _) _⟩
  · by_cases h2 : 4096 < nE
    · have M : Hid (manyS B E = true) := Lib.hid (by rw [MS.out, decide_eq_true h2, Bool.or_true]; rfl)
      have q1 : decide ((4096 : Int) < nB) = false := by rw [decide_eq_false_iff_not]; omega
      have q2 : decide ((4096 : Int) < nE) = true := by rw [decide_eq_true_eq]; omega
      clear MS
      go_enter Tryd.func24, Tryd.ntmps24
      go_wp2
      go_ret
      exact ⟨ret_bool M.out.symm, (Below.refl _ _).alloc (Nat.le_refl _) _⟩
    · have M : Hid (manyS B E = decide (4096 < bendsOf E)) := Lib.hid (by rw [MS.out, decide_eq_false h1, decide_eq_false h2]; simp)
      have q1 : decide ((4096 : Int) < nB) = false := by rw [decide_eq_false_iff_not]; omega
      have q2 : decide ((4096 : Int) < nE) = false := by rw [decide_eq_false_iff_not]; omega
      clear MS
      go_enter Tryd.func24, Tryd.ntmps24
      go_wp2
      go_loopw [3, 19] (fun lv iv wr => HmRel E w wr lv iv) (fun _ iv _ => nE - (intOf iv).toNat)
      case atStart => exact ⟨0, 4096, rfl, rfl, by simp [bendsOf], by omega, Nat.zero_le _, (Below.refl _ _).alloc (Nat.le_refl _) _⟩
      case round =>
        obtain ⟨k, z, rfl, rfl, hz1, hz2, hk, hB⟩ := hrel
        rw [LE.out] at hk
        have Z := Lib.hid hz1
        have BW := Lib.hid hB
        have hwz := hB.size
        have hz3 : z ≤ 4096 := by omega
        clear hz1 hB
        by_cases hlt : k < nE
        · have hkE : k < E.length := by rw [LE.out]; exact hlt
          obtain ⟨b, o, c', e, hb, c0, c1, c3, c4⟩ := HE.out.nth hkE
          rw [LE.out] at e
          simp only [Value.slice.injEq, true_and] at e
          obtain ⟨rfl, rfl⟩ := e
          have d0 := (BW.out.cell (p := ⟨b, o + k * 4, none⟩) hb).trans c0
          have d1 := (BW.out.cell (p := ⟨b, o + k * 4 + 1, none⟩) hb).trans c1
          have d2 := (BW.out.cell (p := ⟨b, o + k * 4 + 2, none⟩) hb).trans c3
          have d3 := (BW.out.cell (p := ⟨b, o + k * 4 + 3, none⟩) hb).trans c4
          have TK := Lib.hid (bends_take E k hkE)
          have BL := Lib.hid (bends_le E (k + 1))
          have hze := ZE.out E[k] (List.getElem_mem hkE)
          obtain ⟨x, hx⟩ : ∃ x, E[k] = x := ⟨_, rfl⟩
          rw [hx] at d0 d1 d2 d3 TK hze
          clear c0 c1 c3 c4 hx
          obtain ⟨f, t, d, bb⟩ := x
          simp only at d0 d1 d2 d3 TK hze
          have HS : Hid (bb.length = (bs bb).size) := Lib.hid (bs_size bb).symm
          rw [HS.out] at TK
          have hze2 : (bs bb).size ≤ 1000000 := by rw [← HS.out]; exact hze
          clear hze
          generalize bs bb = sb at *
          by_cases hmore : z < sb.size
          · have M2 : Hid (manyS B E = true) := Lib.hid (by
              rw [M.out, decide_eq_true_eq]
              have h1 := TK.out
              have h2 := BL.out
              have h3 := Z.out
              omega)
            have q3 : decide (z < (sb.size : Int)) = true := by rw [decide_eq_true_eq]; exact hmore
            go_wp2
            go_ret
            exact ⟨ret_bool M2.out.symm, BW.out.alloc hwz _⟩
          · have q3 : decide (z < (sb.size : Int)) = false := by rw [decide_eq_false_iff_not]; exact hmore
            go_wp2
            go_roundw
            case rel => exact ⟨k + 1, z - sb.size, by go_num, by go_num, by have h1 := TK.out; have h3 := Z.out; omega, by omega, by rw [LE.out]; omega, BW.out.alloc hwz _⟩
            case measure => (simp [intOf] <;> omega)
        · obtain rfl : k = nE := by omega
          have hz4 := Z.out
          rw [List.take_of_length_le (by rw [LE.out]; exact Nat.le_refl _)] at hz4
          have M2 : Hid (manyS B E = false) := Lib.hid (by rw [M.out, decide_eq_false_iff_not]; omega)
          clear hz4
          go_wp2
          go_ret
          exact ⟨ret_bool M2.out.symm, BW.out⟩
theorem heap_second (w : World) (a b : Obj) : ((w.alloc a).alloc b).heap[w.heap.size + 1]? = some b := by
  have h := heap_alloc_new (w.alloc a) b
  simpa using h
def CkRel (n : Nat) (E : List Edg) (wb wr : World) (iv : Value) : Prop := ∃ k : Nat, iv = .int .i64 k ∧ k ≤ E.length ∧ chkL n (E.drop k) = chkL n E ∧ Below wb.heap.size wb wr
set_option maxHeartbeats 8000000 in
set_option maxRecDepth 100000 in
theorem checkS (bv ev : Value) (B : List Bool) (E : List Edg) (w : World) (hB : BlsAt w bv B) (hE : EdsAt w ev E) (hl : E.length ≤ 1000000) (hBl : B.length ≤ 1000000) (hz : ∀ e ∈ E, e.2.2.2.length ≤ 1000000) :
    Calls Tryd.prog 19 #[.agg #[bv, ev]] w fun r w' => r = .returned (.int .i64 (chkS B E)) ∧ Below w.heap.size w w' := by
  have HE := Lib.hid hE
  have ZE := Lib.hid hz
  have HM := Lib.hid (fun w h1 h2 => hasTooMany bv ev B E w h1 h2 hl hBl hz)
  have HBs := Lib.hid hB
  obtain ⟨nB, hnB⟩ : ∃ n, B.length = n := ⟨_, rfl⟩
  obtain ⟨nE, hnE⟩ : ∃ n, E.length = n := ⟨_, rfl⟩
  obtain ⟨A, c, e⟩ := hB.form
  rw [hnB] at e hBl
  subst e
  obtain ⟨A2, c2, e⟩ := hE.form
  rw [hnE] at e hl
  subst e
  have LE := Lib.hid hnE
  have LB := Lib.hid hnB
  clear hB hE hz hnB hnE
  cases hm : manyS B E with
  | true =>
    have C : Hid (chkS B E = 6) := Lib.hid (by unfold chkS; rw [hm]; rfl)
    have H2 : Hid (∀ w, BlsAt w (.slice A nB c) B → EdsAt w (.slice A2 nE c2) E → Calls Tryd.prog 24 #[.agg #[.slice A nB c, .slice A2 nE c2]] w fun r w' => r = .returned (.bool true) ∧ Below w.heap.size w w') := Lib.hid (fun w h1 h2 => by rw [← hm]; exact HM.out w h1 h2)
    clear HM hm
    go_enter Tryd.func19, Tryd.ntmps19
    go_wp2_with (go_at_call 24; refine (H2.out _ (HBs.out.below ((Below.refl _ _).alloc (Nat.le_refl _) _) (Nat.le_refl _)) (HE.out.below ((Below.refl _ _).alloc (Nat.le_refl _) _) (Nat.le_refl _))).mono ?_; rintro e w1 ⟨rfl, b1⟩; have B1 : Hid (Below w.heap.size w w1) := Lib.hid (((Below.refl _ _).alloc (Nat.le_refl _) _).trans (b1.mono (by simp))); clear b1)
    go_ret
    exact ⟨ret_int C.out.symm, B1.out⟩
  | false =>
    have C : Hid (chkS B E = chkL nB E) := Lib.hid (by unfold chkS; rw [hm, LB.out]; rfl)
    have H2 : Hid (∀ w, BlsAt w (.slice A nB c) B → EdsAt w (.slice A2 nE c2) E → Calls Tryd.prog 24 #[.agg #[.slice A nB c, .slice A2 nE c2]] w fun r w' => r = .returned (.bool false) ∧ Below w.heap.size w w') := Lib.hid (fun w h1 h2 => by rw [← hm]; exact HM.out w h1 h2)
    clear HM hm
    go_enter Tryd.func19, Tryd.ntmps19
    go_wp2_with (fail)
    generalize hwb : World.alloc w _ = wb
    have b0 : Below w.heap.size w wb := by rw [← hwb]; exact (Below.refl _ _).alloc (Nat.le_refl _) _
    have B0 := Lib.hid b0
    have hk0 : wb.heap[w.heap.size]? = some (.cells #[.slice A nB c, .slice A2 nE c2] 31 (0, 0)) := by rw [← hwb]; exact heap_alloc_new w _
    have K0 := Lib.hid hk0
    have E0 := Lib.hid (HE.out.below b0 (Nat.le_refl _))
    have BB0 := Lib.hid (HBs.out.below b0 (Nat.le_refl _))
    have hlt0 : w.heap.size < wb.heap.size := (Array.getElem?_eq_some_iff.1 hk0).1
    clear hwb b0 hk0
    refine (H2.out wb BB0.out E0.out).mono ?_
    rintro e w1 ⟨rfl, b1⟩
    have B1 := Lib.hid b1
    have x0 : w1.cell? ⟨w.heap.size, 0, none⟩ = some (.slice A nB c) := by have h := b1.block _ hlt0; rw [K0.out] at h; simp [World.cell?, h]
    have x1 : w1.cell? ⟨w.heap.size, 1, none⟩ = some (.slice A2 nE c2) := by have h := b1.block _ hlt0; rw [K0.out] at h; simp [World.cell?, h]
    have xl : w.heap.size < w1.heap.size := Nat.lt_of_lt_of_le hlt0 b1.size
    clear b1
    go_wp2
    go_loopw [11] (fun iv wr => CkRel nB E wb wr iv) (fun iv _ => nE - (intOf iv).toNat)
    case atStart => exact ⟨0, rfl, Nat.zero_le _, rfl, B1.out⟩
    case round =>
      obtain ⟨k, rfl, hk, hc, hBW⟩ := hrel
      rw [LE.out] at hk
      have CK := Lib.hid hc
      have BW := Lib.hid hBW
      have hwz := hBW.size
      have y0 : wr.cell? ⟨w.heap.size, 0, none⟩ = some (.slice A nB c) := by have h := hBW.block _ hlt0; rw [K0.out] at h; simp [World.cell?, h]
      have yl : w.heap.size < wr.heap.size := by omega
      clear hc hBW
      by_cases hlt : k < nE
      · have hkE : k < E.length := by rw [LE.out]; exact hlt
        obtain ⟨b, o, c', e, hb, c0, c1, c3, c4⟩ := E0.out.nth hkE
        rw [LE.out] at e
        simp only [Value.slice.injEq, true_and] at e
        obtain ⟨rfl, rfl⟩ := e
        have d0 := (BW.out.cell (p := ⟨b, o + k * 4, none⟩) hb).trans c0
        have d1 := (BW.out.cell (p := ⟨b, o + k * 4 + 1, none⟩) hb).trans c1
        have d2 := (BW.out.cell (p := ⟨b, o + k * 4 + 2, none⟩) hb).trans c3
        have d3 := (BW.out.cell (p := ⟨b, o + k * 4 + 3, none⟩) hb).trans c4
        have hck := CK.out
        rw [List.drop_eq_getElem_cons hkE, chkL] at hck
        have CE := Lib.hid (fun w => checkEdge nB E[k] w (ZE.out E[k] (List.getElem_mem hkE)))
        obtain ⟨x, hx⟩ : ∃ x, E[k] = x := ⟨_, rfl⟩
        rw [hx] at d0 d1 d2 d3 hck CE
        clear c0 c1 c3 c4 hx
        obtain ⟨f, t, d, bb⟩ := x
        simp only at d0 d1 d2 d3
        have CE2 : Hid (∀ w, Calls Tryd.prog 25 #[.agg #[.int .i64 f, .int .i64 t, .int .i64 d, .string (bs bb)], .int .i64 nB] w fun r w' => r = .returned (.int .i64 (chkE nB (f, t, d, bb))) ∧ Below w.heap.size w w') := Lib.hid CE.out
        generalize bs bb = sb at *
        generalize chkE nB (f, t, d, bb) = z at *
        by_cases hz : z = 0
        · rw [if_neg (by simpa using hz)] at hck
          have CK2 := Lib.hid hck
          subst hz
          clear hck CE
          go_wp2_with (go_at_call 25; refine (CE2.out _).mono ?_; rintro e w2 ⟨rfl, b2⟩; have B2 : Hid (Below wb.heap.size wb w2) := Lib.hid ((BW.out.trans (((Below.refl _ _).alloc (Nat.le_refl _) _).mono hwz)).trans (b2.mono (by simp; omega))); clear b2)
          go_roundw
          case rel => exact ⟨k + 1, by go_num, by rw [LE.out]; omega, CK2.out, B2.out⟩
          case measure => (simp [intOf] <;> omega)
        · rw [if_pos hz] at hck
          have CR : Hid (chkS B E = z) := Lib.hid (by rw [C.out, ← hck])
          have q1 : (z == 0) = false := by simpa using hz
          have q2 : (z != 0) = true := by simpa using hz
          clear hck CE hz
          go_wp2_with (go_at_call 25; refine (CE2.out _).mono ?_; rintro e w2 ⟨rfl, b2⟩; have B2 : Hid (Below wb.heap.size wb w2) := Lib.hid ((BW.out.trans (((Below.refl _ _).alloc (Nat.le_refl _) _).mono hwz)).trans (b2.mono (by simp; omega))); clear b2)
          go_ret
          exact ⟨ret_int CR.out.symm, B0.out.trans (B2.out.mono B0.out.size)⟩
      · obtain rfl : k = nE := by omega
        have hck := CK.out
        rw [List.drop_eq_nil_of_le (by rw [LE.out]; exact Nat.le_refl _), chkL] at hck
        have CR : Hid (chkS B E = 0) := Lib.hid (by rw [C.out, ← hck])
        clear hck
        go_wp2
        go_ret
        exact ⟨ret_int CR.out.symm, B0.out.trans (BW.out.mono B0.out.size)⟩
theorem chk_ok {B : List Bool} {E : List Edg} (h : May B E) : chkS B E = 0 := by
  have hm : manyS B E = false := by
    have h1 := h.vs
    have h2 := h.es
    have h3 := h.bs
    unfold manyS
    rw [decide_eq_false (by omega), decide_eq_false (by omega), decide_eq_false (by omega)]; rfl
  have hc : ∀ (n : Nat) (E : List Edg), (∀ e ∈ E, okE n e) → chkL n E = 0 := by
    intro n E
    induction E with
    | nil => intro _; rfl
    | cons e E ih =>
      intro h
      obtain ⟨a1, a2, a3, a4, a5, a6, a7⟩ := h e (by simp)
      have hz : chkE n e = 0 := by
        unfold chkE vtxB
        rw [decide_eq_true a1, decide_eq_true a2, decide_eq_true a3, decide_eq_true a4, goodB_t a5 (by omega), a7]; rfl
      rw [chkL, hz, if_neg (by simp), ih (fun x hx => h x (by simp [hx]))]
  unfold chkS
  rw [hm, hc _ _ h.ok]; rfl

end Go.Proofs.YtgedcalplfnjmaaDoor
