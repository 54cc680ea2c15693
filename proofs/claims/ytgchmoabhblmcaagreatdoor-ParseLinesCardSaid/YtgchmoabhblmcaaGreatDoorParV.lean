/-
  Are rows, shapes the same? May a shape be written? Conditions: at most 1000000 of each.
-/
import Derived.Test.YtgchmoabhblmcaaGreatDoorParH
import Derived.Laws.StructEq
namespace Go.Proofs.YtgchmoabhblmcaaGreatDoor
open Go.RowKit Go.Proofs.YtgchmoabhblmcaaGreatDoor.LexM Go.Proofs.YtgchmoabhblmcaaGreatDoor.ParM

theorem BlsAt.nth {w : World} {v : Value} {L : List Bool} (h : BlsAt w v L) {i : Nat} (hi : i < L.length) : ∃ b o cap, v = .slice (some ⟨b, o, none⟩) L.length cap ∧ b < w.heap.size ∧ w.cell? ⟨b, o + i, none⟩ = some (.bool L[i]) := by
  obtain ⟨A, cap, rfl, _, hA⟩ := h
  obtain ⟨b, o, rfl, hb, hc⟩ := hA (by omega)
  exact ⟨b, o, cap, rfl, hb, hc i hi⟩
theorem EdsAt.nth {w : World} {v : Value} {L : List Edg} (h : EdsAt w v L) {i : Nat} (hi : i < L.length) : ∃ b o cap, v = .slice (some ⟨b, o, none⟩) L.length cap ∧ b < w.heap.size ∧ w.cell? ⟨b, o + i * 4, none⟩ = some (.int .i64 L[i].1) ∧ w.cell? ⟨b, o + i * 4 + 1, none⟩ = some (.int .i64 L[i].2.1) ∧ w.cell? ⟨b, o + i * 4 + 2, none⟩ = some (.int .i64 L[i].2.2.1) ∧ w.cell? ⟨b, o + i * 4 + 3, none⟩ = some (.string (bs L[i].2.2.2)) := by
  obtain ⟨A, cap, rfl, _, hA⟩ := h
  obtain ⟨b, o, rfl, hb, hc⟩ := hA (by omega)
  exact ⟨b, o, cap, rfl, hb, hc i hi⟩
def EqRel {α : Type} (L M : List α) (w wr : World) (iv : Value) : Prop := ∃ k : Nat, iv = .int .i64 k ∧ k ≤ L.length ∧ L.take k = M.take k ∧ Below w.heap.size w wr
theorem take_same {α : Type} {L M : List α} {k : Nat} (h : L.take k = M.take k) (h1 : k < L.length) (h2 : k < M.length) : L.take (k + 1) = M.take (k + 1) ↔ L[k] = M[k] := by
  rw [List.take_succ_eq_append_getElem h1, List.take_succ_eq_append_getElem h2, h]
  constructor
  · intro e
    have := List.append_cancel_left e
    injection this
  · intro e; rw [e]
theorem ne_take {α : Type} {L M : List α} {k : Nat} (h1 : k < L.length) (h2 : k < M.length) (h : L[k] ≠ M[k]) : L ≠ M := by
  intro e; subst e; exact h rfl
set_option maxHeartbeats 4000000 in
set_option maxRecDepth 100000 in
theorem equalB (v u : Value) (L M : List Bool) (w : World) (hv : BlsAt w v L) (hu : BlsAt w u M) (hl : L.length ≤ 1000000) (hm : M.length ≤ 1000000) :
    Calls Tryz.prog 26 #[v, u] w fun e w' => e = .returned (.bool (decide (L = M))) ∧ Below w.heap.size w w' := by
  have HV := Lib.hid hv
  have HU := Lib.hid hu
  obtain ⟨nL, hnL⟩ : ∃ n, L.length = n := ⟨_, rfl⟩
  obtain ⟨nM, hnM⟩ : ∃ n, M.length = n := ⟨_, rfl⟩
  obtain ⟨A, c, e⟩ := hv.form
  rw [hnL] at e hl
  subst e
  obtain ⟨A2, c2, e⟩ := hu.form
  rw [hnM] at e hm
  subst e
  have LE := Lib.hid hnL
  have ME := Lib.hid hnM
  clear hv hu hnL hnM
  by_cases hne : nL = nM
  · subst hne
    go_enter Tryz.func26, Tryz.ntmps26
    go_wp2
    go_loopw [13] (fun iv wr => EqRel L M w wr iv) (fun iv _ => nL - (intOf iv).toNat)
    case atStart => exact ⟨0, rfl, Nat.zero_le _, rfl, Below.refl _ _⟩
    case round =>
      obtain ⟨k, rfl, hk, ht, hB⟩ := hrel
      rw [LE.out] at hk
      have B := Lib.hid hB
      have T := Lib.hid ht
      clear hB ht
      by_cases hlt : k < nL
      · have h1 : k < L.length := by rw [LE.out]; exact hlt
        have h2 : k < M.length := by rw [ME.out]; exact hlt
        obtain ⟨b, o, c', e, hb, c0⟩ := HV.out.nth h1
        rw [LE.out] at e
        simp only [Value.slice.injEq, true_and] at e
        obtain ⟨rfl, rfl⟩ := e
        obtain ⟨b2, o2, c2', e, hb2, e0⟩ := HU.out.nth h2
        rw [ME.out] at e
        simp only [Value.slice.injEq, true_and] at e
        obtain ⟨rfl, rfl⟩ := e
        have d0 := (B.out.cell (p := ⟨b, o + k, none⟩) hb).trans c0
        have d1 := (B.out.cell (p := ⟨b2, o2 + k, none⟩) hb2).trans e0
        have TS := Lib.hid (take_same T.out h1 h2)
        have NE := Lib.hid (ne_take h1 h2)
        obtain ⟨x, hx⟩ : ∃ x, L[k] = x := ⟨_, rfl⟩
        obtain ⟨y, hy⟩ : ∃ y, M[k] = y := ⟨_, rfl⟩
        rw [hx] at d0 TS NE
        rw [hy] at d1 TS NE
        have z1 := Nat.lt_of_lt_of_le hb B.out.size
        have z2 := Nat.lt_of_lt_of_le hb2 B.out.size
        clear c0 e0 hx hy
        by_cases hxy : x = y
        · subst hxy
          have TN := Lib.hid (TS.out.2 rfl)
          clear TS NE
          go_wp2
          go_region
          all_goals
            go_wp2
            go_roundw
            case rel => exact ⟨k + 1, by go_num, by rw [LE.out]; omega, TN.out, B.out.trans ((Below.refl _ _).drew.mono B.out.size)⟩
            case measure => (simp [intOf] <;> omega)
        · have hno := Lib.hid (NE.out hxy)
          have q1 : (x == y) = false := by simpa using hxy
          have q2 : (x != y) = true := by simpa using hxy
          clear TS NE
          go_wp2
          go_region
          all_goals
            go_wp2
            go_ret
            exact ⟨ret_bool (by rw [decide_eq_false hno.out]), B.out.trans ((Below.refl _ _).drew.mono B.out.size)⟩
      · obtain rfl : k = nL := by omega
        have ht := T.out
        rw [List.take_of_length_le (by rw [LE.out]; exact Nat.le_refl _), List.take_of_length_le (by rw [ME.out]; exact Nat.le_refl _)] at ht
        have T2 := Lib.hid ht
        clear ht
        go_wp2
        go_ret
        exact ⟨ret_bool (by rw [decide_eq_true T2.out]), B.out⟩
  · have hno : L ≠ M := fun e => hne (by rw [← LE.out, ← ME.out, e])
    have NO := Lib.hid hno
    have q1 : ((nL : Int) == nM) = false := by rw [beq_eq_false_iff_ne]; omega
    have q2 : ((nL : Int) != nM) = true := by simpa [bne] using q1
    clear hno
    go_enter Tryz.func26, Tryz.ntmps26
    go_wp2
    go_ret
    exact ⟨ret_bool (by rw [decide_eq_false NO.out]), Below.refl _ _⟩
theorem guardE : Tryz.prog.eqGuardType Tryz.prog.depth 29 = false := by kernel_rfl
theorem heldE : Tryz.prog.stoodInHeld 29 = false := by kernel_rfl
theorem edge_beq (a1 a2 a3 b1 b2 b3 : Int) (s t : List UInt8) : (a1 == b1 && (a2 == b2 && (a3 == b3 && (bs s).toList == (bs t).toList))) = decide ((a1, a2, a3, s) = (b1, b2, b3, t)) := by
  rw [toList_data, toList_data, bs_data, bs_data, Bool.eq_iff_iff]
  simp
theorem neq_edge (w : World) (a1 a2 a3 b1 b2 b3 : Int) (s t : List UInt8) (r : Bool) (hr : (a1 == b1 && (a2 == b2 && (a3 == b3 && (bs s).toList == (bs t).toList))) = !r) :
    (binOp .neq 29 (.agg #[.int .i64 a1, .int .i64 a2, .int .i64 a3, .string (bs s)]) (.agg #[.int .i64 b1, .int .i64 b2, .int .i64 b3, .string (bs t)])).run Tryz.prog w = .ok (.bool r) w := by
  have hu := Tryz.underlying29
  have hi := Tryz.underlying3
  have hs := Tryz.underlying9
  rw [run_neq_struct]
  have h := run_equalIn_agg (P := Tryz.prog) w 9999 29 #[.int .i64 a1, .int .i64 a2, .int .i64 a3, .string (bs s)] #[.int .i64 b1, .int .i64 b2, .int .i64 b3, .string (bs t)] (by kernel_rfl) heldE
  rw [h]
  unfold Program.fieldsOf
  rw [hu]
  simp [Op.eqFields, go_sem]
  have h0 : r = !(a1 == b1 && (a2 == b2 && (a3 == b3 && (bs s).toList == (bs t).toList))) := by rw [hr]; simp
  subst h0
  by_cases h1 : a1 = b1
  · by_cases h2 : a2 = b2
    · by_cases h3 : a3 = b3
      · by_cases h4 : (bs s).toList = (bs t).toList
        · simp [h1, h2, h3, h4]
        · simp [h1, h2, h3, h4]
      · simp [h1, h2, h3]
    · simp [h1, h2]
  · simp [h1]
set_option maxHeartbeats 4000000 in
set_option maxRecDepth 100000 in
theorem equalE (v u : Value) (L M : List Edg) (w : World) (hv : EdsAt w v L) (hu : EdsAt w u M) (hl : L.length ≤ 1000000) (hm : M.length ≤ 1000000) :
    Calls Tryz.prog 27 #[v, u] w fun e w' => e = .returned (.bool (decide (L = M))) ∧ Below w.heap.size w w' := by
  have HV := Lib.hid hv
  have HU := Lib.hid hu
  obtain ⟨nL, hnL⟩ : ∃ n, L.length = n := ⟨_, rfl⟩
  obtain ⟨nM, hnM⟩ : ∃ n, M.length = n := ⟨_, rfl⟩
  obtain ⟨A, c, e⟩ := hv.form
  rw [hnL] at e hl
  subst e
  obtain ⟨A2, c2, e⟩ := hu.form
  rw [hnM] at e hm
  subst e
  have LE := Lib.hid hnL
  have ME := Lib.hid hnM
  clear hv hu hnL hnM
  by_cases hne : nL = nM
  · subst hne
    go_enter Tryz.func27, Tryz.ntmps27
    go_wp2
    go_loopw [13] (fun iv wr => EqRel L M w wr iv) (fun iv _ => nL - (intOf iv).toNat)
    case atStart => exact ⟨0, rfl, Nat.zero_le _, rfl, Below.refl _ _⟩
    case round =>
      obtain ⟨k, rfl, hk, ht, hB⟩ := hrel
      rw [LE.out] at hk
      have B := Lib.hid hB
      have T := Lib.hid ht
      clear hB ht
      by_cases hlt : k < nL
      · have h1 : k < L.length := by rw [LE.out]; exact hlt
        have h2 : k < M.length := by rw [ME.out]; exact hlt
        obtain ⟨b, o, c', e, hb, c0, c1, c3, c4⟩ := HV.out.nth h1
        rw [LE.out] at e
        simp only [Value.slice.injEq, true_and] at e
        obtain ⟨rfl, rfl⟩ := e
        obtain ⟨b2, o2, c2', e, hb2, e0, e1, e3, e4⟩ := HU.out.nth h2
        rw [ME.out] at e
        simp only [Value.slice.injEq, true_and] at e
        obtain ⟨rfl, rfl⟩ := e
        have d0 := (B.out.cell (p := ⟨b, o + k * 4, none⟩) hb).trans c0
        have d1 := (B.out.cell (p := ⟨b, o + k * 4 + 1, none⟩) hb).trans c1
        have d2 := (B.out.cell (p := ⟨b, o + k * 4 + 2, none⟩) hb).trans c3
        have d3 := (B.out.cell (p := ⟨b, o + k * 4 + 3, none⟩) hb).trans c4
        have f0 := (B.out.cell (p := ⟨b2, o2 + k * 4, none⟩) hb2).trans e0
        have f1 := (B.out.cell (p := ⟨b2, o2 + k * 4 + 1, none⟩) hb2).trans e1
        have f2 := (B.out.cell (p := ⟨b2, o2 + k * 4 + 2, none⟩) hb2).trans e3
        have f3 := (B.out.cell (p := ⟨b2, o2 + k * 4 + 3, none⟩) hb2).trans e4
        have TS := Lib.hid (take_same T.out h1 h2)
        have NE := Lib.hid (ne_take h1 h2)
        obtain ⟨x, hx⟩ : ∃ x, L[k] = x := ⟨_, rfl⟩
        obtain ⟨y, hy⟩ : ∃ y, M[k] = y := ⟨_, rfl⟩
        rw [hx] at d0 d1 d2 d3 TS NE
        rw [hy] at f0 f1 f2 f3 TS NE
        have z1 := Nat.lt_of_lt_of_le hb B.out.size
        have z2 := Nat.lt_of_lt_of_le hb2 B.out.size
        clear c0 c1 c3 c4 e0 e1 e3 e4 hx hy
        obtain ⟨x1, x2, x3, x4⟩ := x
        obtain ⟨y1, y2, y3, y4⟩ := y
        simp only at d0 d1 d2 d3 f0 f1 f2 f3
        by_cases hxy : (x1, x2, x3, x4) = (y1, y2, y3, y4)
        · have hq := fun W => neq_edge W x1 x2 x3 y1 y2 y3 x4 y4 false (by rw [edge_beq, hxy]; simp)
          have HXY := Lib.hid hxy
          clear hxy
          have TN := Lib.hid (TS.out.2 HXY.out)
          clear TS NE
          go_wp2
          go_region
          all_goals
            go_wp2
            go_roundw
            case rel => exact ⟨k + 1, by go_num, by rw [LE.out]; omega, TN.out, B.out.trans ((Below.refl _ _).drew.mono B.out.size)⟩
            case measure => (simp [intOf] <;> omega)
        · have hno := Lib.hid (NE.out hxy)
          have hq := fun W => neq_edge W x1 x2 x3 y1 y2 y3 x4 y4 true (by rw [edge_beq, decide_eq_false hxy]; rfl)
          clear hxy
          clear TS NE
          go_wp2
          go_region
          all_goals
            go_wp2
            go_ret
            exact ⟨ret_bool (by rw [decide_eq_false hno.out]), B.out.trans ((Below.refl _ _).drew.mono B.out.size)⟩
      · obtain rfl : k = nL := by omega
        have ht := T.out
        rw [List.take_of_length_le (by rw [LE.out]; exact Nat.le_refl _), List.take_of_length_le (by rw [ME.out]; exact Nat.le_refl _)] at ht
        have T2 := Lib.hid ht
        clear ht
        go_wp2
        go_ret
        exact ⟨ret_bool (by rw [decide_eq_true T2.out]), B.out⟩
  · have hno : L ≠ M := fun e => hne (by rw [← LE.out, ← ME.out, e])
    have NO := Lib.hid hno
    have q1 : ((nL : Int) == nM) = false := by rw [beq_eq_false_iff_ne]; omega
    have q2 : ((nL : Int) != nM) = true := by simpa [bne] using q1
    clear hno
    go_enter Tryz.func27, Tryz.ntmps27
    go_wp2
    go_ret
    exact ⟨ret_bool (by rw [decide_eq_false NO.out]), Below.refl _ _⟩
end Go.Proofs.YtgchmoabhblmcaaGreatDoor
