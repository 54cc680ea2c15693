/-
  DagMoved: the walk. Conditions: none (numbers within their types).
-/
import Derived.Test.YtnofkddcnjdjnaaDagMv
namespace Go.Proofs.Ytnofkddcnjdjnaa
open Go.RowKit Go.Proofs.Ytnofkddcnjdjnaa.DagM

theorem TriAt.below {w w' : World} {A : Option Addr} {n : Nat} {D : Nat → Int × Int × Int} (h : TriAt w A n D) (o : Below w.heap.size w w') : TriAt w' A n D := by
  refine ⟨fun h0 => ?_, h.r⟩
  obtain ⟨b, o', e, hb, hc⟩ := h.at_ h0
  refine ⟨b, o', e, Nat.lt_of_lt_of_le hb o.size, fun k hk => ?_⟩
  rw [o.cell (p := ⟨b, o' + k * 3, none⟩) hb, o.cell (p := ⟨b, o' + k * 3 + 1, none⟩) hb, o.cell (p := ⟨b, o' + k * 3 + 2, none⟩) hb]
  exact hc k hk
/-- What the four costs are, in two numbers. -/
theorem four_costs {n : Nat} {K : List Arc} {X : List Int} (by_ : Int) (hR : Rise n K) (hn : n ≤ 12) (hl : X.length = n) (hb : ∀ v ∈ X, -1000 ≤ v ∧ v ≤ 1000) (hy : -32768 ≤ by_ ∧ by_ ≤ 32767) :
    ∃ E C : Int, 0 ≤ C ∧ C ≤ 1000000 ∧ (costErr n K X = E ∧ costVal n K X = C) ∧ (costErr n K (X.map fun v => v + by_) = E ∧ costVal n K (X.map fun v => v + by_) = C) ∧
      (costErr n (rev K) (X.map fun v => -v) = E ∧ costVal n (rev K) (X.map fun v => -v) = C) ∧ (costErr n K (X.map fun v => 3 * v) = E ∧ costVal n K (X.map fun v => 3 * v) = 3 * C) := by
  have ho := hR.ord (by omega)
  have ho2 := rev_ord hR (by omega)
  have hin : ∀ a ∈ K, a.1.toNat < X.length ∧ a.2.1.toNat < X.length := fun a ha => by have := hR.ok a ha; omega
  have e1 := err_of ho (coord_of hl (fun v hv => by have := hb v hv; omega))
  have e2 := err_of ho (coord_of (n := n) (l := X.map fun v => v + by_) (by simpa using hl) (fun v hv => by
    obtain ⟨u, hu, rfl⟩ := List.mem_map.1 hv
    have := hb u hu; omega))
  have e3 := err_of ho2 (coord_of (n := n) (l := X.map fun v => -v) (by simpa using hl) (fun v hv => by
    obtain ⟨u, hu, rfl⟩ := List.mem_map.1 hv
    have := hb u hu; omega))
  have e4 := err_of ho (coord_of (n := n) (l := X.map fun v => 3 * v) (by simpa using hl) (fun v hv => by
    obtain ⟨u, hu, rfl⟩ := List.mem_map.1 hv
    have := hb u hu; omega))
  rw [fit_map (fun v => v + by_) (fun a b => by omega) hin] at e2
  rw [rev_fit hin] at e3
  rw [fit_map (fun v => 3 * v) (fun a b => by omega) hin] at e4
  have s2 := sum_map (K := K) (X := X) (fun v => v + by_) 1 (fun a b => by omega) hin
  have s3 := rev_sum hin
  have s4 := sum_map (K := K) (X := X) (fun v => 3 * v) 3 (fun a b => by omega) hin
  cases hf : fitB X K with
  | true =>
    have hs := sum_near hR hb hl hf
    have hK := hR.len
    rw [hf] at e1 e2 e3 e4
    simp only [if_true] at e1 e2 e3 e4
    refine ⟨0, costSum X K, hs.1, by omega, ⟨e1, ?_⟩, ⟨e2, ?_⟩, ⟨e3, ?_⟩, ⟨e4, ?_⟩⟩
    · unfold costVal; rw [if_pos e1]
    · unfold costVal; rw [if_pos e2, s2, Int.one_mul]
    · unfold costVal; rw [if_pos e3, s3]
    · unfold costVal; rw [if_pos e4, s4]
  | false =>
    rw [hf] at e1 e2 e3 e4
    have e1' : costErr n K X = 15 := e1
    have e2' : costErr n K (X.map fun v => v + by_) = 15 := e2
    have e3' : costErr n (rev K) (X.map fun v => -v) = 15 := e3
    have e4' : costErr n K (X.map fun v => 3 * v) = 15 := e4
    refine ⟨15, 0, Int.le_refl _, by omega, ⟨e1', ?_⟩, ⟨e2', ?_⟩, ⟨e3', ?_⟩, ⟨e4', ?_⟩⟩
    · unfold costVal; rw [e1']; rfl
    · unfold costVal; rw [e2']; rfl
    · unfold costVal; rw [e3']; rfl
    · unfold costVal; rw [e4']; rfl

set_option maxHeartbeats 8000000 in
set_option maxRecDepth 100000 in
theorem moved (N : Int) (A : Option Addr) (len cap : Nat) (D : Nat → Int × Int × Int) (xv : Value) (xs : List Int) (by_ : Int) (w : World) (hN0 : 0 ≤ N) (hN1 : N ≤ 255) (hT : TriAt w A len D) (hX : IntsAt w xv xs) (hy0 : -32768 ≤ by_) (hy1 : by_ ≤ 32767) :
    Calls Try.prog 8 #[.agg #[.int .u8 N, .slice A len cap], xv, .int .i16 by_] w fun e w' => e = .returned (.bool true) ∧ Below w.heap.size w w' := by
  have T := Lib.hid hT
  have XS := Lib.hid hX
  clear hT
  obtain ⟨i0, hi, hz0, hz1, hz2⟩ := info_parts infoI
  obtain ⟨i1, hj', hw0, hw1, hw2⟩ := info_parts infoA3
  obtain ⟨Ax, cx, rfl, hcx, -⟩ := hX
  go_enter Try.func8, Try.ntmps8
  go_wp2_with (go_at_call 31; refine (make_ N A len cap 12 D _ hN0 hN1 (by decide) (by decide) (T.out.below ((Below.refl _ _).alloc (Nat.le_refl _) _))).mono ?_; rintro e w1 ⟨n, vK, K, rfl, hn12, hRi, hO, hb⟩; obtain ⟨aK, cK, rfl⟩ := hO.form; have R := Lib.hid hRi; have OK := Lib.hid hO; have B1 : Hid (Below w.heap.size w w1) := Lib.hid (((Below.refl _ _).alloc (Nat.le_refl _) _).trans (hb.mono (by simp))); have z1 : w.heap.size ≤ w1.heap.size := B1.out.size; clear hRi hO hb)
  go_loopw [9, 10, 11, 12, 32] (fun a b c d iv wr => MvRel n by_ w1 wr a b c d iv) (fun _ _ _ _ iv _ => n - (intOf iv).toNat)
  case atStart => exact ⟨0, [], rfl, by omega, rfl, fun v hv => by simp at hv, ⟨Below.refl _ _, World.ownsRow_nil _ _ _ _, World.ownsRow_nil _ _ _ _, World.ownsRow_nil _ _ _ _, World.ownsRow_nil _ _ _ _, fun i e => by simp [Value.ownBlock] at e, fun i e => by simp [Value.ownBlock] at e, fun i e => by simp [Value.ownBlock] at e, fun i e => by simp [Value.ownBlock] at e, fun i e => by simp [Value.ownBlock] at e, fun i e => by simp [Value.ownBlock] at e⟩⟩
  case round =>
    obtain ⟨k, X, rfl, hk, hXl, hXb, hF⟩ := hrel
    have F := Lib.hid hF
    have XL := Lib.hid hXl
    have XB := Lib.hid hXb
    have hwz := hF.below.size
    obtain ⟨ao1, cp1, e1⟩ := hF.ra.form
    obtain ⟨ao2, cp2, e2⟩ := hF.rb.form
    obtain ⟨ao3, cp3, e3⟩ := hF.rc.form
    obtain ⟨ao4, cp4, e4⟩ := hF.rd.form
    rw [List.length_map] at e2 e3 e4
    subst e1 e2 e3 e4
    have hX12 : X.length ≤ 12 := by omega
    clear hXl hXb hF
    by_cases hlt : k < n
    · by_cases hx : k < xs.length
      · obtain ⟨bx, ox, cx', e, hbx, x0⟩ := XS.out.at_ hx
        simp only [Value.slice.injEq, true_and] at e
        obtain ⟨rfl, rfl⟩ := e
        have hbb := B1.out.trans (F.out.below.mono z1)
        have y0 := (hbb.cell (p := ⟨bx, ox + k, none⟩) hbx).trans x0
        clear x0 hbb
        generalize val xs k = u at *
        obtain ⟨z, hz⟩ : ∃ z : Int, u.tmod 30 = z := ⟨_, rfl⟩
        have hza : -29 ≤ z ∧ z ≤ 29 := by have h1 := Int.lt_tmod_of_pos u (b := 30) (by omega); have h2 := Int.tmod_lt_of_pos u (b := 30) (by omega); omega
        obtain ⟨hza1, hza2⟩ := hza
        obtain ⟨y, hy⟩ : ∃ y : Int, 20 * (k : Int) + z = y := ⟨_, rfl⟩
        have hy2 : -29 ≤ y := by omega
        have hy3 : y ≤ 300 := by omega
        go_wp2_with (first
          | (at_builtin; refine wpList_append_fresh rfl (.tmp 48) (.tmp 50) 51 rfl w1.heap.size 3 i0 (.int .i64 0) 1 8 Try.underlying51 hi hz0 hz1 hz2 rfl (by decide) (.slice ao1 X.length cp1) X.length (X.map (Value.int .i64)) rfl (by simpa [OwnI] using (F.out.quiet ((Below.refl _ _).alloc (Nat.le_refl _) _)).ra) ⟨wr.heap.size, 0, none⟩ 1 1 [.int .i64 (y)] rfl rfl (newsI _ _ _ _ (by simp)) (oneI _) (by unfold maxLen; omega) (by omega) (by simp; omega) ?_; intro v5 w5 hown hgrow hfr; have F5 := Lib.hid (((F.out.quiet ((Below.refl _ _).alloc (Nat.le_refl _) _)).app (x := y) (by simpa using hown) hgrow hfr).turn); have z5 : w1.heap.size ≤ w5.heap.size := F5.out.below.size; obtain ⟨g5, c5, rfl, _, _, _⟩ := ownsRow_form hown (by omega); clear hown hgrow hfr)
          | (at_builtin; refine wpList_append_fresh rfl (.tmp 52) (.tmp 57) 51 rfl w1.heap.size 3 i0 (.int .i64 0) 1 8 Try.underlying51 hi hz0 hz1 hz2 rfl (by decide) (.slice ao2 X.length cp2) X.length ((X.map fun v => v + by_).map (Value.int .i64)) rfl (by simpa [OwnI] using (F5.out.quiet ((Below.refl _ _).alloc (Nat.le_refl _) _)).ra) ⟨w5.heap.size, 0, none⟩ 1 1 [.int .i64 (y + by_)] rfl rfl (newsI _ _ _ _ (by simp)) (oneI _) (by unfold maxLen; omega) (by omega) (by simp; omega) ?_; intro v6 w6 hown hgrow hfr; have F6 := Lib.hid (((F5.out.quiet ((Below.refl _ _).alloc (Nat.le_refl _) _)).app (x := y + by_) (by simpa using hown) hgrow hfr).turn); have z6 : w1.heap.size ≤ w6.heap.size := F6.out.below.size; obtain ⟨g6, c6, rfl, _, _, _⟩ := ownsRow_form hown (by omega); clear hown hgrow hfr)
          | (at_builtin; refine wpList_append_fresh rfl (.tmp 59) (.tmp 62) 51 rfl w1.heap.size 3 i0 (.int .i64 0) 1 8 Try.underlying51 hi hz0 hz1 hz2 rfl (by decide) (.slice ao3 X.length cp3) X.length ((X.map fun v => -v).map (Value.int .i64)) rfl (by simpa [OwnI] using (F6.out.quiet ((Below.refl _ _).alloc (Nat.le_refl _) _)).ra) ⟨w6.heap.size, 0, none⟩ 1 1 [.int .i64 (-y)] rfl rfl (newsI _ _ _ _ (by simp)) (oneI _) (by unfold maxLen; omega) (by omega) (by simp; omega) ?_; intro v7 w7 hown hgrow hfr; have F7 := Lib.hid (((F6.out.quiet ((Below.refl _ _).alloc (Nat.le_refl _) _)).app (x := -y) (by simpa using hown) hgrow hfr).turn); have z7 : w1.heap.size ≤ w7.heap.size := F7.out.below.size; obtain ⟨g7, c7, rfl, _, _, _⟩ := ownsRow_form hown (by omega); clear hown hgrow hfr)
          | (at_builtin; refine wpList_append_fresh rfl (.tmp 64) (.tmp 67) 51 rfl w1.heap.size 3 i0 (.int .i64 0) 1 8 Try.underlying51 hi hz0 hz1 hz2 rfl (by decide) (.slice ao4 X.length cp4) X.length ((X.map fun v => 3 * v).map (Value.int .i64)) rfl (by simpa [OwnI] using (F7.out.quiet ((Below.refl _ _).alloc (Nat.le_refl _) _)).ra) ⟨w7.heap.size, 0, none⟩ 1 1 [.int .i64 (3 * y)] rfl rfl (newsI _ _ _ _ (by simp)) (oneI _) (by unfold maxLen; omega) (by omega) (by simp; omega) ?_; intro v8 w8 hown hgrow hfr; have F8 := Lib.hid (((F7.out.quiet ((Below.refl _ _).alloc (Nat.le_refl _) _)).app (x := 3 * y) (by simpa using hown) hgrow hfr).turn); have z8 : w1.heap.size ≤ w8.heap.size := F8.out.below.size; obtain ⟨g8, c8, rfl, _, _, _⟩ := ownsRow_form hown (by omega); clear hown hgrow hfr))
        go_roundw
        case rel =>
          refine ⟨k + 1, X ++ [y], by go_num, by omega, by simp [XL.out], fun v hv => ?_, ?_⟩
          · rcases List.mem_append.1 hv with hv | hv
            · exact XB.out v hv
            · obtain rfl := List.mem_singleton.1 hv
              omega
          · simpa using F8.out
        case measure => simp [intOf]; omega
      · obtain ⟨y, hy⟩ : ∃ y : Int, 20 * (k : Int) = y := ⟨_, rfl⟩
        have hy2 : -29 ≤ y := by omega
        have hy3 : y ≤ 300 := by omega
        go_wp2_with (first
          | (at_builtin; refine wpList_append_fresh rfl (.tmp 48) (.tmp 50) 51 rfl w1.heap.size 3 i0 (.int .i64 0) 1 8 Try.underlying51 hi hz0 hz1 hz2 rfl (by decide) (.slice ao1 X.length cp1) X.length (X.map (Value.int .i64)) rfl (by simpa [OwnI] using (F.out.quiet ((Below.refl _ _).alloc (Nat.le_refl _) _)).ra) ⟨wr.heap.size, 0, none⟩ 1 1 [.int .i64 (y)] rfl rfl (newsI _ _ _ _ (by simp)) (oneI _) (by unfold maxLen; omega) (by omega) (by simp; omega) ?_; intro v5 w5 hown hgrow hfr; have F5 := Lib.hid (((F.out.quiet ((Below.refl _ _).alloc (Nat.le_refl _) _)).app (x := y) (by simpa using hown) hgrow hfr).turn); have z5 : w1.heap.size ≤ w5.heap.size := F5.out.below.size; obtain ⟨g5, c5, rfl, _, _, _⟩ := ownsRow_form hown (by omega); clear hown hgrow hfr)
          | (at_builtin; refine wpList_append_fresh rfl (.tmp 52) (.tmp 57) 51 rfl w1.heap.size 3 i0 (.int .i64 0) 1 8 Try.underlying51 hi hz0 hz1 hz2 rfl (by decide) (.slice ao2 X.length cp2) X.length ((X.map fun v => v + by_).map (Value.int .i64)) rfl (by simpa [OwnI] using (F5.out.quiet ((Below.refl _ _).alloc (Nat.le_refl _) _)).ra) ⟨w5.heap.size, 0, none⟩ 1 1 [.int .i64 (y + by_)] rfl rfl (newsI _ _ _ _ (by simp)) (oneI _) (by unfold maxLen; omega) (by omega) (by simp; omega) ?_; intro v6 w6 hown hgrow hfr; have F6 := Lib.hid (((F5.out.quiet ((Below.refl _ _).alloc (Nat.le_refl _) _)).app (x := y + by_) (by simpa using hown) hgrow hfr).turn); have z6 : w1.heap.size ≤ w6.heap.size := F6.out.below.size; obtain ⟨g6, c6, rfl, _, _, _⟩ := ownsRow_form hown (by omega); clear hown hgrow hfr)
          | (at_builtin; refine wpList_append_fresh rfl (.tmp 59) (.tmp 62) 51 rfl w1.heap.size 3 i0 (.int .i64 0) 1 8 Try.underlying51 hi hz0 hz1 hz2 rfl (by decide) (.slice ao3 X.length cp3) X.length ((X.map fun v => -v).map (Value.int .i64)) rfl (by simpa [OwnI] using (F6.out.quiet ((Below.refl _ _).alloc (Nat.le_refl _) _)).ra) ⟨w6.heap.size, 0, none⟩ 1 1 [.int .i64 (-y)] rfl rfl (newsI _ _ _ _ (by simp)) (oneI _) (by unfold maxLen; omega) (by omega) (by simp; omega) ?_; intro v7 w7 hown hgrow hfr; have F7 := Lib.hid (((F6.out.quiet ((Below.refl _ _).alloc (Nat.le_refl _) _)).app (x := -y) (by simpa using hown) hgrow hfr).turn); have z7 : w1.heap.size ≤ w7.heap.size := F7.out.below.size; obtain ⟨g7, c7, rfl, _, _, _⟩ := ownsRow_form hown (by omega); clear hown hgrow hfr)
          | (at_builtin; refine wpList_append_fresh rfl (.tmp 64) (.tmp 67) 51 rfl w1.heap.size 3 i0 (.int .i64 0) 1 8 Try.underlying51 hi hz0 hz1 hz2 rfl (by decide) (.slice ao4 X.length cp4) X.length ((X.map fun v => 3 * v).map (Value.int .i64)) rfl (by simpa [OwnI] using (F7.out.quiet ((Below.refl _ _).alloc (Nat.le_refl _) _)).ra) ⟨w7.heap.size, 0, none⟩ 1 1 [.int .i64 (3 * y)] rfl rfl (newsI _ _ _ _ (by simp)) (oneI _) (by unfold maxLen; omega) (by omega) (by simp; omega) ?_; intro v8 w8 hown hgrow hfr; have F8 := Lib.hid (((F7.out.quiet ((Below.refl _ _).alloc (Nat.le_refl _) _)).app (x := 3 * y) (by simpa using hown) hgrow hfr).turn); have z8 : w1.heap.size ≤ w8.heap.size := F8.out.below.size; obtain ⟨g8, c8, rfl, _, _, _⟩ := ownsRow_form hown (by omega); clear hown hgrow hfr))
        go_roundw
        case rel =>
          refine ⟨k + 1, X ++ [y], by go_num, by omega, by simp [XL.out], fun v hv => ?_, ?_⟩
          · rcases List.mem_append.1 hv with hv | hv
            · exact XB.out v hv
            · obtain rfl := List.mem_singleton.1 hv
              omega
          · simpa using F8.out
        case measure => simp [intOf]; omega
    · obtain hkn : n = k := by omega
      subst hkn
      clear hlt hk
      have h4 := four_costs by_ R.out hn12 XL.out XB.out ⟨hy0, hy1⟩
      obtain ⟨E, C, hC0, hC1, v1, v2, v3, v4⟩ := h4
      have V1 := Lib.hid v1
      have V2 := Lib.hid v2
      have V3 := Lib.hid v3
      have V4 := Lib.hid v4
      have VR := Lib.hid (rev_ord R.out (by omega))
      have AK := Lib.hid (OK.out.arcs.below F.out.below)
      have hKl := R.out.len
      have hbw : Below w.heap.size w wr := B1.out.trans (F.out.below.mono z1)
      have BW := Lib.hid hbw
      have hwr := hbw.size
      clear v1 v2 v3 v4 hbw OK XB
      go_wp2
      obtain ⟨wb, rfl⟩ : ∃ W, W = wr := ⟨_, rfl⟩
      go_loopw [15, 72] (fun lv iv wr => BkRel K wb wr lv iv) (fun _ iv _ => K.length - (intOf iv).toNat)
      case atStart => exact ⟨0, rfl, by omega, Below.refl _ _, World.ownsRow_nil _ _ _ _⟩
      case round =>
        obtain ⟨j, rfl, hj, hB, hO⟩ := hrel
        have B := Lib.hid hB
        have O := Lib.hid hO
        have hbz := hB.size
        obtain ⟨ao, cp, ho⟩ := hO.form
        have hrl : (rev (K.take j)).length = j := by simp [rev]; omega
        rw [hrl] at ho
        subst ho
        have RL := Lib.hid hrl
        clear hB hO hrl
        by_cases hlt : j < K.length
        · obtain ⟨A', cap', e, _, hA⟩ := AK.out
          simp only [Value.slice.injEq, true_and] at e
          obtain ⟨rfl, rfl⟩ := e
          obtain ⟨b, o, rfl, hb, hcell⟩ := hA (by omega)
          obtain ⟨c0, c1, c2⟩ := hcell j hlt
          have d0 := (B.out.cell (p := ⟨b, o + j * 3, none⟩) hb).trans c0
          have d1 := (B.out.cell (p := ⟨b, o + j * 3 + 1, none⟩) hb).trans c1
          have d2 := (B.out.cell (p := ⟨b, o + j * 3 + 2, none⟩) hb).trans c2
          have RS := Lib.hid (rev_snoc K j hlt)
          clear hA hcell c0 c1 c2
          generalize K[j] = a at *
          obtain ⟨x, y, z⟩ := a
          simp only at d0 d1 d2
          have OL : Hid (OwnA wr wb.heap.size (.slice ao j cp) (rev (K.take j)) ∧ (rev (K.take j)).length = j) := Lib.hid ⟨O.out, RL.out⟩
          go_wp2_with (at_builtin; refine wpList_append_fresh rfl (.tmp 76) (.tmp 84) 47 rfl wb.heap.size 76 i1 (.agg #[.int .i64 0, .int .i64 0, .int .i64 0]) 3 24 Try.underlying47 hj' hw0 hw1 hw2 rfl (by decide) (.slice ao j cp) j ((rev (K.take j)).flatMap encA) rfl (by have h := O.out.below (((Below.refl _ _).alloc (Nat.le_refl _) (.cells #[.int .i64 x, .int .i64 y, .int .i64 z] 76)).alloc (by simp) (.cells #[.int .i64 y, .int .i64 x, .int .i64 z] 76)); unfold OwnA at h; rw [RL.out] at h; exact h) ⟨wr.heap.size + 1, 0, none⟩ 1 1 (encA (y, x, z)) rfl rfl (newsA _ _ _ _ (by simp)) (encA_one _) (by unfold maxLen; omega) (by omega) (by simp; omega) ?_; intro v5 w5 hown hgrow hfr; obtain ⟨o5, b5⟩ := arc_app (K := rev (K.take j)) (B.out.trans (((((Below.refl _ _).alloc (Nat.le_refl _) _).alloc (by simp) _)).mono hbz)) (O.out.below (((Below.refl _ _).alloc (Nat.le_refl _) _).alloc (by simp) _)) (by rw [RL.out]; exact hown) hgrow; have O5 := Lib.hid o5; have B5 := Lib.hid b5; clear hown hgrow hfr o5 b5)
          go_roundw
          case rel => exact ⟨j + 1, by go_num, by omega, B5.out, by rw [RS.out]; exact O5.out⟩
          case measure => simp [intOf]; omega
        · obtain hjl : K.length = j := by omega
          subst hjl
          have hre := O.out
          rw [List.take_length] at hre
          have AB := Lib.hid hre.arcs
          have AK2 := Lib.hid (AK.out.below B.out)
          have I1 := Lib.hid (F.out.ra.ints.below B.out)
          have I2 := Lib.hid (F.out.rb.ints.below B.out)
          have I3 := Lib.hid (F.out.rc.ints.below B.out)
          have I4 := Lib.hid (F.out.rd.ints.below B.out)
          have BZ := Lib.hid (BW.out.trans (B.out.mono hwr))
          clear hre O AK hlt hj RL
          go_wp2_with (first
            | (go_at_call 30; refine (wakes _).mono ?_; rintro e w9 ⟨rfl, hb⟩; have Q5 := Lib.hid (Q4.out.trans (hb.mono Q4.out.size)); clear hb)
            | (go_at_call 29; refine (check n _ (rev K) _ (AB.out.below Q5.out)).mono ?_; rintro e w10 ⟨rfl, hb⟩; rw [VR.out]; have Q6 := Lib.hid (Q5.out.trans (hb.mono Q5.out.size)); clear hb)
            | (go_at_call 32; refine (cost n _ _ K (X.map fun v => 3 * v) _ (AK2.out.below Q3.out) (I4.out.below Q3.out)).mono ?_; rintro e w8 ⟨rfl, hb⟩; rw [V4.out.1, V4.out.2]; have Q4 := Lib.hid (Q3.out.trans (hb.mono Q3.out.size)); clear hb)
            | (go_at_call 32; refine (cost n _ _ (rev K) (X.map fun v => -v) _ (AB.out.below Q2.out) (I3.out.below Q2.out)).mono ?_; rintro e w7 ⟨rfl, hb⟩; rw [V3.out.1, V3.out.2]; have Q3 := Lib.hid (Q2.out.trans (hb.mono Q2.out.size)); clear hb)
            | (go_at_call 32; refine (cost n _ _ K (X.map fun v => v + by_) _ (AK2.out.below Q1.out) (I2.out.below Q1.out)).mono ?_; rintro e w6 ⟨rfl, hb⟩; rw [V2.out.1, V2.out.2]; have Q2 := Lib.hid (Q1.out.trans (hb.mono Q1.out.size)); clear hb)
            | (go_at_call 32; refine (cost n _ _ K X _ AK2.out I1.out).mono ?_; rintro e w5 ⟨rfl, hb⟩; rw [V1.out.1, V1.out.2]; have Q1 := Lib.hid hb; clear hb))
          go_ret
          exact ⟨rfl, BZ.out.trans (Q6.out.mono BZ.out.size)⟩
end Go.Proofs.Ytnofkddcnjdjnaa
