/-
  FaceSums: the walk: at all places the call answers true and turns nothing that was there. Conditions: the ways read as the program lays them.
-/
import Derived.Test.YtkgabklponjagaaDoorFcK
import Derived.Test.YtkgabklponjagaaDoorFcO
import Derived.Test.YtkgabklponjagaaDoorFcP
import Derived.Test.YtkgabklponjagaaDoorFcQ
namespace Go.Proofs.YtkgabklponjagaaDoor
open Go.RowKit Go.Proofs.YtkgabklponjagaaDoor.GrM Go.Proofs.YtkgabklponjagaaDoor.FcM

theorem trQ_map {L : List Int} {n : Nat} (h0 : chkG L n = 0) : ∀ {x : List Nat}, (∀ k ∈ x, isK L n k) → (x.map pairK).map (trQ L n) = x.map (trnK L)
  | [], _ => rfl
  | k :: x, h => by
    have ih := trQ_map h0 (x := x) (fun j hj => h j (by simp [hj]))
    have hk := okQ_dart h0 (h k (by simp))
    simp only [List.map_cons, ih]
    congr 1
    unfold trQ
    rw [if_pos hk, dk_pair]
theorem rot_sm (L : List Int) (x : List Nat) : rotI (x.map (trnK L)) = smF (trnK L) x := by
  have : ∀ (x : List Nat) (s : Int), (x.map (trnK L)).foldl rotS s = s + smF (trnK L) x := by
    intro x
    induction x with
    | nil => intro s; simp [smF]
    | cons k x ih =>
      intro s
      have hr := trn_range L k
      simp only [List.map_cons, List.foldl_cons, smF]
      rw [ih, show rotS s (trnK L k) = s + trnK L k by unfold rotS; rw [if_pos hr]]
      omega
  have := this x 0
  unfold rotI
  omega
theorem sm_range (L : List Int) : ∀ x : List Nat, -(2 * (x.length : Int)) ≤ smF (trnK L) x ∧ smF (trnK L) x ≤ x.length
  | [] => by simp [smF]
  | k :: x => by
    have := sm_range L x
    have := trn_range L k
    simp only [smF, List.length_cons]
    omega
theorem take_flat {F : List (List Nat)} {i : Nat} (h : i < F.length) : (F.take (i + 1)).flatten = (F.take i).flatten ++ F.getD i [] := by
  rw [List.take_succ_eq_append_getElem h, List.flatten_append]
  simp [List.getD_eq_getElem?_getD, h]
theorem flat_le {F : List (List Nat)} (i : Nat) : (F.take i).flatten.length ≤ F.flatten.length := by
  conv => rhs; rw [← List.take_append_drop i F]
  rw [List.flatten_append, List.length_append]; omega
theorem pairF_at {F : List (List Nat)} {i : Nat} (h : i < F.length) : (pairF F).getD i [] = (F.getD i []).map pairK := by unfold pairF; simp [List.getD_eq_getElem?_getD, h]
theorem any_is (L : List Int) (v : Nat) : anyB L v = !(nxG L v 0 == -1 && nxG L v 1 == -1 && nxG L v 2 == -1 && nxG L v 3 == -1) := by
  have b0 : isB L (4 * v) = decide (nxG L v 0 ≠ -1) := by unfold isB nxK; rw [show 4 * v / 4 = v by omega, show 4 * v % 4 = 0 by omega]
  have b1 : isB L (4 * v + 1) = decide (nxG L v 1 ≠ -1) := by unfold isB nxK; rw [show (4 * v + 1) / 4 = v by omega, show (4 * v + 1) % 4 = 1 by omega]
  have b2 : isB L (4 * v + 2) = decide (nxG L v 2 ≠ -1) := by unfold isB nxK; rw [show (4 * v + 2) / 4 = v by omega, show (4 * v + 2) % 4 = 2 by omega]
  have b3 : isB L (4 * v + 3) = decide (nxG L v 3 ≠ -1) := by unfold isB nxK; rw [show (4 * v + 3) / 4 = v by omega, show (4 * v + 3) % 4 = 3 by omega]
  unfold anyB
  rw [b0, b1, b2, b3]
  by_cases h0 : nxG L v 0 = -1 <;> by_cases h1 : nxG L v 1 = -1 <;> by_cases h2 : nxG L v 2 = -1 <;> by_cases h3 : nxG L v 3 = -1 <;> simp [h0, h1, h2, h3]
theorem anyN_le (L : List Int) : ∀ v, 0 ≤ anyN L v ∧ anyN L v ≤ v
  | 0 => by simp [anyN]
  | v + 1 => by have := anyN_le L v; simp only [anyN]; split <;> omega
def SuA (L : List Int) (F : List (List Nat)) (w0 wr : World) (sv dv iv : Value) : Prop := ∃ i : Nat, iv = .int .i64 i ∧ i ≤ F.length ∧ sv = .int .i64 (smF (trnK L) (F.take i).flatten) ∧ dv = .int .i64 ((F.take i).flatten.length : Nat) ∧ Below w0.heap.size w0 wr
def SuB (L : List Int) (n : Nat) (w0 wr : World) (cv iv : Value) : Prop := ∃ v : Nat, iv = .int .i64 v ∧ v ≤ n ∧ cv = .int .i64 (anyN L v) ∧ Below w0.heap.size w0 wr
set_option maxHeartbeats 16000000 in
set_option maxRecDepth 100000 in
theorem sums12 {A1 A2 A3 : Option Addr} {n1 n2 n3 : Nat} (c1 c2 c3 : Nat) {D1 D2 D3 : Nat → Int} (w : World) (h : Plane w A1 A2 A3 n1 n2 n3 D1 D2 D3) (hT : WayT w) :
    Calls Tryd.prog 5 #[.agg #[.slice A1 n1 c1, .slice A2 n2 c2, .slice A3 n3 c3]] w fun e w' => e = .returned (.bool true) ∧ Below w.heap.size w w' := by
  have HP := Lib.hid h
  have HT := Lib.hid hT
  have WK := Lib.hid (fun w hT => wakes12 w hT)
  have hneq := neq4
  clear h hT
  go_enter Tryd.func5, Tryd.ntmps5
  go_upto_region 1 with (fail)
  obtain ⟨wb, hwb⟩ : ∃ W, W = (w.alloc (.cells #[.slice A1 n1 c1, .slice A2 n2 c2, .slice A3 n3 c3] 25)) := ⟨_, rfl⟩
  have BB : Hid (Below w.heap.size w wb) := Lib.hid (by rw [hwb]; exact (Below.refl _ _).alloc (Nat.le_refl _) _)
  have x0 : wb.cell? ⟨w.heap.size, 0, none⟩ = some (.slice A1 n1 c1) := by rw [hwb]; go_simp
  have x1 : wb.cell? ⟨w.heap.size, 1, none⟩ = some (.slice A2 n2 c2) := by rw [hwb]; go_simp
  have x2 : wb.cell? ⟨w.heap.size, 2, none⟩ = some (.slice A3 n3 c3) := by rw [hwb]; go_simp
  have hgb : w.heap.size < wb.heap.size := by rw [hwb]; simp
  have MK := Lib.hid (makeN 20 (by decide) c1 c2 c3 (HP.out.below BB.out))
  rw [← hwb]
  clear hwb
  go_upto_region 2 with (go_at_call 8; refine MK.out.mono ?_; rintro e w1 ⟨N, L, A, c, pv, rfl, o1, hg, hN, b1⟩; have O1 := Lib.hid (OwnG.cel o1); have HG := Lib.hid hg; have B1 := Lib.hid (BB.out.trans (b1.mono BB.out.size)); clear o1 hg b1)
  have H0 : Hid (chkG L N = 0) := Lib.hid (good_chk HG.out (by omega))
  clear x0 x1 x2 hgb MK HP
  obtain ⟨F, hF⟩ : ∃ F, facesK L N = F := ⟨_, rfl⟩
  have HF := Lib.hid hF
  have FG := facesGood (.slice A N c) L N w1 O1.out (by omega) (HT.out.below B1.out (Nat.le_refl _)) H0.out
  unfold FacesP at FG
  rw [hF] at FG
  obtain ⟨m, hm⟩ : ∃ m, F.length = m := ⟨_, rfl⟩
  have HM := Lib.hid hm
  rw [hm] at FG
  have HFG := Lib.hid FG
  have FI := faces_is HG.out
  rw [hF] at FI
  have hfl : F.flatten.length ≤ 80 := by have := FI.met.len; omega
  have HFL := Lib.hid hfl
  have HFI := Lib.hid FI
  have hml : m ≤ 80 := by
    have := facs_len L N (4 * N)
    rw [show facS L N (4 * N) = F from hF, hm] at this
    omega
  clear hF FG hm FI hfl
  go_upto_region 5 with (first
    | (go_at_call 11; refine (WK.out _ (HT.out.below B2.out (Nat.le_refl _))).mono ?_; rintro e w3 ⟨rfl, b3⟩; have B3 := Lib.hid (B2.out.trans (b3.mono B2.out.size)); have O3 := Lib.hid (O2.out.below b3 (Nat.le_refl _)); have L3 := Lib.hid (L2.out.below b3 (Nat.le_refl _)); clear b3)
    | (go_at_call 9; refine HFG.out.mono ?_; rintro e w2 ⟨A2, c2, rfl, o2, b2⟩; have O2 := Lib.hid o2.fcs; have B2 := Lib.hid (B1.out.trans (b2.mono B1.out.size)); have L2 := Lib.hid (O1.out.below b2 (Nat.le_refl _)); clear o2 b2))
  go_wp2_with fail
  go_loopw [7, 8, 32] (fun sv dv iv wr => SuA L F w3 wr sv dv iv) (fun _ _ iv _ => m - (intOf iv).toNat)
  case atStart => exact ⟨0, rfl, Nat.zero_le _, rfl, rfl, Below.refl _ _⟩
  case round =>
    obtain ⟨i, rfl, hi, rfl, rfl, hB⟩ := hrel
    rw [HM.out] at hi
    have B := Lib.hid hB
    have BW := Lib.hid (B3.out.trans (hB.mono B3.out.size))
    have hsr := sm_range L (F.take i).flatten
    have hfr := flat_le (F := F) i
    have hfl := HFL.out
    by_cases hlt : i < m
    · have q0 : decide (i < m) = true := decide_eq_true hlt
      obtain ⟨b, o, c9, s, e, hb, hs, hp⟩ := (O3.out.below hB (Nat.le_refl _)).nth hlt
      simp only [Value.slice.injEq, true_and] at e
      obtain ⟨rfl, rfl⟩ := e
      have hil : i < F.length := by rw [HM.out]; exact hlt
      rw [pairF_at hil] at hp
      have TF := take_flat hil
      have hxd : ∀ k ∈ F.getD i [], isK L N k := fun k hk => HFI.out.met.2 k (List.mem_flatten.2 ⟨_, by rw [List.getD_eq_getElem?_getD, List.getElem?_eq_getElem hil]; exact List.getElem_mem hil, hk⟩)
      have hfr2 := flat_le (F := F) (i + 1)
      rw [TF, List.length_append] at hfr2
      obtain ⟨x, hx⟩ : ∃ x, F.getD i [] = x := ⟨_, rfl⟩
      rw [hx] at hp TF hxd hfr2
      obtain ⟨AG, cg, e, h2⟩ := hp
      have hp : PtsAt wr s (x.map pairK) := ⟨AG, cg, e, h2⟩
      rw [List.length_map] at e
      subst e
      obtain ⟨k, hk⟩ : ∃ k, x.length = k := ⟨_, rfl⟩
      rw [hk] at hs hp hfr2
      have TU := turnsAny (.slice A N c) (.slice AG k cg) L (x.map pairK) N k wr (L3.out.below hB (Nat.le_refl _)) hp (by omega) (by rw [List.length_map]; exact hk) (by omega) (HT.out.below BW.out (Nat.le_refl _))
      unfold TurnsP at TU
      rw [trQ_map H0.out hxd] at TU
      have RO := fun zv (w : World) (hZ : ZsAt w zv (x.map (trnK L)) k) => rotAny zv (x.map (trnK L)) k w hZ (by omega)
      rw [rot_sm] at RO
      obtain ⟨z, hz⟩ : ∃ z, smF (trnK L) x = z := ⟨_, rfl⟩
      have hzr := sm_range L x
      rw [hz, hk] at hzr
      rw [hz] at RO
      obtain ⟨f, hf⟩ : ∃ f, (F.take i).flatten = f := ⟨_, rfl⟩
      have S2 : Hid (smF (trnK L) (F.take (i + 1)).flatten = smF (trnK L) (F.take i).flatten + z) := Lib.hid (by rw [TF, sm_append, hz])
      have L2' : Hid ((((F.take (i + 1)).flatten.length : Nat) : Int) = (((F.take i).flatten.length : Nat) : Int) + (k : Int)) := Lib.hid (by rw [TF, List.length_append, hk]; omega)
      obtain ⟨s0, hs0⟩ : ∃ s0, smF (trnK L) (F.take i).flatten = s0 := ⟨_, rfl⟩
      obtain ⟨d0, hd0⟩ : ∃ d0, (F.take i).flatten.length = d0 := ⟨_, rfl⟩
      rw [hs0] at S2 hsr
      rw [hd0] at L2' hsr hfr hfr2
      rw [hs0, hd0]
      have HTU := Lib.hid TU
      have HRO := Lib.hid RO
      clear TU RO hs0 hd0 hf hz hk hx hxd TF hil h2 hp hB
      go_wp2_with (first
        | (go_at_call 13; refine HTU.out.mono ?_; rintro e w5 ⟨A5, c5, rfl, o5, b5⟩; have Z5 := Lib.hid o5.zs; have B5 := Lib.hid b5; clear o5 b5)
        | (go_at_call 16; refine (HRO.out _ _ Z5.out).mono ?_; rintro e w6 ⟨rfl, rfl⟩))
      go_roundw
      case rel => exact ⟨i + 1, by go_num, by rw [HM.out]; omega, by rw [S2.out], by rw [L2'.out], B.out.trans (B5.out.mono B.out.size)⟩
      case measure => (simp [intOf] <;> omega)
    · have him : i = m := by omega
      subst him
      have q0 : decide (i < i) = false := decide_eq_false hlt
      have TA : F.take i = F := List.take_of_length_le (by rw [HM.out]; exact Nat.le_refl _)
      rw [TA] at hsr ⊢
      obtain ⟨h2, hh1, hh2⟩ := faces_sum HG.out
      rw [HF.out] at hh1 hh2
      have HH := Lib.hid hh2
      have HD2 := Lib.hid hh1
      obtain ⟨s0, hs0⟩ : ∃ s0, smF (trnK L) F.flatten = s0 := ⟨_, rfl⟩
      obtain ⟨d0, hd0⟩ : ∃ d0, F.flatten.length = d0 := ⟨_, rfl⟩
      rw [hs0] at hsr HH
      rw [hd0] at hsr HD2 hfl
      rw [hs0, hd0]
      clear hs0 hd0 hh1 hh2 TA hfr hB
      go_upto_region 12 with fail
      go_wp2_with fail
      obtain ⟨wo, hwo⟩ : ∃ W, W = wr := ⟨_, rfl⟩
      subst hwo
      go_loopw [9, 49] (fun cv iv wr => SuB L N wo wr cv iv) (fun _ iv _ => N - (intOf iv).toNat)
      case atStart => exact ⟨0, rfl, Nat.zero_le _, rfl, Below.refl _ _⟩
      case round =>
        obtain ⟨v, rfl, hv, rfl, hC⟩ := hrel
        have C := Lib.hid hC
        have hal := anyN_le L v
        by_cases hvt : v < N
        · have q1 : decide (v < N) = true := decide_eq_true hvt
          obtain ⟨b, o9, c', e, hb, hx, hy⟩ := (L3.out.below (B.out.trans (hC.mono B.out.size)) (Nat.le_refl _)).nth hvt
          simp only [Value.slice.injEq, true_and] at e
          obtain ⟨rfl, rfl⟩ := e
          have f0 : wr.cell? ⟨b, o9 + v * 8, none⟩ = some (.int .i64 (nxG L v 0)) := hx 0 (by decide)
          have f1 := hx 1 (by decide)
          have f2 := hx 2 (by decide)
          have f3 := hx 3 (by decide)
          have f4 : wr.cell? ⟨b, o9 + v * 8 + 4, none⟩ = some (.int .i64 (owG L v 0)) := hy 0 (by decide)
          have f5 : wr.cell? ⟨b, o9 + v * 8 + 5, none⟩ = some (.int .i64 (owG L v 1)) := hy 1 (by decide)
          have f6 : wr.cell? ⟨b, o9 + v * 8 + 6, none⟩ = some (.int .i64 (owG L v 2)) := hy 2 (by decide)
          have f7 : wr.cell? ⟨b, o9 + v * 8 + 7, none⟩ = some (.int .i64 (owG L v 3)) := hy 3 (by decide)
          have AN : Hid (anyN L (v + 1) = anyN L v + if anyB L v = true then 1 else 0) := Lib.hid rfl
          have hab := any_is L v
          generalize nxG L v 0 = y0 at *
          generalize nxG L v 1 = y1 at *
          generalize nxG L v 2 = y2 at *
          generalize nxG L v 3 = y3 at *
          generalize owG L v 0 = y4 at *
          generalize owG L v 1 = y5 at *
          generalize owG L v 2 = y6 at *
          generalize owG L v 3 = y7 at *
          obtain ⟨t, ht⟩ : ∃ t : Bool, (y0 == -1 && y1 == -1 && y2 == -1 && y3 == -1) = t := ⟨_, rfl⟩
          rw [ht] at hab
          have hn4 : ∀ w : World, (binOp .neq 55 (.agg #[.int .i64 y0, .int .i64 y1, .int .i64 y2, .int .i64 y3]) (.agg #[.int .i64 (-1), .int .i64 (-1), .int .i64 (-1), .int .i64 (-1)])).run Tryd.prog w = .ok (.bool (!t)) w := fun w => by rw [neq4, ht]
          obtain ⟨a0, ha0⟩ : ∃ a0, anyN L v = a0 := ⟨_, rfl⟩
          rw [ha0] at AN hal
          rw [ha0]
          clear hx hy ht ha0 hC hneq
          cases t
          · have A1 : Hid (anyN L (v + 1) = a0 + 1) := Lib.hid (by rw [AN.out, hab]; rfl)
            clear AN hab
            go_wp2_with fail
            go_roundw
            case rel => exact ⟨v + 1, by go_num, by omega, by rw [A1.out], C.out.alloc C.out.size _⟩
            case measure => (simp [intOf] <;> omega)
          · have A1 : Hid (anyN L (v + 1) = a0) := Lib.hid (by rw [AN.out, hab]; simp)
            clear AN hab
            go_wp2_with fail
            go_roundw
            case rel => exact ⟨v + 1, by go_num, by omega, by rw [A1.out], C.out.alloc C.out.size _⟩
            case measure => (simp [intOf] <;> omega)
        · have hvn : v = N := by omega
          subst hvn
          have q1 : decide (v < v) = false := decide_eq_false hvt
          have hd2 := HD2.out
          have hs2 := HH.out
          obtain ⟨a0, ha0⟩ : ∃ a0, anyN L v = a0 := ⟨_, rfl⟩
          rw [ha0] at hs2 hal
          rw [ha0]
          have hq : (d0 : Int) / 2 = (h2 : Int) := by omega
          have hq2 : (d0 : Int).tdiv 2 = (h2 : Int) := by rw [Int.tdiv_eq_ediv_of_nonneg (by omega)]; exact hq
          have he : (s0 == 4 * ((h2 : Int) - a0)) = true := by rw [beq_iff_eq]; exact hs2
          have HE := Lib.hid he
          clear hC hneq ha0 hs2 hd2 he
          go_wp2_with fail
          go_ret
          exact ⟨ret_bool HE.out, BW.out.trans (C.out.mono BW.out.size)⟩
end Go.Proofs.YtkgabklponjagaaDoor
