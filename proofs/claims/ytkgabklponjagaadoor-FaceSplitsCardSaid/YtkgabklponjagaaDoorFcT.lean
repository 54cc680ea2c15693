/-
  What the document's Turns, and both Rotations, answer. Conditions: cells that may be; at most a million turns.
-/
import Derived.Test.YtkgabklponjagaaDoorFcS
import Derived.Test.YtkgabklponjagaaDoorNzC
namespace Go.Proofs.YtkgabklponjagaaDoor
open Go.RowKit Go.Proofs.YtkgabklponjagaaDoor.GrM Go.Proofs.YtkgabklponjagaaDoor.FcM

theorem turn_way {d W : Nat} (hd : d < 4) (hW : W ≤ 3) : turnI (d : Int) (((d + ordI W) % 4 : Nat) : Int) = 1 - (W : Int) := by
  have hdc : d = 0 ∨ d = 1 ∨ d = 2 ∨ d = 3 := by omega
  have hwc : W = 0 ∨ W = 1 ∨ W = 2 ∨ W = 3 := by omega
  rcases hdc with rfl | rfl | rfl | rfl <;> rcases hwc with rfl | rfl | rfl | rfl <;> decide
theorem turn_beh (L : List Int) (k : Nat) : turnI ((k % 4 : Nat) : Int) ((behK L k % 4 : Nat) : Int) = trnK L k := by
  rw [beh_dir]
  exact turn_way (Nat.mod_lt _ (by decide)) (way_le _ _ _)
def rotS (s t : Int) : Int := if -2 ≤ t ∧ t ≤ 1 then s + t else s
/-- The sum of all turns. -/
def rotI (Z : List Int) : Int := Z.foldl rotS 0
theorem rot_snoc (Z : List Int) (t : Int) : rotI (Z ++ [t]) = rotS (rotI Z) t := by unfold rotI; rw [List.foldl_append]; rfl
theorem rotS_range (s t : Int) : s - 2 ≤ rotS s t ∧ rotS s t ≤ s + 1 := by unfold rotS; split <;> omega
theorem rot_range (Z : List Int) : -(2 * (Z.length : Int)) ≤ rotI Z ∧ rotI Z ≤ Z.length := by
  have : ∀ (Z : List Int) (s : Int), s - 2 * (Z.length : Int) ≤ Z.foldl rotS s ∧ Z.foldl rotS s ≤ s + Z.length := by
    intro Z
    induction Z with
    | nil => intro s; simp
    | cons a Z ih =>
      intro s
      have h1 := rotS_range s a
      have h2 := ih (rotS s a)
      simp only [List.foldl_cons, List.length_cons]
      omega
  have := this Z 0
  unfold rotI
  omega
theorem rot_take {Z : List Int} {k : Nat} (hk : k < Z.length) : rotI (Z.take (k + 1)) = rotS (rotI (Z.take k)) (Z.getD k 0) := by
  rw [List.take_succ_eq_append_getElem hk, rot_snoc, List.getD_eq_getElem?_getD, List.getElem?_eq_getElem hk]; rfl
def RoRel (Z : List Int) (m : Nat) (sv iv : Value) : Prop := ∃ k : Nat, iv = .int .i64 k ∧ k ≤ m ∧ sv = .int .i64 (rotI (Z.take k))
set_option maxHeartbeats 4000000 in
theorem rotAny (zv : Value) (Z : List Int) (m : Nat) (w : World) (hZ : ZsAt w zv Z m) (hm : m ≤ 1000000) : Calls Tryd.prog 16 #[zv] w fun e w' => e = .returned (.int .i64 (rotI Z)) ∧ w = w' := by
  have HZ := Lib.hid hZ
  obtain ⟨A, c, e⟩ := hZ.form
  subst e
  have hl := hZ.1
  have HLn := Lib.hid hl
  clear hZ hl
  go_enter Tryd.func16, Tryd.ntmps16
  go_wp2_with fail
  go_loop [3, 8] (fun sv iv => RoRel Z m sv iv) (fun _ iv => m - (intOf iv).toNat)
  case atStart => exact ⟨0, rfl, Nat.zero_le _, rfl⟩
  case round =>
    obtain ⟨k, rfl, hk, rfl⟩ := hrel
    have hr := rot_range (Z.take k)
    have htl : ((Z.take k).length : Int) ≤ 1000000 := by rw [List.length_take, HLn.out]; omega
    by_cases hlt : k < m
    · have q0 : decide (k < m) = true := decide_eq_true hlt
      obtain ⟨b, o, c', e, hb, f0⟩ := HZ.out.nth hlt
      simp only [Value.slice.injEq, true_and] at e
      obtain ⟨rfl, rfl⟩ := e
      have RT := Lib.hid (rot_take (Z := Z) (k := k) (by rw [HLn.out]; exact hlt))
      obtain ⟨t, ht⟩ : ∃ t, Z.getD k 0 = t := ⟨_, rfl⟩
      obtain ⟨s, hs⟩ : ∃ s, rotI (Z.take k) = s := ⟨_, rfl⟩
      rw [ht] at f0 RT
      rw [hs] at RT hr
      rw [hs]
      have hsr : -2000000 ≤ s ∧ s ≤ 1000000 := by omega
      clear ht hs hr htl
      by_cases h1 : -2 ≤ t
      · have q1 : decide (-2 ≤ t) = true := decide_eq_true h1
        by_cases h2 : t ≤ 1
        · have q2 : decide (t ≤ 1) = true := decide_eq_true h2
          have RE : Hid (rotI (Z.take (k + 1)) = s + t) := Lib.hid (by rw [RT.out]; unfold rotS; rw [if_pos ⟨h1, h2⟩])
          clear RT
          go_wp2_with fail
          go_round
          case rel => exact ⟨k + 1, by go_num, by omega, by rw [RE.out]⟩
          case measure => (simp [intOf] <;> omega)
        · have q2 : decide (t ≤ 1) = false := decide_eq_false h2
          have RE : Hid (rotI (Z.take (k + 1)) = s) := Lib.hid (by rw [RT.out]; unfold rotS; rw [if_neg (fun e => h2 e.2)])
          clear RT
          go_wp2_with fail
          go_round
          case rel => exact ⟨k + 1, by go_num, by omega, by rw [RE.out]⟩
          case measure => (simp [intOf] <;> omega)
      · have q1 : decide (-2 ≤ t) = false := decide_eq_false h1
        have RE : Hid (rotI (Z.take (k + 1)) = s) := Lib.hid (by rw [RT.out]; unfold rotS; rw [if_neg (fun e => h1 e.1)])
        clear RT
        go_wp2_with fail
        go_round
        case rel => exact ⟨k + 1, by go_num, by omega, by rw [RE.out]⟩
        case measure => (simp [intOf] <;> omega)
    · have hkm : k = m := by omega
      subst hkm
      have E : Hid (rotI (Z.take k) = rotI Z) := Lib.hid (by rw [List.take_of_length_le (by rw [HLn.out]; omega)])
      clear hr htl
      go_wp2_with fail
      go_ret
      exact ⟨by rw [E.out]; rfl, rfl⟩
set_option maxHeartbeats 4000000 in
theorem refRot (zv : Value) (Z : List Int) (m : Nat) (w : World) (hZ : ZsAt w zv Z m) (hm : m ≤ 1000000) : Calls Tryd.prog 17 #[zv] w fun e w' => e = .returned (.int .i64 (rotI Z)) ∧ w = w' := by
  have HZ := Lib.hid hZ
  obtain ⟨A, c, e⟩ := hZ.form
  subst e
  have hl := hZ.1
  have HLn := Lib.hid hl
  clear hZ hl
  go_enter Tryd.func17, Tryd.ntmps17
  go_wp2_with fail
  go_loop [3, 4] (fun sv iv => RoRel Z m sv iv) (fun _ iv => m - (intOf iv).toNat)
  case atStart => exact ⟨0, rfl, Nat.zero_le _, rfl⟩
  case round =>
    obtain ⟨k, rfl, hk, rfl⟩ := hrel
    have hr := rot_range (Z.take k)
    have htl : ((Z.take k).length : Int) ≤ 1000000 := by rw [List.length_take, HLn.out]; omega
    by_cases hlt : k < m
    · have q0 : decide (k < m) = true := decide_eq_true hlt
      obtain ⟨b, o, c', e, hb, f0⟩ := HZ.out.nth hlt
      simp only [Value.slice.injEq, true_and] at e
      obtain ⟨rfl, rfl⟩ := e
      have RT := Lib.hid (rot_take (Z := Z) (k := k) (by rw [HLn.out]; exact hlt))
      obtain ⟨t, ht⟩ : ∃ t, Z.getD k 0 = t := ⟨_, rfl⟩
      obtain ⟨s, hs⟩ : ∃ s, rotI (Z.take k) = s := ⟨_, rfl⟩
      rw [ht] at f0 RT
      rw [hs] at RT hr
      rw [hs]
      have hsr : -2000000 ≤ s ∧ s ≤ 1000000 := by omega
      clear ht hs hr htl
      by_cases h1 : -2 ≤ t
      · have q1 : decide (-2 ≤ t) = true := decide_eq_true h1
        by_cases h2 : t ≤ 1
        · have q2 : decide (t ≤ 1) = true := decide_eq_true h2
          have RE : Hid (rotI (Z.take (k + 1)) = s + t) := Lib.hid (by rw [RT.out]; unfold rotS; rw [if_pos ⟨h1, h2⟩])
          clear RT
          go_wp2_with fail
          go_round
          case rel => exact ⟨k + 1, by go_num, by omega, by rw [RE.out]⟩
          case measure => (simp [intOf] <;> omega)
        · have q2 : decide (t ≤ 1) = false := decide_eq_false h2
          have RE : Hid (rotI (Z.take (k + 1)) = s) := Lib.hid (by rw [RT.out]; unfold rotS; rw [if_neg (fun e => h2 e.2)])
          clear RT
          go_wp2_with fail
          go_round
          case rel => exact ⟨k + 1, by go_num, by omega, by rw [RE.out]⟩
          case measure => (simp [intOf] <;> omega)
      · have q1 : decide (-2 ≤ t) = false := decide_eq_false h1
        have RE : Hid (rotI (Z.take (k + 1)) = s) := Lib.hid (by rw [RT.out]; unfold rotS; rw [if_neg (fun e => h1 e.1)])
        clear RT
        go_wp2_with fail
        go_round
        case rel => exact ⟨k + 1, by go_num, by omega, by rw [RE.out]⟩
        case measure => (simp [intOf] <;> omega)
    · have hkm : k = m := by omega
      subst hkm
      have E : Hid (rotI (Z.take k) = rotI Z) := Lib.hid (by rw [List.take_of_length_le (by rw [HLn.out]; omega)])
      clear hr htl
      go_wp2_with fail
      go_ret
      exact ⟨by rw [E.out]; rfl, rfl⟩
def RtRel (L : List Int) (ks : List Nat) (w0 wr : World) (tv iv : Value) : Prop :=
  ∃ k : Nat, iv = .int .i64 k ∧ k ≤ ks.length ∧ OwnZ wr w0.heap.size tv ((ks.take k).map (trnK L)) k ∧ Below w0.heap.size w0 wr
theorem map_pair_at {ks : List Nat} {k : Nat} (h : k < ks.length) : (ks.map pairK).getD k (0, 0) = pairK (ks.getD k 0) := by simp [List.getD_eq_getElem?_getD, h]
theorem oneInt12 (a : Int) : ∀ u ∈ [Value.int .i64 a], u.oneCell' = true := fun u hu => by
  obtain rfl := List.mem_singleton.1 hu; rfl
theorem newsI12 (w : World) (g : Nat) (x : Int) (T : TypeId) (h : w.heap[g]? = some (.cells #[.int .i64 x] T (0, 0))) : ∀ j z, [Value.int .i64 x][j]? = some z → w.cell? ((⟨g, 0, none⟩ : Addr).add j) = some z := by
  intro j z hz
  match j with
  | 0 =>
    simp only [List.getElem?_cons_zero, Option.some.injEq] at hz
    subst hz
    rw [show (⟨g, 0, none⟩ : Addr).add 0 = ⟨g, 0, none⟩ by unfold Addr.add; split <;> simp_all]
    simp [World.cell?, h]
  | j + 1 => simp at hz
set_option maxHeartbeats 4000000 in
set_option maxRecDepth 100000 in
theorem refTurns (lv dv : Value) (L : List Int) (ks : List Nat) (n : Nat) (w : World) (hL : CelAt w lv L n) (hD : PtsAt w dv (ks.map pairK)) (hg : GoodG L n) (hk : ∀ k ∈ ks, isK L n k) (hm2 : ks.length ≤ 1000000) :
    Calls Tryd.prog 15 #[lv, dv] w fun e w' => (∃ A c, e = .returned (.slice A ks.length c) ∧ OwnZ w' w.heap.size (.slice A ks.length c) (ks.map (trnK L)) ks.length) ∧ Below w.heap.size w w' := by
  have HL := Lib.hid hL
  have HD := Lib.hid hD
  have HK := Lib.hid hk
  obtain ⟨DA, dc, e, -, -⟩ := hD
  rw [List.length_map] at e
  subst e
  obtain ⟨i0, hi, hz0, hz1, hz2⟩ := info_parts infoInt12
  obtain ⟨m, hm⟩ : ∃ m, ks.length = m := ⟨_, rfl⟩
  have HM := Lib.hid hm
  rw [hm] at hm2 ⊢
  clear hL hk hm
  go_enter Tryd.func15, Tryd.ntmps15
  go_wp2_with fail
  go_loopw [5, 6] (fun tv iv wr => RtRel L ks w wr tv iv) (fun _ iv _ => m - (intOf iv).toNat)
  case atStart => exact ⟨0, rfl, Nat.zero_le _, World.ownsRow_nil _ _ _ _, Below.refl _ _⟩
  case round =>
    obtain ⟨k, rfl, hk, hO, hB⟩ := hrel
    rw [HM.out] at hk
    have O := Lib.hid hO
    have B := Lib.hid hB
    obtain ⟨ao, co, e⟩ := row_form12 hO
    subst e
    have hws := hB.size
    clear hO
    by_cases hlt : k < m
    · have q0 : decide (k < m) = true := decide_eq_true hlt
      obtain ⟨A, cap, e, hc, hA⟩ := HD.out
      rw [List.length_map, HM.out] at e
      simp only [Value.slice.injEq, true_and] at e
      obtain ⟨rfl, rfl⟩ := e
      obtain ⟨b, o, rfl, hb, hx⟩ := hA (by rw [List.length_map, HM.out]; omega)
      obtain ⟨x0, x1⟩ := hx k (by rw [List.length_map, HM.out]; exact hlt)
      have hkl : k < ks.length := by rw [HM.out]; exact hlt
      rw [map_pair_at hkl] at x0 x1
      have hkd : isK L n (ks.getD k 0) := HK.out _ (getD_mem hkl)
      have TK : Hid ((ks.take (k + 1)).map (trnK L) = (ks.take k).map (trnK L) ++ [trnK L (ks.getD k 0)]) := Lib.hid (by rw [List.take_succ_eq_append_getElem hkl, List.map_append, List.getD_eq_getElem?_getD, List.getElem?_eq_getElem hkl]; rfl)
      obtain ⟨q, hq⟩ : ∃ q, ks.getD k 0 = q := ⟨_, rfl⟩
      rw [hq] at x0 x1 hkd TK
      have f0 := (hB.cell (p := ⟨b, o + k * 2, none⟩) hb).trans x0
      have f1 := (hB.cell (p := ⟨b, o + k * 2 + 1, none⟩) hb).trans x1
      have z1 := Nat.lt_of_lt_of_le hb hB.size
      have BH := Lib.hid (fun w' (b' : Below wr.heap.size wr w') => refBehind lv L n q w' (HL.out.below (hB.trans (b'.mono hws)) (Nat.le_refl _)) hg hkd)
      have TB := Lib.hid (turn_beh L q)
      unfold pairK at f0 f1
      unfold dartV at BH
      obtain ⟨p0, hp0⟩ : ∃ z : Nat, q / 4 = z := ⟨_, rfl⟩
      obtain ⟨p1, hp1⟩ : ∃ z : Nat, q % 4 = z := ⟨_, rfl⟩
      obtain ⟨n0, hn0⟩ : ∃ z : Nat, behK L q / 4 = z := ⟨_, rfl⟩
      obtain ⟨n1, hn1⟩ : ∃ z : Nat, behK L q % 4 = z := ⟨_, rfl⟩
      obtain ⟨t, ht⟩ : ∃ z, trnK L q = z := ⟨_, rfl⟩
      have htr := trn_range L q
      rw [hp0] at f0 BH
      rw [hp1] at f1 BH TB
      rw [hn0, hn1] at BH
      rw [hn1, ht] at TB
      rw [ht] at TK htr
      have TU := Lib.hid (fun w => rturn_any (p1 : Int) (n1 : Int) w)
      rw [TB.out] at TU
      clear hx x0 x1 hA hB hq hp0 hp1 hn0 hn1 ht hkl hkd TB
      go_upto_region 6 with (go_at_call 20; refine (BH.out _ (Below.refl _ _)).mono ?_; rintro e w2 ⟨rfl, b2⟩; have B2 := Lib.hid b2; clear b2)
      obtain ⟨wx, hwx⟩ : ∃ X, X = (w2.alloc (.cells #[.int .i64 (n0 : Int), .int .i64 (n1 : Int)] 47)) := ⟨_, rfl⟩
      have bx : Below wr.heap.size wr wx := by rw [hwx]; exact B2.out.alloc B2.out.size _
      have y1 : wx.cell? ⟨w2.heap.size, 1, none⟩ = some (.int .i64 (n1 : Int)) := by rw [hwx]; go_simp
      have hzx : w2.heap.size < wx.heap.size := by rw [hwx]; simp
      have x1 := (bx.cell (p := ⟨b, o + k * 2 + 1, none⟩) z1).trans f1
      have z2 := Nat.lt_of_lt_of_le z1 bx.size
      have BX := Lib.hid bx
      rw [← hwx]
      have hkI : (k : Int) < (m : Int) := by omega
      clear hwx bx f0 f1 z1
      go_quiet ((go_at_call 36; exact Calls.quiet_of_same (TU.out _)))
      obtain ⟨wq, hwq⟩ : ∃ X, X = wx.drewN nq := ⟨_, rfl⟩
      have bq : Below wx.heap.size wx wq := by rw [hwq]; exact drewN_below (Below.refl _ _) _
      have BQ := Lib.hid (BX.out.trans (bq.mono BX.out.size))
      rw [← hwq]
      have O2 : Hid (OwnZ wq w.heap.size (.slice ao k co) ((ks.take k).map (trnK L)) k) := Lib.hid (row_below12 O.out BQ.out (Nat.le_refl _))
      clear hwq bq y1 hzx x1 z2
      go_wp2_with (at_builtin; refine wpList_append_fresh rfl (.tmp 29) (.tmp 31) 40 rfl w.heap.size 3 i0 (.int .i64 0) 1 8 Tryd.underlying40 hi hz0 hz1 hz2 rfl (by decide) (.slice ao k co) k (((ks.take k).map (trnK L)).map intV) rfl (row_below12 O2.out ((Below.refl _ _).alloc (Nat.le_refl _) _) (Nat.le_refl _)) ⟨wq.heap.size, 0, none⟩ 1 1 [.int .i64 t] rfl rfl (newsI12 _ _ _ 3 (heap_alloc_new wq _)) (oneInt12 _) (by unfold maxLen; omega) (by omega) (by have := BQ.out.size; simp; omega) ?_; intro v5 w5 hown hgrow hfr; have o5 := OwnZ.more hown; rw [← TK.out] at o5; have O5 := Lib.hid o5; have B5 : Hid (Below w.heap.size w w5) := Lib.hid ((B.out.trans ((BQ.out.alloc BQ.out.size _).mono hws)).grown hgrow (by have := BQ.out.size; simp; omega) (fun q hq => (World.ownsRow.lt O.out q hq).1)); clear hown hgrow hfr o5)
      go_roundw
      case rel => exact ⟨k + 1, by go_num, by rw [HM.out]; omega, O5.out, B5.out⟩
      case measure => (simp [intOf] <;> omega)
    · have hkm : k = m := by omega
      subst hkm
      have q0 : decide (k < k) = false := decide_eq_false hlt
      go_wp2_with fail
      go_ret
      have h := O.out
      rw [List.take_of_length_le (by rw [HM.out]; omega)] at h
      exact ⟨⟨_, _, rfl, h⟩, B.out⟩
end Go.Proofs.YtkgabklponjagaaDoor
