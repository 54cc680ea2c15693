/-
  What the code's Parts says of cells that may not be; what Whole and Path answer. Conditions: at most 100000 cells.
-/
import Derived.Test.YtieffijdhcbcfaaJnB
import Derived.Test.YtieffijdhcbcfaaJnN
namespace Go.Proofs.Ytieffijdhcbcfaa
open Go.RowKit Go.Proofs.Ytieffijdhcbcfaa.GrM Go.Proofs.Ytieffijdhcbcfaa.JoM

set_option maxHeartbeats 8000000 in
theorem partsBad (lv : Value) (L : List Int) (n : Nat) (w : World) (hL : CelAt w lv L n) (hn : n ≤ 100000) (h0 : chkG L n ≠ 0) :
    Calls Try.prog 8 #[lv] w fun e w' => e = .returned (.tuple #[.slice none 0 0, .int .i64 (chkG L n)]) ∧ Below w.heap.size w w' := by
  have CK := Lib.hid (checkY lv L n w hL hn)
  have q4 : (chkG L n == 0) = false := by rw [beq_eq_false_iff_ne]; exact h0
  have q5 : (chkG L n != 0) = true := by rw [bne, q4]; rfl
  generalize chkG L n = cv at *
  clear h0 hL
  go_enter Try.func8, Try.ntmps8
  go_wp2_with (go_at_call 24; refine CK.out.mono ?_; rintro e w1 ⟨rfl, b1⟩; have B1 := Lib.hid b1; clear b1)
  go_ret2
  exact ⟨rfl, B1.out⟩
/-- Are they whole? -/
noncomputable def wholeB (L : List Int) (n : Nat) : Bool := decide (chkG L n = 0) && decide ((partsK L n n).length = 1)
set_option maxHeartbeats 8000000 in
theorem whole_ (lv : Value) (L : List Int) (n : Nat) (w : World) (hL : CelAt w lv L n) (hn : n ≤ 100000) :
    Calls Try.prog 11 #[lv] w fun e w' => e = .returned (.bool (wholeB L n)) ∧ Below w.heap.size w w' := by
  unfold wholeB
  by_cases h0 : chkG L n = 0
  · have PG := Lib.hid (partsGood lv L n w hL hn h0)
    rw [decide_eq_true h0, Bool.true_and]
    obtain ⟨m, hm⟩ : ∃ m, (partsK L n n).length = m := ⟨_, rfl⟩
    have HM := Lib.hid hm
    have hmn := parts_len L n n
    rw [hm] at hmn
    rw [hm]
    clear hm hL h0
    have q0 : ((m : Int) == 1) = decide (m = 1) := by rw [Bool.eq_iff_iff]; simp; omega
    go_enter Try.func11, Try.ntmps11
    go_wp2_with (go_at_call 8; refine PG.out.mono ?_; rintro e w1 ⟨A, c, m1, rfl, hm1, -, b1⟩; obtain rfl : m = m1 := HM.out.symm.trans hm1; have B1 := Lib.hid b1; clear b1 hm1)
    go_ret
    exact ⟨ret_bool (by first | rfl | exact q0 | (rw [← q0]; rfl) | simp [q0]), B1.out⟩
  · have PB := Lib.hid (partsBad lv L n w hL hn h0)
    have q4 : (chkG L n == 0) = false := by rw [beq_eq_false_iff_ne]; exact h0
    rw [decide_eq_false h0, Bool.false_and]
    generalize chkG L n = cv at *
    clear hL h0
    go_enter Try.func11, Try.ntmps11
    go_wp2_with (go_at_call 8; refine PB.out.mono ?_; rintro e w1 ⟨rfl, b1⟩; have B1 := Lib.hid b1; clear b1)
    go_ret
    exact ⟨rfl, B1.out⟩
/-! Path. -/
theorem has_ (A : Option Addr) (c n : Nat) (v : Int) (w : World) :
    Calls Try.prog 29 #[.slice A n c, .int .i64 v] w fun e w' => e = .returned (.bool (decide (0 ≤ v) && decide (v < n))) ∧ w = w' := by
  by_cases h1 : 0 ≤ v
  · have q1 : decide (0 ≤ v) = true := decide_eq_true h1
    go_enter Try.func29, Try.ntmps29
    go_wp2_with fail
    go_ret
    exact ⟨ret_bool (by simp; omega), rfl⟩
  · have q1 : decide (0 ≤ v) = false := decide_eq_false h1
    go_enter Try.func29, Try.ntmps29
    go_wp2_with fail
    go_ret
    exact ⟨ret_bool (by simp), rfl⟩
/-- One of the two is no cell. -/
theorem pathArg (lv : Value) (L : List Int) (n : Nat) (v u : Int) (w : World) (hL : CelAt w lv L n) (hn : n ≤ 100000) (h0 : chkG L n = 0) (hb : ¬ (0 ≤ v ∧ v < n ∧ 0 ≤ u ∧ u < n)) :
    Calls Try.prog 14 #[lv, .int .i64 v, .int .i64 u] w fun e w' => e = .returned (.tuple #[.slice none 0 0, .int .i64 2]) ∧ Below w.heap.size w w' := by
  have CK := checkY lv L n w hL hn
  rw [h0] at CK
  have CH := Lib.hid CK
  obtain ⟨A0, c0, e⟩ := hL.form
  subst e
  have HV := Lib.hid (fun w => has_ A0 c0 n v w)
  have HU := Lib.hid (fun w => has_ A0 c0 n u w)
  have hx : (decide (0 ≤ v) && decide (v < n)) = false ∨ (decide (0 ≤ u) && decide (u < n)) = false := by
    by_cases c : 0 ≤ v ∧ v < n
    · right
      rw [Bool.and_eq_false_iff, decide_eq_false_iff_not, decide_eq_false_iff_not]
      omega
    · left
      rw [Bool.and_eq_false_iff, decide_eq_false_iff_not, decide_eq_false_iff_not]
      omega
  generalize (decide (0 ≤ v) && decide (v < n)) = x at HV hx
  generalize (decide (0 ≤ u) && decide (u < n)) = y at HU hx
  clear CK hL h0 hb
  cases x
  · go_enter Try.func14, Try.ntmps14
    go_wp2_with (first
      | (go_at_call 29; refine (HV.out _).mono ?_; rintro e w2 ⟨rfl, rfl⟩)
      | (go_at_call 24; refine CH.out.mono ?_; rintro e w1 ⟨rfl, b1⟩; have B1 := Lib.hid b1; clear b1))
    go_ret2
    exact ⟨rfl, B1.out⟩
  · have hy : y = false := by simpa using hx
    subst hy
    clear hx
    go_enter Try.func14, Try.ntmps14
    go_upto_region 4 with (go_at_call 24; refine CH.out.mono ?_; rintro e w1 ⟨rfl, b1⟩; have B1 := Lib.hid b1; clear b1)
    go_wp2_with (first
      | (go_at_call 29; have _z := HV2; refine (HU.out _).mono ?_; rintro e w3 ⟨rfl, rfl⟩)
      | (go_at_call 29; refine (HV.out _).mono ?_; rintro e w2 ⟨rfl, rfl⟩; have HV2 := HV))
    go_ret2
    exact ⟨rfl, B1.out⟩
def PthP (L : List Int) (n v u : Nat) (w : World) (e : Ending) (w' : World) : Prop :=
  Below w.heap.size w w' ∧ ((¬ Con L v u ∧ e = .returned (.tuple #[.slice none 0 0, .int .i64 13])) ∨
    (Con L v u ∧ ∃ (P : List Nat) (A : Option Addr) (c m : Nat), e = .returned (.tuple #[.slice A m c, .int .i64 0]) ∧ P.length = m ∧ OwnZ w' w.heap.size (.slice A m c) (castN P) m ∧ Pth L v P u ∧ farI L v u = (m : Int) ∧ m < n))
set_option maxHeartbeats 8000000 in
set_option maxRecDepth 100000 in
theorem path_ (lv : Value) (L : List Int) (n v u : Nat) (w : World) (hL : CelAt w lv L n) (hn : n ≤ 100000) (h0 : chkG L n = 0) (hv : v < n) (hu : u < n) :
    Calls Try.prog 14 #[lv, .int .i64 v, .int .i64 u] w (PthP L n v u w) := by
  have CK := checkY lv L n w hL hn
  rw [h0] at CK
  have CH := Lib.hid CK
  have HL := Lib.hid hL
  have HG := Lib.hid (chk_good.1 h0).2
  have UN := Lib.hid (fun w => unmet13 n hn w)
  have BK := Lib.hid (far_back (chk_good.1 h0).2 hu hv)
  have FN := Lib.hid (far_none (L := L) (v := u) (w := v))
  have CB := Lib.hid (fun h : Con L u v => h.symm (chk_good.1 h0).2 hu)
  have CB2 := Lib.hid (fun h : Con L v u => h.symm (chk_good.1 h0).2 hv)
  have FLT := Lib.hid (far_lt (chk_good.1 h0).2 hv hu)
  obtain ⟨A0, c0, e⟩ := hL.form
  subst e
  have HV := fun w => has_ A0 c0 n v w
  have HU := fun w => has_ A0 c0 n u w
  have x1 : (decide (0 ≤ (v : Int)) && decide ((v : Int) < n)) = true := by simp; omega
  have x2 : (decide (0 ≤ (u : Int)) && decide ((u : Int) < n)) = true := by simp; omega
  rw [x1] at HV
  rw [x2] at HU
  have HVH := Lib.hid HV
  have HUH := Lib.hid HU
  clear CK hL h0 x1 x2 HV HU
  go_enter Try.func14, Try.ntmps14
  go_upto_region 4 with (go_at_call 24; refine CH.out.mono ?_; rintro e w1 ⟨rfl, b1⟩; have B1 := Lib.hid b1; clear b1)
  clear CH
  go_upto_region 6 with (first
    | (go_at_call 29; have _z := HV2; refine (HUH.out _).mono ?_; rintro e w3 ⟨rfl, rfl⟩)
    | (go_at_call 29; refine (HVH.out _).mono ?_; rintro e w2 ⟨rfl, rfl⟩; have HV2 := HVH))
  clear HV2 HVH HUH
  go_upto_region 7 with (go_at_call 25; refine (UN.out _).mono ?_; rintro e w2 ⟨g, rfl, f2, b2⟩; have F2 := Lib.hid f2; have B2 := Lib.hid b2; clear f2 b2)
  have hg1 := F2.out.lt.1
  have hg2 := F2.out.lt.2
  have BB := Lib.hid (B1.out.trans (B2.out.mono B1.out.size))
  have hnb : (Value.slice A0 n c0).ownBlock ≠ some g := by
    obtain ⟨b, o, c', e, hb, _⟩ := HL.out.nth hv
    rw [e]
    intro e2
    have : b = g := by simpa [Value.ownBlock] using e2
    have := B1.out.size
    omega
  have FD := Lib.hid (flood_ _ L n u w1.heap.size g (fun _ => -1) w2 (HL.out.below BB.out (Nat.le_refl _)) hn HG.out hu F2.out (fun _ _ => rfl) hnb)
  clear UN F2 hnb
  go_upto_region 8 with (go_at_call 26; refine FD.out.mono ?_; rintro e w3 ⟨M, F3, A3, c3, m3, rfl, hm3, o3, f3, u3, fl3⟩; have FE := f3.congr (G := farI L u) (fun x hx => by subst hm3; obtain ⟨e1, e2⟩ := fl3.end_ rfl; by_cases c : x ∈ M; exact e2 x c; rw [fl3.out x c]; exact (far_none.2 (fun h => c ((e1 x).2 h))).symm); have F3H := Lib.hid FE; have U3 := Lib.hid u3; clear o3 f3 u3 fl3 hm3 FE)
  have B3 : Hid (Below w.heap.size w w3) := Lib.hid (BB.out.trans (U3.out.below BB.out.size (fun i _ e => by have := B1.out.size; subst e; omega)))
  have hg3 := F3H.out.lt.2
  have fv := F3H.out.cell hv
  clear FD hg1 hg2
  by_cases hc : Con L u v
  · obtain ⟨k, hk, -, -⟩ := far_nat hc
    have NR := Lib.hid (nearer_ _ L n v u w1.heap.size g w3 (HL.out.below B3.out (Nat.le_refl _)) hn HG.out hu hv hc F3H.out)
    rw [hk] at fv
    have n1 : ((k : Int) == -1) = false := by rw [beq_eq_false_iff_ne]; omega
    have HC := Lib.hid hc
    clear hc hk
    go_wp2_with (go_at_call 30; refine NR.out.mono ?_; rintro e w4 ⟨P, A4, c4, m4, rfl, hm4, o4, p4, f4, b4⟩; have O4 := Lib.hid o4; have P4 := Lib.hid p4; have E4 := Lib.hid (BK.out.symm ▸ f4); have B4 := Lib.hid b4; have M4 := Lib.hid hm4; clear o4 p4 f4 b4 hm4)
    go_ret2
    exact ⟨B3.out.trans (B4.out.mono B3.out.size), Or.inr ⟨CB.out HC.out, P, A4, c4, m4, rfl, M4.out, row_base12 O4.out B3.out.size, P4.out, E4.out, by have := FLT.out; have h := E4.out; omega⟩⟩
  · rw [FN.out.2 hc] at fv
    go_wp2_with fail
    go_ret2
    exact ⟨B3.out, Or.inl ⟨fun h => hc (CB2.out h), rfl⟩⟩
end Go.Proofs.Ytieffijdhcbcfaa
