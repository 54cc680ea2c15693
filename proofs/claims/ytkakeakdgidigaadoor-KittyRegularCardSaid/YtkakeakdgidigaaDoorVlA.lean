/-
  The library's Grow of nothing and Concat, of rows of darts. Conditions: the bounds of a row.
-/
import Derived.Test.YtkakeakdgidigaaDoorVzF3
import Derived.Test.YtkakeakdgidigaaDoorVlM
import Derived.Lib.AppendZeros
import Derived.Laws.AppendOwnNone
namespace Go.Proofs.YtkakeakdgidigaaDoor
open Go.RowKit Go.Proofs.YtkakeakdgidigaaDoor.GrM Go.Proofs.YtkakeakdgidigaaDoor.FcM Go.Proofs.YtkakeakdgidigaaDoor.VdM

set_option maxHeartbeats 2000000 in
set_option maxRecDepth 100000 in
theorem growD (N : Nat) (w : World) (hN : N ≤ 1000000) :
    Calls Tryd.prog 35 #[.slice none 0 0, .int .i64 N] w fun e w' => ∃ v', e = .returned v' ∧ OwnPr tyI12 w' w.heap.size v' [] ∧ Below w.heap.size w w' := by
  obtain ⟨i0, hi, hz0, hz1, hz2⟩ := info_parts infoD12
  by_cases h0 : 0 < N
  · have RZ := Lib.hid (Lib.run_append_nil_zeros (P := Tryd.prog) w 59 3 59 62 i0 (.agg #[.int .i64 0, .int .i64 0]) .i64 .i64 Tryd.underlying59 Tryd.underlying3 hi hz0 N h0 (by omega) (by omega) (by rw [hz2]; omega))
    have t1 : decide (0 < N) = true := by simpa using h0
    have g1 := grownCap_ge w N 0 62
    have g2 := grownCap_le_maxLen w N 0 62 (by unfold maxLen; omega)
    generalize grownCap w N 0 62 = c at *
    go_enter Tryd.func35, Tryd.ntmps35
    go_wp2_with (at_builtin; refine Lib.wpList_append_run _ rfl (.tmp 20) (.tmp 21) 59 3 rfl _ _ rfl rfl _ _ RZ.out ?_)
    go_ret
    refine ⟨_, rfl, ?_, ((Below.refl _ _).drew).alloc (by simp) _⟩
    refine ⟨by simp, Or.inr ⟨w.heap.size, c, Builtin.zeroCells (Value.agg #[.int .i64 0, .int .i64 0]).cells N ++ Builtin.zeroCells (Value.agg #[.int .i64 0, .int .i64 0]).cells (c - N), rfl, Nat.le_refl _, heap_alloc_new w.drew _, Nat.zero_le _, g2, ?_, by simp⟩⟩
    rw [Array.size_append, size_zeroCells, size_zeroCells]
    simp [Value.cells]
    omega
  · obtain rfl : N = 0 := by omega
    go_enter Tryd.func35, Tryd.ntmps35
    go_wp2
    go_ret
    exact ⟨_, rfl, World.ownsRow_nil _ _ _ _, Below.refl _ _⟩
theorem OwnPr.congrV {T : TypeId} {w : World} {B : Nat} {v : Value} {P Q : List (Int × Int)} (h : OwnPr T w B v P) (e : P = Q) : OwnPr T w B v Q := e ▸ h
def CdL (F : List (List (Int × Int))) (w wr : World) (sv iv : Value) : Prop := ∃ k : Nat, iv = .int .i64 k ∧ k ≤ F.length ∧ sv = .int .i64 ((F.take k).flatten.length : Nat) ∧ wr = w
def CdR (F : List (List (Int × Int))) (w wr : World) (lv iv : Value) : Prop := ∃ k : Nat, iv = .int .i64 k ∧ k ≤ F.length ∧ Below w.heap.size w wr ∧ OwnPr tyI12 wr w.heap.size lv (F.take k).flatten
theorem take_flat_le (F : List (List (Int × Int))) (k : Nat) : (F.take k).flatten.length ≤ F.flatten.length := by
  have := congrArg (fun z => z.flatten.length) (List.take_append_drop k F)
  simp only [List.flatten_append, List.length_append] at this
  omega
theorem prNews {w : World} {b o : Nat} {P : List (Int × Int)} {m : Nat} (hm : P.length = m) (hc : ∀ k, k < m → w.cell? ⟨b, o + k * 2, none⟩ = some (.int .i64 (P.getD k (0, 0)).1) ∧ w.cell? ⟨b, o + k * 2 + 1, none⟩ = some (.int .i64 (P.getD k (0, 0)).2)) : ∀ j u, (P.flatMap encP)[j]? = some u → w.cell? ((⟨b, o, none⟩ : Addr).add j) = some u := by
  intro j u hu
  have hl := encP_len P
  have hj : j < P.length * 2 := by have := (List.getElem?_eq_some_iff.1 hu).1; omega
  have hk : j / 2 < m := by omega
  obtain ⟨e1, e2⟩ := encP_at P (j / 2) (by omega)
  obtain ⟨c1, c2⟩ := hc (j / 2) hk
  rw [show (⟨b, o, none⟩ : Addr).add j = ⟨b, o + j, none⟩ by unfold Addr.add; split <;> simp_all]
  rcases (by omega : j = j / 2 * 2 ∨ j = j / 2 * 2 + 1) with h | h
  · rw [h] at hu ⊢
    exact c1.trans (e1.symm.trans hu)
  · rw [h] at hu ⊢
    exact c2.trans (e2.symm.trans hu)
theorem encP_lenA (P : List (Int × Int)) : (P.flatMap encP).length = P.length * 2 := encP_len P
theorem prs_app {w0 w w' : World} {v v' : Value} {K X : List (Int × Int)} {m : Nat} (hm : X.length = m) (hB : Below w0.heap.size w0 w) (hO : OwnPr tyI12 w w0.heap.size v K) (hown : w'.ownsRow w0.heap.size tyI12 2 v' (K.length + m) (K.flatMap encP ++ X.flatMap encP)) (hgrow : w.grownBy w' v.ownBlock) :
    OwnPr tyI12 w' w0.heap.size v' (K ++ X) ∧ Below w0.heap.size w0 w' := by
  subst hm
  refine ⟨?_, hB.trans (((Out.refl _ w).grown (S := fun b => v.ownBlock = some b) hgrow (fun _ _ e => e)).below hB.size (fun i _ e => (World.ownsRow.lt hO i e).1))⟩
  unfold OwnPr
  rw [List.length_append, List.flatMap_append]
  exact hown
def CatP (F : List (List (Int × Int))) (w : World) (e : Ending) (w' : World) : Prop := ∃ v', e = .returned v' ∧ OwnPr tyI12 w' w.heap.size v' F.flatten ∧ Below w.heap.size w w'
set_option maxHeartbeats 8000000 in
set_option maxRecDepth 100000 in
theorem concatD (fv : Value) (F : List (List (Int × Int))) (n : Nat) (w : World) (hF : FcsAt w fv F n) (hn : n ≤ 1000000) (hs : F.flatten.length ≤ 1000000) (hne : ∀ k, k < n → 0 < (F.getD k []).length) :
    Calls Tryd.prog 18 #[fv] w (CatP F w) := by
  have HF := Lib.hid hF
  have hfl : F.length = n := hF.1
  have HFL := Lib.hid hfl
  obtain ⟨A0, c0, e⟩ := hF.form
  subst e
  have HS := Lib.hid (fun k => Nat.le_trans (take_flat_le F k) hs)
  have ST := Lib.hid (fun k (h : k < F.length) => flat_takeV h)
  have NE := Lib.hid hne
  clear hF hfl hs hne
  obtain ⟨i0, hi, hz0, hz1, hz2⟩ := info_parts infoD12
  go_enter Tryd.func18, Tryd.ntmps18
  go_wp2
  go_loopw [3, 11] (fun sv iv wr => CdL F w wr sv iv) (fun _ iv _ => n - (intOf iv).toNat)
  case atStart => exact ⟨0, rfl, by omega, rfl, rfl⟩
  case round =>
    obtain ⟨k, rfl, hk, rfl, hw⟩ := hrel
    rw [HFL.out] at hk
    have hw2 : w = wr := hw.symm
    clear hw
    subst hw2
    by_cases hlt : k < n
    · have q0 : decide (k < n) = true := decide_eq_true hlt
      obtain ⟨b, o, c9, s, e, hb, hs, hp⟩ := HF.out.nth hlt
      simp only [Value.slice.injEq, true_and] at e
      obtain ⟨rfl, rfl⟩ := e
      obtain ⟨AG, cg, e, -, -⟩ := hp
      subst e
      have hst := ST.out k (by rw [HFL.out]; exact hlt)
      have hle := HS.out k
      have hle1 := HS.out (k + 1)
      obtain ⟨x, hx⟩ : ∃ x, F.getD k [] = x := ⟨_, rfl⟩
      rw [hx] at hs hst
      obtain ⟨m, hm⟩ : ∃ m, x.length = m := ⟨_, rfl⟩
      rw [hm] at hs
      rw [hst, List.length_append, hm] at hle1
      have E1 : Hid ((F.take (k + 1)).flatten.length = (F.take k).flatten.length + m) := Lib.hid (by rw [hst, List.length_append, hm])
      obtain ⟨q, hq⟩ : ∃ q, (F.take k).flatten.length = q := ⟨_, rfl⟩
      rw [hq] at hle hle1 E1
      rw [hq]
      clear hx hm hst hq
      go_wp2_with fail
      go_roundw
      case rel => exact ⟨k + 1, by go_num, by rw [HFL.out]; omega, by rw [E1.out]; (try go_num), rfl⟩
      case measure => (simp [intOf] <;> omega)
    · have hkn : k = n := by omega
      subst hkn
      have q0 : decide (k < k) = false := decide_eq_false hlt
      have e0 : (F.take k).flatten = F.flatten := by rw [List.take_of_length_le (by rw [HFL.out]; exact Nat.le_refl _)]
      have hle := HS.out k
      have E0 := Lib.hid e0
      obtain ⟨q, hq⟩ : ∃ q, (F.take k).flatten.length = q := ⟨_, rfl⟩
      rw [hq] at hle
      rw [hq]
      clear hq e0
      go_wp2_with (go_at_call 35; refine (growD q _ hle).mono ?_; rintro e w1 ⟨v1, rfl, ho, hb⟩; have O1 := Lib.hid ho; have B1 := Lib.hid hb; clear ho hb)
      go_loopw [6, 27] (fun lv iv wr => CdR F w wr lv iv) (fun _ iv _ => k - (intOf iv).toNat)
      case atStart => exact ⟨0, rfl, by omega, B1.out, O1.out⟩
      case round =>
        clear O1 B1
        obtain ⟨j, rfl, hj, hB, hO⟩ := hrel
        rw [HFL.out] at hj
        have B := Lib.hid hB
        have O := Lib.hid hO
        obtain ⟨ao, cp, e⟩ := hO.form
        subst e
        have hle2 := HS.out j
        by_cases hlj : j < k
        · have q1 : decide (j < k) = true := decide_eq_true hlj
          obtain ⟨b, o, c9, s, e, hb, hs, hp⟩ := (HF.out.below hB (Nat.le_refl _)).nth hlj
          simp only [Value.slice.injEq, true_and] at e
          obtain ⟨rfl, rfl⟩ := e
          obtain ⟨AG, cg, e, hcm, hpc⟩ := hp
          subst e
          have hst := ST.out j (by rw [HFL.out]; exact hlj)
          have hle3 := HS.out (j + 1)
          have hm0 := NE.out j hlj
          obtain ⟨x, hx⟩ : ∃ x, F.getD j [] = x := ⟨_, rfl⟩
          rw [hx] at hs hst hpc hm0
          obtain ⟨m, hm⟩ : ∃ m, x.length = m := ⟨_, rfl⟩
          rw [hm] at hs hpc hm0
          rw [hst, List.length_append, hm] at hle3
          have ET := Lib.hid hst
          obtain ⟨K, hK⟩ : ∃ K, (F.take j).flatten = K := ⟨_, rfl⟩
          rw [hK] at O hle2 hle3 ET
          rw [hK]
          have HM := Lib.hid hm
          have HB0 := B.out.size
          clear hx hst hO hB hK hcm hm
          obtain ⟨b2, o2, e, hb2, hx2⟩ := hpc (by omega)
          subst e
          have NW := Lib.hid (prNews HM.out hx2)
          obtain ⟨kl, hkl⟩ : ∃ kl, K.length = kl := ⟨_, rfl⟩
          have HKL := Lib.hid hkl
          have O' := O.out
          unfold OwnPr at O'
          rw [hkl] at O' hle2 hle3
          rw [hkl]
          have OA := Lib.hid O'
          clear hx2 hpc hkl O'
          go_wp2_with (at_builtin; refine wpList_append_fresh rfl (.tmp 31) (.tmp 32) 59 rfl w.heap.size 62 i0 (.agg #[.int .i64 0, .int .i64 0]) 2 16 Tryd.underlying59 hi hz0 hz1 hz2 rfl (by decide) (.slice ao kl cp) kl (K.flatMap encP) rfl OA.out ⟨b2, o2, none⟩ m cg (x.flatMap encP) rfl (by rw [encP_lenA, HM.out]) NW.out (encP_one x) (by unfold maxLen; omega) (by omega) HB0 ?_; intro v5 w5 hown hgrow hfr; obtain ⟨o5, b5⟩ := prs_app HM.out B.out O.out (by rw [HKL.out]; exact hown) (by rw [HKL.out]; exact hgrow); have O5 := Lib.hid o5; have B5 := Lib.hid b5; clear hown hgrow hfr o5 b5)
          go_roundw
          case rel => exact ⟨j + 1, by go_num, by rw [HFL.out]; omega, B5.out, by rw [ET.out]; exact O5.out⟩
          case measure => (simp [intOf] <;> omega)
        · have hjk : j = k := by omega
          subst hjk
          have q1 : decide (j < j) = false := decide_eq_false hlj
          have OO := Lib.hid hO
          clear hO O hB
          go_wp2_with fail
          go_ret
          exact ⟨_, rfl, OO.out.congrV E0.out, B.out⟩
end Go.Proofs.YtkakeakdgidigaaDoor
