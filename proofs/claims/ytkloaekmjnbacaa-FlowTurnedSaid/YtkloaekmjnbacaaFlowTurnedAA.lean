/-
  FlowTurned: the walk. Conditions: what Solve and Supply are asked to leave.
  FlowTurned: its arguments opened. Conditions: what Solve and Supply are asked to leave.
-/
import Derived.Test.YtkloaekmjnbacaaFlowLa
import Derived.Test.YtkloaekmjnbacaaFlowLc
import Derived.Test.YtkloaekmjnbacaaFlowLb
import Derived.Deep.RegionHeld3
import Derived.IntWalk
namespace Go.Proofs.Ytkloaekmjnbacaa
open Go.RowKit Go.Proofs.Ytkloaekmjnbacaa.DagM

def TnRel (K : List Arc) (w0 wr : World) (lv iv : Value) : Prop := ∃ (k : Nat) (TL : List Arc), iv = .int .i64 k ∧ k ≤ K.length ∧ TL = turnA (K.take k) ∧ Below w0.heap.size w0 wr ∧ OwnA wr w0.heap.size lv TL
def SdRel (n : Nat) (K M : List Arc) (w0 wr : World) (lv iv : Value) : Prop := ∃ (k : Nat) (BL : List Arc), iv = .int .i64 k ∧ k ≤ M.length ∧ BL = K ++ moveA n (M.take k) ∧ Below w0.heap.size w0 wr ∧ OwnA wr w0.heap.size lv BL
theorem turn_snoc (K : List Arc) (k : Nat) (h : k < K.length) : turnA (K.take (k + 1)) = turnA (K.take k) ++ [(K[k].2.1, K[k].1, K[k].2.2)] := by
  unfold turnA
  rw [List.take_succ_eq_append_getElem h, List.map_append]
  rfl
theorem move_snoc (n : Nat) (K M : List Arc) (k : Nat) (h : k < M.length) : K ++ moveA n (M.take (k + 1)) = K ++ moveA n (M.take k) ++ [((n : Int) + M[k].1, (n : Int) + M[k].2.1, M[k].2.2)] := by
  unfold moveA
  rw [List.take_succ_eq_append_getElem h, List.map_append, List.append_assoc]
  rfl
theorem turn_dag {n : Nat} {K : List Arc} (h : Rise n K) (hn : n ≤ 4096) : May n (turnA K) ∧ ordErr n (turnA K) = 0 := by
  have hM : May n (turnA K) := ⟨by omega, by omega, by have := h.len; simp [turnA]; omega, fun a ha => by
    obtain ⟨b, hb, rfl⟩ := List.mem_map.1 ha
    have := h.ok b hb
    simp only
    omega⟩
  exact ⟨hM, ord_rises hM (fun i => -(i : Int)) (fun a ha => by
    obtain ⟨b, hb, rfl⟩ := List.mem_map.1 ha
    have := h.ok b hb
    simp only
    omega)⟩
theorem beside_dag {n m : Nat} {K M : List Arc} (h : Rise n K) (h' : Rise m M) (hn : n + m ≤ 4096) : May ((n + m : Nat) : Int) (K ++ moveA n M) ∧ ordErr ((n + m : Nat) : Int) (K ++ moveA n M) = 0 := by
  have each : ∀ c ∈ K ++ moveA n M, 0 ≤ c.1 ∧ c.1 < c.2.1 ∧ c.2.1 < ((n + m : Nat) : Int) ∧ 0 ≤ c.2.2 ∧ c.2.2 ≤ 7 := by
    intro c hc
    rcases List.mem_append.1 hc with hc | hc
    · have := h.ok c hc; omega
    · obtain ⟨b, hb, rfl⟩ := List.mem_map.1 hc
      have := h'.ok b hb
      simp only
      omega
  have hM : May ((n + m : Nat) : Int) (K ++ moveA n M) := ⟨by omega, by omega, by have := h.len; have := h'.len; simp [moveA]; omega, fun c hc => by have := each c hc; omega⟩
  exact ⟨hM, ord_rises hM (fun i => (i : Int)) (fun c hc => by have := each c hc; omega)⟩

set_option maxHeartbeats 8000000 in
set_option maxRecDepth 100000 in
theorem turnedLaw (hS : SolveSpec) (hU : SupplySpec) (N : Int) (A : Option Addr) (len cap : Nat) (D : Nat → Int × Int × Int) (N' : Int) (A' : Option Addr) (len' cap' : Nat) (D' : Nat → Int × Int × Int) (w : World) (hN0 : 0 ≤ N) (hN1 : N ≤ 255) (hT : TriAt w A len D) (hN0' : 0 ≤ N') (hN1' : N' ≤ 255) (hT' : TriAt w A' len' D') :
    Calls Try.prog 7 #[.agg #[.int .u8 N, .slice A len cap], .agg #[.int .u8 N', .slice A' len' cap']] w fun e w' => e = .returned (.bool true) ∧ Below w.heap.size w w' := by
  have T := Lib.hid hT
  have T' := Lib.hid hT'
  have SV := Lib.hid hS
  have SU := Lib.hid hU
  clear hT hT' hS hU
  obtain ⟨i0, hi, hz0, hz1, hz2⟩ := info_parts infoA3c
  go_enter Try.func7, Try.ntmps7
  go_wp2_with (first
    | (go_at_call 8; have _hz := z1; refine (make_ N' A' len' cap' 12 D' _ hN0' hN1' (by omega) (by omega) (T'.out.below B1.out)).mono ?_; rintro e w2 ⟨m, vM, M, rfl, hmm, hRm, hO, hb⟩; obtain ⟨aM, cM, rfl⟩ := hO.form; have OM := Lib.hid hO.arcs; have OK2 := Lib.hid (OK1.out.below hb); have B2 := Lib.hid (B1.out.trans (hb.mono (by omega))); have z2 := hb.size; have hm1 : 1 ≤ m := hRm.n1; have hMl : M.length ≤ 40 := hRm.len; have RR := Lib.hid hRm; clear hRm hO hb)
    | (go_at_call 8; refine (make_ N A len cap 12 D _ hN0 hN1 (by omega) (by omega) (T.out.below (((Below.refl _ _).alloc (Nat.le_refl _) _).alloc (by simp) _))).mono ?_; rintro e w1 ⟨n, vK, K, rfl, hnm, hRi, hO, hb⟩; obtain ⟨aK, cK, rfl⟩ := hO.form; have OK1 := Lib.hid hO.arcs; have k0 : w1.cell? ⟨w.heap.size + 1, 0, none⟩ = some (.int .u8 N') := (hb.cell (p := ⟨w.heap.size + 1, 0, none⟩) (by simp)).trans (by go_simp); have k1 : w1.cell? ⟨w.heap.size + 1, 1, none⟩ = some (.slice A' len' cap') := (hb.cell (p := ⟨w.heap.size + 1, 1, none⟩) (by simp)).trans (by go_simp); have B1 : Hid (Below w.heap.size w w1) := Lib.hid ((((Below.refl _ _).alloc (Nat.le_refl _) _).alloc (by simp) _).trans (hb.mono (by simp; omega))); have z1 : w.heap.size + 2 ≤ w1.heap.size := (by have := hb.size; simpa using this); have hn1 : 1 ≤ n := hRi.n1; have hKl : K.length ≤ 40 := hRi.len; have R := Lib.hid hRi; clear hRi hO hb))
  clear k0 k1
  go_loopw [9, 36, 11] (fun lv iv _ wr => TnRel K w2 wr lv iv) (fun _ iv _ _ => K.length - (intOf iv).toNat)
  case atStart => exact ⟨0, [], rfl, by omega, rfl, Below.refl _ _, World.ownsRow_nil _ _ _ _⟩
  case round =>
    obtain ⟨j, TL, rfl, hj, hTL, hB, hO⟩ := hrel
    have B := Lib.hid hB
    have O := Lib.hid hO
    have HT := Lib.hid hTL
    have hbz := hB.size
    have hll : TL.length ≤ 40 := by rw [hTL]; simp [turnA]; omega
    obtain ⟨ao, cp, rfl⟩ := hO.form
    clear hB hO hTL
    by_cases hlt : j < K.length
    · obtain ⟨A2, cap2, e, _, hA⟩ := OK2.out
      simp only [Value.slice.injEq, true_and] at e
      obtain ⟨rfl, rfl⟩ := e
      obtain ⟨b, o, rfl, hb, hcell⟩ := hA (by omega)
      obtain ⟨c0, c1, c2⟩ := hcell j hlt
      have d0 := (B.out.cell (p := ⟨b, o + j * 3, none⟩) hb).trans c0
      have d1 := (B.out.cell (p := ⟨b, o + j * 3 + 1, none⟩) hb).trans c1
      have d2 := (B.out.cell (p := ⟨b, o + j * 3 + 2, none⟩) hb).trans c2
      have RS := Lib.hid (turn_snoc K j hlt)
      clear hA hcell c0 c1 c2
      generalize K[j] = a at *
      obtain ⟨x, y, z⟩ := a
      simp only at d0 d1 d2
      go_wp2_with (at_builtin; refine wpList_append_fresh rfl (.tmp 40) (.tmp 48) 26 rfl w2.heap.size 43 i0 (.agg #[.int .i64 0, .int .i64 0, .int .i64 0]) 3 24 Try.underlying26 hi hz0 hz1 hz2 rfl (by decide) (.slice ao TL.length cp) TL.length (TL.flatMap encA) rfl (O.out.below (((Below.refl _ _).alloc (Nat.le_refl _) _).alloc (by simp) _)) ⟨wr.heap.size + 1, 0, none⟩ 1 1 (encA (y, x, z)) rfl rfl (newsA _ _ _ _ (by simp)) (encA_one _) (by unfold maxLen; omega) (by omega) (by simp; omega) ?_; intro v5 w5 hown hgrow hfr; obtain ⟨o5, b5⟩ := arc_app (K := TL) (B.out.trans (((((Below.refl _ _).alloc (Nat.le_refl _) _).alloc (by simp) _)).mono hbz)) (O.out.below (((Below.refl _ _).alloc (Nat.le_refl _) _).alloc (by simp) _)) hown hgrow; have O5 := Lib.hid o5; have B5 := Lib.hid b5; clear hown hgrow hfr o5 b5)
      go_roundw
      case rel => exact ⟨j + 1, _, by go_num, by omega, by rw [RS.out, ← HT.out], B5.out, O5.out⟩
      case measure => simp [intOf]; omega
    · obtain hjk : j = K.length := by omega
      have htk : TL = turnA K := by rw [HT.out, hjk, List.take_length]
      have HTK := Lib.hid htk
      have t0 : decide (j < K.length) = false := by simpa using hlt
      have OK3 := Lib.hid (OK2.out.below B.out)
      have OM3 := Lib.hid (OM.out.below B.out)
      clear htk hlt hjk hj HT OK2 OM
      go_wp2_with (go_at_call 17; refine (cloneA _ K _ OK3.out (by omega)).mono ?_; rintro e w4 ⟨v4, rfl, ho, hb⟩; obtain ⟨a4, c4, rfl⟩ := ho.form; have O4 := Lib.hid ho; have Q4 := Lib.hid hb; have z4 := hb.size; clear ho hb)
      obtain ⟨wa, hwa⟩ : ∃ W, W = wr := ⟨_, rfl⟩
      subst hwa
      have TA := Lib.hid (O.out.arcs)
      have BA := Lib.hid (B2.out.trans (B.out.mono (by omega)))
      have hza := BA.out.size
      clear O OK1 B1 B2 B T T'
      go_loopw [12, 55, 14] (fun lv iv _ wr => SdRel n K M wa wr lv iv) (fun _ iv _ _ => M.length - (intOf iv).toNat)
      case atStart => exact ⟨0, K, rfl, by omega, by simp [moveA], Q4.out, O4.out⟩
      case round =>
        clear O4 Q4
        obtain ⟨j2, BL, rfl, hj, hBL, hB, hO⟩ := hrel
        have B := Lib.hid hB
        have O := Lib.hid hO
        have HBL := Lib.hid hBL
        have hbz := hB.size
        have hll : BL.length ≤ 80 := by rw [hBL]; simp [moveA]; omega
        obtain ⟨ao2, cp2, rfl⟩ := hO.form
        clear hB hO hBL
        by_cases hlt : j2 < M.length
        · obtain ⟨A2, cap2, e, _, hA⟩ := OM3.out
          simp only [Value.slice.injEq, true_and] at e
          obtain ⟨rfl, rfl⟩ := e
          obtain ⟨b, o, rfl, hb, hcell⟩ := hA (by omega)
          obtain ⟨c0, c1, c2⟩ := hcell j2 hlt
          have d0 := (B.out.cell (p := ⟨b, o + j2 * 3, none⟩) hb).trans c0
          have d1 := (B.out.cell (p := ⟨b, o + j2 * 3 + 1, none⟩) hb).trans c1
          have d2 := (B.out.cell (p := ⟨b, o + j2 * 3 + 2, none⟩) hb).trans c2
          have RS := Lib.hid (move_snoc n K M j2 hlt)
          have ok := RR.out.ok M[j2] (List.getElem_mem hlt)
          clear hA hcell c0 c1 c2
          generalize M[j2] = a at *
          obtain ⟨x, y, z⟩ := a
          simp only at d0 d1 d2 ok
          obtain ⟨ok0, ok1, ok2, _, _⟩ := ok
          have hx12 : x ≤ 12 := by omega
          have hy0 : 0 ≤ y := by omega
          have hy12 : y ≤ 12 := by omega
          go_wp2_with (at_builtin; refine wpList_append_fresh rfl (.tmp 59) (.tmp 71) 26 rfl wa.heap.size 43 i0 (.agg #[.int .i64 0, .int .i64 0, .int .i64 0]) 3 24 Try.underlying26 hi hz0 hz1 hz2 rfl (by decide) (.slice ao2 BL.length cp2) BL.length (BL.flatMap encA) rfl (O.out.below (((Below.refl _ _).alloc (Nat.le_refl _) _).alloc (by simp) _)) ⟨wr.heap.size + 1, 0, none⟩ 1 1 (encA ((n : Int) + x, (n : Int) + y, z)) rfl rfl (newsA _ _ _ _ (by simp)) (encA_one _) (by unfold maxLen; omega) (by omega) (by simp; omega) ?_; intro v5 w5 hown hgrow hfr; obtain ⟨o5, b5⟩ := arc_app (K := BL) (B.out.trans (((((Below.refl _ _).alloc (Nat.le_refl _) _).alloc (by simp) _)).mono hbz)) (O.out.below (((Below.refl _ _).alloc (Nat.le_refl _) _).alloc (by simp) _)) hown hgrow; have O5 := Lib.hid o5; have B5 := Lib.hid b5; clear hown hgrow hfr o5 b5)
          go_roundw
          case rel => exact ⟨j2 + 1, _, by go_num, by omega, by rw [RS.out, ← HBL.out], B5.out, O5.out⟩
          case measure => simp [intOf]; omega
        · obtain hjk : j2 = M.length := by omega
          have htk : BL = K ++ moveA n M := by rw [HBL.out, hjk, List.take_length]
          have HBK := Lib.hid htk
          have t1 : decide (j2 < M.length) = false := by simpa using hlt
          obtain ⟨q, hq, hq2⟩ : ∃ q : Nat, (n : Int) + (m : Int) = (q : Int) ∧ q = n + m := ⟨n + m, by omega, rfl⟩
          have AKz := Lib.hid (OK3.out.below B.out)
          have AMz := Lib.hid (OM3.out.below B.out)
          have ATz := Lib.hid (TA.out.below B.out)
          have ABz := Lib.hid O.out.arcs
          have oT : Hid (May n TL ∧ ordErr n TL = 0) := Lib.hid (by rw [HTK.out]; exact turn_dag R.out (by omega))
          have oB : Hid (May q BL ∧ ordErr q BL = 0) := Lib.hid (by rw [HBK.out, hq2]; exact beside_dag R.out RR.out (by omega))
          have oK : Hid (May n K ∧ ordErr n K = 0) := Lib.hid ⟨R.out.may (by omega), R.out.ord (by omega)⟩
          have oM : Hid (May m M ∧ ordErr m M = 0) := Lib.hid ⟨RR.out.may (by omega), RR.out.ord (by omega)⟩
          have BZ := Lib.hid (BA.out.trans (B.out.mono hza))
          have HQ := Lib.hid hq2
          clear htk hlt hjk hj HBL O B TA OK3 OM3 hq2
          go_wp2_with (first
            | (go_at_call 9; have _hz := z3; refine (SV.out.ok q _ BL _ (ABz.out.below (Q3.out.trans (((Below.refl _ _).alloc (Nat.le_refl _) _).mono z3))) oB.out.2).mono ?_; rintro e s4 ⟨xv4, fv4, x4, f4, ways4, rfl, hx, hf, hs, hb⟩; obtain ⟨ax4, cx4, h1⟩ := hx.form; rw [hs.len] at h1; subst h1; obtain ⟨af4, cf4, h2⟩ := hf.form; rw [hs.flen] at h2; subst h2; have S4 := Lib.hid hs; have X4 := Lib.hid hx.ints; have b4 : Below s3.heap.size s3 s4 := ((Below.refl _ _).alloc (Nat.le_refl _) _).trans (hb.mono (by simp)); have W4 := Lib.hid b4; have K3 : Hid (s4.cell? ⟨s3.heap.size, 0, none⟩ = some (.slice ax3 m cx3)) := Lib.hid ((hb.cell (p := ⟨s3.heap.size, 0, none⟩) (by simp)).trans (by go_simp)); have y4 : s3.heap.size < s4.heap.size := (by have := hb.size; simp at this; omega); have Q4 := Lib.hid (Q3.out.trans (b4.mono z3)); have z4b := Q4.out.size; clear hx hf hs hb b4)
            | (go_at_call 9; have _hz := z2b; refine (SV.out.ok m _ M _ (AMz.out.below (Q2.out.trans (((Below.refl _ _).alloc (Nat.le_refl _) _).mono Q2.out.size))) oM.out.2).mono ?_; rintro e s3 ⟨xv3, fv3, x3, f3, ways3, rfl, hx, hf, hs, hb⟩; obtain ⟨ax3, cx3, h1⟩ := hx.form; rw [hs.len] at h1; subst h1; obtain ⟨af3, cf3, h2⟩ := hf.form; rw [hs.flen] at h2; subst h2; have S3 := Lib.hid hs; have X3 := Lib.hid hx.ints; have b3 : Below s2.heap.size s2 s3 := ((Below.refl _ _).alloc (Nat.le_refl _) _).trans (hb.mono (by simp)); have Q3 := Lib.hid (Q2.out.trans (b3.mono Q2.out.size)); have z3 := Q3.out.size; have W3 := Lib.hid b3; have K2 : Hid (s3.cell? ⟨s2.heap.size, 0, none⟩ = some (.slice ax2 n cx2)) := Lib.hid ((hb.cell (p := ⟨s2.heap.size, 0, none⟩) (by simp)).trans (by go_simp)); have y3 : s2.heap.size < s3.heap.size := (by have := hb.size; simp at this; omega); clear hx hf hs hb b3)
            | (go_at_call 9; have _hz := z1b; refine (SV.out.ok n _ TL _ (ATz.out.below (Q1.out.trans (((Below.refl _ _).alloc (Nat.le_refl _) _).mono Q1.out.size))) oT.out.2).mono ?_; rintro e s2 ⟨xv2, fv2, x2, f2, ways2, rfl, hx, hf, hs, hb⟩; obtain ⟨ax2, cx2, h1⟩ := hx.form; rw [hs.len] at h1; subst h1; obtain ⟨af2, cf2, h2⟩ := hf.form; rw [hs.flen] at h2; subst h2; have S2 := Lib.hid hs; have X2 := Lib.hid hx.ints; have b2 : Below s1.heap.size s1 s2 := ((Below.refl _ _).alloc (Nat.le_refl _) _).trans (hb.mono (by simp)); have W2 := Lib.hid b2; have Q2 := Lib.hid (Q1.out.trans (b2.mono Q1.out.size)); have z2b := Q2.out.size; have K1 : Hid (s2.cell? ⟨s1.heap.size, 0, none⟩ = some (.slice ax1 n cx1)) := Lib.hid ((hb.cell (p := ⟨s1.heap.size, 0, none⟩) (by simp)).trans (by go_simp)); have y2 : s1.heap.size < s2.heap.size := (by have := hb.size; simp at this; omega); clear hx hf hs hb b2)
            | (go_at_call 9; refine (SV.out.ok n _ K _ AKz.out oK.out.2).mono ?_; rintro e s1 ⟨xv1, fv1, x1, f1, ways1, rfl, hx, hf, hs, hb⟩; obtain ⟨ax1, cx1, h1⟩ := hx.form; rw [hs.len] at h1; subst h1; obtain ⟨af1, cf1, h2⟩ := hf.form; rw [hs.flen] at h2; subst h2; have S1 := Lib.hid hs; have X1 := Lib.hid hx.ints; have Q1 := Lib.hid hb; have z1b := hb.size; clear hx hf hs hb)
            | (go_at_call 10; have _hz := z4b; refine (wakes5 SV.out SU.out _).mono ?_; rintro e s5 ⟨rfl, hb⟩; have b5 : Below s4.heap.size s4 s5 := ((Below.refl _ _).alloc (Nat.le_refl _) _).trans (hb.mono (by simp)); have g4 : s5.cell? ⟨s4.heap.size, 0, none⟩ = some (.slice ax4 q cx4) := (hb.cell (p := ⟨s4.heap.size, 0, none⟩) (by simp)).trans (by go_simp); have y5 : s4.heap.size < s5.heap.size := (by have := hb.size; simp at this; omega); have g3 := (b5.cell (p := ⟨s3.heap.size, 0, none⟩) y4).trans K3.out; have g2 := (b5.cell (p := ⟨s2.heap.size, 0, none⟩) (show s2.heap.size < s4.heap.size by omega)).trans ((W4.out.cell (p := ⟨s2.heap.size, 0, none⟩) y3).trans K2.out); have g1 := (b5.cell (p := ⟨s1.heap.size, 0, none⟩) (show s1.heap.size < s4.heap.size by omega)).trans ((W4.out.cell (p := ⟨s1.heap.size, 0, none⟩) (show s1.heap.size < s3.heap.size by omega)).trans ((W3.out.cell (p := ⟨s1.heap.size, 0, none⟩) y2).trans K1.out)); have Q5 := Lib.hid (Q4.out.trans (b5.mono z4b)); have z5 := Q5.out.size; have W5 := Lib.hid b5; clear hb b5))
          have e2 : costSum x2 TL = costSum x1 K := by
            have h := S2.out
            rw [HTK.out] at h ⊢
            exact turned (may_ends oK.out.1) S1.out h
          have e3 : costSum x4 BL = costSum x1 K + costSum x3 M := by
            have h := S4.out
            rw [HBK.out] at h ⊢
            rw [HQ.out] at h
            exact beside (may_ends oK.out.1) (may_ends oM.out.1) S1.out S3.out h
          have nr1 := cost_near oK.out.1 S1.out.val_near
          have nr3 := cost_near oM.out.1 S3.out.val_near
          have I1 := Lib.hid (X1.out.below (W2.out.trans ((W3.out.trans ((W4.out.trans (W5.out.mono (Nat.le_of_lt y4))).mono (Nat.le_of_lt y3))).mono (Nat.le_of_lt y2))))
          have I2 := Lib.hid (X2.out.below (W3.out.trans ((W4.out.trans (W5.out.mono (Nat.le_of_lt y4))).mono (Nat.le_of_lt y3))))
          have I3 := Lib.hid (X3.out.below (W4.out.trans (W5.out.mono (Nat.le_of_lt y4))))
          have I4 := Lib.hid (X4.out.below W5.out)
          obtain ⟨c0, hc0⟩ : ∃ c0, costSum x1 K = c0 := ⟨_, rfl⟩
          obtain ⟨c1, hc1⟩ : ∃ c1, costSum x3 M = c1 := ⟨_, rfl⟩
          obtain ⟨ee, hee⟩ : ∃ ee, c0 + c1 = ee := ⟨_, rfl⟩
          rw [hc0] at e2 nr1
          rw [hc0, hc1, hee] at e3
          rw [hc1] at nr3
          have V1 := Lib.hid hc0
          have V2 := Lib.hid e2
          have V3 := Lib.hid hc1
          have V4 := Lib.hid e3
          have he1 : -400000000000 ≤ ee := by omega
          have he2 : ee ≤ 400000000000 := by omega
          have hwe : IntKind.i64.wrap ee = ee := IntWalk.i64_in _ (by omega)
          have hws : IntKind.i64.wrap (c0 + c1) = ee := by rw [hee]; exact hwe
          have BF := Lib.hid (BZ.out.trans (Q5.out.mono BZ.out.size))
          have hs5 := BF.out.size
          clear e2 e3 nr1 nr3 hc0 hc1 g1
          refine (refCost n _ _ K x1 _ oK.out.1 (S1.out.coord oK.out.1) S1.out.fit (AKz.out.below Q5.out) I1.out).mono ?_
          rintro e s6 ⟨rfl, hb⟩
          rw [V1.out]
          have g2' := (hb.cell (p := ⟨s2.heap.size, 0, none⟩) (show s2.heap.size < s5.heap.size by omega)).trans g2
          have g3' := (hb.cell (p := ⟨s3.heap.size, 0, none⟩) (show s3.heap.size < s5.heap.size by omega)).trans g3
          have g4' := (hb.cell (p := ⟨s4.heap.size, 0, none⟩) y5).trans g4
          have W6 := Lib.hid hb
          have hs6 := hb.size
          clear g2 g3 g4 hb
          go_wp2
          go_region_held3 (fun w' => w'.cell? ⟨s2.heap.size, 0, none⟩ = some (.slice ax2 n cx2) ∧ w'.cell? ⟨s4.heap.size, 0, none⟩ = some (.slice ax4 q cx4) ∧ w'.cell? ⟨s3.heap.size, 0, none⟩ = some (.slice ax3 m cx3))
            (first
              | go_keep
              | (go_split_ands
                 refine ⟨?_, ?_, ?_⟩
                 · (first | (rw [P3.out.cell (p := ⟨s2.heap.size, 0, none⟩) (show s2.heap.size < s6.heap.size by omega)]; exact g2') | (rw [P2.out.cell (p := ⟨s2.heap.size, 0, none⟩) (show s2.heap.size < s6.heap.size by omega)]; exact g2') | (rw [P1.out.cell (p := ⟨s2.heap.size, 0, none⟩) (show s2.heap.size < s6.heap.size by omega)]; exact g2'))
                 · (first | (rw [P3.out.cell (p := ⟨s4.heap.size, 0, none⟩) (show s4.heap.size < s6.heap.size by omega)]; exact g4') | (rw [P2.out.cell (p := ⟨s4.heap.size, 0, none⟩) (show s4.heap.size < s6.heap.size by omega)]; exact g4') | (rw [P1.out.cell (p := ⟨s4.heap.size, 0, none⟩) (show s4.heap.size < s6.heap.size by omega)]; exact g4'))
                 · (first | (rw [P3.out.cell (p := ⟨s3.heap.size, 0, none⟩) (show s3.heap.size < s6.heap.size by omega)]; exact g3') | (rw [P2.out.cell (p := ⟨s3.heap.size, 0, none⟩) (show s3.heap.size < s6.heap.size by omega)]; exact g3') | (rw [P1.out.cell (p := ⟨s3.heap.size, 0, none⟩) (show s3.heap.size < s6.heap.size by omega)]; exact g3'))))
            ((first
              | (go_at_call 13; have _hz := p2; refine (refCost m _ _ M x3 _ oM.out.1 (S3.out.coord oM.out.1) S3.out.fit (AMz.out.below (Q5.out.trans ((W6.out.trans (P2.out.mono hs6)).mono z5))) (I3.out.below (W6.out.trans (P2.out.mono hs6)))).mono ?_; rintro e s9 ⟨rfl, hb⟩; rw [V3.out]; have P3 := Lib.hid (P2.out.trans (hb.mono p2)); clear hb)
              | (go_at_call 13; have _hz := p1; refine (refCost q _ _ BL x4 _ oB.out.1 (S4.out.coord oB.out.1) S4.out.fit (ABz.out.below (Q5.out.trans ((W6.out.trans (P1.out.mono hs6)).mono z5))) (I4.out.below (W6.out.trans (P1.out.mono hs6)))).mono ?_; rintro e s8 ⟨rfl, hb⟩; rw [V4.out]; have P2 := Lib.hid (P1.out.trans (hb.mono p1)); have p2 := P2.out.size; clear hb)
              | (go_at_call 13; refine (refCost n _ _ TL x2 _ oT.out.1 (S2.out.coord oT.out.1) S2.out.fit (ATz.out.below (Q5.out.trans ((W6.out.trans ((Below.refl s6.heap.size s6).drew.mono hs6)).mono z5))) (I2.out.below (W6.out.trans ((Below.refl s6.heap.size s6).drew.mono hs6)))).mono ?_; rintro e s7 ⟨rfl, hb⟩; rw [V2.out]; have P1 : Hid (Below s6.heap.size s6 s7) := Lib.hid ((Below.refl s6.heap.size s6).drew.trans hb); have p1 := P1.out.size; clear hb)))
          all_goals
            go_wp2
            go_ret
            exact ⟨rfl, BF.out.trans ((W6.out.trans (P3.out.mono hs6)).mono hs5)⟩
end Go.Proofs.Ytkloaekmjnbacaa

namespace Go.Proofs.Ytkloaekmjnbacaa
open Go.RowKit Go.ChangeShapes Go.WideShapes Go.Deep Go.Proofs.Ytkloaekmjnbacaa.DagM

set_option maxRecDepth 100000 in
theorem turned_arg {H : Type} {enc : TypeId × Value → H} {w : World} {v v' : Value} {d d' : DataW H} {p p' : List MemPlace} {spare spare' : Nat → Bool} {held held' : Bool} {b0 b0' : Nat} (hS : SolveSpec) (hU : SupplySpec)
    (hv : Value.okWide Try.prog w .any b0 24 v) (h : DataW.Trod enc Try.prog w 0 spare held 24 v d p)
    (hv' : Value.okWide Try.prog w .any b0' 24 v') (h' : DataW.Trod enc Try.prog w 0 spare' held' 24 v' d' p') :
    Calls Try.prog 7 #[v, v'] w fun e w' => e = .returned (.bool true) ∧ Below w.heap.size w w' := by
  obtain ⟨N, A, len, cap, D, rfl, h0, h1, hT⟩ := raw_open hv h
  obtain ⟨N', A', len', cap', D', rfl, h0', h1', hT'⟩ := raw_open hv' h'
  exact turnedLaw hS hU N A len cap D N' A' len' cap' D' w h0 h1 hT h0' h1' hT'
end Go.Proofs.Ytkloaekmjnbacaa
