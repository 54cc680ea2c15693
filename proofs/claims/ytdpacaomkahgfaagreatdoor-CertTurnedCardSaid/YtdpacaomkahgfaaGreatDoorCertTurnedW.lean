/-
  CertTurned: the walk. Conditions: what Solve is asked to leave; the library's table and errors are laid.
-/
import Derived.Test.YtdpacaomkahgfaaGreatDoorCtG
import Derived.Test.YtdpacaomkahgfaaGreatDoorCtM
import Derived.Test.YtdpacaomkahgfaaGreatDoorCrLc
import Derived.Deep.RegionHeld3
import Derived.IntWalk
namespace Go.Proofs.YtdpacaomkahgfaaGreatDoor
open Go.RowKit Go.Proofs.YtdpacaomkahgfaaGreatDoor.DagM

def TcRel (K : List Arc) (w0 wr : World) (lv iv : Value) : Prop := ∃ (k : Nat) (TL : List Arc), iv = .int .i64 k ∧ k ≤ K.length ∧ TL = turnA (K.take k) ∧ Below w0.heap.size w0 wr ∧ OwnA wr w0.heap.size lv TL
def NgRel (x : List Int) (w0 wr : World) (lv iv : Value) : Prop := ∃ (k : Nat) (XL : List Int), iv = .int .i64 k ∧ k ≤ x.length ∧ XL = (x.take k).map (fun c => -c) ∧ Below w0.heap.size w0 wr ∧ OwnI wr w0.heap.size lv XL
def SbRel (n : Nat) (K M : List Arc) (w0 wr : World) (lv iv : Value) : Prop := ∃ (k : Nat) (BL : List Arc), iv = .int .i64 k ∧ k ≤ M.length ∧ BL = K ++ moveA n (M.take k) ∧ Below w0.heap.size w0 wr ∧ OwnA wr w0.heap.size lv BL
theorem ng_snoc (x : List Int) (j : Nat) (h : j < x.length) : (x.take (j + 1)).map (fun c => -c) = (x.take j).map (fun c => -c) ++ [-x[j]] := by
  rw [List.take_succ_eq_append_getElem h, List.map_append]
  rfl
theorem turn_snoc (K : List Arc) (k : Nat) (h : k < K.length) : turnA (K.take (k + 1)) = turnA (K.take k) ++ [(K[k].2.1, K[k].1, K[k].2.2)] := by
  unfold turnA
  rw [List.take_succ_eq_append_getElem h, List.map_append]
  rfl
theorem move_snoc (n : Nat) (K M : List Arc) (k : Nat) (h : k < M.length) : K ++ moveA n (M.take (k + 1)) = K ++ moveA n (M.take k) ++ [((n : Int) + M[k].1, (n : Int) + M[k].2.1, M[k].2.2)] := by
  unfold moveA
  rw [List.take_succ_eq_append_getElem h, List.map_append, List.append_assoc]
  rfl
theorem turn_dag {n : Nat} {K : List Arc} (h : Rise n K) (hn : n ≤ 4096) : May n (turnA K) ∧ ordErr n (turnA K) = 0 := by
  have hM : May n (turnA K) := ⟨by omega, by omega, by have := h.len; simp [turnA]; omega, fun a ha => by
    obtain ⟨b, hb, rfl⟩ := List.mem_map.1 ha
    have := h.ok b hb
    simp only
    omega⟩
  exact ⟨hM, ord_rises hM (fun i => -(i : Int)) (fun a ha => by
    obtain ⟨b, hb, rfl⟩ := List.mem_map.1 ha
    have := h.ok b hb
    simp only
    omega)⟩
theorem beside_dag {n m : Nat} {K M : List Arc} (h : Rise n K) (h' : Rise m M) (hn : n + m ≤ 4096) : May ((n + m : Nat) : Int) (K ++ moveA n M) ∧ ordErr ((n + m : Nat) : Int) (K ++ moveA n M) = 0 := by
  have each : ∀ c ∈ K ++ moveA n M, 0 ≤ c.1 ∧ c.1 < c.2.1 ∧ c.2.1 < ((n + m : Nat) : Int) ∧ 0 ≤ c.2.2 ∧ c.2.2 ≤ 7 := by
    intro c hc
    rcases List.mem_append.1 hc with hc | hc
    · have := h.ok c hc; omega
    · obtain ⟨b, hb, rfl⟩ := List.mem_map.1 hc
      have := h'.ok b hb
      simp only
      omega
  have hM : May ((n + m : Nat) : Int) (K ++ moveA n M) := ⟨by omega, by omega, by have := h.len; have := h'.len; simp [moveA]; omega, fun c hc => by have := each c hc; omega⟩
  exact ⟨hM, ord_rises hM (fun i => (i : Int)) (fun c hc => by have := each c hc; omega)⟩

set_option maxHeartbeats 8000000 in
set_option maxRecDepth 100000 in
theorem turnedCert (hS : SolveSpec) (N : Int) (A : Option Addr) (len cap : Nat) (D : Nat → Int × Int × Int) (N' : Int) (A' : Option Addr) (len' cap' : Nat) (D' : Nat → Int × Int × Int) (w : World) (hTb : TabE w) (hN0 : 0 ≤ N) (hN1 : N ≤ 255) (hT : TriAt w A len D) (hN0' : 0 ≤ N') (hN1' : N' ≤ 255) (hT' : TriAt w A' len' D') :
    Calls Tryz.prog 7 #[.agg #[.int .u8 N, .slice A len cap], .agg #[.int .u8 N', .slice A' len' cap']] w fun e w' => e = .returned (.bool true) ∧ Below w.heap.size w w' := by
  have T := Lib.hid hT
  have T' := Lib.hid hT'
  have HT := Lib.hid hTb
  have SV := Lib.hid hS
  clear hT hT' hS hTb
  obtain ⟨i0, hi, hz0, hz1, hz2⟩ := info_parts infoA3c
  obtain ⟨j0, hj, hy0, hy1, hy2⟩ := info_parts infoI
  go_enter Tryz.func7, Tryz.ntmps7
  go_upto_region 9 with (first
    | (go_at_call 8; have _hz := z1; go_loud (refine (make_ N' A' len' cap' 12 D' _ hN0' hN1' (by omega) (by omega) (T'.out.below B1.out)).mono ?_; rintro e w2 ⟨m, vM, M, rfl, hmm, hRm, hO, hb⟩; obtain ⟨aM, cM, rfl⟩ := hO.form; have OM := Lib.hid hO.arcs; have OK2 := Lib.hid (OK1.out.below hb); have B2 := Lib.hid (B1.out.trans (hb.mono (by omega))); have z2 : w.heap.size + 2 ≤ w2.heap.size := (by have := hb.size; omega); have hm1 : 1 ≤ m := hRm.n1; have hMl : M.length ≤ 40 := hRm.len; have RR := Lib.hid hRm; clear hRm hO hb))
    | (go_at_call 8; go_loud (refine (make_ N A len cap 12 D _ hN0 hN1 (by omega) (by omega) (T.out.below (((Below.refl _ _).alloc (Nat.le_refl _) _).alloc (by simp) _))).mono ?_; rintro e w1 ⟨n, vK, K, rfl, hnm, hRi, hO, hb⟩; obtain ⟨aK, cK, rfl⟩ := hO.form; have OK1 := Lib.hid hO.arcs; have k0 : w1.cell? ⟨w.heap.size + 1, 0, none⟩ = some (.int .u8 N') := (hb.cell (p := ⟨w.heap.size + 1, 0, none⟩) (by simp)).trans (by go_simp); have k1 : w1.cell? ⟨w.heap.size + 1, 1, none⟩ = some (.slice A' len' cap') := (hb.cell (p := ⟨w.heap.size + 1, 1, none⟩) (by simp)).trans (by go_simp); have B1 : Hid (Below w.heap.size w w1) := Lib.hid ((two_up w _ _).trans (hb.mono (by simp; omega))); have z1 : w.heap.size + 2 ≤ w1.heap.size := (by have := hb.size; simpa using this); have hn1 : 1 ≤ n := hRi.n1; have hKl : K.length ≤ 40 := hRi.len; have R := Lib.hid hRi; clear hRi hO hb))
    | (go_at_call 9; have _hz := z3; go_loud (refine (SV.out.ok m _ M _ (OM3.out.below (one_up w3 _)) (RR.out.ord (by omega))).mono ?_; rintro e w4 ⟨xv2, fv2, x2, f2, ways2, rfl, hx, hf, hs, hb⟩; obtain ⟨ax2, cx2, h1⟩ := hx.form; rw [hs.len] at h1; subst h1; obtain ⟨af2, cf2, h2⟩ := hf.form; rw [hs.flen] at h2; subst h2; have S2 := Lib.hid hs; have q4 := one_below hb; have r0 : w4.cell? ⟨w3.heap.size, 0, none⟩ = some (.slice ax1 n cx1) := (hb.cell (p := ⟨w3.heap.size, 0, none⟩) (by simp)).trans (by go_simp); have r1 : w4.cell? ⟨w3.heap.size, 1, none⟩ = some (.slice af1 K.length cf1) := (hb.cell (p := ⟨w3.heap.size, 1, none⟩) (by simp)).trans (by go_simp); have z34 : w3.heap.size < w4.heap.size := (by have := hb.size; simp at this; omega); have B4 := Lib.hid (B3.out.trans (q4.mono (by omega))); have z4 : w.heap.size + 2 ≤ w4.heap.size := (by omega); have OK4 := Lib.hid (OK3.out.below q4); have OM4 := Lib.hid (OM3.out.below q4); have X14 := Lib.hid (X13.out.below q4); have F14 := Lib.hid (F13.out.below q4); have X24 := Lib.hid hx.src; have F24 := Lib.hid hf.src; have XI4 := Lib.hid (XI3.out.below q4); have FI4 := Lib.hid (FI3.out.below q4); clear hx hf hs hb q4))
    | (go_at_call 9; go_loud (refine (SV.out.ok n _ K _ OK2.out (R.out.ord (by omega))).mono ?_; rintro e w3 ⟨xv1, fv1, x1, f1, ways1, rfl, hx, hf, hs, hb⟩; obtain ⟨ax1, cx1, h1⟩ := hx.form; rw [hs.len] at h1; subst h1; obtain ⟨af1, cf1, h2⟩ := hf.form; rw [hs.flen] at h2; subst h2; have S1 := Lib.hid hs; have X13 := Lib.hid hx.src; have F13 := Lib.hid hf.src; have XI3 := Lib.hid hx.ints; have FI3 := Lib.hid hf.ints; have B3 := Lib.hid (B2.out.trans (hb.mono (by omega))); have z3 : w.heap.size + 2 ≤ w3.heap.size := (by have := hb.size; omega); have OK3 := Lib.hid (OK2.out.below hb); have OM3 := Lib.hid (OM.out.below hb); clear hx hf hs hb))
    | (go_at_call 12; go_loud (refine (wakes6 _ (HT.out.below (B4.out.trans ((one_up w4 _).mono (by omega))) (Nat.le_refl _))).mono ?_; rintro e w5 ⟨rfl, hb⟩; have q5 := one_below hb; have e0 : w5.cell? ⟨w4.heap.size, 0, none⟩ = some (.slice ax2 m cx2) := (hb.cell (p := ⟨w4.heap.size, 0, none⟩) (by simp)).trans (by go_simp); have e1 : w5.cell? ⟨w4.heap.size, 1, none⟩ = some (.slice af2 M.length cf2) := (hb.cell (p := ⟨w4.heap.size, 1, none⟩) (by simp)).trans (by go_simp); have z45 : w4.heap.size < w5.heap.size := (by have := hb.size; simp at this; omega); have r05 := (q5.cell (p := ⟨w3.heap.size, 0, none⟩) z34).trans r0; have r15 := (q5.cell (p := ⟨w3.heap.size, 1, none⟩) z34).trans r1; have B5 := Lib.hid (B4.out.trans (q5.mono (by omega))); have OK5 := Lib.hid (OK4.out.below q5); have OM5 := Lib.hid (OM4.out.below q5); have X15 := Lib.hid (X14.out.below q5); have F15 := Lib.hid (F14.out.below q5); have X25 := Lib.hid (X24.out.below q5); have XI5 := Lib.hid (XI4.out.below q5); have FI5 := Lib.hid (FI4.out.below q5); have F25 := Lib.hid (F24.out.below q5); clear hb q5)))
  have XL := Lib.hid S1.out.len
  have NX := Lib.hid S1.out.near
  clear k0 k1 r0 r1 T T' HT SV OK1 OK2 OK3 OK4 OM OM3 OM4 B1 B2 B3 B4 X13 X14 X24 F13 F14 F24 XI3 XI4 FI3 FI4
  go_wp2
  go_loopw [13, 56] (fun lv iv wr => TcRel K w5 wr lv iv) (fun _ iv _ => K.length - (intOf iv).toNat)
  case atStart => exact ⟨0, [], rfl, by omega, rfl, Below.refl _ _, World.ownsRow_nil _ _ _ _⟩
  case round =>
    obtain ⟨j, TL, rfl, hj1, hTL, hB, hO⟩ := hrel
    have B := Lib.hid hB
    have O := Lib.hid hO
    have HTL := Lib.hid hTL
    have hbz := hB.size
    have hll : TL.length ≤ 40 := by rw [hTL]; simp [turnA]; omega
    obtain ⟨ao, cp, rfl⟩ := hO.form
    clear hB hO hTL
    by_cases hlt : j < K.length
    · obtain ⟨A2, cap2, e, _, hA⟩ := OK5.out
      simp only [Value.slice.injEq, true_and] at e
      obtain ⟨rfl, rfl⟩ := e
      obtain ⟨b, o, rfl, hb, hcell⟩ := hA (by omega)
      obtain ⟨c0, c1, c2⟩ := hcell j hlt
      have d0 := (B.out.cell (p := ⟨b, o + j * 3, none⟩) hb).trans c0
      have d1 := (B.out.cell (p := ⟨b, o + j * 3 + 1, none⟩) hb).trans c1
      have d2 := (B.out.cell (p := ⟨b, o + j * 3 + 2, none⟩) hb).trans c2
      have RS := Lib.hid (turn_snoc K j hlt)
      clear hA hcell c0 c1 c2
      generalize K[j] = a at *
      obtain ⟨x, y, z⟩ := a
      simp only at d0 d1 d2
      go_wp2_with (at_builtin; refine wpList_append_fresh rfl (.tmp 60) (.tmp 68) 29 rfl w5.heap.size 40 i0 (.agg #[.int .i64 0, .int .i64 0, .int .i64 0]) 3 24 Tryz.underlying29 hi hz0 hz1 hz2 rfl (by decide) (.slice ao TL.length cp) TL.length (TL.flatMap encA) rfl (O.out.below (((Below.refl _ _).alloc (Nat.le_refl _) _).alloc (by simp) _)) ⟨wr.heap.size + 1, 0, none⟩ 1 1 (encA (y, x, z)) rfl rfl (newsA _ _ _ _ (by simp)) (encA_one _) (by unfold maxLen; omega) (by omega) (by simp; omega) ?_; intro v5 w6 hown hgrow hfr; obtain ⟨o5, b5⟩ := arc_app (K := TL) (B.out.trans (((((Below.refl _ _).alloc (Nat.le_refl _) _).alloc (by simp) _)).mono hbz)) (O.out.below (((Below.refl _ _).alloc (Nat.le_refl _) _).alloc (by simp) _)) hown hgrow; have O5 := Lib.hid o5; have B5' := Lib.hid b5; clear hown hgrow hfr o5 b5)
      go_roundw
      case rel => exact ⟨j + 1, _, by go_num, by omega, by rw [RS.out, ← HTL.out], B5'.out, O5.out⟩
      case measure => simp [intOf]; omega
    · obtain hjk : j = K.length := by omega
      have htk : TL = turnA K := by rw [HTL.out, hjk, List.take_length]
      have HTK := Lib.hid htk
      have t0 : decide (j < K.length) = false := by simpa using hlt
      have r0 := (B.out.cell (p := ⟨w3.heap.size, 0, none⟩) (show w3.heap.size < w5.heap.size by omega)).trans r05
      have r1 := (B.out.cell (p := ⟨w3.heap.size, 1, none⟩) (show w3.heap.size < w5.heap.size by omega)).trans r15
      have s0 := (B.out.cell (p := ⟨w4.heap.size, 0, none⟩) z45).trans e0
      have s1 := (B.out.cell (p := ⟨w4.heap.size, 1, none⟩) z45).trans e1
      have TA := Lib.hid O.out.arcs
      have OK6 := Lib.hid (OK5.out.below B.out)
      have OM6 := Lib.hid (OM5.out.below B.out)
      have X16 := Lib.hid (X15.out.below B.out)
      have F16 := Lib.hid (F15.out.below B.out)
      have X26 := Lib.hid (X25.out.below B.out)
      have F26 := Lib.hid (F25.out.below B.out)
      have XI6 := Lib.hid (XI5.out.below B.out)
      have FI6 := Lib.hid (FI5.out.below B.out)
      have B6 := Lib.hid (B5.out.trans (B.out.mono (by omega)))
      have z46 : w4.heap.size < wr.heap.size := by omega
      have z6 : w.heap.size + 2 ≤ wr.heap.size := by omega
      obtain ⟨wa, hwa⟩ : ∃ W, W = wr := ⟨_, rfl⟩
      subst hwa
      clear htk hlt hjk hj1 HTL O B OK5 OM5 X15 F15 X25 F25 XI5 FI5 B5 r05 r15 e0 e1 z45 hbz
      go_wp2
      go_loopw [14, 74] (fun lv iv wr => NgRel x1 wa wr lv iv) (fun _ iv _ => n - (intOf iv).toNat)
      case atStart => exact ⟨0, [], rfl, by omega, rfl, Below.refl _ _, World.ownsRow_nil _ _ _ _⟩
      case round =>
        obtain ⟨j, NL, rfl, hj1, hNL, hB, hO⟩ := hrel
        rw [XL.out] at hj1
        have B := Lib.hid hB
        have O := Lib.hid hO
        have HNL := Lib.hid hNL
        have hbz := hB.size
        have hll2 : NL.length ≤ 12 := by rw [hNL]; simp; omega
        obtain ⟨ao2, cp2, rfl⟩ := hO.form
        clear hB hO hNL
        by_cases hlt : j < n
        · have hltx : j < x1.length := by rw [XL.out]; exact hlt
          obtain ⟨bx, ox, cx3, e, hbx, x0⟩ := XI6.out.nth hltx
          simp only [Value.slice.injEq] at e
          obtain ⟨rfl, -, rfl⟩ := e
          have d0 := (B.out.cell (p := ⟨bx, ox + j, none⟩) hbx).trans x0
          have hn := NX.out x1[j] (List.getElem_mem hltx)
          have RS := Lib.hid (ng_snoc x1 j hltx)
          clear x0
          generalize x1[j] = u at *
          clear hltx
          obtain ⟨hu0, hu1⟩ := hn
          go_wp2_with (at_builtin; refine wpList_append_fresh rfl (.tmp 78) (.tmp 81) 25 rfl wa.heap.size 3 j0 (.int .i64 0) 1 8 Tryz.underlying25 hj hy0 hy1 hy2 rfl (by decide) (.slice ao2 NL.length cp2) NL.length (NL.map (Value.int .i64)) rfl (O.out.below ((Below.refl _ _).alloc (Nat.le_refl _) _)) ⟨wr.heap.size, 0, none⟩ 1 1 [.int .i64 (-u)] rfl rfl (newsI _ _ _ _ (by simp)) (oneI _) (by unfold maxLen; omega) (by omega) (by simp; omega) ?_; intro v5 w7 hown hgrow hfr; obtain ⟨o5, b5⟩ := int_app (B.out.trans (((Below.refl _ _).alloc (Nat.le_refl _) _).mono hbz)) (O.out.below ((Below.refl _ _).alloc (Nat.le_refl _) _)) hown hgrow; have O5 := Lib.hid o5; have B5 := Lib.hid b5; clear hown hgrow hfr o5 b5)
          go_roundw
          case rel => exact ⟨j + 1, _, by go_num, by rw [XL.out]; omega, by rw [RS.out, ← HNL.out], B5.out, O5.out⟩
          case measure => simp [intOf]; omega
        · obtain hjk : j = n := by omega
          have htk : NL = x1.map (fun c => -c) := by rw [HNL.out, hjk, ← XL.out, List.take_length]
          have HNK := Lib.hid htk
          have t1 : decide (j < n) = false := by simpa using hlt
          have r07 := (B.out.cell (p := ⟨w3.heap.size, 0, none⟩) (show w3.heap.size < wa.heap.size by omega)).trans r0
          have r17 := (B.out.cell (p := ⟨w3.heap.size, 1, none⟩) (show w3.heap.size < wa.heap.size by omega)).trans r1
          have s07 := (B.out.cell (p := ⟨w4.heap.size, 0, none⟩) z46).trans s0
          have s17 := (B.out.cell (p := ⟨w4.heap.size, 1, none⟩) z46).trans s1
          have TA7 := Lib.hid (TA.out.below B.out)
          have NA7 := Lib.hid O.out.ints
          have OK7 := Lib.hid (OK6.out.below B.out)
          have OM7 := Lib.hid (OM6.out.below B.out)
          have X17 := Lib.hid (X16.out.below B.out)
          have F17 := Lib.hid (F16.out.below B.out)
          have X27 := Lib.hid (X26.out.below B.out)
          have F27 := Lib.hid (F26.out.below B.out)
          have FI7 := Lib.hid (FI6.out.below B.out)
          have B7 := Lib.hid (B6.out.trans (B.out.mono (by omega)))
          have z47 : w4.heap.size < wr.heap.size := by omega
          have z7 : w.heap.size + 2 ≤ wr.heap.size := by omega
          obtain ⟨wb, hwb⟩ : ∃ W, W = wr := ⟨_, rfl⟩
          subst hwb
          clear htk hlt hjk hj1 HNL O B OK6 OM6 X16 F16 X26 F26 XI6 FI6 B6 r0 r1 s0 s1 z46 TA hbz
          go_wp2_with (go_at_call 11; go_loud (refine (cloneA _ K _ OK7.out (by omega)).mono ?_; rintro e w8 ⟨v8, rfl, ho, hb⟩; obtain ⟨a8, c8, rfl⟩ := ho.form; have O8 := Lib.hid ho; have Q8 := Lib.hid hb; clear ho hb))
          go_loopw [19, 88] (fun lv iv wr => SbRel n K M wb wr lv iv) (fun _ iv _ => M.length - (intOf iv).toNat)
          case atStart => exact ⟨0, K, rfl, by omega, by simp [moveA], Q8.out, O8.out⟩
          case round =>
            clear O8 Q8
            obtain ⟨j2, BL, rfl, hj2, hBL, hB, hO⟩ := hrel
            have B := Lib.hid hB
            have O := Lib.hid hO
            have HBL := Lib.hid hBL
            have hbz := hB.size
            have hll3 : BL.length ≤ 80 := by rw [hBL]; simp [moveA]; omega
            obtain ⟨ao3, cp3, rfl⟩ := hO.form
            clear hB hO hBL
            by_cases hlt : j2 < M.length
            · obtain ⟨A2, cap2, e, _, hA⟩ := OM7.out
              simp only [Value.slice.injEq, true_and] at e
              obtain ⟨rfl, rfl⟩ := e
              obtain ⟨b, o, rfl, hb, hcell⟩ := hA (by omega)
              obtain ⟨c0, c1, c2⟩ := hcell j2 hlt
              have d0 := (B.out.cell (p := ⟨b, o + j2 * 3, none⟩) hb).trans c0
              have d1 := (B.out.cell (p := ⟨b, o + j2 * 3 + 1, none⟩) hb).trans c1
              have d2 := (B.out.cell (p := ⟨b, o + j2 * 3 + 2, none⟩) hb).trans c2
              have RS := Lib.hid (move_snoc n K M j2 hlt)
              have ok := RR.out.ok M[j2] (List.getElem_mem hlt)
              clear hA hcell c0 c1 c2
              generalize M[j2] = a at *
              obtain ⟨x, y, z⟩ := a
              simp only at d0 d1 d2 ok
              obtain ⟨ok0, ok1, ok2, _, _⟩ := ok
              have hx12 : x ≤ 12 := by omega
              have hy0' : 0 ≤ y := by omega
              have hy12 : y ≤ 12 := by omega
              go_wp2_with (at_builtin; refine wpList_append_fresh rfl (.tmp 92) (.tmp 104) 29 rfl wb.heap.size 40 i0 (.agg #[.int .i64 0, .int .i64 0, .int .i64 0]) 3 24 Tryz.underlying29 hi hz0 hz1 hz2 rfl (by decide) (.slice ao3 BL.length cp3) BL.length (BL.flatMap encA) rfl (O.out.below (((Below.refl _ _).alloc (Nat.le_refl _) _).alloc (by simp) _)) ⟨wr.heap.size + 1, 0, none⟩ 1 1 (encA ((n : Int) + x, (n : Int) + y, z)) rfl rfl (newsA _ _ _ _ (by simp)) (encA_one _) (by unfold maxLen; omega) (by omega) (by simp; omega) ?_; intro v5 w9 hown hgrow hfr; obtain ⟨o5, b5⟩ := arc_app (K := BL) (B.out.trans (((((Below.refl _ _).alloc (Nat.le_refl _) _).alloc (by simp) _)).mono hbz)) (O.out.below (((Below.refl _ _).alloc (Nat.le_refl _) _).alloc (by simp) _)) hown hgrow; have O5 := Lib.hid o5; have B5 := Lib.hid b5; clear hown hgrow hfr o5 b5)
              go_roundw
              case rel => exact ⟨j2 + 1, _, by go_num, by omega, by rw [RS.out, ← HBL.out], B5.out, O5.out⟩
              case measure => simp [intOf]; omega
            · obtain hjk : j2 = M.length := by omega
              have htk : BL = K ++ moveA n M := by rw [HBL.out, hjk, List.take_length]
              have t2 : decide (j2 < M.length) = false := by simpa using hlt
              obtain ⟨q, hq, hq2⟩ : ∃ q : Nat, (n : Int) + (m : Int) = (q : Int) ∧ q = n + m := ⟨n + m, by omega, rfl⟩
              have hwq : IntKind.i64.wrap (q : Int) = q := IntWalk.i64_in _ (by omega)
              have c1 : certErr n TL NL f1 = 0 := by rw [HTK.out, HNK.out]; exact turned_cert (R.out.ord (by omega)) (turn_dag R.out (by omega)).2 (by omega) S1.out
              have c2 : certErr q BL (x1 ++ x2) (f1 ++ f2) = 0 := by rw [hq2, htk]; exact beside_cert (R.out.ord (by omega)) (RR.out.ord (by omega)) (beside_dag R.out RR.out (by omega)).2 (by omega) (by omega) S1.out S2.out
              have C1 := Lib.hid c1
              have C2 := Lib.hid c2
              have hTl : TL.length ≤ 40 := hll
              have g0 := (B.out.cell (p := ⟨w3.heap.size, 0, none⟩) (show w3.heap.size < wb.heap.size by omega)).trans r07
              have g1 := (B.out.cell (p := ⟨w3.heap.size, 1, none⟩) (show w3.heap.size < wb.heap.size by omega)).trans r17
              have g2 := (B.out.cell (p := ⟨w4.heap.size, 0, none⟩) z47).trans s07
              have g3 := (B.out.cell (p := ⟨w4.heap.size, 1, none⟩) z47).trans s17
              have y3 : w3.heap.size < wr.heap.size := by omega
              have y4 : w4.heap.size < wr.heap.size := by omega
              have TZ := Lib.hid (TA7.out.below B.out)
              have NZ := Lib.hid (NA7.out.below B.out)
              have BZ := Lib.hid O.out.arcs
              have X1 := Lib.hid (X17.out.below B.out)
              have F1 := Lib.hid (F17.out.below B.out)
              have X2 := Lib.hid (X27.out.below B.out)
              have F2 := Lib.hid (F27.out.below B.out)
              have FI := Lib.hid (FI7.out.below B.out)
              have BW := Lib.hid (B7.out.trans (B.out.mono (by omega)))
              have zw := BW.out.size
              have L1 : Hid ((x1 ++ x2).length = q) := Lib.hid (by rw [List.length_append, S1.out.len, S2.out.len, hq2])
              obtain ⟨fl, hfl⟩ : ∃ fl, K.length + M.length = fl := ⟨_, rfl⟩
              have L2 : Hid ((f1 ++ f2).length = fl) := Lib.hid (by rw [List.length_append, S1.out.flen, S2.out.flen, hfl])
              have lx1 : Hid (x1.length ≤ 1000) := Lib.hid (by rw [S1.out.len]; omega)
              have lx2 : Hid (x2.length ≤ 1000) := Lib.hid (by rw [S2.out.len]; omega)
              have lf1 : Hid (f1.length ≤ 1000) := Lib.hid (by rw [S1.out.flen]; omega)
              have lf2 : Hid (f2.length ≤ 1000) := Lib.hid (by rw [S2.out.flen]; omega)
              obtain ⟨xc, hxc⟩ : ∃ xc, x1 ++ x2 = xc := ⟨_, rfl⟩
              obtain ⟨fc, hfc⟩ : ∃ fc, f1 ++ f2 = fc := ⟨_, rfl⟩
              have XC := Lib.hid hxc
              have FC := Lib.hid hfc
              rw [hxc, hfc] at C2
              rw [hxc] at L1
              rw [hfc] at L2
              obtain ⟨wz, hwz⟩ : ∃ W, W = wr := ⟨_, rfl⟩
              subst hwz
              clear htk hlt hjk hj2 HBL O B TA7 NA7 OK7 OM7 X17 F17 X27 F27 FI7 B7 r07 r17 s07 s17 z47 hbz c1 c2 hq2 hfl hxc hfc
              go_upto_region 25 with fail
              go_region_held3 (fun w' => w'.cell? ⟨w3.heap.size, 0, none⟩ = some (.slice ax1 n cx1) ∧ w'.cell? ⟨w3.heap.size, 1, none⟩ = some (.slice af1 K.length cf1) ∧ w'.cell? ⟨w4.heap.size, 0, none⟩ = some (.slice ax2 m cx2) ∧ w'.cell? ⟨w4.heap.size, 1, none⟩ = some (.slice af2 M.length cf2))
                (first
                  | go_keep
                  | (go_split_ands
                     refine ⟨?_, ?_, ?_, ?_⟩
                     · (first | (rw [Q4.out.cell (p := ⟨w3.heap.size, 0, none⟩) y3]; exact g0) | (rw [Q3.out.cell (p := ⟨w3.heap.size, 0, none⟩) y3]; exact g0) | (rw [Q2.out.cell (p := ⟨w3.heap.size, 0, none⟩) y3]; exact g0) | (rw [Q1.out.cell (p := ⟨w3.heap.size, 0, none⟩) y3]; exact g0))
                     · (first | (rw [Q4.out.cell (p := ⟨w3.heap.size, 1, none⟩) y3]; exact g1) | (rw [Q3.out.cell (p := ⟨w3.heap.size, 1, none⟩) y3]; exact g1) | (rw [Q2.out.cell (p := ⟨w3.heap.size, 1, none⟩) y3]; exact g1) | (rw [Q1.out.cell (p := ⟨w3.heap.size, 1, none⟩) y3]; exact g1))
                     · (first | (rw [Q4.out.cell (p := ⟨w4.heap.size, 0, none⟩) y4]; exact g2) | (rw [Q3.out.cell (p := ⟨w4.heap.size, 0, none⟩) y4]; exact g2) | (rw [Q2.out.cell (p := ⟨w4.heap.size, 0, none⟩) y4]; exact g2) | (rw [Q1.out.cell (p := ⟨w4.heap.size, 0, none⟩) y4]; exact g2))
                     · (first | (rw [Q4.out.cell (p := ⟨w4.heap.size, 1, none⟩) y4]; exact g3) | (rw [Q3.out.cell (p := ⟨w4.heap.size, 1, none⟩) y4]; exact g3) | (rw [Q2.out.cell (p := ⟨w4.heap.size, 1, none⟩) y4]; exact g3) | (rw [Q1.out.cell (p := ⟨w4.heap.size, 1, none⟩) y4]; exact g3))))
                ((first
                  | (go_at_call 13; have _hz := Q3; go_loud (refine (checkC q _ _ _ BL xc fc _ (BZ.out.below Q3.out) I2.out I3.out (by omega)).mono ?_; rintro e v4 ⟨rfl, hb⟩; rw [C2.out]; have Q4 := Lib.hid (Q3.out.trans (hb.mono Q3.out.size)); clear hb))
                  | (go_at_call 13; go_loud (refine (checkC n _ _ _ TL NL f1 _ (TZ.out.below (Below.refl wz.heap.size wz).drew) (NZ.out.below (Below.refl wz.heap.size wz).drew) (FI.out.below (Below.refl wz.heap.size wz).drew) (by omega)).mono ?_; rintro e v1 ⟨rfl, hb⟩; rw [C1.out]; have Q1 : Hid (Below wz.heap.size wz v1) := Lib.hid ((Below.refl wz.heap.size wz).drew.trans hb); clear hb))
                  | (go_at_call 22; have _hz := Q2; go_loud (refine (concat2 _ (.slice af1 K.length cf1) (.slice af2 M.length cf2) f1 f2 _ (by first | (go_simp; done) | exact (H2.out.cell (p := ⟨_, 0, none⟩) (by first | (simp; done) | (simp; omega))).trans (by go_simp)) (by first | (go_simp; done) | exact (H2.out.cell (p := ⟨_, 1, none⟩) (by first | (simp; done) | (simp; omega))).trans (by go_simp)) (F1.out.below (by first | exact Q2.out | exact Q2.out.trans ((one_up v2 _).mono Q2.out.size))) (F2.out.below (by first | exact Q2.out | exact Q2.out.trans ((one_up v2 _).mono Q2.out.size))) lf1.out lf2.out).mono ?_; rintro e v3 ⟨u3, rfl, ho, hb⟩; rw [FC.out] at ho; obtain ⟨a3, c3, h3⟩ := ho.form; rw [L2.out] at h3; subst h3; have I3 := Lib.hid ho.ints; have Q3 : Hid (Below wz.heap.size wz v3) := Lib.hid (by first | exact Q2.out.trans (hb.mono Q2.out.size) | exact Q2.out.trans ((one_below hb).mono Q2.out.size)); have I2 : Hid (IntsAt v3 (.slice a2 q c2) xc) := Lib.hid (by first | exact I1.out.below hb | exact I1.out.below (one_below hb)); clear ho hb))
                  | (go_at_call 22; go_loud (refine (concat2 _ (.slice ax1 n cx1) (.slice ax2 m cx2) x1 x2 _ (by go_simp) (by go_simp) (X1.out.below (by first | exact Q1.out.trans ((one_up v1 _).mono Q1.out.size) | exact Q1.out.trans ((two_up v1 _ _).mono Q1.out.size))) (X2.out.below (by first | exact Q1.out.trans ((one_up v1 _).mono Q1.out.size) | exact Q1.out.trans ((two_up v1 _ _).mono Q1.out.size))) lx1.out lx2.out).mono ?_; rintro e v2 ⟨u2, rfl, ho, hb⟩; rw [XC.out] at ho; obtain ⟨a2, c2, h2⟩ := ho.form; rw [L1.out] at h2; subst h2; have I1 := Lib.hid ho.ints; have H2 := Lib.hid hb; have Q2 : Hid (Below wz.heap.size wz v2) := Lib.hid (by first | exact Q1.out.trans ((one_below hb).mono Q1.out.size) | exact Q1.out.trans ((two_below hb).mono Q1.out.size)); clear ho hb))))
              all_goals
                go_wp2
                go_ret
                exact ⟨rfl, BW.out.trans (Q4.out.mono zw)⟩
end Go.Proofs.YtdpacaomkahgfaaGreatDoor
