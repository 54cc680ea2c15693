/-
  JoinTurns: the walk: at all places and every two bytes the call answers true and turns nothing that was there. Conditions: none.
-/
import Derived.Test.YtieffijdhcbcfaaJnK
import Derived.Test.YtieffijdhcbcfaaFcO
import Derived.Test.YtieffijdhcbcfaaFcZ
import Derived.BigRegion
namespace Go.Proofs.Ytieffijdhcbcfaa
open Go.RowKit Go.Proofs.Ytieffijdhcbcfaa.GrM Go.Proofs.Ytieffijdhcbcfaa.JoM

theorem good_chk13d {L : List Int} {n : Nat} (h : GoodG L n) (hn : n ≤ 4096) : chkG L n = 0 := chk_good.2 ⟨hn, h⟩
theorem castP_at13 {R : List (List Nat)} {i : Nat} (h : i < R.length) : (castP R).getD i [] = castN (R.getD i []) := by
  unfold castP
  rw [List.getD_eq_getElem?_getD, List.getD_eq_getElem?_getD, List.getElem?_map, List.getElem?_eq_getElem h]
  rfl
theorem map_at13 {R : List (List Nat)} (f : List Nat → List Nat) {i : Nat} (h : i < R.length) : (R.map f).getD i [] = f (R.getD i []) := by
  rw [List.getD_eq_getElem?_getD, List.getD_eq_getElem?_getD, List.getElem?_map, List.getElem?_eq_getElem h]
  rfl
theorem contains13 (P : List Nat) (v : Nat) : (castN P).contains (v : Int) = decide (v ∈ P) := by
  rw [Bool.eq_iff_iff, List.contains_iff_mem, decide_eq_true_eq]
  unfold castN
  rw [List.mem_map]
  constructor
  · rintro ⟨u, hu, e⟩
    obtain rfl : u = v := by omega
    exact hu
  · exact fun h => ⟨v, h, rfl⟩
def TsA (w0 wr : World) (m : Nat) (iv : Value) : Prop := ∃ i : Nat, iv = .int .i64 i ∧ i ≤ m ∧ Below w0.heap.size w0 wr
def TsB (B C m : Nat) (R : List (List Nat)) (SS : List Value) (pv : Value) (w0 wr : World) (iv : Value) : Prop :=
  ∃ i : Nat, iv = .int .i64 i ∧ i ≤ m ∧ Out (fun b => B ≤ b ∧ b < C) w0 wr ∧
    ∃ S' : List Value, wr.ownsRow B 38 1 pv m S' ∧ ∀ k, i ≤ k → k < m → S'[k]? = SS[k]? ∧ ∀ s, SS[k]? = some s → OwnZ wr B s (castN (R.getD k [])) (R.getD k []).length
set_option maxHeartbeats 16000000 in
set_option maxRecDepth 100000 in
theorem turns13 {A1 A2 A3 : Option Addr} {n1 n2 n3 : Nat} (c1 c2 c3 : Nat) {D1 D2 D3 : Nat → Int} (u0 u1 : Nat) (w : World) (h : Plane w A1 A2 A3 n1 n2 n3 D1 D2 D3) (h0 : u0 ≤ 255) (h1 : u1 ≤ 255) :
    Calls Try.prog 6 #[.agg #[.slice A1 n1 c1, .slice A2 n2 c2, .slice A3 n3 c3], .agg #[.int .u8 u0, .int .u8 u1]] w fun e w' => e = .returned (.bool true) ∧ Below w.heap.size w w' := by
  obtain ⟨j0, hj, hy0, hy1, hy2⟩ := info_parts infoInt12
  have HP := Lib.hid h
  have WK := Lib.hid (fun w => wakes13 w)
  clear h
  go_enter Try.func6, Try.ntmps6
  go_upto_region 1 with (fail)
  obtain ⟨wb, hwb⟩ : ∃ W, W = ((w.alloc (.cells #[.slice A1 n1 c1, .slice A2 n2 c2, .slice A3 n3 c3] 25)).alloc (.cells #[.int .u8 (u0 : Int), .int .u8 (u1 : Int)] 52)) := ⟨_, rfl⟩
  have BB : Hid (Below w.heap.size w wb) := Lib.hid (by rw [hwb]; exact ((Below.refl _ _).alloc (Nat.le_refl _) _).alloc (by simp) _)
  have x0 : wb.cell? ⟨w.heap.size, 0, none⟩ = some (.slice A1 n1 c1) := by rw [hwb]; go_simp
  have x1 : wb.cell? ⟨w.heap.size, 1, none⟩ = some (.slice A2 n2 c2) := by rw [hwb]; go_simp
  have x2 : wb.cell? ⟨w.heap.size, 2, none⟩ = some (.slice A3 n3 c3) := by rw [hwb]; go_simp
  have k0 : wb.cell? ⟨w.heap.size + 1, 0, none⟩ = some (.int .u8 (u0 : Int)) := by rw [hwb]; go_simp
  have k1 : wb.cell? ⟨w.heap.size + 1, 1, none⟩ = some (.int .u8 (u1 : Int)) := by rw [hwb]; go_simp
  have hgb : w.heap.size + 1 < wb.heap.size := by rw [hwb]; simp
  have KK : Hid (∀ wr, Below wb.heap.size wb wr → wr.cell? ⟨w.heap.size + 1, 0, none⟩ = some (.int .u8 (u0 : Int)) ∧ wr.cell? ⟨w.heap.size + 1, 1, none⟩ = some (.int .u8 (u1 : Int)) ∧ w.heap.size + 1 < wr.heap.size) := Lib.hid (fun wr b => ⟨(b.cell (p := ⟨w.heap.size + 1, 0, none⟩) hgb).trans k0, (b.cell (p := ⟨w.heap.size + 1, 1, none⟩) hgb).trans k1, Nat.lt_of_lt_of_le hgb b.size⟩)
  have MK := Lib.hid (makeN 16 (by decide) c1 c2 c3 (HP.out.below BB.out))
  rw [← hwb]
  clear hwb k0 k1
  go_upto_region 2 with (go_at_call 7; refine MK.out.mono ?_; rintro e w1 ⟨N, L, A, c, pv, rfl, o1, hg, hN, b1⟩; have O1 := Lib.hid (OwnG.cel o1); have HG := Lib.hid hg; have C1 := Lib.hid b1; have B1 := Lib.hid (BB.out.trans (b1.mono BB.out.size)); clear o1 hg b1)
  have H0 : Hid (chkG L N = 0) := Lib.hid (good_chk13d HG.out (by omega))
  clear x0 x1 x2 hgb MK HP BB
  have PG := partsGood (.slice A N c) L N w1 O1.out (by omega) H0.out
  have TG := fun wq (b : Below w1.heap.size w1 wq) => refTurned (.slice A N c) L N wq (O1.out.below b (Nat.le_refl _)) (by omega)
  have PT := fun lv wq (hL : CelAt wq lv (turnG L N) N) => partsGood lv (turnG L N) N wq hL (by omega) (turn_chk.2 H0.out)
  have EG := Lib.hid (fun wq (b : Below w1.heap.size w1 wq) => refEdge (.slice A N c) L N u0 u1 wq (O1.out.below b (Nat.le_refl _)) (by omega) (by omega) (by omega) HG.out)
  unfold PartsP at PG PT
  rw [turn_parts HG.out] at PT
  have hpl := parts_len L N N
  have HPL := Lib.hid (part_lens L N N)
  have SPM := Lib.hid (fun (v d x : Nat) (hv : v < N) (hd : d < 4) (hx : nxG L v d = (x : Int)) => split_parts (o := owG L v d) O1.out.1 HG.out hv hd hx rfl)
  obtain ⟨R, hR⟩ : ∃ R, partsK L N N = R := ⟨_, rfl⟩
  rw [hR] at PG PT hpl HPL SPM
  obtain ⟨m, hm⟩ : ∃ m, R.length = m := ⟨_, rfl⟩
  have HM := Lib.hid hm
  rw [hm] at PG PT hpl
  have HPG := Lib.hid PG
  have HTG := Lib.hid TG
  have HPT := Lib.hid PT
  clear PG TG PT hR hm
  go_upto_region 6 with (first
    | (go_at_call 10; refine (WK.out _).mono ?_; rintro e w5 ⟨rfl, b5⟩; have B5 := Lib.hid (B4.out.trans (b5.mono B4.out.size)); have Q5 := Lib.hid (Q4.out.below b5 (Nat.le_refl _)); have E5 := Lib.hid (E4.out.trans (b5.mono E4.out.size)); clear b5)
    | (go_at_call 8; have _z := T3; refine (HPT.out _ _ T3.out).mono ?_; rintro e w4 ⟨A4, c4, m4, rfl, hm4, o4, b4⟩; subst hm4; have Q4 := Lib.hid o4.rs; have B4 := Lib.hid (B3.out.trans (b4.mono B3.out.size)); have E4 := Lib.hid (E3.out.trans (b4.mono E3.out.size)); clear o4 b4)
    | (go_at_call 16; refine (HTG.out _ B2.out).mono ?_; rintro e w3 ⟨⟨A3, c3, rfl, o3⟩, b3⟩; have T3 := Lib.hid (OwnG.cel o3); have B3 := Lib.hid (B2.out.trans (b3.mono B2.out.size)); have E3 := Lib.hid b3; clear o3 b3)
    | (go_at_call 8; refine HPG.out.mono ?_; rintro e w2 ⟨A2, c2, m2, rfl, hm2, o2, b2⟩; subst hm2; have P2 := Lib.hid o2; have B2 := Lib.hid b2; clear o2 b2))
  have P5 := Lib.hid (P2.out.below E5.out (Nat.le_refl _))
  have R5 := Lib.hid P5.out.rs
  clear HPG HTG HPT T3 Q4 B3 B4 E3 E4 WK
  go_wp2_with fail
  go_loopw [56] (fun iv wr => TsA w5 wr m iv) (fun iv _ => m - (intOf iv).toNat)
  case atStart => exact ⟨0, rfl, Nat.zero_le _, Below.refl _ _⟩
  case round =>
    obtain ⟨i, rfl, hi, hB⟩ := hrel
    have B := Lib.hid hB
    by_cases hlt : i < m
    · have q0 : decide (i < m) = true := decide_eq_true hlt
      obtain ⟨b, o, c9, s, e, hb, hs, hp⟩ := (R5.out.below hB (Nat.le_refl _)).nth hlt
      simp only [Value.slice.injEq, true_and] at e
      obtain ⟨rfl, rfl⟩ := e
      obtain ⟨b', o', c9', s', e, hb', hs', hp'⟩ := (Q5.out.below hB (Nat.le_refl _)).nth hlt
      simp only [Value.slice.injEq, true_and] at e
      obtain ⟨rfl, rfl⟩ := e
      have hil : i < R.length := by rw [HM.out]; exact hlt
      have hxl : ((castP R).getD i []).length ≤ 20 := by
        rw [castP_at13 hil, castN_len]
        have := HPL.out (R.getD i []) (by rw [List.getD_eq_getElem?_getD, List.getElem?_eq_getElem hil]; exact List.getElem_mem hil)
        omega
      obtain ⟨x, hx⟩ : ∃ x, (castP R).getD i [] = x := ⟨_, rfl⟩
      rw [hx] at hp hp' hxl
      obtain ⟨k, hk⟩ : ∃ k, x.length = k := ⟨_, rfl⟩
      rw [hk] at hp hp' hxl
      have EQ : Hid (∀ wq, Below wr.heap.size wr wq → Calls Try.prog 12 #[s, s'] wq fun e w' => e = .returned (.bool true) ∧ Below wq.heap.size wq w') := Lib.hid (fun wq b => by
        have h := equalJ s s' x x k k wq (hp.below b (Nat.le_refl _)) (hp'.below b (Nat.le_refl _)) (by omega) (by omega)
        rwa [show (x == x) = true by simp] at h)
      obtain ⟨AG, cg, e⟩ := hp.form
      subst e
      obtain ⟨AG', cg', e⟩ := hp'.form
      subst e
      have KS : Hid (∀ wq, Below wr.heap.size wr wq → wq.cell? ⟨b, o + i, none⟩ = some (.slice AG k cg) ∧ wq.cell? ⟨b', o' + i, none⟩ = some (.slice AG' k cg')) := Lib.hid (fun wq h => ⟨(h.cell (p := ⟨_, _, none⟩) hb).trans hs, (h.cell (p := ⟨_, _, none⟩) hb').trans hs'⟩)
      clear hp hp' hx hk hil hB
      go_upto_region 9 with fail
      go_region_held3 (fun w' => w'.cell? ⟨b, o + i, none⟩ = some (.slice AG k cg) ∧ w'.cell? ⟨b', o' + i, none⟩ = some (.slice AG' k cg')) (first | go_keep | exact KS.out _ B6.out)
        ((go_at_call 12; refine (EQ.out _ (by first | exact (Below.refl _ _).drew | exact drewN_bel13n _ (Below.refl _ _))).mono ?_; rintro e w6 ⟨rfl, b6⟩; have B6 : Hid (Below wr.heap.size wr w6) := Lib.hid ((Below.refl _ _).drew.trans b6); clear b6))
      all_goals
        go_wp2_with fail
        go_roundw
        case rel => exact ⟨i + 1, by go_num, by omega, B.out.trans (B6.out.mono B.out.size)⟩
        case measure => (simp [intOf] <;> omega)
    · have him : i = m := by omega
      have q0 : decide (i < m) = false := decide_eq_false hlt
      clear hB
      obtain ⟨k0, k1, kz⟩ := KK.out _ (C1.out.trans ((B5.out.trans (B.out.mono B5.out.size)).mono C1.out.size))
      have cx1 : IntKind.i64.wrap (u0 : Int) = (u0 : Int) := IntWalk.i64_in _ (by omega)
      have cx2 : IntKind.i64.wrap (u1 : Int) = (u1 : Int) := IntWalk.i64_in _ (by omega)
      have BR := Lib.hid (B5.out.trans (B.out.mono B5.out.size))
      clear Q5 R5 KK C1
      go_upto_region 13 with (go_at_call 17; go_must (refine (EG.out _ BR.out).mono ?_; rintro e w6 ⟨hE, b6⟩; have HE := Lib.hid hE; have B6 := Lib.hid (BR.out.trans (b6.mono BR.out.size)); have E6 := Lib.hid (B.out.trans (b6.mono B.out.size)); clear hE b6; rcases HE.out with rfl | ⟨v, d, hv, hd, hx, rfl⟩))
      · clear HE EG k0 k1 kz cx1 cx2
        go_wp2_with fail
        go_ret
        exact ⟨rfl, B1.out.trans (B6.out.mono B1.out.size)⟩
      · clear HE EG k0 k1 kz cx1 cx2
        have hs := HG.out.side hv hd
        obtain ⟨x, hx2⟩ : ∃ x : Nat, nxG L v d = (x : Int) := ⟨(nxG L v d).toNat, by omega⟩
        have hxN : x < N := by omega
        have hGM : GoodG (splitG L N v d x (owG L v d)) (N + 1) := split_good O1.out.1 HG.out hv hxN hd hx2 rfl
        have SP := Lib.hid (refSplit_yes (.slice A N c) L N v d x (owG L v d) w6 (O1.out.below B6.out (Nat.le_refl _)) (by omega) hv hxN hd hx2 rfl)
        have PM := fun lv wq (hL : CelAt wq lv (splitG L N v d x (owG L v d)) (N + 1)) => partsGood lv (splitG L N v d x (owG L v d)) (N + 1) wq hL (by omega) (good_chk13d hGM (by omega))
        unfold PartsP at PM
        rw [SPM.out v d x hv hd hx2, List.length_map, HM.out] at PM
        have HPM := Lib.hid PM
        generalize splitG L N v d x (owG L v d) = M at SP HPM
        clear hs hx hx2 hGM PM SPM
        go_upto_region 16 with (go_at_call 18; refine SP.out.mono ?_; rintro e w7 ⟨⟨A7, c7, rfl, o7⟩, b7⟩; have M7 := Lib.hid (OwnG.cel o7); have B7 := Lib.hid (B6.out.trans (b7.mono B6.out.size)); have E7 := Lib.hid (E6.out.trans (b7.mono E6.out.size)); clear o7 b7)
        go_upto_region 17 with (go_at_call 8; refine (HPM.out _ _ M7.out).mono ?_; rintro e w8 ⟨A8, c8, m8, rfl, hm8, o8, b8⟩; subst hm8; have R8 := Lib.hid o8; have B8 := Lib.hid (B7.out.trans (b8.mono B7.out.size)); have E8 := Lib.hid (E7.out.trans (b8.mono E7.out.size)); clear o8 b8)
        obtain ⟨hRl, SS, hSS, hSk, hSa⟩ := P2.out
        have E28 := Lib.hid (E5.out.trans (E8.out.mono E5.out.size))
        have SKn : Hid (∀ k, k < m → ∃ s, SS[k]? = some s ∧ OwnZ w2 w1.heap.size s (castN (R.getD k [])) (R.getD k []).length) := Lib.hid (fun k hk => by
          obtain ⟨s, a, b⟩ := hSk k hk
          rw [castP_at13 (by rw [HM.out]; exact hk), castN_len] at b
          exact ⟨s, a, b⟩)
        have SA := Lib.hid hSa
        have SO := Lib.hid hSS
        have S8 : Hid (w8.ownsRow w1.heap.size 38 1 (.slice A2 m c2) m SS) := Lib.hid (row_below12 hSS E28.out (Nat.le_refl _))
        have K8 : Hid (∀ k, k < m → ∀ s, SS[k]? = some s → OwnZ w8 w1.heap.size s (castN (R.getD k [])) (R.getD k []).length) := Lib.hid (fun k hk s hs => by
          obtain ⟨s2, a, b⟩ := SKn.out k hk
          rw [hs] at a
          obtain rfl := Option.some.inj a
          exact row_below12 b E28.out (Nat.le_refl _))
        have hs28 := E28.out.size
        have hs12 := B2.out.size
        have hs27 := (E5.out.trans (E7.out.mono E5.out.size)).size
        clear hSS hSk hSa hRl P5 M7 SP HPM B B5 BR B6 B7 E6
        go_wp2_with fail
        go_loopw [108] (fun iv wr => TsB w1.heap.size w2.heap.size m R SS (.slice A2 m c2) w8 wr iv) (fun iv _ => m - (intOf iv).toNat)
        case atStart => exact ⟨0, rfl, Nat.zero_le _, Out.refl _ _, SS, S8.out, fun k _ hk => ⟨rfl, fun s hs => K8.out k hk s hs⟩⟩
        case round =>
          clear q0 hlt hi
          obtain ⟨i, rfl, hi, hO, S', hS', hK⟩ := hrel
          have OW := Lib.hid hO
          have SW := Lib.hid hS'
          have KW := Lib.hid hK
          clear hO hS' hK
          by_cases hlt : i < m
          · have q0 : decide (i < m) = true := decide_eq_true hlt
            have hil : i < R.length := by rw [HM.out]; exact hlt
            have hil2 : i < (R.map fun p => if v ∈ p then p ++ [N] else p).length := by rw [List.length_map]; exact hil
            obtain ⟨s, hs, -⟩ := SKn.out i hlt
            have hz := (KW.out i (Nat.le_refl _) hlt).2 s hs
            have hs0 : S'[i]? = some s := (KW.out i (Nat.le_refl _) hlt).1.trans hs
            obtain ⟨gp, hA2⟩ : ∃ gp, A2 = some ⟨gp, 0, none⟩ := by
              rcases SW.out.2 with ⟨_, h2⟩ | ⟨gp, cap, cur, e, _⟩
              · omega
              · simp only [Value.slice.injEq] at e
                exact ⟨gp, e.1⟩
            subst hA2
            have hxl : (R.getD i []).length ≤ 20 := by
              have := HPL.out (R.getD i []) (by rw [List.getD_eq_getElem?_getD, List.getElem?_eq_getElem hil]; exact List.getElem_mem hil)
              omega
            obtain ⟨P, hP⟩ : ∃ P, R.getD i [] = P := ⟨_, rfl⟩
            rw [hP] at hz hxl
            obtain ⟨n, hn0⟩ : ∃ n, P.length = n := ⟨_, rfl⟩
            have hn1 : (P ++ [N]).length = n + 1 := by rw [List.length_append, hn0]; rfl
            rw [hn0] at hz hxl
            obtain ⟨ao, co, e⟩ := row_form12 hz
            subst e
            have hgp := (SW.out.lt gp rfl)
            have hgpC := (SO.out.lt gp rfl).2
            have f0 : wr.cell? ⟨gp, i, none⟩ = some (.slice ao n co) := by rw [SW.out.cellAt i (by omega)]; exact hs0
            have ff := SW.out.frozenAt i
            have hgpl := hgp.2
            have GP0 := Lib.hid hgpl
            have CP0 := Lib.hid f0
            have HZ := Lib.hid hz
            have CT := Lib.hid (containsZ (.slice ao n co) (castN P) n (v : Int) wr hz.zs (by omega))
            rw [contains13] at CT
            have hne : ∀ b, (Value.slice ao n co).ownBlock = some b → b ≠ gp := fun b hb e => by
              subst e
              exact row_ne12 hz SW.out (by decide) _ hb rfl
            have NE := Lib.hid hne
            have LB : Hid (∀ b, (Value.slice ao n co).ownBlock = some b → w1.heap.size ≤ b ∧ b < w2.heap.size) := Lib.hid (fun b hb => by
              obtain ⟨s2, a, b2⟩ := SKn.out i hlt
              rw [hs] at a
              obtain rfl := Option.some.inj a
              exact World.ownsRow.lt b2 b hb)
            clear hne hz hs0
            by_cases hvP : v ∈ P
            · rw [decide_eq_true hvP] at CT
              go_upto_region 23 with (go_at_call 19; refine CT.out.mono ?_; rintro e w9 ⟨rfl, rfl⟩)
              go_upto_region 24 with (at_builtin; refine wpList_append_fresh rfl (.tmp 122) (.tmp 124) 38 rfl w1.heap.size 3 j0 (.int .i64 0) 1 8 Try.underlying38 hj hy0 hy1 hy2 rfl (by decide) (.slice ao n co) n ((castN P).map intV) rfl (row_below12 HZ.out ((Below.refl _ _).alloc (Nat.le_refl _) _) (Nat.le_refl _)) ⟨wr.heap.size, 0, none⟩ 1 1 [.int .i64 (N : Int)] rfl rfl (newsI13 _ _ _ 3 (heap_alloc_new wr _)) (fun z hz => by obtain rfl := List.mem_singleton.1 hz; rfl) (by unfold maxLen; omega) (by omega) (by have := hgp.1; simp; omega) ?_; intro v5 w5 hown hgrow hfr; have o5 : Out (fun b => (Value.slice ao n co).ownBlock = some b) wr w5 := ((Out.refl _ _).alloc _).grown hgrow (fun _ _ e => e); have O5 := Lib.hid o5; have c5c := (o5.cell i hgpl (fun e => NE.out gp e rfl)).trans f0; have c5f := (o5.frz i hgpl (fun e => NE.out gp e rfl)).trans ff; have c5l := Nat.lt_of_lt_of_le hgpl o5.size; obtain ⟨a5, c5, e5⟩ := row_form12 hown; subst e5; have V5 : Hid (OwnZ w5 w1.heap.size (.slice a5 (n + 1) c5) (castN (P ++ [N])) (n + 1)) := Lib.hid (OwnZ.mores hown); clear o5 hown hgrow hfr)
              have S5 : Hid (w5.ownsRow w1.heap.size 38 1 (.slice (some ⟨gp, 0, none⟩) m c2) m S') := Lib.hid (ownsRow_out SW.out O5.out (fun b hb e => by
                have : gp = b := by simpa [Value.ownBlock] using hb
                subst this
                exact NE.out _ e rfl))
              have NV : (Value.slice a5 (n + 1) c5).ownBlock ≠ some gp := fun e => row_ne12 V5.out S5.out (by decide) gp e rfl
              have KW5 : Hid (∀ k, i + 1 ≤ k → k < m → S'[k]? = SS[k]? ∧ ∀ t, SS[k]? = some t → OwnZ (w5.setCell ⟨gp, i, none⟩ (.slice a5 (n + 1) c5)) w1.heap.size t (castN (R.getD k [])) (R.getD k []).length) := Lib.hid (fun k hk hkm => ⟨(KW.out k (by omega) hkm).1, fun t ht => by
                have ht1 := (KW.out k (by omega) hkm).2 t ht
                have ht5 : OwnZ w5 w1.heap.size t (castN (R.getD k [])) (R.getD k []).length := ownsRow_out ht1 O5.out (fun b hb e => SA.out k i t _ b (by omega) ht hs hb e)
                exact ownsRow_setCell_other ht5 (fun e => row_ne12 ht5 S5.out (by decide) gp e rfl) _⟩)
              have OW5 : Hid (Out (fun b => w1.heap.size ≤ b ∧ b < w2.heap.size) w8 (w5.setCell ⟨gp, i, none⟩ (.slice a5 (n + 1) c5))) := Lib.hid ((OW.out.trans O5.out (fun b _ e => LB.out b e)).setCell (p := ⟨gp, i, none⟩) (fun _ => ⟨hgp.1, hgpC⟩) _)
              have ZV : Hid (ZsAt (w5.setCell ⟨gp, i, none⟩ (.slice a5 (n + 1) c5)) (.slice a5 (n + 1) c5) (castN (P ++ [N])) (n + 1)) := Lib.hid (OwnZ.zs (B := w1.heap.size) (ownsRow_setCell_other V5.out NV _))
              have SW5 : Hid ((w5.setCell ⟨gp, i, none⟩ (.slice a5 (n + 1) c5)).ownsRow w1.heap.size 38 1 (.slice (some ⟨gp, 0, none⟩) m c2) m (S'.set i (.slice a5 (n + 1) c5))) := Lib.hid (World.ownsRow.stored S5.out i _).1
              have CP : Hid ((w5.setCell ⟨gp, i, none⟩ (.slice a5 (n + 1) c5)).cell? ⟨gp, i, none⟩ = some (.slice a5 (n + 1) c5)) := Lib.hid (by
                rw [SW5.out.cellAt i (by omega), List.getElem?_set_self (by have := SW.out.1; omega)])
              have GP : Hid (gp < (w5.setCell ⟨gp, i, none⟩ (.slice a5 (n + 1) c5)).heap.size) := Lib.hid (by simp [World.setCell]; omega)
              obtain ⟨wW, hwW⟩ : ∃ X, X = w5.setCell ⟨gp, i, none⟩ (.slice a5 (n + 1) c5) := ⟨_, rfl⟩
              rw [← hwW] at KW5 OW5 ZV SW5 CP GP ⊢
              clear KW OW SW c5c c5f c5l f0 ff CP0 GP0 hwW NV
              have KW := KW5
              have OW := OW5
              have SW := SW5
              clear KW5 OW5 SW5
              obtain ⟨b', o', c9', s', e, hb', hs', hp'⟩ := (R8.out.out OW.out (fun b hb _ h => by have := h.2; omega)).rs.nth hlt
              simp only [Value.slice.injEq, true_and] at e
              obtain ⟨rfl, rfl⟩ := e
              rw [castP_at13 hil2, map_at13 _ hil, hP, if_pos hvP, castN_len, hn1] at hp'
              have EQ : Hid (∀ wq, Below wW.heap.size wW wq → Calls Try.prog 12 #[Value.slice a5 (n + 1) c5, s'] wq fun e w' => e = .returned (.bool true) ∧ Below wq.heap.size wq w') := Lib.hid (fun wq b => by
                have h := equalJ (.slice a5 (n + 1) c5) s' (castN (P ++ [N])) (castN (P ++ [N])) (n + 1) (n + 1) wq (ZV.out.below b (Nat.le_refl _)) (hp'.below b (Nat.le_refl _)) (by omega) (by omega)
                rwa [show ((castN (P ++ [N])) == (castN (P ++ [N]))) = true by simp] at h)
              obtain ⟨AG', cg', e⟩ := hp'.form
              subst e
              have fp := CP.out
              have hgpW := GP.out
              have KS : Hid (∀ wq, Below wW.heap.size wW wq → wq.cell? ⟨gp, i, none⟩ = some (Value.slice a5 (n + 1) c5) ∧ wq.cell? ⟨b', o' + i, none⟩ = some (.slice AG' (n + 1) cg')) := Lib.hid (fun wq h => ⟨(h.cell (p := ⟨_, _, none⟩) hgpW).trans fp, (h.cell (p := ⟨_, _, none⟩) hb').trans hs'⟩)
              clear hp'
              go_region_held3 (fun w' => w'.cell? ⟨gp, i, none⟩ = some (Value.slice a5 (n + 1) c5) ∧ w'.cell? ⟨b', o' + i, none⟩ = some (.slice AG' (n + 1) cg')) (first | go_keep | exact KS.out _ Y6.out)
                ((go_at_call 12; refine (EQ.out _ (by first | exact (Below.refl _ _).drew | exact drewN_bel13n _ (Below.refl _ _))).mono ?_; rintro e w9 ⟨rfl, b9⟩; have Y6 : Hid (Below wW.heap.size wW w9) := Lib.hid ((Below.refl _ _).drew.trans b9); clear b9))
              all_goals
                go_wp2_with fail
                go_roundw
                case rel => exact ⟨i + 1, by go_num, by omega, OW.out.trans (S' := fun _ => False) (Out.ofBelow Y6.out) (fun _ _ e => e.elim), S'.set i (.slice a5 (n + 1) c5), row_below12 SW.out Y6.out (Nat.le_refl _), fun k hk hkm => ⟨by rw [List.getElem?_set_ne (by omega)]; exact (KW.out k (by omega) hkm).1, fun t ht => row_below12 ((KW.out k (by omega) hkm).2 t ht) Y6.out (Nat.le_refl _)⟩⟩
                case measure => (simp [intOf] <;> omega)

            · rw [decide_eq_false hvP] at CT
              have ZV : Hid (ZsAt wr (.slice ao n co) (castN P) n) := Lib.hid HZ.out.zs
              have CP := CP0
              have GP := GP0
              go_upto_region 24 with (go_at_call 19; refine CT.out.mono ?_; rintro e w9 ⟨rfl, rfl⟩)
              clear f0 ff
              obtain ⟨b', o', c9', s', e, hb', hs', hp'⟩ := (R8.out.out OW.out (fun b hb _ h => by have := h.2; omega)).rs.nth hlt
              simp only [Value.slice.injEq, true_and] at e
              obtain ⟨rfl, rfl⟩ := e
              rw [castP_at13 hil2, map_at13 _ hil, hP, if_neg hvP, castN_len, hn0] at hp'
              have EQ : Hid (∀ wq, Below wr.heap.size wr wq → Calls Try.prog 12 #[Value.slice ao n co, s'] wq fun e w' => e = .returned (.bool true) ∧ Below wq.heap.size wq w') := Lib.hid (fun wq b => by
                have h := equalJ (.slice ao n co) s' (castN P) (castN P) n n wq (ZV.out.below b (Nat.le_refl _)) (hp'.below b (Nat.le_refl _)) (by omega) (by omega)
                rwa [show ((castN P) == (castN P)) = true by simp] at h)
              obtain ⟨AG', cg', e⟩ := hp'.form
              subst e
              have fp := CP.out
              have hgpW := GP.out
              have KS : Hid (∀ wq, Below wr.heap.size wr wq → wq.cell? ⟨gp, i, none⟩ = some (Value.slice ao n co) ∧ wq.cell? ⟨b', o' + i, none⟩ = some (.slice AG' n cg')) := Lib.hid (fun wq h => ⟨(h.cell (p := ⟨_, _, none⟩) hgpW).trans fp, (h.cell (p := ⟨_, _, none⟩) hb').trans hs'⟩)
              clear hp'
              go_region_held3 (fun w' => w'.cell? ⟨gp, i, none⟩ = some (Value.slice ao n co) ∧ w'.cell? ⟨b', o' + i, none⟩ = some (.slice AG' n cg')) (first | go_keep | exact KS.out _ Y6.out)
                ((go_at_call 12; refine (EQ.out _ (by first | exact (Below.refl _ _).drew | exact drewN_bel13n _ (Below.refl _ _))).mono ?_; rintro e w9 ⟨rfl, b9⟩; have Y6 : Hid (Below wr.heap.size wr w9) := Lib.hid ((Below.refl _ _).drew.trans b9); clear b9))
              all_goals
                go_wp2_with fail
                go_roundw
                case rel => exact ⟨i + 1, by go_num, by omega, OW.out.trans (S' := fun _ => False) (Out.ofBelow Y6.out) (fun _ _ e => e.elim), S', row_below12 SW.out Y6.out (Nat.le_refl _), fun k hk hkm => ⟨(KW.out k (by omega) hkm).1, fun t ht => row_below12 ((KW.out k (by omega) hkm).2 t ht) Y6.out (Nat.le_refl _)⟩⟩
                case measure => (simp [intOf] <;> omega)

          · have him : i = m := by omega
            have q0 : decide (i < m) = false := decide_eq_false hlt
            go_wp2_with fail
            go_ret
            exact ⟨rfl, B1.out.trans ((B8.out.trans (OW.out.below (Nat.le_trans hs12 hs28) (fun _ _ h => h.1))).mono B1.out.size)⟩
end Go.Proofs.Ytieffijdhcbcfaa
