/-
  What the law's told answers: the words of the faces, in order. Conditions: cells that may be, at most 21; the ways read as the program lays them.
-/
import Derived.Test.YtkgabklponjagaaDoorFcY
import Derived.Test.YtkgabklponjagaaDoorFcO
import Derived.Deep.DeepMust
import Derived.Laws.Concat
namespace Go.Proofs.YtkgabklponjagaaDoor
open Go.RowKit Go.Proofs.YtkgabklponjagaaDoor.GrM Go.Proofs.YtkgabklponjagaaDoor.FcM

theorem trQ_mapT {L : List Int} {n : Nat} (h0 : chkG L n = 0) : ∀ {x : List Nat}, (∀ k ∈ x, isK L n k) → (x.map pairK).map (trQ L n) = x.map (trnK L)
  | [], _ => rfl
  | k :: x, h => by
    have ih := trQ_mapT h0 (x := x) (fun j hj => h j (by simp [hj]))
    have hk := okQ_dart h0 (h k (by simp))
    simp only [List.map_cons, ih]
    congr 1
    unfold trQ
    rw [if_pos hk, dk_pair]
theorem pairF_atT {F : List (List Nat)} {i : Nat} (h : i < F.length) : (pairF F).getD i [] = (F.getD i []).map pairK := by unfold pairF; simp [List.getD_eq_getElem?_getD, h]
theorem newsB (w : World) (t : TypeId) (x : Int) (b : Nat) (hb : w.heap.size = b) : ∀ j z, [Value.int .u8 x][j]? = some z → (w.alloc (.cells #[.int .u8 x] t)).cell? ((⟨b, 0, none⟩ : Addr).add j) = some z := by
  intro j z hz
  have hj : j = 0 := by have := List.getElem?_eq_some_iff.1 hz; simp at this; omega
  subst hj hb
  simp at hz
  subst hz
  go_simp
theorem newsS (w : World) (t : TypeId) (x : ByteArray) (b : Nat) (hb : w.heap.size = b) : ∀ j z, [Value.string x][j]? = some z → (w.alloc (.cells #[.string x] t)).cell? ((⟨b, 0, none⟩ : Addr).add j) = some z := by
  intro j z hz
  have hj : j = 0 := by have := List.getElem?_eq_some_iff.1 hz; simp at this; omega
  subst hj hb
  simp at hz
  subst hz
  go_simp
theorem oneB (x : Int) : ∀ z ∈ [Value.int .u8 x], z.oneCell' = true := by
  intro z hz; simp at hz; subst hz; rfl
theorem oneS (x : ByteArray) : ∀ z ∈ [Value.string x], z.oneCell' = true := by
  intro z hz; simp at hz; subst hz; rfl
def wdZ (T : List Int) : List Int := T.filter fun a => decide (a ≠ 0)
theorem wdZ_more {T : List Int} {j : Nat} (h : j < T.length) : bytL (wdZ (T.take (j + 1))) = bytL (wdZ (T.take j)) ++ if T.getD j 0 = 0 then [] else [UInt8.ofNat (109 + T.getD j 0).toNat] := by
  rw [List.take_succ_eq_append_getElem h, show T.getD j 0 = T[j] by simp [List.getD_eq_getElem?_getD, h]]
  unfold wdZ bytL
  rw [List.filter_append, List.map_append]
  congr 1
  by_cases e : T[j] = 0
  · simp [e]
  · simp [e]
def TdA (L : List Int) (F : List (List Nat)) (w0 wr : World) (ov iv : Value) : Prop := ∃ i : Nat, iv = .int .i64 i ∧ i ≤ F.length ∧ OwnS wr w0.heap.size ov ((F.take i).map (wordK L)) i ∧ Below w0.heap.size w0 wr
def TdB (T : List Int) (w0 wr : World) (sv iv : Value) : Prop := ∃ j q : Nat, iv = .int .i64 j ∧ j ≤ T.length ∧ q ≤ j ∧ OwnB wr w0.heap.size sv (bytL (wdZ (T.take j))) q ∧ Below w0.heap.size w0 wr
def TdC (S : List UInt8) (w0 wr : World) (bv iv : Value) : Prop := ∃ j : Nat, iv = .int .i64 j ∧ j ≤ S.length ∧ bv = .string (wdS (cnL S j)) ∧ Below w0.heap.size w0 wr
def ToldP (L : List Int) (n : Nat) (w : World) (e : Ending) (w' : World) : Prop :=
  ∃ v m, e = .returned v ∧ m ≤ 1000000 ∧ OwnS w' w.heap.size v (((facesK L n).map (wordK L)).mergeSort fun a b => decide (a ≤ b)) m ∧ Below w.heap.size w w'
set_option maxHeartbeats 16000000 in
set_option maxRecDepth 100000 in
theorem toldAny (lv : Value) (L : List Int) (n : Nat) (w : World) (hL : CelAt w lv L n) (hn : n ≤ 21) (hg : GoodG L n) (hT : WayT w) :
    Calls Tryd.prog 26 #[lv] w (ToldP L n w) := by
  obtain ⟨i0, hi, hz0, hz1, hz2⟩ := info_parts infoU12
  obtain ⟨j0, hj, hy0, hy1, hy2⟩ := info_parts infoS12
  have HL := Lib.hid hL
  have HT := Lib.hid hT
  have HG := Lib.hid hg
  have H0 : Hid (chkG L n = 0) := Lib.hid (good_chk hg (by omega))
  obtain ⟨A, c, e⟩ := hL.form
  subst e
  obtain ⟨F, hF⟩ : ∃ F, facesK L n = F := ⟨_, rfl⟩
  have HF := Lib.hid hF
  have FG := facesGood (.slice A n c) L n w HL.out (by omega) HT.out H0.out
  unfold FacesP at FG
  rw [hF] at FG
  obtain ⟨m, hm⟩ : ∃ m, F.length = m := ⟨_, rfl⟩
  have HM := Lib.hid hm
  rw [hm] at FG
  have HFG := Lib.hid FG
  have FI := faces_is hg
  rw [hF] at FI
  have HFL : Hid (F.flatten.length ≤ 84) := Lib.hid (by have := FI.met.len; omega)
  have HFI := Lib.hid FI
  have hml : m ≤ 84 := by
    have := facs_len L n (4 * n)
    rw [show facS L n (4 * n) = F from hF, hm] at this
    omega
  have SS := fun B v ss (w : World) (h : OwnS w B v ss m) => sortS B v ss m w h (by omega)
  have HSS := Lib.hid SS
  clear hL hT hg hF FG hm FI SS
  go_enter Tryd.func26, Tryd.ntmps26
  go_upto_region 3 with (go_at_call 9; refine HFG.out.mono ?_; rintro e w2 ⟨A2, c2, rfl, o2, b2⟩; have O2 := Lib.hid o2.fcs; have B2 := Lib.hid b2; have L2 := Lib.hid (HL.out.below b2 (Nat.le_refl _)); clear o2 b2)
  go_wp2_with fail
  go_loopw [5, 20] (fun ov iv wr => TdA L F w2 wr ov iv) (fun _ iv _ => m - (intOf iv).toNat)
  case atStart => exact ⟨0, rfl, Nat.zero_le _, World.ownsRow_nil _ _ _ _, Below.refl _ _⟩
  case round =>
    obtain ⟨i, rfl, hi', hO, hB⟩ := hrel
    rw [HM.out] at hi'
    have B := Lib.hid hB
    have OO := Lib.hid hO
    obtain ⟨ao, co, e⟩ := hO.form
    subst e
    have BW := Lib.hid (B2.out.trans (hB.mono B2.out.size))
    by_cases hlt : i < m
    · have q0 : decide (i < m) = true := decide_eq_true hlt
      obtain ⟨b, o, c9, s, e, hb, hs, hp⟩ := (O2.out.below hB (Nat.le_refl _)).nth hlt
      simp only [Value.slice.injEq, true_and] at e
      obtain ⟨rfl, rfl⟩ := e
      have hil : i < F.length := by rw [HM.out]; exact hlt
      rw [pairF_atT hil] at hp
      have hxm : F.getD i [] ∈ F := by rw [List.getD_eq_getElem?_getD, List.getElem?_eq_getElem hil]; exact List.getElem_mem hil
      have TF : Hid ((F.take (i + 1)).map (wordK L) = (F.take i).map (wordK L) ++ [wordK L (F.getD i [])]) := Lib.hid (by
        rw [List.take_succ_eq_append_getElem hil, List.map_append]; simp [List.getD_eq_getElem?_getD, hil])
      have hxd : ∀ k ∈ F.getD i [], isK L n k := fun k hk => HFI.out.met.2 k (List.mem_flatten.2 ⟨_, hxm, hk⟩)
      have hxl : (F.getD i []).length ≤ 84 := Nat.le_trans (List.Sublist.length_le (List.sublist_flatten_of_mem hxm)) HFL.out
      obtain ⟨x, hx⟩ : ∃ x, F.getD i [] = x := ⟨_, rfl⟩
      rw [hx] at hp TF hxd hxl
      obtain ⟨AG, cg, e, h2⟩ := hp
      have hp : PtsAt wr s (x.map pairK) := ⟨AG, cg, e, h2⟩
      rw [List.length_map] at e
      subst e
      obtain ⟨k, hk⟩ : ∃ k, x.length = k := ⟨_, rfl⟩
      rw [hk] at hs hp hxl
      have TU := turnsAny (.slice A n c) (.slice AG k cg) L (x.map pairK) n k wr (L2.out.below hB (Nat.le_refl _)) hp (by omega) (by rw [List.length_map]; exact hk) (by omega) (HT.out.below BW.out (Nat.le_refl _))
      unfold TurnsP at TU
      rw [trQ_mapT H0.out hxd] at TU
      have hWK : wordK L x = canL (bytL (wdZ (x.map (trnK L)))) := rfl
      rw [hWK] at TF
      obtain ⟨T, hT⟩ : ∃ T, x.map (trnK L) = T := ⟨_, rfl⟩
      have hTr : Hid (∀ j, -2 ≤ T.getD j 0 ∧ T.getD j 0 ≤ 1) := Lib.hid (by
        intro j
        rw [← hT, List.getD_eq_getElem?_getD, List.getElem?_map]
        cases x[j]? with
        | none => simp
        | some a => simpa using trn_range L a)
      have hTl : T.length = k := by rw [← hT, List.length_map, hk]
      rw [hT] at TU TF
      have HTU := Lib.hid TU
      have HTL := Lib.hid hTl
      clear TU hT hTl hWK hk hx hxd hxm hil h2 hp hB hO
      go_upto_region 8 with (go_at_call 13; refine HTU.out.mono ?_; rintro e w5 ⟨A5, c5, rfl, o5, b5⟩; have Z5 := Lib.hid o5.zs; have B5 := Lib.hid (B.out.trans (b5.mono B.out.size)); have O5 := Lib.hid (OO.out.below b5 (Nat.le_refl _)); clear o5 b5)
      go_wp2_with fail
      go_loopw [8, 28] (fun sv jv wq => TdB T w5 wq sv jv) (fun _ jv _ => k - (intOf jv).toNat)
      case atStart => exact ⟨0, 0, rfl, Nat.zero_le _, Nat.le_refl _, World.ownsRow_nil _ _ _ _, Below.refl _ _⟩
      case round =>
        obtain ⟨j, q, rfl, hjk', hq, hS, hC⟩ := hrel
        rw [HTL.out] at hjk'
        have C := Lib.hid hC
        have SO := Lib.hid hS
        obtain ⟨so, sc, e⟩ := hS.form
        subst e
        by_cases hjt : j < k
        · have q1 : decide (j < k) = true := decide_eq_true hjt
          obtain ⟨zb, zo, zc, e, hzb, hzx⟩ := (Z5.out.below hC (Nat.le_refl _)).nth hjt
          simp only [Value.slice.injEq, true_and] at e
          obtain ⟨rfl, rfl⟩ := e
          obtain ⟨tr1, tr2⟩ := hTr.out j
          have WM := Lib.hid (wdZ_more (T := T) (j := j) (by rw [HTL.out]; exact hjt))
          obtain ⟨t, ht⟩ : ∃ t, T.getD j 0 = t := ⟨_, rfl⟩
          rw [ht] at hzx tr1 tr2 WM
          obtain ⟨S, hSS⟩ : ∃ S, bytL (wdZ (T.take j)) = S := ⟨_, rfl⟩
          rw [hSS] at SO WM
          clear hS hC ht hSS
          by_cases ht0 : t = 0
          · subst ht0
            have W0 : Hid (bytL (wdZ (T.take (j + 1))) = S) := Lib.hid (by rw [WM.out]; simp)
            go_wp2_with fail
            go_roundw
            case rel => exact ⟨j + 1, q, by go_num, by rw [HTL.out]; omega, by omega, by rw [W0.out]; exact SO.out, C.out⟩
            case measure => (simp [intOf] <;> omega)
          · obtain ⟨u, hu⟩ : ∃ u, UInt8.ofNat (109 + t).toNat = u := ⟨_, rfl⟩
            have W1 : Hid (bytL (wdZ (T.take (j + 1))) = S ++ [u]) := Lib.hid (by rw [WM.out, if_neg ht0, hu])
            have h4 : t = -2 ∨ t = -1 ∨ t = 1 := by omega
            have cx1 : IntKind.i64.wrap (109 + t) = (u.toNat : Int) := by
              rw [IntWalk.i64_in _ (by omega), ← hu]
              rcases h4 with rfl | rfl | rfl <;> rfl
            have cx2 : IntKind.u8.wrap (u.toNat : Int) = (u.toNat : Int) := by
              rw [← hu]
              rcases h4 with rfl | rfl | rfl <;> rfl
            have q2 : (t == 0) = false := by simpa using ht0
            have q3 : (t != 0) = true := by simpa using ht0
            clear h4
            have OA : Hid (∀ o, (wr.alloc o).ownsRow w5.heap.size 5 1 (.slice so q sc) q (S.map btV)) := Lib.hid (fun o => SO.out.below ((Below.refl _ _).alloc (Nat.le_refl _) _) (Nat.le_refl _))
            have hCs := C.out.size
            clear WM hu
            go_wp2_with (at_builtin; go_must (refine wpList_append_fresh rfl (.tmp 34) (.tmp 38) 22 rfl w5.heap.size 5 i0 (.int .u8 0) 1 1 Tryd.underlying22 hi hz0 hz1 hz2 rfl (by decide) (.slice so q sc) q (S.map btV) rfl (OA.out _) ⟨wr.heap.size, 0, none⟩ 1 1 [.int .u8 u.toNat] rfl rfl (newsB _ _ _ _ (by simp)) (oneB _) (by unfold maxLen; omega) (by omega) (by simp; omega) ?_; intro v5 w6 hown hgrow hfr; have O6 := Lib.hid (OwnB.more rfl hown); have B6 : Hid (Below w5.heap.size w5 w6) := Lib.hid (C.out.trans (((Below.refl _ _).alloc (Nat.le_refl _) _).mono C.out.size) |>.grown hgrow (by simp; have := C.out.size; omega) (fun q hq => (World.ownsRow.lt SO.out q hq).1)); clear hown hgrow hfr))
            go_roundw
            case rel => exact ⟨j + 1, q + 1, by go_num, by rw [HTL.out]; omega, by omega, by rw [W1.out]; exact O6.out, B6.out⟩
            case measure => (simp [intOf] <;> omega)
        · have hje : j = k := by omega
          subst hje
          have q1 : decide (j < j) = false := decide_eq_false hjt
          clear hC hS
          have so2 := SO.out
          rw [List.take_of_length_le (by rw [HTL.out]; exact Nat.le_refl _)] at so2
          obtain ⟨S, hSS⟩ : ∃ S, bytL (wdZ T) = S := ⟨_, rfl⟩
          rw [hSS] at so2 TF
          have SQ := Lib.hid so2
          have SL := Lib.hid so2.len
          have cv0 := convAll so2
          clear so2 SO hSS
          go_upto_region 15 with fail
          go_wp2_with fail
          obtain ⟨wo, hwo⟩ : ∃ W, W = wr := ⟨_, rfl⟩
          subst hwo
          clear cv0
          go_loopw [11, 45] (fun bv rv wq => TdC S wo wq bv rv) (fun _ rv _ => q - (intOf rv).toNat)
          case atStart => exact ⟨0, rfl, Nat.zero_le _, rfl, Below.refl _ _⟩
          case round =>
            obtain ⟨r, rfl, hr', rfl, hD⟩ := hrel
            rw [SL.out] at hr'
            have DD := Lib.hid hD
            have CN := Lib.hid (cn_more S r)
            obtain ⟨Y, hY⟩ : ∃ Y, cnL S r = Y := ⟨_, rfl⟩
            have CA : Hid (r = q → canL S = Y) := Lib.hid (fun e => by rw [← hY, e, ← SL.out]; rfl)
            rw [hY] at CN
            rw [hY]
            clear hY
            by_cases hrt : r < q
            · have q2 : decide (r < q) = true := decide_eq_true hrt
              obtain ⟨g, rfl⟩ : ∃ g, so = some ⟨g, 0, none⟩ := by
                rcases SQ.out.2 with ⟨_, h2⟩ | ⟨g, cap, cur, h1, _⟩
                · omega
                · simp only [Value.slice.injEq, true_and] at h1; exact ⟨g, h1.1⟩
              have so3 := SQ.out.below hD (Nat.le_refl _)
              have so4 := so3.below ((Below.refl wr.heap.size wr).drew) (Nat.le_refl _)
              have cv1 : (convert 22 9 (.slice (some ⟨g, r, none⟩) (q - r) (sc - r))).run Tryd.prog wr.drew = .ok (.string (wdS (S.drop r))) wr.drew := convFrom so4 (by omega)
              have cv2 : (convert 22 9 (.slice (some ⟨g, 0, none⟩) r sc)).run Tryd.prog wr.drew = .ok (.string (wdS (S.take r))) wr.drew := convTo so4 hr'
              have mn : ∀ (w : World) ts t, (Builtin.min_ ts t #[.string (wdS Y), .string (wdS (S.drop r) ++ wdS (S.take r))]).run Tryd.prog w = .ok (.string (wdS (cnL S (r + 1)))) w := fun w ts t => by
                rw [Lib.run_min_strs, wdS_app, wdS_min, CN.out]; rfl
              have hqc : q ≤ sc := by
                rcases SQ.out.2 with ⟨_, h2⟩ | ⟨g, cap, cur, h1, _, _, h3, _⟩
                · omega
                · simp only [Value.slice.injEq, true_and] at h1; omega
              have ad : ∀ w, (Op.stringOp .add (wdS (S.drop r)) (wdS (S.take r))).run Tryd.prog w = .ok (.string (wdS (S.drop r) ++ wdS (S.take r))) w := fun w => run_string_add_sum w _ _ (by
                have e1 : ∀ l : List UInt8, (wdS l).size = l.length := fun l => by unfold wdS; simp [ByteArray.size]
                rw [e1, e1, List.length_drop, List.length_take, SL.out]; omega)
              have hscr : ¬ sc = r := by omega
              clear so3 so4 hD CN
              go_upto_region 17 with fail
              go_region
              go_wp2_with fail
              go_roundw
              case rel => exact ⟨r + 1, by go_num, by rw [SL.out]; omega, rfl, DD.out.drew⟩
              case measure => (simp [intOf] <;> omega)
            · have hre : r = q := by omega
              subst hre
              have q2 : decide (r < r) = false := decide_eq_false hrt
              have CB := Lib.hid (CA.out rfl)
              rw [CB.out] at TF
              clear CA CB
              clear hD CN
              have BZ := Lib.hid (B5.out.trans ((C.out.trans (DD.out.mono C.out.size)).mono B5.out.size))
              have OR := Lib.hid (O5.out.below (C.out.trans (DD.out.mono C.out.size)) (Nat.le_refl _))
              have OA : Hid (∀ o, (wr.alloc o).ownsRow w2.heap.size 9 1 (.slice ao i co) i (((F.take i).map (wordK L)).map encStr)) := Lib.hid (fun o => OR.out.below ((Below.refl _ _).alloc (Nat.le_refl _) _) (Nat.le_refl _))
              have hCs := BZ.out.size
              go_wp2_with (at_builtin; go_must (refine wpList_append_fresh rfl (.tmp 60) (.tmp 62) 67 rfl w2.heap.size 9 j0 (.string ByteArray.empty) 1 16 Tryd.underlying67 hj hy0 hy1 hy2 rfl (by decide) (.slice ao i co) i (((F.take i).map (wordK L)).map encStr) rfl (OA.out _) ⟨wr.heap.size, 0, none⟩ 1 1 [.string (wdS Y)] rfl rfl (newsS _ _ _ _ (by simp)) (oneS _) (by unfold maxLen; omega) (by omega) (by simp; omega) ?_; intro v5 w6 hown hgrow hfr; have O6 := Lib.hid (OwnS.more hown); have B6 : Hid (Below w2.heap.size w2 w6) := Lib.hid (BZ.out.trans (((Below.refl _ _).alloc (Nat.le_refl _) _).mono BZ.out.size) |>.grown hgrow (by simp; omega) (fun q hq => (World.ownsRow.lt OR.out q hq).1)); clear hown hgrow hfr))
              go_roundw
              case rel => exact ⟨i + 1, by go_num, by rw [HM.out]; omega, by rw [TF.out]; exact O6.out, B6.out⟩
              case measure => (simp [intOf] <;> omega)
    · have him : i = m := by omega
      subst him
      have q0 : decide (i < i) = false := decide_eq_false hlt
      clear hB hO
      go_wp2_with (go_at_call 37; refine (HSS.out _ _ _ _ OO.out).mono ?_; rintro e w9 ⟨rfl, o9, g9⟩; have O9 := Lib.hid o9; have B9 := Lib.hid (B.out.grown g9 B.out.size (fun q hq => (World.ownsRow.lt OO.out q hq).1)); clear o9 g9)
      go_ret
      refine ⟨_, i, rfl, by omega, ?_, B2.out.trans (B9.out.mono B2.out.size)⟩
      have := O9.out
      rw [List.take_of_length_le (by rw [HM.out]; exact Nat.le_refl _)] at this
      rw [HF.out]
      exact row_base12 this B2.out.size
end Go.Proofs.YtkgabklponjagaaDoor
