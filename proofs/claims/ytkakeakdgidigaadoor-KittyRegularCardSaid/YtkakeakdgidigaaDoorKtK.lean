/-
  kitty.Regular told of any cells: its error, whether no face's turns have a pair. Conditions: the ways read as the program lays them; at most a hundred thousand cells.
-/
import Derived.Test.YtkakeakdgidigaaDoorVlD
import Derived.Test.YtkakeakdgidigaaDoorKtW
namespace Go.Proofs.YtkakeakdgidigaaDoor
open Go.RowKit Go.Proofs.YtkakeakdgidigaaDoor.GrM Go.Proofs.YtkakeakdgidigaaDoor.FcM Go.Proofs.YtkakeakdgidigaaDoor.JoM Go.Proofs.YtkakeakdgidigaaDoor.VdM Go.Proofs.YtkakeakdgidigaaDoor.KtM

/-- Has a face's turns no pair? -/
noncomputable def noPr (L : List Int) (f : List Nat) : Bool := !(prA (f.map (trnK L))).2.2
noncomputable def rgK (L : List Int) (n : Nat) : Bool := (facesK L n).all (noPr L)
theorem trn_goodT (L : List Int) (f : List Nat) : GoodT (f.map (trnK L)) := fun t ht => by
  obtain ⟨k, _, rfl⟩ := List.mem_map.1 ht
  exact trn_range L k
/-- Where the turns stand when so many faces were looked at. -/
def RgV (L : List Int) (F : List (List Nat)) (w5 wr : World) (tv iv : Value) : Prop :=
  ∃ (i q : Nat) (A : Option Addr) (c : Nat), iv = .int .i64 i ∧ i ≤ F.length ∧ tv = .slice A q c ∧ q ≤ c ∧ q ≤ 1000000 ∧ ((F.drop i).flatten).length = q ∧ ZsAt w5 (.slice A q c) (((F.drop i).flatten).map (trnK L)) q ∧
    (∀ j, j < i → noPr L (F.getD j []) = true) ∧ Below w5.heap.size w5 wr
def RgP (L : List Int) (n : Nat) (w : World) (e : Ending) (w' : World) : Prop :=
  (vldE L n = 0 → e = .returned (.tuple #[.bool (rgK L n), .int .i64 0])) ∧ (vldE L n ≠ 0 → e = .returned (.tuple #[.bool false, .int .i64 (vldE L n)])) ∧ Below w.heap.size w w'
set_option maxHeartbeats 8000000 in
set_option maxRecDepth 100000 in
theorem regular_ (lv : Value) (L : List Int) (n : Nat) (w : World) (hL : CelAt w lv L n) (hn : n ≤ 100000) (hT : WayT w) :
    Calls Tryd.prog 5 #[lv] w (RgP L n w) := by
  have CK := Lib.hid (check_ lv L n w hL hn hT)
  by_cases hv : vldE L n = 0
  · have h0 : chkG L n = 0 := by
      by_cases h : chkG L n = 0
      · exact h
      · exact absurd ((vld_bad h).symm.trans hv) h
    have HV := Lib.hid hv
    rw [hv] at CK
    have hn2 := (chk_good.1 h0).1
    have hg := (chk_good.1 h0).2
    have HL := Lib.hid hL
    have HT := Lib.hid hT
    have FG := fun wq (o : Below w.heap.size w wq) => facesGood lv L n wq (hL.below o (Nat.le_refl _)) (by omega) (hT.below o (Nat.le_refl _)) h0
    have FI := faces_is hg
    have HRG : Hid (rgK L n = (facesK L n).all (noPr L)) := Lib.hid rfl
    obtain ⟨F, hF⟩ : ∃ F, facesK L n = F := ⟨_, rfl⟩
    unfold FacesP at FG
    have hfl := facs_len L n (4 * n)
    rw [show facS L n (4 * n) = F from hF] at hfl
    rw [hF] at FG FI HRG
    have HFL : Hid (F.flatten.length ≤ 4 * n) := Lib.hid (by have := FI.met.len; omega)
    have hfl2 := HFL.out
    have NEF : Hid (∀ k, k < F.length → 0 < ((pairF F).getD k []).length) := Lib.hid (fun k hk => by
      rw [pairF_atV hk, List.length_map]
      have hm : F.getD k [] ∈ F := by rw [List.getD_eq_getElem?_getD, List.getElem?_eq_getElem hk]; exact List.getElem_mem hk
      exact Nat.pos_of_ne_zero (fun e => (FI.cyc _ hm).1 (List.eq_nil_of_length_eq_zero e)))
    have NEX : Hid (∀ x ∈ F, 0 < x.length) := Lib.hid (fun x hx => Nat.pos_of_ne_zero (fun e => (FI.cyc _ hx).1 (List.eq_nil_of_length_eq_zero e)))
    have DK : Hid (∀ k ∈ F.flatten, isK L n k) := Lib.hid FI.met.2
    have TQ := trQ_mapV h0 DK.out
    have HTQ := Lib.hid TQ
    obtain ⟨m, hm⟩ : ∃ m, F.length = m := ⟨_, rfl⟩
    have HM := Lib.hid hm
    rw [hm] at FG hfl
    have HFG := Lib.hid FG
    obtain ⟨A0, c0, e⟩ := hL.form
    subst e
    clear FG FI hF hm hL hT h0 hg TQ hv
    go_enter Tryd.func5, Tryd.ntmps5
    go_upto_region 4 with (go_at_call 15; refine CK.out.mono ?_; rintro e w0 ⟨rfl, b0⟩; have B0 := Lib.hid b0; clear b0)
    clear CK
    go_upto_region 5 with (go_at_call 16; refine (HFG.out _ B0.out).mono ?_; rintro e w1 ⟨A1, c1, rfl, o1, b1⟩; have F1 := Lib.hid o1.fcs; have B1 := Lib.hid (B0.out.trans (b1.mono B0.out.size)); clear o1 b1)
    have CC := Lib.hid (concatD (.slice A1 m c1) (pairF F) m w1 F1.out (by omega) (by rw [pairF_flat, List.length_map]; omega) (fun k hk => NEF.out k (by rw [HM.out]; exact hk)))
    clear HFG
    obtain ⟨fl, hfl3⟩ : ∃ fl, F.flatten.length = fl := ⟨_, rfl⟩
    have TU : Hid (∀ dv wq, PtsAt wq dv (pairF F).flatten → Below w.heap.size w wq → Calls Tryd.prog 17 #[.slice A0 n c0, dv] wq fun e w' => ∃ A c, e = .returned (.slice A fl c) ∧ OwnZ w' wq.heap.size (.slice A fl c) (F.flatten.map (trnK L)) fl ∧ Below wq.heap.size wq w') := Lib.hid (fun dv wq hd b => by
      rw [pairF_flat] at hd
      have h := turnsAny (.slice A0 n c0) dv L (F.flatten.map pairK) n fl wq (HL.out.below b (Nat.le_refl _)) hd (by omega) (by rw [List.length_map]; exact hfl3) (by omega) (HT.out.below b (Nat.le_refl _))
      unfold TurnsP at h
      rw [HTQ.out] at h
      exact h)
    have HFL3 := Lib.hid hfl3
    have hfl4 : fl ≤ 4 * n := by rw [← hfl3]; exact hfl2
    clear hfl2 hfl3
    go_upto_region 6 with (first
      | (go_at_call 17; have _z := D2; refine (TU.out _ _ D2.out B2.out).mono ?_; rintro e w3 ⟨A3, c3, rfl, o3, b3⟩; have O3 := Lib.hid o3; have B3 := Lib.hid (B2.out.trans (b3.mono B2.out.size)); have E3 := Lib.hid (E2.out.trans (b3.mono E2.out.size)); clear o3 b3)
      | (go_at_call 18; refine CC.out.mono ?_; rintro e w2 ⟨v2, rfl, o2, b2⟩; have D2 := Lib.hid o2.pts; have E2 := Lib.hid b2; have B2 := Lib.hid (B1.out.trans (b2.mono B1.out.size)); clear o2 b2))
    have hlc := ownZ_le O3.out
    have Z3 := Lib.hid O3.out.zs
    have F3 := Lib.hid (F1.out.below E3.out (Nat.le_refl _))
    clear CC TU D2 O3 E3 E2 F1 B2 HFL HTQ NEF B1 B0
    go_wp2_with fail
    go_loopw [7, 29] (fun tv iv wr => RgV L F w3 wr tv iv) (fun _ iv _ => m - (intOf iv).toNat)
    case atStart => exact ⟨0, fl, A3, c3, rfl, Nat.zero_le _, rfl, hlc, by omega, HFL3.out, Z3.out, fun j hj => absurd hj (by omega), Below.refl _ _⟩
    case round =>
      clear Z3
      obtain ⟨i, q, A, c, rfl, hi, rfl, hqc, hq6, hq, hz, hno, hB⟩ := hrel
      rw [HM.out] at hi
      have B := Lib.hid hB
      have ZQ := Lib.hid hz
      have HQ := Lib.hid hq
      have NO := Lib.hid hno
      clear hz hq hno
      by_cases hlt : i < m
      · have q0 : decide (i < m) = true := decide_eq_true hlt
        obtain ⟨b, o, c9, s, e, hb, hs, hp⟩ := (F3.out.below hB (Nat.le_refl _)).nth hlt
        simp only [Value.slice.injEq, true_and] at e
        obtain ⟨rfl, rfl⟩ := e
        have hil : i < F.length := by rw [HM.out]; exact hlt
        rw [pairF_atV hil] at hp
        have hfd := flat_dropV hil
        have hxm : F.getD i [] ∈ F := by rw [List.getD_eq_getElem?_getD, List.getElem?_eq_getElem hil]; exact List.getElem_mem hil
        have hxn := NEX.out _ hxm
        obtain ⟨x, hx⟩ : ∃ x, F.getD i [] = x := ⟨_, rfl⟩
        have HXF := Lib.hid hx
        rw [hx] at hp hfd hxn hxm
        obtain ⟨AG, cg, e, -, -⟩ := hp
        rw [List.length_map] at e
        subst e
        obtain ⟨k, hk⟩ : ∃ k, x.length = k := ⟨_, rfl⟩
        rw [hk] at hs hxn
        have ZX := ZQ.out
        have HX := HQ.out
        rw [hfd, List.map_append] at ZX
        rw [hfd, List.length_append, hk] at HX
        have hkq : k ≤ q := by omega
        have hq4 : q ≤ 100000 := by
          have h1 : ((F.drop i).flatten).length ≤ F.flatten.length := by
            have e : F.flatten = (F.take i).flatten ++ (F.drop i).flatten := by rw [← List.flatten_append, List.take_append_drop]
            rw [e, List.length_append]; omega
          rw [HQ.out, HFL3.out] at h1
          omega
        have hxk : (x.map (trnK L)).length = k := by rw [List.length_map, hk]
        obtain ⟨⟨⟨p0, p1⟩, ⟨p2, p3⟩, z⟩, hpr⟩ : ∃ p, prA (x.map (trnK L)) = p := ⟨_, rfl⟩
        have NX : Hid (noPr L x = !z) := Lib.hid (by unfold noPr; rw [hpr])
        have PR : Hid (∀ wq, Below wr.heap.size wr wq → Calls Tryd.prog 19 #[.slice A k c] wq fun e w' => e = .returned (.tuple #[.agg #[.int .i64 (p0 : Int), .int .i64 (p1 : Int)], .agg #[.int .i64 (p2 : Int), .int .i64 (p3 : Int)], .bool z]) ∧ Below wq.heap.size wq w') := Lib.hid (fun wq b => by
          have h := Pair15 (.slice A k c) (x.map (trnK L)) k wq ((ZX.takeV hxk).below (B.out.trans (b.mono B.out.size)) (Nat.le_refl _)) (by omega)
          rw [if_pos (good_iff.2 (trn_goodT L x)), hpr] at h
          exact h)
        obtain ⟨bA, oA, eA⟩ : ∃ bA oA, A = some ⟨bA, oA, none⟩ := by
          obtain ⟨_, A1, c1, e, hA⟩ := ZQ.out
          simp only [Value.slice.injEq, true_and] at e
          obtain ⟨rfl, rfl⟩ := e
          obtain ⟨b1, o1, e, _⟩ := hA (by omega)
          exact ⟨b1, o1, e⟩
        subst eA
        have ZD : Hid (∀ c2, ZsAt w3 (.slice (some ⟨bA, oA + k, none⟩) (q - k) c2) (((F.drop (i + 1)).flatten).map (trnK L)) (q - k)) := Lib.hid (fun c2 => ZX.dropV hxk)
        have HD : Hid ((F.drop (i + 1)).flatten.length = q - k) := Lib.hid (by omega)
        have NN : Hid (z = false → ∀ j, j < i + 1 → noPr L (F.getD j []) = true) := Lib.hid (fun hz j hj => by
          by_cases c : j < i
          · exact NO.out j c
          · obtain rfl : j = i := by omega
            rw [HXF.out, NX.out, hz]; rfl)
        have RF : Hid (z = true → rgK L n = false) := Lib.hid (fun hz => by
          rw [HRG.out, List.all_eq_false]
          exact ⟨x, hxm, by rw [NX.out, hz]; decide⟩)
        have hbs : b < wr.heap.size := hb
        clear hx hk hfd hxk HX ZX hpr hB hil hxm
        go_upto_region 10 with (go_at_call 19; refine (PR.out _ (Below.refl _ _)).mono ?_; rintro e w4 ⟨rfl, b4⟩; have B4 := Lib.hid (B.out.trans (b4.mono B.out.size)); clear b4)
        obtain ⟨w5, hw5⟩ : ∃ W, (w4.alloc (.cells #[.int .i64 (p0 : Int), .int .i64 (p1 : Int)] 63)).alloc (.cells #[.int .i64 (p2 : Int), .int .i64 (p3 : Int)] 63) = W := ⟨_, rfl⟩
        obtain ⟨-, b5⟩ := two_boxes hw5
        rw [hw5]
        have B5 := Lib.hid (B4.out.trans (b5.mono B4.out.size))
        clear hw5 b5 B4 PR
        cases z
        · by_cases hck : c = k
          · have hqk : q = k := by omega
            subst hck
            subst hqk
            go_wp2_with fail
            go_roundw
            case rel => exact ⟨i + 1, _, _, _, by go_num, by rw [HM.out]; omega, rfl, by omega, by omega, (by rw [HD.out]; omega), zsEnd (by rw [HD.out]; omega) rfl, NN.out rfl, B5.out⟩
            case measure => (simp [intOf] <;> omega)
          · go_wp2_with fail
            go_roundw
            case rel => exact ⟨i + 1, q - k, _, _, by go_num, by rw [HM.out]; omega, rfl, by omega, by omega, HD.out, ZD.out _, NN.out rfl, B5.out⟩
            case measure => (simp [intOf] <;> omega)
        · go_wp2_with fail
          go_ret2
          exact ⟨fun _ => by rw [RF.out trivial]; rfl, fun h => absurd HV.out h, B3.out.trans (B5.out.mono B3.out.size)⟩
      · have him : i = m := by omega
        have q0 : decide (i < m) = false := decide_eq_false hlt
        have RT : Hid (rgK L n = true) := Lib.hid (by
          rw [HRG.out, List.all_eq_true]
          intro x hx
          obtain ⟨j, hj, e⟩ := List.mem_iff_getElem.1 hx
          have := NO.out j (by rw [him, ← HM.out]; exact hj)
          rw [List.getD_eq_getElem?_getD, List.getElem?_eq_getElem hj, e] at this
          exact this)
        clear hB
        go_wp2_with fail
        go_ret2
        exact ⟨fun _ => by rw [RT.out]; rfl, fun h => absurd HV.out h, B3.out.trans (B.out.mono B3.out.size)⟩
  · have HV := Lib.hid hv
    obtain ⟨v, hvv⟩ : ∃ v, vldE L n = v := ⟨_, rfl⟩
    have q1 : (v != 0) = true := by
      rw [hvv] at hv
      rw [bne_iff_ne]; exact hv
    have HVV := Lib.hid hvv
    rw [hvv] at CK
    clear hv hL hT hvv
    go_enter Tryd.func5, Tryd.ntmps5
    go_wp2_with (go_at_call 15; refine CK.out.mono ?_; rintro e w0 ⟨rfl, b0⟩; have B0 := Lib.hid b0; clear b0)
    go_ret2
    exact ⟨fun h => absurd h HV.out, fun _ => by rw [HVV.out]; rfl, B0.out⟩
end Go.Proofs.YtkakeakdgidigaaDoor
