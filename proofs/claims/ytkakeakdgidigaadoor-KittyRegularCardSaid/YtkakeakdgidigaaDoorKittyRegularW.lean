/-
  KittyRegular: the walk: at all places and all cells the call answers true and turns nothing that was there. Conditions: the ways read as the program lays them.
-/
import Derived.Test.YtkakeakdgidigaaDoorKtK
import Derived.Test.YtkakeakdgidigaaDoorKtV
import Derived.Test.YtkakeakdgidigaaDoorVlR
namespace Go.Proofs.YtkakeakdgidigaaDoor
open Go.RowKit Go.Proofs.YtkakeakdgidigaaDoor.GrM Go.Proofs.YtkakeakdgidigaaDoor.FcM Go.Proofs.YtkakeakdgidigaaDoor.JoM Go.Proofs.YtkakeakdgidigaaDoor.VdM Go.Proofs.YtkakeakdgidigaaDoor.KtM

theorem two_slices {w : World} {g : Nat} {T : TypeId} {s0 s1 : Value} (h : w.heap[g]? = some (.cells #[s0, s1] T (0, 0))) : w.cell? ⟨g, 0, none⟩ = some s0 ∧ w.cell? ⟨g, 1, none⟩ = some s1 := by
  constructor <;> simp [World.cell?, h]
theorem small_trn (L : List Int) (f : List Nat) : SmallT (f.map (trnK L)) := fun t ht => by
  have := trn_goodT L f t ht
  omega
def KgO (w1 wr : World) (jv : Value) : Prop := ∃ j : Nat, jv = .int .i64 j ∧ j ≤ 2 ∧ Below w1.heap.size w1 wr
def KgI (L : List Int) (F : List (List Nat)) (w5 wr : World) (wv iv : Value) : Prop := ∃ i : Nat, iv = .int .i64 i ∧ i ≤ F.length ∧ wv = .bool ((F.take i).all (noPr L)) ∧ Below w5.heap.size w5 wr
theorem all_take15 {p : List Nat → Bool} {F : List (List Nat)} {i : Nat} (h : i < F.length) : (F.take (i + 1)).all p = ((F.take i).all p && p (F.getD i [])) := by
  rw [List.take_succ_eq_append_getElem h, List.all_append, List.getD_eq_getElem?_getD, List.getElem?_eq_getElem h]
  simp
set_option maxHeartbeats 16000000 in
set_option maxRecDepth 100000 in
theorem regular15 {A1 A2 A3 : Option Addr} {n1 n2 n3 : Nat} (c1 c2 c3 : Nat) {D1 D2 D3 : Nat → Int}
    (AR : Option Addr) (nR cR KR : Nat) (LR : List Int) (w : World) (h : Plane w A1 A2 A3 n1 n2 n3 D1 D2 D3) (hT : WayT w)
    (hR : CelAt w (.slice AR KR cR) LR KR) (hKR : KR ≤ 4) (hKc : KR ≤ cR) (hmin : min (nR : Int) 4 = (KR : Int)) :
    Calls Tryd.prog 3 #[.agg #[.slice A1 n1 c1, .slice A2 n2 c2, .slice A3 n3 c3], .slice AR nR cR] w fun e w' => e = .returned (.bool true) ∧ Below w.heap.size w w' := by
  have HP := Lib.hid h
  have HT := Lib.hid hT
  have HR := Lib.hid hR
  have WK := Lib.hid wakes15
  clear h hT hR
  go_enter Tryd.func3, Tryd.ntmps3
  go_upto_region 1 with (fail)
  obtain ⟨wb, hwb⟩ : ∃ W, W = (w.alloc (.cells #[.slice A1 n1 c1, .slice A2 n2 c2, .slice A3 n3 c3] 25)) := ⟨_, rfl⟩
  have BB : Hid (Below w.heap.size w wb) := Lib.hid (by rw [hwb]; exact (Below.refl _ _).alloc (Nat.le_refl _) _)
  have x0 : wb.cell? ⟨w.heap.size, 0, none⟩ = some (.slice A1 n1 c1) := by rw [hwb]; go_simp
  have x1 : wb.cell? ⟨w.heap.size, 1, none⟩ = some (.slice A2 n2 c2) := by rw [hwb]; go_simp
  have x2 : wb.cell? ⟨w.heap.size, 2, none⟩ = some (.slice A3 n3 c3) := by rw [hwb]; go_simp
  have hgb : w.heap.size < wb.heap.size := by rw [hwb]; simp
  have MK := Lib.hid (makeN 16 (by decide) c1 c2 c3 (HP.out.below BB.out))
  rw [← hwb]
  clear hwb
  go_upto_region 2 with (go_at_call 4; refine MK.out.mono ?_; rintro e w1 ⟨N, L, A, c, pv, rfl, o1, -, hN, b1⟩; have O1 := Lib.hid (OwnG.cel o1); have C1 := Lib.hid b1; have B1 := Lib.hid (BB.out.trans (b1.mono BB.out.size)); clear o1 b1)
  clear x0 x1 x2 hgb MK HP
  go_wp2_with fail
  obtain ⟨w3, hw3⟩ : ∃ W, w1.alloc (.cells #[.slice A N c, .slice AR KR cR] 26) = W := ⟨_, rfl⟩
  have b3 : Below w1.heap.size w1 w3 := by rw [← hw3]; exact below_alloc15 _ _
  obtain ⟨g9, hg9⟩ : ∃ g, w1.heap.size = g := ⟨_, rfl⟩
  have l3 := two_slices (w := w3) (g := g9) (by rw [← hw3, ← hg9]; exact heap_alloc_new w1 _)
  have hgl : g9 < w3.heap.size := by rw [← hw3, ← hg9]; simp
  have B3 := Lib.hid (B1.out.trans (b3.mono B1.out.size))
  have JT : Hid (∀ j, j < 2 → ∃ A n c L, w3.cell? ⟨g9, j, none⟩ = some (.slice A n c) ∧ CelAt w3 (.slice A n c) L n ∧ n ≤ 16) := Lib.hid (fun j hj => by
    have hc : j = 0 ∨ j = 1 := by omega
    rcases hc with rfl | rfl
    · exact ⟨_, _, _, L, l3.1, O1.out.below b3 (Nat.le_refl _), by omega⟩
    · exact ⟨_, _, _, LR, l3.2, HR.out.below B3.out (Nat.le_refl _), by omega⟩)
  have HG9 := Lib.hid hgl
  rw [hw3, hg9]
  clear hw3 b3 hg9 l3 hgl O1 C1 hmin
  go_loopw [32] (fun jv wr => KgO w3 wr jv) (fun jv _ => 2 - (intOf jv).toNat)
  case atStart => exact ⟨0, rfl, Nat.zero_le _, Below.refl _ _⟩
  case round =>
    obtain ⟨j, rfl, hj, hB⟩ := hrel
    obtain ⟨wo, hwo⟩ : ∃ W, W = wr := ⟨_, rfl⟩
    subst hwo
    have B := Lib.hid hB
    by_cases hjl : j < 2
    · have q0 : decide ((j : Int) < 2) = true := decide_eq_true (by omega)
      have hjI : (j : Int) < 2 := by omega
      obtain ⟨AX, nx, cx, LX, f0, hz, hn16⟩ := JT.out j hjl
      have f0 := (hB.cell (p := ⟨g9, j, none⟩) HG9.out).trans f0
      have hgo := Nat.lt_of_lt_of_le HG9.out hB.size
      have ZX := Lib.hid (fun wq (o : Below wo.heap.size wo wq) => hz.below (hB.trans (o.mono hB.size)) (Nat.le_refl _))
      have HTo := Lib.hid (fun wq (o : Below wo.heap.size wo wq) => HT.out.below (B3.out.trans ((hB.trans (o.mono hB.size)).mono B3.out.size)) (Nat.le_refl _))
      have RG := Lib.hid (regular_ (.slice AX nx cx) LX nx wo (ZX.out wo (Below.refl _ _)) (by omega) (HTo.out wo (Below.refl _ _)))
      have RO := Lib.hid (fun wq (o : Below wo.heap.size wo wq) => refOuter (.slice AX nx cx) LX nx wq (ZX.out wq o) (by omega))
      clear hB hz
      by_cases hv : vldE LX nx = 0
      · have h0 : chkG LX nx = 0 := by
          by_cases h : chkG LX nx = 0
          · exact h
          · exact absurd ((vld_bad h).symm.trans hv) h
        have hg := (chk_good.1 h0).2
        have FI := faces_is hg
        have RF := Lib.hid (fun wq (o : Below wo.heap.size wo wq) => refFaces (.slice AX nx cx) LX nx wq (ZX.out wq o) (by omega) hg)
        have HRG : Hid (rgK LX nx = (facesK LX nx).all (noPr LX)) := Lib.hid rfl
        have HFL : Hid ((facesK LX nx).flatten.length ≤ 4 * nx) := Lib.hid (by have := FI.met.len; omega)
        have DK : Hid (∀ f ∈ facesK LX nx, ∀ k ∈ f, isK LX nx k) := Lib.hid (fun f hf k hk => FI.met.2 k (List.mem_flatten.2 ⟨f, hf, hk⟩))
        have TF := Lib.hid (fun (dv : Value) ks wq (o : Below wo.heap.size wo wq) (hD : PtsAt wq dv (ks.map pairK)) (hk : ∀ k ∈ ks, isK LX nx k) hm => refTurnsF (.slice AX nx cx) dv LX ks nx wq (ZX.out wq o) hD hg hk hm)
        obtain ⟨F, hF⟩ : ∃ F, facesK LX nx = F := ⟨_, rfl⟩
        have hfl := facs_len LX nx (4 * nx)
        rw [show facS LX nx (4 * nx) = F from hF] at hfl
        unfold RefFacesP at RF
        rw [hF] at RF HRG HFL DK
        unfold RgP at RG
        unfold RefOutP at RO
        rw [hv] at RO
        have HV := Lib.hid hv
        obtain ⟨rg, hrg⟩ : ∃ b, rgK LX nx = b := ⟨_, rfl⟩
        rw [hrg] at RG HRG
        obtain ⟨rw0, hrw⟩ : ∃ b, refW LX nx = b := ⟨_, rfl⟩
        rw [hrw] at RO
        clear h0 hg FI hF hv hrg hrw
        go_upto_region 11 with (first
          | (go_at_call 6; have _z := D1; refine (RO.out _ D1.out).mono ?_; rintro e w5 ⟨rfl, b5⟩; have D2 := Lib.hid (D1.out.trans (b5.mono D1.out.size)); clear b5)
          | (go_at_call 5; refine RG.out.mono ?_; rintro e w4 ⟨r1, -, b4⟩; obtain rfl := r1 HV.out; have D1 := Lib.hid b4; clear b4))
        clear RG RO
        go_wp2_with (go_at_call 7; refine (RF.out _ D2.out).mono ?_; rintro e w6 ⟨A6, c6, rfl, o6, b6⟩; have F6 := Lib.hid o6.fcs; have D6 := Lib.hid (D2.out.trans (b6.mono D2.out.size)); clear o6 b6)
        clear RF
        obtain ⟨m, hm⟩ : ∃ m, F.length = m := ⟨_, rfl⟩
        have HM := Lib.hid hm
        rw [hm] at F6 hfl ⊢
        clear hm
        go_loopw [13, 55] (fun wv iv wr => KgI LX F w6 wr wv iv) (fun _ iv _ => m - (intOf iv).toNat)
        case atStart => exact ⟨0, rfl, Nat.zero_le _, rfl, Below.refl _ _⟩
        case round =>
          obtain ⟨i, rfl, hi, rfl, hB⟩ := hrel
          rw [HM.out] at hi
          have BI := Lib.hid hB
          obtain ⟨y, hy⟩ : ∃ y, (F.take i).all (noPr LX) = y := ⟨_, rfl⟩
          have HY := Lib.hid hy
          rw [hy]
          clear hy
          by_cases hlt : i < m
          · have q1 : decide (i < m) = true := decide_eq_true hlt
            obtain ⟨b, o, c9, s, e, hb, hs, hp⟩ := (F6.out.below hB (Nat.le_refl _)).nth hlt
            simp only [Value.slice.injEq, true_and] at e
            obtain ⟨rfl, rfl⟩ := e
            have hil : i < F.length := by rw [HM.out]; exact hlt
            rw [pairF_atV hil] at hp
            have hxm : F.getD i [] ∈ F := by rw [List.getD_eq_getElem?_getD, List.getElem?_eq_getElem hil]; exact List.getElem_mem hil
            have AT := Lib.hid (all_take15 (p := noPr LX) hil)
            have hxl : (F.getD i []).length ≤ 64 := by
              have h1 := (List.sublist_flatten_of_mem hxm).length_le
              have := HFL.out
              omega
            obtain ⟨x, hx⟩ : ∃ x, F.getD i [] = x := ⟨_, rfl⟩
            rw [hx] at hp AT hxm hxl
            have HPX := Lib.hid hp
            have HKX := Lib.hid (DK.out x hxm)
            obtain ⟨AG, cg, e, -, -⟩ := hp
            rw [List.length_map] at e
            subst e
            obtain ⟨⟨⟨p0, p1⟩, ⟨p2, p3⟩, z⟩, hpr⟩ : ∃ p, prA (x.map (trnK LX)) = p := ⟨_, rfl⟩
            have NX : Hid (noPr LX x = !z) := Lib.hid (by unfold noPr; rw [hpr])
            have TX := Lib.hid (TF.out (.slice AG x.length cg) x wr (D6.out.trans (hB.mono D6.out.size)) HPX.out HKX.out (by omega))
            have PR : Hid (∀ v wq, ZsAt wq v (x.map (trnK LX)) x.length → Calls Tryd.prog 8 #[v] wq fun e w' => e = .returned (.tuple #[.agg #[.int .i64 (p0 : Int), .int .i64 (p1 : Int)], .agg #[.int .i64 (p2 : Int), .int .i64 (p3 : Int)], .bool z]) ∧ Below wq.heap.size wq w') := Lib.hid (fun v wq hz => by
              have h := refPair15 v (x.map (trnK LX)) x.length wq hz (by omega) (small_trn LX x)
              rw [hpr] at h
              exact h)
            obtain ⟨xl, hxl2⟩ : ∃ xl, x.length = xl := ⟨_, rfl⟩
            rw [hxl2] at hs TX PR
            clear hx hpr hB hil hxm hxl2 HPX
            go_upto_region 15 with (first
              | (go_at_call 8; have _z := Z7; refine (PR.out _ _ Z7.out).mono ?_; rintro e w8 ⟨rfl, b8⟩; have B8 := Lib.hid (B7.out.trans (b8.mono B7.out.size)); clear b8)
              | (go_at_call 9; refine TX.out.mono ?_; rintro e w7 ⟨⟨A7, c7, rfl, o7⟩, b7⟩; have Z7 := Lib.hid o7.zs; have B7 := Lib.hid (BI.out.trans (b7.mono BI.out.size)); clear o7 b7))
            obtain ⟨w9, hw9⟩ : ∃ W, (w8.alloc (.cells #[.int .i64 (p0 : Int), .int .i64 (p1 : Int)] 40)).alloc (.cells #[.int .i64 (p2 : Int), .int .i64 (p3 : Int)] 40) = W := ⟨_, rfl⟩
            obtain ⟨-, b9⟩ := two_boxes hw9
            rw [hw9]
            have B9 := Lib.hid (B8.out.trans (b9.mono B8.out.size))
            clear hw9 b9 B8 B7 PR TX Z7
            cases z
            · have AY : Hid ((F.take (i + 1)).all (noPr LX) = y) := Lib.hid (by rw [AT.out, HY.out, NX.out]; simp)
              go_wp2_with fail
              go_roundw
              case rel => exact ⟨i + 1, by go_num, by rw [HM.out]; omega, by rw [AY.out], B9.out⟩
              case measure => (simp [intOf] <;> omega)
            · have AY : Hid ((F.take (i + 1)).all (noPr LX) = false) := Lib.hid (by rw [AT.out, NX.out]; simp)
              go_wp2_with fail
              go_roundw
              case rel => exact ⟨i + 1, by go_num, by rw [HM.out]; omega, by rw [AY.out], B9.out⟩
              case measure => (simp [intOf] <;> omega)
          · have q1 : decide (i < m) = false := decide_eq_false hlt
            have him : i = m := by omega
            have YR : y = rg := by
              have h1 := HY.out
              rw [him, ← HM.out, List.take_length] at h1
              exact h1.symm.trans HRG.out.symm
            subst YR
            have qy : (y != y) = false := by cases y <;> rfl
            clear hB
            go_wp2_with fail
            go_roundw
            case rel => exact ⟨j + 1, by go_num, by omega, B.out.trans ((D6.out.trans (BI.out.mono D6.out.size)).mono B.out.size)⟩
            case measure => (simp [intOf] <;> omega)
      · obtain ⟨v, hvv⟩ : ∃ v, vldE LX nx = v := ⟨_, rfl⟩
        unfold RgP at RG
        unfold RefOutP at RO
        rw [hvv] at RG RO hv
        obtain ⟨rw0, hrw⟩ : ∃ b, refW LX nx = b := ⟨_, rfl⟩
        rw [hrw] at RO
        have HV := Lib.hid hv
        have q1 : (v != v) = false := by rw [bne, beq_self_eq_true]; rfl
        have q2 : (v == 0) = false := by rw [beq_eq_false_iff_ne]; exact hv
        clear hv hvv hrw
        go_wp2_with (first
          | (go_at_call 6; have _z := D1; refine (RO.out _ D1.out).mono ?_; rintro e w5 ⟨rfl, b5⟩; have D2 := Lib.hid (D1.out.trans (b5.mono D1.out.size)); clear b5)
          | (go_at_call 5; refine RG.out.mono ?_; rintro e w4 ⟨-, r2, b4⟩; obtain rfl := r2 HV.out; have D1 := Lib.hid b4; clear b4))
        go_roundw
        case rel => exact ⟨j + 1, by go_num, by omega, B.out.trans (D2.out.mono B.out.size)⟩
        case measure => (simp [intOf] <;> omega)
    · have q0 : decide ((j : Int) < 2) = false := decide_eq_false (by omega)
      clear hB
      go_wp2_with (go_at_call 10; refine (WK.out _).mono ?_; rintro e w9 ⟨rfl, b9⟩; have B9 := Lib.hid (B3.out.trans ((B.out.trans (b9.mono B.out.size)).mono B3.out.size)); clear b9)
      go_ret
      exact ⟨rfl, B9.out⟩
end Go.Proofs.YtkakeakdgidigaaDoor
