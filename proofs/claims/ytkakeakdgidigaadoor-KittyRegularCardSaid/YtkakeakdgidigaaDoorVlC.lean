/-
  What the code's rotations answers. Conditions: cells that may be; the ways read as the program lays them.
-/
import Derived.Test.YtkakeakdgidigaaDoorVlA
import Derived.Test.YtkakeakdgidigaaDoorVlB
import Derived.Test.YtkakeakdgidigaaDoorVzF4
namespace Go.Proofs.YtkakeakdgidigaaDoor
open Go.RowKit Go.Proofs.YtkakeakdgidigaaDoor.GrM Go.Proofs.YtkakeakdgidigaaDoor.FcM Go.Proofs.YtkakeakdgidigaaDoor.JoM Go.Proofs.YtkakeakdgidigaaDoor.VdM

theorem rot_smV (L : List Int) (x : List Nat) : rotI (x.map (trnK L)) = smF (trnK L) x := by
  unfold rotI
  have : ∀ (x : List Nat) (s : Int), (x.map (trnK L)).foldl rotS s = s + smF (trnK L) x := by
    intro x
    induction x with
    | nil => intro s; simp [smF]
    | cons a l ih =>
      intro s
      have h := trn_range L a
      rw [List.map_cons, List.foldl_cons, ih, smF, rotS, if_pos h]
      omega
  rw [this]
  omega
theorem trQ_mapV {L : List Int} {n : Nat} (h0 : chkG L n = 0) : ∀ {x : List Nat}, (∀ k ∈ x, isK L n k) → (x.map pairK).map (trQ L n) = x.map (trnK L)
  | [], _ => rfl
  | k :: x, h => by
    have ih := trQ_mapV h0 (x := x) (fun j hj => h j (by simp [hj]))
    have hk := okQ_dart h0 (h k (by simp))
    simp only [List.map_cons, ih]
    congr 1
    unfold trQ
    rw [if_pos hk, dk_pair]
theorem pairF_flat (F : List (List Nat)) : (pairF F).flatten = F.flatten.map pairK := by
  unfold pairF
  rw [List.map_flatten]
theorem pairF_atV {F : List (List Nat)} {i : Nat} (h : i < F.length) : (pairF F).getD i [] = (F.getD i []).map pairK := by unfold pairF; simp [List.getD_eq_getElem?_getD, h]
theorem mkCapI (N : Nat) (hN : N ≤ 1000000) (w : World) : (Instr.makeSlice 43 (.int .i64 0) (.int .i64 (N : Int))).run Tryd.prog w = .ok (.slice (some ⟨w.heap.size, 0, none⟩) 0 N) (w.alloc (.cells (madeCells #[.int .i64 0] N) 3)) := by
  obtain ⟨i, hi, hz, hs, hb⟩ := info_parts infoInt12
  have h := run_make (P := Tryd.prog) w 43 3 i (.int .i64 0) Tryd.underlying43 hi hz .i64 .i64 0 (N : Int) (by omega) (by omega) (by rw [hb]; omega) (by omega)
  rw [hs, Nat.mul_one] at h
  simp only [Int.toNat_natCast] at h
  exact h
theorem ownZ_cap (w : World) (N : Nat) (hN : N ≤ 1000000) : OwnZ (w.alloc (.cells (madeCells #[.int .i64 0] N) 3)) w.heap.size (.slice (some ⟨w.heap.size, 0, none⟩) 0 N) [] 0 :=
  ownsRow_shorter (ownZ_made w N hN) (Nat.zero_le _)
/-- The first so many of a row; the others. -/
theorem ZsAt.takeV {w : World} {A : Option Addr} {q c k : Nat} {X Y : List Int} (h : ZsAt w (.slice A q c) (X ++ Y) q) (hX : X.length = k) : ZsAt w (.slice A k c) X k := by
  obtain ⟨hl, A1, c1, e, hA⟩ := h
  rw [List.length_append, hX] at hl
  simp only [Value.slice.injEq, true_and] at e
  obtain ⟨rfl, rfl⟩ := e
  refine ⟨hX, _, _, rfl, fun h0 => ?_⟩
  obtain ⟨b, o, rfl, hb, hx⟩ := hA (by omega)
  refine ⟨b, o, rfl, hb, fun j hj => ?_⟩
  rw [hx j (by omega), List.getD_eq_getElem?_getD, List.getElem?_append_left (by omega), ← List.getD_eq_getElem?_getD]
theorem ZsAt.dropV {w : World} {b o q c k c2 : Nat} {X Y : List Int} (h : ZsAt w (.slice (some ⟨b, o, none⟩) q c) (X ++ Y) q) (hX : X.length = k) : ZsAt w (.slice (some ⟨b, o + k, none⟩) (q - k) c2) Y (q - k) := by
  obtain ⟨hl, A1, c1, e, hA⟩ := h
  rw [List.length_append, hX] at hl
  simp only [Value.slice.injEq, true_and] at e
  obtain ⟨rfl, rfl⟩ := e
  refine ⟨by omega, _, _, rfl, fun h0 => ?_⟩
  obtain ⟨b1, o1, e, hb, hx⟩ := hA (by omega)
  simp only [Option.some.injEq, Addr.mk.injEq, and_true] at e
  obtain ⟨rfl, rfl⟩ := e
  refine ⟨b, o + k, rfl, hb, fun j hj => ?_⟩
  rw [Nat.add_assoc, hx (k + j) (by omega), List.getD_eq_getElem?_getD, List.getElem?_append_right (by omega), hX, Nat.add_sub_cancel_left, ← List.getD_eq_getElem?_getD]
theorem zsEnd {w : World} {A : Option Addr} {c q : Nat} {X : List Nat} {f : Nat → Int} (h : X.length = q) (hq : q = 0) : ZsAt w (.slice A q c) (X.map f) q := ⟨by rw [List.length_map, h], A, c, rfl, fun h => absurd h (by omega)⟩
theorem ownZ_le {w : World} {B n c : Nat} {A : Option Addr} {x : List Int} (h : OwnZ w B (.slice A n c) x n) : n ≤ c := by
  rcases h.2 with ⟨_, h2⟩ | ⟨g, cap, cur, hv, _, _, h3, _⟩
  · omega
  · simp only [Value.slice.injEq] at hv; omega
/-- Where the rotations stand when so many faces were turned. -/
def RtV (L : List Int) (F : List (List Nat)) (w5 wr : World) (rv tv iv : Value) : Prop :=
  ∃ (i q : Nat) (A : Option Addr) (c : Nat), iv = .int .i64 i ∧ i ≤ F.length ∧ tv = .slice A q c ∧ q ≤ c ∧ q ≤ 1000000 ∧ ((F.drop i).flatten).length = q ∧ ZsAt w5 (.slice A q c) (((F.drop i).flatten).map (trnK L)) q ∧
    OwnZ wr w5.heap.size rv ((F.take i).map (smF (trnK L))) i ∧ Below w5.heap.size w5 wr
def RotP (L : List Int) (n : Nat) (w : World) (e : Ending) (w' : World) : Prop :=
  ∃ A c m, e = .returned (.slice A m c) ∧ m ≤ 1000000 ∧ OwnZ w' w.heap.size (.slice A m c) (rotsK L n) m ∧ Below w.heap.size w w'
set_option maxHeartbeats 8000000 in
set_option maxRecDepth 100000 in
theorem rots_ (lv : Value) (L : List Int) (n : Nat) (w : World) (hL : CelAt w lv L n) (hT : WayT w) (h0 : chkG L n = 0) :
    Calls Tryd.prog 31 #[lv] w (RotP L n w) := by
  obtain ⟨j0, hj, hy0, hy1, hy2⟩ := info_parts infoInt12
  have hn := (chk_good.1 h0).1
  have hg := (chk_good.1 h0).2
  have HL := Lib.hid hL
  have HT := Lib.hid hT
  have FG := facesGood lv L n w hL (by omega) hT h0
  have FI := faces_is hg
  have HR : Hid (rotsK L n = (facesK L n).map (smF (trnK L))) := Lib.hid rfl
  obtain ⟨F, hF⟩ : ∃ F, facesK L n = F := ⟨_, rfl⟩
  unfold FacesP at FG
  have hfl := facs_len L n (4 * n)
  rw [show facS L n (4 * n) = F from hF] at hfl
  rw [hF] at FG FI HR
  have HFL : Hid (F.flatten.length ≤ 4 * n) := Lib.hid (by have := FI.met.len; omega)
  have hfl2 := HFL.out
  have NEF : Hid (∀ k, k < F.length → 0 < ((pairF F).getD k []).length) := Lib.hid (fun k hk => by
    rw [pairF_atV hk, List.length_map]
    have hm : F.getD k [] ∈ F := by rw [List.getD_eq_getElem?_getD, List.getElem?_eq_getElem hk]; exact List.getElem_mem hk
    exact Nat.pos_of_ne_zero (fun e => (FI.cyc _ hm).1 (List.eq_nil_of_length_eq_zero e)))
  have NEX : Hid (∀ x ∈ F, 0 < x.length) := Lib.hid (fun x hx => Nat.pos_of_ne_zero (fun e => (FI.cyc _ hx).1 (List.eq_nil_of_length_eq_zero e)))
  have DK : Hid (∀ k ∈ F.flatten, isK L n k) := Lib.hid FI.met.2
  have H0 := Lib.hid h0
  have TQ := trQ_mapV h0 DK.out
  have HTQ := Lib.hid TQ
  obtain ⟨m, hm⟩ : ∃ m, F.length = m := ⟨_, rfl⟩
  have HM := Lib.hid hm
  rw [hm] at FG hfl
  have HFG := Lib.hid FG
  obtain ⟨A0, c0, e⟩ := hL.form
  subst e
  have hmk := mkCapI m (by omega)
  clear FG FI hF hm hL hT h0 hg TQ
  go_enter Tryd.func31, Tryd.ntmps31
  go_upto_region 2 with (go_at_call 16; refine HFG.out.mono ?_; rintro e w1 ⟨A1, c1, rfl, o1, b1⟩; have F1 := Lib.hid o1.fcs; have B1 := Lib.hid b1; clear o1 b1)
  have CC := Lib.hid (concatD (.slice A1 m c1) (pairF F) m w1 F1.out (by omega) (by rw [pairF_flat, List.length_map]; omega) (fun k hk => NEF.out k (by rw [HM.out]; exact hk)))
  clear HFG
  obtain ⟨fl, hfl3⟩ : ∃ fl, F.flatten.length = fl := ⟨_, rfl⟩
  have TU : Hid (∀ dv wq, PtsAt wq dv (pairF F).flatten → Below w.heap.size w wq → Calls Tryd.prog 17 #[.slice A0 n c0, dv] wq fun e w' => ∃ A c, e = .returned (.slice A fl c) ∧ OwnZ w' wq.heap.size (.slice A fl c) (F.flatten.map (trnK L)) fl ∧ Below wq.heap.size wq w') := Lib.hid (fun dv wq hd b => by
    rw [pairF_flat] at hd
    have h := turnsAny (.slice A0 n c0) dv L (F.flatten.map pairK) n fl wq (HL.out.below b (Nat.le_refl _)) hd (by omega) (by rw [List.length_map]; exact hfl3) (by omega) (HT.out.below b (Nat.le_refl _))
    unfold TurnsP at h
    rw [HTQ.out] at h
    exact h)
  have HFL3 := Lib.hid hfl3
  have hfl4 : fl ≤ 4 * n := by rw [← hfl3]; exact hfl2
  clear hfl2 hfl3
  go_upto_region 3 with (first
    | (go_at_call 17; have _z := D2; refine (TU.out _ _ D2.out B2.out).mono ?_; rintro e w3 ⟨A3, c3, rfl, o3, b3⟩; have O3 := Lib.hid o3; have B3 := Lib.hid (B2.out.trans (b3.mono B2.out.size)); have E3 := Lib.hid (E2.out.trans (b3.mono E2.out.size)); clear o3 b3)
    | (go_at_call 18; refine CC.out.mono ?_; rintro e w2 ⟨v2, rfl, o2, b2⟩; have D2 := Lib.hid o2.pts; have E2 := Lib.hid b2; have B2 := Lib.hid (B1.out.trans (b2.mono B1.out.size)); clear o2 b2))
  have hlc := ownZ_le O3.out
  have Z3 := Lib.hid O3.out.zs
  have F3 := Lib.hid (F1.out.below E3.out (Nat.le_refl _))
  have OC := Lib.hid (ownZ_cap w3 m (by omega))
  clear CC TU D2 O3 E3 E2 F1 B2 HFL HTQ NEF
  go_wp2_with fail
  clear hmk
  go_loopw [5, 6, 23] (fun tv rv iv wr => RtV L F w3 wr rv tv iv) (fun _ _ iv _ => m - (intOf iv).toNat)
  case atStart => exact ⟨0, fl, A3, c3, rfl, Nat.zero_le _, rfl, hlc, by omega, HFL3.out, Z3.out, OC.out, (Below.refl _ _).alloc (Nat.le_refl _) _⟩
  case round =>
    clear OC Z3
    obtain ⟨i, q, A, c, rfl, hi, rfl, hqc, hq6, hq, hz, ho, hB⟩ := hrel
    rw [HM.out] at hi
    have B := Lib.hid hB
    have ZQ := Lib.hid hz
    have OO := Lib.hid ho
    have HQ := Lib.hid hq
    obtain ⟨ao, co, e⟩ := row_form12 ho
    subst e
    clear hz ho hq
    by_cases hlt : i < m
    · have q0 : decide (i < m) = true := decide_eq_true hlt
      obtain ⟨b, o, c9, s, e, hb, hs, hp⟩ := (F3.out.below hB (Nat.le_refl _)).nth hlt
      simp only [Value.slice.injEq, true_and] at e
      obtain ⟨rfl, rfl⟩ := e
      have hil : i < F.length := by rw [HM.out]; exact hlt
      rw [pairF_atV hil] at hp
      have hfd := flat_dropV hil
      have hrt := rots_take (L := L) hil
      have hxm : F.getD i [] ∈ F := by rw [List.getD_eq_getElem?_getD, List.getElem?_eq_getElem hil]; exact List.getElem_mem hil
      have hxn := NEX.out _ hxm
      obtain ⟨x, hx⟩ : ∃ x, F.getD i [] = x := ⟨_, rfl⟩
      rw [hx] at hp hfd hrt hxn
      obtain ⟨AG, cg, e, -, -⟩ := hp
      rw [List.length_map] at e
      subst e
      obtain ⟨k, hk⟩ : ∃ k, x.length = k := ⟨_, rfl⟩
      rw [hk] at hs hxn
      have ZX := ZQ.out
      have HX := HQ.out
      rw [hfd, List.map_append] at ZX
      rw [hfd, List.length_append, hk] at HX
      have hkq : k ≤ q := by omega
      have hxk : (x.map (trnK L)).length = k := by rw [List.length_map, hk]
      have RO : Hid (∀ wq, Below wr.heap.size wr wq → Calls Tryd.prog 40 #[.slice A k c] wq fun e w' => e = .returned (.int .i64 (smF (trnK L) x)) ∧ wq = w') := Lib.hid (fun wq b => by
        rw [← rot_smV]
        exact rotAny (.slice A k c) (x.map (trnK L)) k wq ((ZX.takeV hxk).below (B.out.trans (b.mono B.out.size)) (Nat.le_refl _)) (by omega))
      obtain ⟨bA, oA, eA⟩ : ∃ bA oA, A = some ⟨bA, oA, none⟩ := by
        obtain ⟨_, A1, c1, e, hA⟩ := ZQ.out
        simp only [Value.slice.injEq, true_and] at e
        obtain ⟨rfl, rfl⟩ := e
        obtain ⟨b1, o1, e, _⟩ := hA (by omega)
        exact ⟨b1, o1, e⟩
      subst eA
      have ZD : Hid (∀ c2, ZsAt w3 (.slice (some ⟨bA, oA + k, none⟩) (q - k) c2) (((F.drop (i + 1)).flatten).map (trnK L)) (q - k)) := Lib.hid (fun c2 => ZX.dropV hxk)
      have HD : Hid ((F.drop (i + 1)).flatten.length = q - k) := Lib.hid (by omega)
      have RT := Lib.hid hrt
      have OA : Hid (∀ o, (wr.alloc o).ownsRow w3.heap.size 3 1 (.slice ao i co) i (((F.take i).map (smF (trnK L))).map intV)) := Lib.hid (fun o => row_below12 OO.out ((Below.refl _ _).alloc (Nat.le_refl _) _) (Nat.le_refl _))
      have ho0 := World.ownsRow.lt OO.out
      have HLT := Lib.hid ho0
      have hBs := B.out.size
      obtain ⟨r, hr⟩ : ∃ r, smF (trnK L) x = r := ⟨_, rfl⟩
      rw [hr] at RO RT
      clear hx hk hfd hrt hxm hxk HX ZX hr ho0 hB hil
      by_cases hck : c = k
      · have hqk : q = k := by omega
        subst hck
        subst hqk
        go_upto_region 8 with (first
          | (go_at_call 40; refine (RO.out _ (Below.refl _ _)).mono ?_; rintro e w4 ⟨rfl, rfl⟩)
          | (at_builtin; refine wpList_append_fresh rfl (.tmp 27) (.tmp 33) 43 rfl w3.heap.size 3 j0 (.int .i64 0) 1 8 Tryd.underlying43 hj hy0 hy1 hy2 rfl (by decide) (.slice ao i co) i (((F.take i).map (smF (trnK L))).map intV) rfl (OA.out _) ⟨wr.heap.size, 0, none⟩ 1 1 [.int .i64 r] rfl rfl (newsI12 _ _ _ 3 (heap_alloc_new wr _)) (oneInt12 r) (by unfold maxLen; omega) (by omega) (by simp; omega) ?_; intro v5 w5 hown hgrow hfr; have o5 := OwnZ.more hown; rw [← RT.out] at o5; have O5 := Lib.hid o5; have B5 : Hid (Below w3.heap.size w3 w5) := Lib.hid ((B.out.trans (((Below.refl _ _).alloc (Nat.le_refl _) _).mono B.out.size)).grown hgrow (by simp; have := B.out.size; omega) (fun q hq => (HLT.out q hq).1)); clear hown hgrow hfr o5))
        go_wp2_with fail
        go_roundw
        case rel => exact ⟨i + 1, _, _, _, by go_num, by rw [HM.out]; omega, rfl, by omega, by omega, (by rw [HD.out]; omega), zsEnd (by rw [HD.out]; omega) rfl, O5.out, B5.out⟩
        case measure => (simp [intOf] <;> omega)
      · go_upto_region 8 with (first
          | (go_at_call 40; refine (RO.out _ (Below.refl _ _)).mono ?_; rintro e w4 ⟨rfl, rfl⟩)
          | (at_builtin; refine wpList_append_fresh rfl (.tmp 27) (.tmp 33) 43 rfl w3.heap.size 3 j0 (.int .i64 0) 1 8 Tryd.underlying43 hj hy0 hy1 hy2 rfl (by decide) (.slice ao i co) i (((F.take i).map (smF (trnK L))).map intV) rfl (OA.out _) ⟨wr.heap.size, 0, none⟩ 1 1 [.int .i64 r] rfl rfl (newsI12 _ _ _ 3 (heap_alloc_new wr _)) (oneInt12 r) (by unfold maxLen; omega) (by omega) (by simp; omega) ?_; intro v5 w5 hown hgrow hfr; have o5 := OwnZ.more hown; rw [← RT.out] at o5; have O5 := Lib.hid o5; have B5 : Hid (Below w3.heap.size w3 w5) := Lib.hid ((B.out.trans (((Below.refl _ _).alloc (Nat.le_refl _) _).mono B.out.size)).grown hgrow (by simp; have := B.out.size; omega) (fun q hq => (HLT.out q hq).1)); clear hown hgrow hfr o5))
        go_wp2_with fail
        go_roundw
        case rel => exact ⟨i + 1, q - k, _, _, by go_num, by rw [HM.out]; omega, rfl, by omega, by omega, HD.out, ZD.out _, O5.out, B5.out⟩
        case measure => (simp [intOf] <;> omega)
    · have him : i = m := by omega
      have q0 : decide (i < m) = false := decide_eq_false hlt
      have OF := OO.out
      rw [him, ← HM.out, List.take_length, ← HR.out] at OF
      have OH := Lib.hid OF
      clear hB OF
      go_wp2_with fail
      go_ret
      refine ⟨ao, co, i, rfl, by omega, ?_, B3.out.trans (B.out.mono B3.out.size)⟩
      have h := OH.out
      rw [HM.out, ← him] at h
      exact row_base12 h B3.out.size
end Go.Proofs.YtkakeakdgidigaaDoor
