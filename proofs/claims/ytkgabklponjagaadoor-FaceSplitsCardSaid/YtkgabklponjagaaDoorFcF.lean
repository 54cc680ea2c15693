/-
  What the code's Faces answers. Conditions: at most 100000 cells; the ways read as the program lays them.
-/
import Derived.Test.YtkgabklponjagaaDoorFcE
namespace Go.Proofs.YtkgabklponjagaaDoor
open Go.RowKit Go.Maps Go.Proofs.YtkgabklponjagaaDoor.GrM Go.Proofs.YtkgabklponjagaaDoor.FcM

def pairF (F : List (List Nat)) : List (List (Int × Int)) := F.map (·.map pairK)
theorem pairF_len (F : List (List Nat)) : (pairF F).length = F.length := List.length_map ..
theorem pairF_more (F : List (List Nat)) (f : List Nat) : pairF (F ++ [f]) = pairF F ++ [f.map pairK] := by unfold pairF; rw [List.map_append]; rfl
theorem facs_len (L : List Int) (n : Nat) : ∀ j, (facS L n j).length ≤ j
  | 0 => Nat.le_refl _
  | j + 1 => by
    have := facs_len L n j
    rw [facS]
    split
    · omega
    · rw [List.length_append]; simp only [List.length_singleton]; omega
abbrev tyO12 : TypeId := 42
abbrev tyI12 : TypeId := 28
/-- What is true of memory when so many darts were tried. -/
structure FsR (L : List Int) (n mb j : Nat) (w0 wr : World) (fv : Value) : Prop where
  row : OwnFc tyO12 tyI12 wr (mb + 1) fv (pairF (facS L n j)) (facS L n j).length
  met : SetAt wr mb ((facS L n j).flatten.map pairK)
  bel : Below mb w0 wr
def FsO (L : List Int) (n mb : Nat) (w0 wr : World) (fv iv : Value) : Prop := ∃ v : Nat, iv = .int .i64 v ∧ v ≤ n ∧ FsR L n mb (4 * v) w0 wr fv
def FsI (L : List Int) (n mb v : Nat) (w0 wr : World) (fv iv : Value) : Prop := ∃ d : Nat, iv = .int .i64 d ∧ d ≤ 4 ∧ FsR L n mb (4 * v + d) w0 wr fv
def FacesP (L : List Int) (n : Nat) (w : World) (e : Ending) (w' : World) : Prop :=
  ∃ A c, e = .returned (.tuple #[.slice A (facesK L n).length c, .int .i64 0]) ∧ OwnFc tyO12 tyI12 w' w.heap.size (.slice A (facesK L n).length c) (pairF (facesK L n)) (facesK L n).length ∧ Below w.heap.size w w'
theorem infoO12 : (Tryd.prog.info? 42).map (fun i => (i.zero, i.size, i.bytes)) = some (some (.slice none 0 0), 1, 24) := by kernel_rfl
theorem newsS12 (w : World) (g : Nat) (x : Value) (T : TypeId) (h : w.heap[g]? = some (.cells #[x] T (0, 0))) : ∀ j z, [x][j]? = some z → w.cell? ((⟨g, 0, none⟩ : Addr).add j) = some z := by
  intro j z hz
  match j with
  | 0 =>
    simp only [List.getElem?_cons_zero, Option.some.injEq] at hz
    subst hz
    rw [show (⟨g, 0, none⟩ : Addr).add 0 = ⟨g, 0, none⟩ by unfold Addr.add; split <;> simp_all]
    simp [World.cell?, h]
  | j + 1 => simp at hz
theorem FsR.same {L : List Int} {n mb j : Nat} {w0 w w' : World} {fv : Value} (h : FsR L n mb j w0 w fv) (b : Below w.heap.size w w') (hm : mb ≤ w.heap.size) : FsR L n mb j w0 w' fv :=
  ⟨h.row.below b (Nat.le_refl _), h.met.below b (Nat.le_refl _), h.bel.trans (b.mono hm)⟩
/-- A dart that is none, or was met. -/
theorem FsR.skip {L : List Int} {n mb j : Nat} {w0 w w' : World} {fv : Value} (h : FsR L n mb j w0 w fv) (hc : nxK L j = -1 ∨ j ∈ (facS L n j).flatten) (hs : SetAt w' mb (((facS L n j).flatten ++ []).map pairK)) (o : Out (fun b => b = mb) w w') (hm : mb ≤ w.heap.size) : FsR L n mb (j + 1) w0 w' fv := by
  have e : facS L n (j + 1) = facS L n j := by rw [facS, if_pos hc]
  rw [List.append_nil] at hs
  refine ⟨?_, ?_, h.bel.trans (o.below hm (fun i _ e => by subst e; exact Nat.le_refl _))⟩
  · rw [e]; exact h.row.out o (fun b h1 _ h3 => by omega)
  · rw [e]; exact hs
/-- A face more. -/
theorem FsR.face {L : List Int} {n mb j : Nat} {w0 w w' w5 : World} {fv v5 s : Value} {f : List Nat} (h : FsR L n mb j w0 w fv) (h1 : nxK L j ≠ -1) (h2 : j ∉ (facS L n j).flatten) (hf : orb L (4 * n - (facS L n j).flatten.length) (facS L n j).flatten j = f)
    (hs : SetAt w' mb (((facS L n j).flatten ++ f).map pairK)) (o : Out (fun b => b = mb) w w') (hm : mb < w.heap.size) (hr : OwnPr tyI12 w' w.heap.size s (f.map pairK))
    {S : List Value} (hS : w'.ownsRow (mb + 1) tyO12 1 fv (facS L n j).length S) (hk : ∀ k, k < (facS L n j).length → ∃ s, S[k]? = some s ∧ OwnPr tyI12 w' (mb + 1) s ((pairF (facS L n j)).getD k []))
    (hown : w5.ownsRow (mb + 1) tyO12 1 v5 ((facS L n j).length + 1) (S ++ [s])) (ob : Obj) (hgrow : (w'.alloc ob).grownBy w5 fv.ownBlock) : FsR L n mb (j + 1) w0 w5 v5 := by
  have e : facS L n (j + 1) = facS L n j ++ [f] := by rw [facS, if_neg (fun e => e.elim h1 h2), hf]
  have ba : Below w'.heap.size w' (w'.alloc ob) := (Below.refl _ _).alloc (Nat.le_refl _) _
  have hsm : mb < w'.heap.size := Nat.lt_of_lt_of_le hm o.size
  have og : Out (fun b => fv.ownBlock = some b) (w'.alloc ob) w5 := (Out.refl _ _).grown hgrow (fun _ _ e => e)
  have hlt := fun b hb => World.ownsRow.lt hS b hb
  refine ⟨?_, ?_, ?_⟩
  · rw [e, pairF_more, List.length_append]
    exact OwnFc.more (To := tyO12) (Ti := tyI12) (w := w'.alloc ob) (by decide) (pairF_len _) (row_below12 hS ba (Nat.le_refl _)) (fun k hkk => let ⟨s, a, b⟩ := hk k hkk; ⟨s, a, b.below ba (Nat.le_refl _)⟩) ((hr.base (by omega)).below ba (Nat.le_refl _)) hown hgrow
  · rw [e, List.flatten_append, List.flatten_cons, List.flatten_nil, List.append_nil]
    exact (hs.below ba (Nat.le_refl _)).blk (og.block mb (by simp; omega) (fun e => by have := (hlt _ e).1; omega))
  · have b1 := h.bel.trans (o.below (Nat.le_of_lt hm) (fun i _ e => by subst e; exact Nat.le_refl _))
    have b2 := b1.trans (ba.mono (Nat.le_of_lt hsm))
    exact b2.grown hgrow (by simp; omega) (fun q hq => by have := (hlt q hq).1; omega)
set_option maxHeartbeats 8000000 in
theorem facesBad (lv : Value) (L : List Int) (n : Nat) (w : World) (hL : CelAt w lv L n) (hn : n ≤ 100000) (hT : WayT w) (h0 : chkG L n ≠ 0) :
    Calls Tryd.prog 9 #[lv] w (BhP (.tuple #[.slice none 0 0, .int .i64 (chkG L n)]) w) := by
  have OF := Lib.hid (ofAny lv L n w hL hn hT)
  have q4 : (chkG L n == 0) = false := by rw [beq_eq_false_iff_ne]; exact h0
  have q5 : (chkG L n != 0) = true := by rw [bne, q4]; rfl
  unfold OfAny at OF
  generalize chkG L n = cv at *
  clear h0 hL hT
  go_enter Tryd.func9, Tryd.ntmps9
  go_wp2_with (go_at_call 32; refine OF.out.mono ?_; rintro e w1 ⟨gv, rfl, h1, b1⟩; have B1 := Lib.hid b1; clear h1 b1)
  go_ret2
  exact ⟨rfl, B1.out⟩
set_option maxHeartbeats 16000000 in
set_option maxRecDepth 100000 in
theorem facesGood (lv : Value) (L : List Int) (n : Nat) (w : World) (hL : CelAt w lv L n) (hn : n ≤ 100000) (hT : WayT w) (h0 : chkG L n = 0) :
    Calls Tryd.prog 9 #[lv] w (FacesP L n w) := by
  obtain ⟨i0, hi, hz0, hz1, hz2⟩ := info_parts infoO12
  have OF := ofAny lv L n w hL hn hT
  unfold OfAny at OF
  rw [h0] at OF
  have HO := Lib.hid OF
  have HL := Lib.hid hL
  have H0 := Lib.hid h0
  have hmm := @run_makeMap Tryd.prog
  obtain ⟨A0, c0, e⟩ := hL.form
  subst e
  clear OF hL hT h0
  go_enter Tryd.func9, Tryd.ntmps9
  go_upto_region 2 with (go_at_call 32; refine HO.out.mono ?_; rintro e w1 ⟨gv, rfl, h1, b1⟩; have H1 := Lib.hid h1; have B1 := Lib.hid b1; clear h1 b1)
  go_wp2_with fail
  clear hmm
  obtain ⟨mb, hmb⟩ : ∃ m, w1.heap.size = m := ⟨_, rfl⟩
  have HMB := Lib.hid hmb
  have S0 : Hid (SetAt (w1.alloc (.map #[] 0)) mb []) := Lib.hid (by rw [← hmb]; exact SetAt.made w1)
  have hwm : w.heap.size ≤ mb := by rw [← hmb]; exact B1.out.size
  have BG : Hid (∀ wr, Below mb w1 wr → Below w1.heap.size w1 wr) := Lib.hid (fun wr b => by rw [hmb]; exact b)
  rw [hmb]
  clear hmb
  go_loopw [6, 23] (fun fv iv wr => FsO L n mb w1 wr fv iv) (fun _ iv _ => n - (intOf iv).toNat)
  case atStart => exact ⟨0, rfl, Nat.zero_le _, ⟨OwnFc.nil _ _ _ _, S0.out, (Below.refl _ _).alloc (by rw [HMB.out]; exact Nat.le_refl _) _⟩⟩
  case round =>
    clear S0
    obtain ⟨v, rfl, hv, hR⟩ := hrel
    have R := Lib.hid hR
    obtain ⟨ao, co, e⟩ := hR.row.form
    have hml := hR.met.lt
    have hBw := hR.bel
    obtain ⟨wo, hwo⟩ : ∃ W, W = wr := ⟨_, rfl⟩
    subst hwo
    subst e
    clear hR
    by_cases hlt : v < n
    · have q0 : decide (v < n) = true := decide_eq_true hlt
      obtain ⟨b, o9, c', e, hb, hx, hy⟩ := HL.out.nth hlt
      simp only [Value.slice.injEq, true_and] at e
      obtain ⟨rfl, rfl⟩ := e
      have hb2 := B1.out.trans (BG.out _ hBw |>.mono B1.out.size)
      have f0 : wo.cell? ⟨b, o9 + v * 8, none⟩ = some (.int .i64 (nxG L v 0)) := (hb2.cell (p := ⟨b, o9 + v * 8 + 0, none⟩) hb).trans (hx 0 (by decide))
      have f1 : wo.cell? ⟨b, o9 + v * 8 + 1, none⟩ = some (.int .i64 (nxG L v 1)) := (hb2.cell (p := ⟨b, o9 + v * 8 + 1, none⟩) hb).trans (hx 1 (by decide))
      have f2 : wo.cell? ⟨b, o9 + v * 8 + 2, none⟩ = some (.int .i64 (nxG L v 2)) := (hb2.cell (p := ⟨b, o9 + v * 8 + 2, none⟩) hb).trans (hx 2 (by decide))
      have f3 : wo.cell? ⟨b, o9 + v * 8 + 3, none⟩ = some (.int .i64 (nxG L v 3)) := (hb2.cell (p := ⟨b, o9 + v * 8 + 3, none⟩) hb).trans (hx 3 (by decide))
      have f4 : wo.cell? ⟨b, o9 + v * 8 + 4, none⟩ = some (.int .i64 (owG L v 0)) := (hb2.cell (p := ⟨b, o9 + v * 8 + 4 + 0, none⟩) hb).trans (hy 0 (by decide))
      have f5 : wo.cell? ⟨b, o9 + v * 8 + 5, none⟩ = some (.int .i64 (owG L v 1)) := (hb2.cell (p := ⟨b, o9 + v * 8 + 4 + 1, none⟩) hb).trans (hy 1 (by decide))
      have f6 : wo.cell? ⟨b, o9 + v * 8 + 6, none⟩ = some (.int .i64 (owG L v 2)) := (hb2.cell (p := ⟨b, o9 + v * 8 + 4 + 2, none⟩) hb).trans (hy 2 (by decide))
      have f7 : wo.cell? ⟨b, o9 + v * 8 + 7, none⟩ = some (.int .i64 (owG L v 3)) := (hb2.cell (p := ⟨b, o9 + v * 8 + 4 + 3, none⟩) hb).trans (hy 3 (by decide))
      have z1 := Nat.lt_of_lt_of_le hb hb2.size
      obtain ⟨y0, hy0⟩ : ∃ y, nxG L v 0 = y := ⟨_, rfl⟩
      obtain ⟨y1, hy1⟩ : ∃ y, nxG L v 1 = y := ⟨_, rfl⟩
      obtain ⟨y2, hy2⟩ : ∃ y, nxG L v 2 = y := ⟨_, rfl⟩
      obtain ⟨y3, hy3⟩ : ∃ y, nxG L v 3 = y := ⟨_, rfl⟩
      rw [hy0] at f0
      rw [hy1] at f1
      rw [hy2] at f2
      rw [hy3] at f3
      generalize owG L v 0 = y4 at *
      generalize owG L v 1 = y5 at *
      generalize owG L v 2 = y6 at *
      generalize owG L v 3 = y7 at *
      clear hx hy hy0 hy1 hy2 hy3 hb2 hBw
      go_wp2_with fail
      clear f0 f1 f2 f3 f4 f5 f6 f7 z1
      go_loopw [6, 28] (fun fv iv wr => FsI L n mb v w1 wr fv iv) (fun _ iv _ => 4 - (intOf iv).toNat)
      case atStart => exact ⟨0, rfl, Nat.zero_le _, R.out.same ((Below.refl _ _).alloc (Nat.le_refl _) _) (Nat.le_of_lt hml)⟩
      case round =>
        clear R hml
        obtain ⟨d, rfl, hd, hR⟩ := hrel
        have R := Lib.hid hR
        obtain ⟨ai, ci, e⟩ := hR.row.form
        have hml := hR.met.lt
        subst e
        clear hR
        by_cases hd4 : d < 4
        · have q1 : decide (d < 4) = true := decide_eq_true hd4
          have q2 : decide ((d : Int) < 4) = true := decide_eq_true (by omega)
          obtain ⟨k, hk⟩ : ∃ k, 4 * v + d = k := ⟨_, rfl⟩
          have hk4 : k < 4 * n := by omega
          have hkn : 4 * v + (d + 1) = k + 1 := by omega
          have HKN := Lib.hid hkn
          have pk : (pairK k).1 = (v : Int) ∧ (pairK k).2 = (d : Int) := by unfold pairK; constructor <;> (simp only; omega)
          rw [hk] at R ⊢
          have FI := facs_is (chk_good.1 H0.out).2 k (by omega)
          clear hk hkn
          by_cases hskip : nxK L k = -1 ∨ k ∈ (facS L n k).flatten
          · have GA : Calls Tryd.prog 33 #[gv, .agg #[.int .i64 v, .int .i64 d], .map (some mb)] wr (GatP n mb (facS L n k).flatten [] wr) := by
              rw [← pk.1, ← pk.2]
              by_cases h1 : nxK L k = -1
              · exact gatherNo hn H1.out (BG.out _ R.out.bel) R.out.met hk4 h1
              · have h2 := hskip.resolve_left h1
                have := gatherYes hn H0.out H1.out (BG.out _ R.out.bel) (by rw [HMB.out]; exact Nat.le_refl _) FI.met R.out.met ⟨hk4, h1⟩
                rw [orb_in h2] at this
                exact this
            have HGA := Lib.hid GA
            have HSK := Lib.hid hskip
            clear GA hskip FI pk hk4
            go_wp2_with (go_at_call 33; refine HGA.out.mono ?_; rintro e w3 ⟨A3, c3, rfl, o3, s3, u3, l3⟩; have R3 := Lib.hid (R.out.skip HSK.out s3 u3 (Nat.le_of_lt hml)); clear o3 s3 u3 l3)
            go_roundw
            case rel => exact ⟨d + 1, by go_num, by omega, by rw [HKN.out]; exact R3.out⟩
            case measure => (simp [intOf] <;> omega)
          · have h1 : nxK L k ≠ -1 := fun e => hskip (Or.inl e)
            have h2 : k ∉ (facS L n k).flatten := fun e => hskip (Or.inr e)
            have GA := gatherYes hn H0.out H1.out (BG.out _ R.out.bel) (by rw [HMB.out]; exact Nat.le_refl _) FI.met R.out.met ⟨hk4, h1⟩
            have hne := (orb_cyc (chk_good.1 H0.out).2 FI.met (facs_shut FI.cyc) ⟨hk4, h1⟩ h2).2.1.1
            rw [pk.1, pk.2] at GA
            obtain ⟨f, hf⟩ : ∃ f, orb L (4 * n - (facS L n k).flatten.length) (facS L n k).flatten k = f := ⟨_, rfl⟩
            rw [hf] at GA hne
            obtain ⟨m, hm⟩ : ∃ m, f.length = m := ⟨_, rfl⟩
            have hm0 : 0 < m := by
              rw [← hm]
              exact Nat.pos_of_ne_zero (fun e => hne (List.eq_nil_of_length_eq_zero e))
            have q3 : decide (0 < m) = true := decide_eq_true hm0
            have q4 : decide (0 < (m : Int)) = true := decide_eq_true (by omega)
            have HM := Lib.hid hm
            have HF := Lib.hid hf
            have HN1 := Lib.hid (And.intro h1 h2)
            unfold GatP at GA
            rw [hm] at GA
            have HGA := Lib.hid GA
            have hfl := facs_len L n k
            obtain ⟨nf, hnf⟩ : ∃ x, (facS L n k).length = x := ⟨_, rfl⟩
            have HNF := Lib.hid hnf
            rw [hnf] at hfl
            rw [hnf]
            clear GA hskip FI pk h1 h2 hm hf hnf hne
            go_upto_region 14 with (go_at_call 33; refine HGA.out.mono ?_; rintro e w3 ⟨A3, c3, rfl, o3, s3, u3, -⟩; have O3 := Lib.hid o3; have S3 := Lib.hid s3; have U3 := Lib.hid u3; clear o3 s3 u3)
            obtain ⟨-, S, hS, hkS⟩ := R.out.row.out U3.out (fun b h1 _ h3 => by omega)
            have RS := Lib.hid hS
            have KS := Lib.hid hkS
            have hrw : mb < w3.heap.size := Nat.lt_of_lt_of_le hml U3.out.size
            have OA : Hid (∀ o, (w3.alloc o).ownsRow (mb + 1) tyO12 1 (.slice ai nf ci) nf S) := Lib.hid (fun o => by
              have h := RS.out
              rw [HNF.out] at h
              exact row_below12 h ((Below.refl _ _).alloc (Nat.le_refl _) o) (Nat.le_refl _))
            clear hS hkS
            go_wp2_with (at_builtin; refine wpList_append_fresh rfl (.tmp 40) (.tmp 42) 32 rfl (mb + 1) tyO12 i0 (.slice none 0 0) 1 24 Tryd.underlying32 hi hz0 hz1 hz2 rfl (by decide) (.slice ai nf ci) nf S rfl (OA.out _) ⟨w3.heap.size, 0, none⟩ 1 1 [.slice A3 m c3] rfl rfl (newsS12 _ _ _ 42 (heap_alloc_new w3 _)) (fun u hu => by obtain rfl := List.mem_singleton.1 hu; rfl) (by unfold maxLen; omega) (by omega) (by simp; omega) ?_; intro v5 w5 hown hgrow hfr)
            have R5 : Hid (FsR L n mb (k + 1) w1 w5 v5) := Lib.hid (by
              have h := R.out
              refine h.face HN1.out.1 HN1.out.2 HF.out S3.out U3.out hml O3.out RS.out KS.out ?_ (.cells #[.slice A3 m c3] 42) ?_
              · rw [HNF.out]; exact hown
              · rw [HNF.out]; exact hgrow)
            clear hown hgrow hfr
            go_roundw
            case rel => exact ⟨d + 1, by go_num, by omega, by rw [HKN.out]; exact R5.out⟩
            case measure => (simp [intOf] <;> omega)
        · have hd5 : d = 4 := by omega
          subst hd5
          have q1 : decide (4 < 4) = false := by decide
          go_wp2_with fail
          go_roundw
          case rel => exact ⟨v + 1, by go_num, by omega, by rw [show 4 * (v + 1) = 4 * v + 4 by omega]; exact R.out⟩
          case measure => (simp [intOf] <;> omega)
    · have hvn : v = n := by omega
      subst hvn
      have q0 : decide (v < v) = false := decide_eq_false hlt
      go_wp2_with fail
      go_ret2
      have h := R.out
      refine ⟨ao, co, rfl, ?_, B1.out.trans (h.bel.mono hwm)⟩
      obtain ⟨hl, S, hr, hk⟩ := h.row
      exact ⟨hl, S, row_base12 hr (by omega), fun k hkk => let ⟨s, a, b⟩ := hk k hkk; ⟨s, a, b.base (by omega)⟩⟩
end Go.Proofs.YtkgabklponjagaaDoor
