/-
  What the program's Print answers; what the document fixes of proofs is so: the law's 'wakes' answers true. Conditions: the library's table and errors are laid.
-/
import Derived.Test.YtappfojjjegnpaaGreatDoorCtQ
import Derived.Test.YtappfojjjegnpaaGreatDoorCtD
import Derived.Lib.ItoaLen
namespace Go.Proofs.YtappfojjjegnpaaGreatDoor
open Go.RowKit Go.Proofs.YtappfojjjegnpaaGreatDoor.LexM Go.Proofs.YtappfojjjegnpaaGreatDoor.DagM

def WnRel (w0 : World) (b : Nat) (l : List UInt8) (x : List Int) (wr : World) (iv : Value) : Prop := ∃ k : Nat, iv = .int .i64 k ∧ k ≤ x.length ∧ BldAt w0.heap.size b (l ++ nums (x.take k)) wr ∧ Below w0.heap.size w0 wr
theorem nums_len (x : List Int) (hx : ∀ c ∈ x, In63 c) : (nums x).length ≤ 22 * x.length := by
  induction x with
  | nil => simp [nums]
  | cons c x ih =>
    have h1 := ih (fun d hd => hx d (by simp [hd]))
    have hc := hx c (by simp)
    have h2 := Lib.itoa_length_le c hc.1 hc.2
    have e : nums (c :: x) = (32 :: Lib.itoa c) ++ nums x := by simp [nums]
    rw [e, List.length_append, List.length_cons, List.length_cons]
    omega
set_option maxHeartbeats 4000000 in
theorem writeNumbers (w0 : World) (b : Nat) (l : List UInt8) (v : Value) (x : List Int) (w : World) (hT : TabL w0) (hv : IntsAt w0 v x) (hx : ∀ c ∈ x, In63 c) (hbl : BldAt w0.heap.size b l w) (hB : Below w0.heap.size w0 w) (hl : l.length ≤ 100000) (hxl : x.length ≤ 1000) :
    Calls Tryz.prog 11 #[.pointer (some ⟨b, 0, none⟩), v] w fun e w' => e = .returned (.tuple #[]) ∧ BldAt w0.heap.size b (l ++ nums x) w' ∧ Below w0.heap.size w0 w' := by
  have HT := Lib.hid hT
  have HV := Lib.hid hv
  have HX := Lib.hid hx
  have BL := Lib.hid hbl
  have HB := Lib.hid hB
  obtain ⟨A, cap, rfl⟩ := hv.form
  clear hT hv hx hbl hB
  go_enter Tryz.func11, Tryz.ntmps11
  go_wp2
  go_loopw [8] (fun iv wr => WnRel w0 b l x wr iv) (fun iv _ => x.length - (intOf iv).toNat)
  case atStart => exact ⟨0, rfl, by omega, by simpa [nums] using BL.out, HB.out⟩
  case round =>
    obtain ⟨k, rfl, hk, hD, hR⟩ := hrel
    have D := Lib.hid hD
    have R := Lib.hid hR
    clear hD hR
    by_cases hlt : k < x.length
    · obtain ⟨bx, ox, cx', e, hbx, c0⟩ := HV.out.nth hlt
      simp only [Value.slice.injEq, true_and] at e
      obtain ⟨rfl, rfl⟩ := e
      have d0 := (R.out.cell (p := ⟨bx, ox + k, none⟩) hbx).trans c0
      have hc := HX.out x[k] (List.getElem_mem hlt)
      have TS := Lib.hid (List.take_succ_eq_append_getElem hlt)
      have hnl := nums_len (x.take k) (fun c h => HX.out c (List.mem_of_mem_take h))
      rw [List.length_take, Nat.min_eq_left hk] at hnl
      have I := Lib.hid (fun w hT => itoaW x[k] hc.1 hc.2 w hT)
      have hil := Lib.itoa_length_le x[k] hc.1 hc.2
      have hdl : (bs (Lib.itoa x[k])).size ≤ 21 := by rw [bs_size]; exact hil
      have hcat := cat_one 32 (Lib.itoa x[k])
      have W : Hid (∀ w', BldAt w0.heap.size b (l ++ nums (x.take k)) w' → w0.heap.size ≤ w'.heap.size → Calls Tryz.prog 10 #[.pointer (some ⟨b, 0, none⟩), .string ((⟨#[32]⟩ : ByteArray) ++ bs (Lib.itoa x[k]))] w' fun e w'' => (∃ n, e = .returned (.tuple #[.int .i64 n, .nilIface])) ∧ BldAt w0.heap.size b (l ++ nums (x.take (k + 1))) w'' ∧ Below w0.heap.size w' w'') := Lib.hid (fun w' h1 h2 => by
        refine (writeW _ b _ _ w' h1 (by rw [hcat, bs_size, List.length_append, List.length_cons]; omega) h2).mono ?_
        rintro e w'' ⟨rfl, h3, h4⟩
        refine ⟨⟨_, rfl⟩, ?_, h4⟩
        rw [hcat, bs_data, List.append_assoc] at h3
        rw [TS.out, nums_snoc]
        exact h3)
      clear c0 hc hnl hil hcat TS
      generalize bs (Lib.itoa x[k]) = d at *
      generalize x[k] = c at *
      have hz := R.out.size
      go_wp2_with (first
        | (go_at_call 20; refine (I.out _ (HT.out.below R.out (Nat.le_refl _))).mono ?_; rintro e w1 ⟨rfl, b1⟩; have B1 := Lib.hid b1; have hz1 := b1.size; clear b1)
        | (go_at_call 10; refine (W.out _ (D.out.below B1.out) (by omega)).mono ?_; rintro e w2 ⟨⟨n, rfl⟩, hd2, b2⟩; have D2 := Lib.hid hd2; have R2 := Lib.hid ((R.out.trans (B1.out.mono hz)).trans b2); clear hd2 b2))
      go_roundw
      case rel => exact ⟨k + 1, by go_num, by omega, D2.out, R2.out⟩
      case measure => simp [intOf]; omega
    · obtain hkl : k = x.length := by omega
      have hD := D.out
      rw [hkl, List.take_length] at hD
      have D3 := Lib.hid hD
      subst hkl
      clear hD
      go_wp2
      go_returns
      exact ⟨rfl, D3.out, R.out⟩
set_option maxHeartbeats 4000000 in
theorem printC (xv fv : Value) (x f : List Int) (w : World) (hT : TabL w) (hX : IntsAt w xv x) (hF : IntsAt w fv f) (hx : ∀ c ∈ x, In63 c) (hf : ∀ c ∈ f, In63 c) (hxl : x.length ≤ 1000) (hfl : f.length ≤ 1000) :
    Calls Tryz.prog 4 #[xv, fv] w fun e w' => e = .returned (.string (bs (printL x f))) ∧ Below w.heap.size w w' := by
  have HT := Lib.hid hT
  have HX := Lib.hid hX
  have HF := Lib.hid hF
  have IX := Lib.hid hx
  have IF := Lib.hid hf
  have hnl := nums_len x hx
  obtain ⟨ax, cx, rfl⟩ := hX.form
  obtain ⟨af, cf, rfl⟩ := hF.form
  clear hT hX hF hx hf
  go_enter Tryz.func4, Tryz.ntmps4
  go_wp2_with (first
    | (go_at_call 10; have _hz := D2; go_loud (refine (writeW w.heap.size w.heap.size _ ⟨#[32, 102]⟩ _ D2.out (by rw [List.length_append]; show (0 + 1) + _ + 2 ≤ _; omega) R2.out.size).mono ?_; rintro e w3 ⟨rfl, h3, b3⟩; have D3 := Lib.hid h3; have R3 := Lib.hid (R2.out.trans b3); clear h3 b3))
    | (go_at_call 10; go_loud (refine (writeW w.heap.size w.heap.size [] ⟨#[120]⟩ _ (bld_new w) (by decide) (by simp)).mono ?_; rintro e w1 ⟨rfl, h1, b1⟩; have D1 := Lib.hid h1; have R1 : Hid (Below w.heap.size w w1) := Lib.hid (((Below.refl _ _).alloc (Nat.le_refl _) _).trans b1); clear h1 b1))
    | (go_at_call 11; have _hz := D3; go_loud (refine (writeNumbers w _ _ _ f _ HT.out HF.out IF.out D3.out R3.out (by rw [List.length_append, List.length_append]; show ((0 + 1) + _) + 2 ≤ _; omega) hfl).mono ?_; rintro e w4 ⟨rfl, h4, b4⟩; have D4 := Lib.hid h4; have R4 := Lib.hid b4; clear h4 b4))
    | (go_at_call 11; go_loud (refine (writeNumbers w _ _ _ x _ HT.out HX.out IX.out D1.out R1.out (by show 0 + 1 ≤ _; omega) hxl).mono ?_; rintro e w2 ⟨rfl, h2, b2⟩; have D2 := Lib.hid h2; have R2 := Lib.hid b2; clear h2 b2))
    | (go_at_call 12; refine (stringW _ _ _ _ D4.out R4.out.size).mono ?_; rintro e w5 ⟨rfl, b5⟩; have R5 := Lib.hid (R4.out.trans b5); clear b5))
  go_ret
  exact ⟨ret_string (by simp [printL]), R5.out⟩
theorem two_below {w w' : World} {o1 o2 : Obj} (hb : Below ((w.alloc o1).alloc o2).heap.size ((w.alloc o1).alloc o2) w') : Below w.heap.size w w' := (((Below.refl _ _).alloc (Nat.le_refl _) _).alloc (by simp) _).trans (hb.mono (by simp; omega))
theorem one_below {w w' : World} {o1 : Obj} (hb : Below (w.alloc o1).heap.size (w.alloc o1) w') : Below w.heap.size w w' := ((Below.refl _ _).alloc (Nat.le_refl _) _).trans (hb.mono (by simp))
theorem two_up (w : World) (o1 o2 : Obj) : Below w.heap.size w ((w.alloc o1).alloc o2) := ((Below.refl _ _).alloc (Nat.le_refl _) _).alloc (by simp) _
theorem one_up (w : World) (o1 : Obj) : Below w.heap.size w (w.alloc o1) := (Below.refl _ _).alloc (Nat.le_refl _) _
def text6 : List UInt8 := [120, 32, 48, 32, 49, 32, 102, 32, 51]
theorem text6_ok : prOk text6 = true := by decide +kernel
theorem text6_x : prE text6 = 0 ∧ prX text6 = [0, 1] ∧ prF text6 = [3] := by decide +kernel
theorem text6_p : bs (printL [0, 1] [3]) = ⟨#[120, 32, 48, 32, 49, 32, 102, 32, 51]⟩ := by
  have h := print_parse text6_ok
  rw [text6_x.2.1, text6_x.2.2] at h
  rw [h]
  rfl
theorem chk6a : certErr 2 [(0, 1, 3)] [0, 1] [3] = 0 := by decide +kernel
theorem chk6b : certErr 2 [(0, 1, 3)] [0, 2] [3] = 15 := by decide +kernel
theorem chk6c : certErr 2 [(0, 1, 3)] [0, 1] [2] = 12 := by decide +kernel
theorem in63 {x : List Int} (h : x.all (fun c => decide (-9223372036854775808 ≤ c) && decide (c ≤ 9223372036854775807)) = true) : ∀ c ∈ x, In63 c := by
  intro c hc
  have := List.all_eq_true.1 h c hc
  simp only [Bool.and_eq_true, decide_eq_true_eq] at this
  exact this
theorem parse6 (w : World) (hT : TabE w) : Calls Tryz.prog 5 #[.string ⟨#[120, 32, 48, 32, 49, 32, 102, 32, 51]⟩] w fun e w' => ∃ a c a2 c2, e = .returned (.tuple #[.slice a 2 c, .slice a2 1 c2, .int .i64 0]) ∧ IntsAt w' (.slice a 2 c) [0, 1] ∧ IntsAt w' (.slice a2 1 c2) [3] ∧ Below w.heap.size w w' := by
  refine (parseC ⟨#[120, 32, 48, 32, 49, 32, 102, 32, 51]⟩ w hT (by decide)).mono ?_
  rintro e w' ⟨xv, fv, rfl, hx, hf, hb⟩
  change IntsAt w' xv (prX text6) at hx
  change IntsAt w' fv (prF text6) at hf
  rw [text6_x.2.1] at hx
  rw [text6_x.2.2] at hf
  obtain ⟨a, c, rfl⟩ := hx.form
  obtain ⟨a2, c2, rfl⟩ := hf.form
  refine ⟨a, c, a2, c2, ?_, hx, hf, hb⟩
  rw [show prE (ByteArray.mk #[120, 32, 48, 32, 49, 32, 102, 32, 51]).data.toList = 0 from text6_x.1]
  rfl
set_option maxHeartbeats 4000000 in
set_option maxRecDepth 100000 in
theorem wakes6 (w : World) (hT : TabE w) : Calls Tryz.prog 7 #[] w fun e w' => e = .returned (.bool true) ∧ Below w.heap.size w w' := by
  have HT := Lib.hid hT
  clear hT
  go_enter Tryz.func7, Tryz.ntmps7
  go_wp2_with (first
    | (go_at_call 5; go_loud (refine (parse6 _ (HT.out.below (one_up w _) (Nat.le_refl _))).mono ?_; rintro e w1 ⟨ax, cx, af, cf, rfl, hx, hf, hb⟩; have X1 := Lib.hid hx; have F1 := Lib.hid hf; have AK1 := Lib.hid ((arcs_lit [(0, 1, 3)] w _ 1 (by decide)).below hb); have B1 : Hid (Below w.heap.size w w1) := Lib.hid (one_below hb); clear hx hf hb))
    | (go_at_call 17; have _hz := B3; go_loud (refine (checkC 2 _ _ _ [(0, 1, 3)] [0, 1] [2] _ (AK3.out.below (two_up w3 _ _)) ((ints_lit_at [0, 1] w3 _ 2 _ rfl (by decide)).below (one_up _ _)) (ints_lit_at [2] _ _ 1 _ (by simp) (by decide)) (by decide)).mono ?_; rintro e w4 ⟨rfl, hb⟩; rw [chk6c]; have b4 := two_below hb; have X4 := Lib.hid (X3.out.below b4); have F4 := Lib.hid (F3.out.below b4); have B4 : Hid (Below w.heap.size w w4) := Lib.hid (B3.out.trans (b4.mono B3.out.size)); clear hb b4))
    | (go_at_call 17; have _hz := B2; go_loud (refine (checkC 2 _ _ _ [(0, 1, 3)] [0, 2] [3] _ (AK2.out.below (two_up w2 _ _)) ((ints_lit_at [0, 2] w2 _ 2 _ rfl (by decide)).below (one_up _ _)) (ints_lit_at [3] _ _ 1 _ (by simp) (by decide)) (by decide)).mono ?_; rintro e w3 ⟨rfl, hb⟩; rw [chk6b]; have b3 := two_below hb; have X3 := Lib.hid (X2.out.below b3); have F3 := Lib.hid (F2.out.below b3); have AK3 := Lib.hid (AK2.out.below b3); have B3 : Hid (Below w.heap.size w w3) := Lib.hid (B2.out.trans (b3.mono B2.out.size)); clear hb b3))
    | (go_at_call 17; go_loud (refine (checkC 2 _ _ _ [(0, 1, 3)] [0, 1] [3] _ (AK1.out.below (two_up w1 _ _)) ((ints_lit_at [0, 1] w1 _ 2 _ rfl (by decide)).below (one_up _ _)) (ints_lit_at [3] _ _ 1 _ (by simp) (by decide)) (by decide)).mono ?_; rintro e w2 ⟨rfl, hb⟩; rw [chk6a]; have b2 := two_below hb; have X2 := Lib.hid (X1.out.below b2); have F2 := Lib.hid (F1.out.below b2); have AK2 := Lib.hid (AK1.out.below b2); have B2 : Hid (Below w.heap.size w w2) := Lib.hid (B1.out.trans (b2.mono B1.out.size)); clear hb b2))
    | (go_at_call 4; go_loud (refine (printC _ _ [0, 1] [3] _ ((HT.out.below B4.out (Nat.le_refl _)).tab.below (two_up w4 _ _) (Nat.le_refl _)) ((ints_lit_at [0, 1] w4 _ 2 _ rfl (by decide)).below (one_up _ _)) (ints_lit_at [3] _ _ 1 _ (by simp) (by decide)) (in63 (by decide)) (in63 (by decide)) (by decide) (by decide)).mono ?_; rintro e w5 ⟨rfl, hb⟩; rw [text6_p]; have b5 := two_below hb; have X5 := Lib.hid (X4.out.below b5); have F5 := Lib.hid (F4.out.below b5); have B5 : Hid (Below w.heap.size w w5) := Lib.hid (B4.out.trans (b5.mono B4.out.size)); clear hb b5))
    | (go_at_call 9; have _hz := B6; go_loud (refine (equalI _ _ [3] [3] _ (F6.out.below (one_up w6 _)) (ints_lit_at [3] _ _ 1 _ (by simp) (by decide)) (by decide) (by decide)).mono ?_; rintro e w7 ⟨rfl, hb⟩; rw [show (([3] : List Int) == [3]) = true from rfl]; have B7 : Hid (Below w.heap.size w w7) := Lib.hid (B6.out.trans ((one_below hb).mono B6.out.size)); clear hb))
    | (go_at_call 9; go_loud (refine (equalI _ _ [0, 1] [0, 1] _ (X5.out.below (one_up w5 _)) (ints_lit_at [0, 1] _ _ 2 _ (by simp) (by decide)) (by decide) (by decide)).mono ?_; rintro e w6 ⟨rfl, hb⟩; rw [show (([0, 1] : List Int) == [0, 1]) = true from rfl]; have b6 := one_below hb; have F6 := Lib.hid (F5.out.below b6); have B6 : Hid (Below w.heap.size w w6) := Lib.hid (B5.out.trans (b6.mono B5.out.size)); clear hb b6)))
  go_ret
  exact ⟨rfl, B7.out⟩
end Go.Proofs.YtappfojjjegnpaaGreatDoor
