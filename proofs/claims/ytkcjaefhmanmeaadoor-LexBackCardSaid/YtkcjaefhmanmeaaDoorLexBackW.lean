/-
  LexBack: the walk: at every text and every int the call answers true and turns nothing that was there. Conditions: the library's tables are laid.
-/
import Derived.Test.YtkcjaefhmanmeaaDoorLexTellsW
import Derived.Lib.Join
namespace Go.Proofs.YtkcjaefhmanmeaaDoor
open Go.RowKit Go.Proofs.YtkcjaefhmanmeaaDoor.LexM

/-- A piece holds no line feed. -/
theorem containsNo (c : UInt8) (x : List UInt8) (hx : c ∉ x) (w : World) :
    Calls Tryd.prog 15 #[.string (bs x), .string ⟨#[c]⟩] w fun e w' => e = .returned (.bool false) ∧ w = w' := by
  refine (Go.Proofs.Tryd.strings_Contains_one (bs x) c w).mono ?_
  rintro e w' ⟨rfl, rfl⟩
  refine ⟨ret_bool ?_, rfl⟩
  rw [bs_data]
  have h : ∀ l : List UInt8, c ∉ l → Lib.indexByte l c = -1 := by
    intro l
    induction l with
    | nil => intro _; rfl
    | cons b t ih =>
      intro hn
      have h1 : b ≠ c := fun e => hn (by rw [e]; simp)
      have h2 := ih (fun e => hn (by simp [e]))
      simp [Lib.indexByte, h1, h2]
  rw [h x hx]; rfl
theorem join_glue (c : UInt8) : ∀ L : List (List UInt8), L ≠ [] → Lib.join L [c] ++ [c] = glue c L
  | [], h => absurd rfl h
  | [p], _ => by simp [Lib.join, List.intercalate, glue]
  | p :: q :: r, _ => by
    have ih := join_glue c (q :: r) (by simp)
    have e : Lib.join (p :: q :: r) [c] = p ++ c :: Lib.join (q :: r) [c] := by simp [Lib.join, List.intercalate]
    rw [e, glue, ← ih]
    simp
theorem join_pieces (c : UInt8) (l : List UInt8) : Lib.join (pieces c l) [c] = l := by
  have h := join_glue c (pieces c l) (by simp [pieces])
  rw [pieces_ps, glue_append] at h
  have h2 : glue c [(ps c l).2] = (ps c l).2 ++ [c] := by simp [glue]
  rw [h2, ← List.append_assoc, glue_ps] at h
  rw [pieces_ps]
  exact List.append_cancel_right h
theorem joinW (l : List UInt8) (v : Value) (w : World) (hv : StrsAt w v (pieces 32 l)) (hl : l.length ≤ 1000) :
    Calls Tryd.prog 16 #[v, .string ⟨#[32]⟩] w fun e w' => e = .returned (.string (bs l)) ∧ Below w.heap.size w w' := by
  obtain ⟨A, c, rfl, hc, hA⟩ := hv
  have h0 : 0 < (pieces 32 l).length := by simp [pieces]
  obtain ⟨b, o, rfl, hb, hcell⟩ := hA h0
  have hn : (pieces 32 l).length ≤ 1001 := by rw [pieces_length]; have := List.count_le_length (a := (32 : UInt8)) (l := l); omega
  have hj : Lib.join (((pieces 32 l).map bs).map (·.data.toList)) (⟨#[32]⟩ : ByteArray).data.toList = l := by
    have e : ((pieces 32 l).map bs).map (·.data.toList) = pieces 32 l := by
      rw [List.map_map]
      conv => rhs; rw [← List.map_id (pieces 32 l)]
      exact List.map_congr_left fun x _ => rfl
    rw [e]
    exact join_pieces 32 l
  have C := Go.Proofs.Tryd.strings_Join b o c ((pieces 32 l).map bs) ⟨#[32]⟩ w (fun j x hx => by
    rw [List.getElem?_map] at hx
    obtain ⟨p, hp, rfl⟩ := Option.map_eq_some_iff.1 hx
    obtain ⟨hj, rfl⟩ := List.getElem?_eq_some_iff.1 hp
    exact hcell j hj) hb (by rw [List.length_map]; omega) (by rw [List.length_map]; exact hc) (by rw [hj]; omega)
  rw [hj, List.length_map] at C
  exact C

/-- Where the law's loop over the lines stands. -/
def BkRel (L : List (List UInt8)) (w wr : World) (tv iv : Value) : Prop := ∃ k : Nat, iv = .int .i64 k ∧ k ≤ L.length ∧ tv = .string (bs (glue 10 (L.take k))) ∧ Below w.heap.size w wr
theorem glue_le (c : UInt8) (L : List (List UInt8)) (k : Nat) : (glue c (L.take k)).length ≤ (glue c L).length := by
  conv => rhs; rw [← List.take_append_drop k L, glue_append]
  rw [List.length_append]; omega
theorem lnL_glue {l : List UInt8} (h : lnE l = 0) : glue 10 (lnL l) = l := by
  have h2 : (ps 10 l).2 = [] := by
    unfold lnE at h
    split at h
    · cases h
    · split at h
      · rename_i h3; exact List.isEmpty_iff.1 h3
      · cases h
  unfold lnL
  rw [if_pos h]
  have := glue_ps 10 l
  rw [h2, List.append_nil] at this
  exact this
theorem lnL_free (l : List UInt8) : ∀ p ∈ lnL l, (10 : UInt8) ∉ p := by
  intro p hp
  unfold lnL at hp
  split at hp
  · refine pieces_free 10 l p ?_
    rw [pieces_ps]; simp [hp]
  · simp at hp

theorem joinT (t : ByteArray) (v : Value) (w : World) (hv : StrsAt w v (pieces 32 t.data.toList)) (hl : t.size ≤ 1000) :
    Calls Tryd.prog 16 #[v, .string ⟨#[32]⟩] w fun e w' => e = .returned (.string t) ∧ Below w.heap.size w w' := by
  have h := joinW t.data.toList v w hv (by rw [← size_list]; exact hl)
  rw [bs_list] at h
  exact h
theorem wordsP (s : ByteArray) (w : World) (hT : TabL w) (hs : s.size < 4294967281) (hw : wdOk s.data.toList = true) :
    Calls Tryd.prog 9 #[.string s] w fun e w' => ∃ v, e = .returned (.tuple #[v, .bool true]) ∧ StrsAt w' v (pieces 32 s.data.toList) ∧ Below w.heap.size w w' := by
  refine (words s w hT hs).mono ?_
  rintro e w' ⟨v, rfl, hv, hb⟩
  unfold wdL at hv
  rw [hw] at hv ⊢
  exact ⟨v, rfl, hv, hb⟩
theorem linesP (s : ByteArray) (z : Int) (L : List (List UInt8)) (hz : lnE s.data.toList = z) (hL : lnL s.data.toList = L) (w : World) (hT : TabL w) :
    Calls Tryd.prog 7 #[.string s] w fun e w' => ∃ v, e = .returned (.tuple #[v, .int .i64 z]) ∧ StrsAt w' v L ∧ Below w.heap.size w w' := by
  subst hz hL
  exact lines s w hT
theorem back_num (n : Int) (d : ByteArray) (hd : bs (Lib.itoa n) = d) : ∃ (z : Int) (q : Bool), numOk d.data.toList 9999999 = q ∧ numVal d.data.toList 9999999 = z ∧ ((n < 0 ∧ q = false) ∨ (0 ≤ n ∧ n ≤ 9999999 ∧ q = true ∧ z = n) ∨ (0 ≤ n ∧ 9999999 < n ∧ q = false)) := by
  subst hd
  rw [bs_data]
  by_cases hn : n < 0
  · obtain ⟨u, hu⟩ : ∃ u : Nat, -n = u := ⟨(-n).toNat, by omega⟩
    have e : Lib.itoa n = 45 :: Lib.decDigits u := by
      have := Lib.itoa_neg u (by omega)
      rw [← hu, Int.neg_neg] at this
      exact this
    have hN : isNum (45 :: Lib.decDigits u) = false := by
      unfold isNum canon
      have : (45 :: Lib.decDigits u).all isDigit = false := by rw [List.all_cons]; rfl
      rw [this]; simp
    rw [e]
    exact ⟨_, _, (num_no _ hN).1, (num_no _ hN).2, Or.inl ⟨hn, rfl⟩⟩
  · obtain ⟨u, hu⟩ : ∃ u : Nat, n = u := ⟨n.toNat, by omega⟩
    have e : Lib.itoa n = Lib.decDigits u := by rw [hu]; exact itoa_nat u
    rw [e]
    by_cases h7 : n ≤ 9999999
    · have hN : isNum (Lib.decDigits u) = true := by rw [dec_isNum]; simp; omega
      have hv : (val (Lib.decDigits u) : Int) = n := by rw [dec_val, hu]
      exact ⟨_, _, (num_yes hN (by omega)).1, (num_yes hN (by omega)).2, Or.inr (Or.inl ⟨by omega, h7, rfl, hv⟩)⟩
    · have hN : isNum (Lib.decDigits u) = false := by rw [dec_isNum]; simp; omega
      exact ⟨_, _, (num_no _ hN).1, (num_no _ hN).2, Or.inr (Or.inr ⟨by omega, by omega, rfl⟩)⟩
theorem glue_step (c : UInt8) (L : List (List UInt8)) (k : Nat) (h : k < L.length) : glue c (L.take (k + 1)) = glue c (L.take k) ++ (L[k] ++ [c]) := by
  rw [List.take_succ_eq_append_getElem h, glue_append]; rfl
theorem cat_bs (a b : List UInt8) : bs a ++ bs b = bs (a ++ b) := by
  rw [← bs_list (bs a ++ bs b)]
  congr 1

set_option maxHeartbeats 32000000 in
set_option maxRecDepth 100000 in
theorem back_core (s : ByteArray) (n : Int) (w : World) (hT : TabL w) (t : ByteArray) (ht : t.size ≤ 1000) (hs : s.extract 0 (min (s.size : Int) 1000).toNat = t) (d : ByteArray) (z x : Int) (q : Bool) (L : List (List UInt8))
    (LI : Hid (∀ w, TabL w → Calls Tryd.prog 7 #[.string t] w fun e w' => ∃ v, e = .returned (.tuple #[v, .int .i64 x]) ∧ StrsAt w' v L ∧ Below w.heap.size w w'))
    (hx : (x = 0 ∧ glue 10 L = t.data.toList ∧ (∀ p ∈ L, (10 : UInt8) ∉ p) ∧ L.length ≤ 1000) ∨ (x == 0) = false)
    (DI : Hid (∀ w, TabL w → Calls Tryd.prog 17 #[.int .i64 n] w fun e w' => e = .returned (.string d) ∧ Below w.heap.size w w'))
    (RD : Hid (∀ w, Calls Tryd.prog 18 #[.int .i64 n] w fun e w' => e = .returned (.string d) ∧ Below w.heap.size w w'))
    (NU : Hid (∀ w, Calls Tryd.prog 11 #[.string d, .int .i64 9999999] w fun e w' => e = .returned (.tuple #[.int .i64 z, .bool q]) ∧ Below w.heap.size w w'))
    (hq : (n < 0 ∧ q = false) ∨ (0 ≤ n ∧ n ≤ 9999999 ∧ q = true ∧ z = n) ∨ (0 ≤ n ∧ 9999999 < n ∧ q = false)) :
    Calls Tryd.prog 4 #[.string s, .int .i64 n] w fun r w' => r = .returned (.bool true) ∧ Below w.heap.size w w' := by
  have HT := Lib.hid hT
  clear hT
  rcases hx with ⟨rfl, hG, hF, hL⟩ | hx
  · have G := Lib.hid hG
    have F := Lib.hid hF
    have HZ := Lib.hid (size_list t)
    clear hG hF
    go_enter Tryd.func4, Tryd.ntmps4
    go_wp2_with (go_at_call 7; refine (LI.out _ HT.out).mono ?_; rintro e w1 ⟨v1, rfl, hv1, b1⟩; have V1 := Lib.hid hv1; have B1 := Lib.hid b1; obtain ⟨A, cp, rfl, _, _⟩ := hv1; clear b1)
    obtain ⟨wl, rfl⟩ : ∃ W, W = w1 := ⟨_, rfl⟩
    go_loopw [7, 29] (fun tv iv wr => BkRel L wl wr tv iv) (fun _ iv _ => L.length - (intOf iv).toNat)
    case atStart => exact ⟨0, rfl, by omega, by simp [glue, bs], Below.refl _ _⟩
    case round =>
      obtain ⟨k, rfl, hk, rfl, hB⟩ := hrel
      have B := Lib.hid hB
      clear hB
      by_cases hlt : k < L.length
      · obtain ⟨A', cp', e, _, hA⟩ := V1.out
        simp only [Value.slice.injEq, true_and] at e
        obtain ⟨rfl, rfl⟩ := e
        obtain ⟨b, o, rfl, hb, hcell⟩ := hA (by omega)
        have d0 := (B.out.cell (p := ⟨b, o + k, none⟩) hb).trans (hcell k hlt)
        have ST := Lib.hid (glue_step 10 L k hlt)
        have hfree := F.out L[k] (List.getElem_mem hlt)
        have C := Lib.hid (fun w => containsNo 10 L[k] hfree w)
        have hg1 := glue_le 10 L (k + 1)
        have hg := hg1
        rw [G.out, ← HZ.out] at hg1
        rw [ST.out, List.length_append, List.length_append, List.length_singleton] at hg1
        have z1 : (bs (glue 10 (L.take k))).size ≤ 1000 := by rw [bs_size]; omega
        have z2 : (bs L[k]).size ≤ 1000 := by rw [bs_size]; omega
        clear hA hcell hfree hg hg1
        generalize L[k] = p at *
        generalize hgl : glue 10 (L.take k) = g at *
        have GL := Lib.hid hgl
        clear hgl
        go_wp2_with (go_at_call 15; refine (C.out _).mono ?_; rintro e w2 ⟨rfl, rfl⟩)
        go_roundw
        case rel => exact ⟨k + 1, by go_num, by omega, by rw [ST.out, ← cat_bs, ← cat_bs]; rfl, B.out⟩
        case measure => (simp [intOf] <;> omega)
      · obtain hk2 : k = L.length := by omega
        have hg : bs (glue 10 (L.take k)) = t := by rw [hk2, List.take_length, G.out, bs_list]
        rw [hg]
        have B1 := Lib.hid (B1.out.trans (B.out.mono B1.out.size))
        subst hk2
        clear hg hlt hk
        cases hw : wdOk t.data.toList with
        | true =>
          have WO := Lib.hid hw
          clear hw
          rcases hq with ⟨q1, rfl⟩ | ⟨q1, q2, rfl, rfl⟩ | ⟨q1, q2, rfl⟩
          all_goals
            go_wp2_with (first
              | (go_at_call 18; have _hz := B7; refine (RD.out _).mono ?_; rintro e w8 ⟨rfl, b8⟩; have B8 := Lib.hid (B7.out.trans (b8.mono B7.out.size)); clear b8)
              | (go_at_call 13; have _hz := B6; refine (lexWakes _ (HT.out.below B6.out (Nat.le_refl _))).mono ?_; rintro e w7 ⟨rfl, b7⟩; have B7 := Lib.hid (B6.out.trans (b7.mono B6.out.size)); clear b7)
              | (go_at_call 11; have _hz := B5; refine (NU.out _).mono ?_; rintro e w6 ⟨rfl, b6⟩; have B6 := Lib.hid (B5.out.trans (b6.mono B5.out.size)); clear b6)
              | (go_at_call 17; have _hz := B4; refine (DI.out _ (HT.out.below B4.out (Nat.le_refl _))).mono ?_; rintro e w5 ⟨rfl, b5⟩; have B5 := Lib.hid (B4.out.trans (b5.mono B4.out.size)); clear b5)
              | (go_at_call 16; have _hz := B3; refine (joinT t v3 _ V3.out (by omega)).mono ?_; rintro e w4 ⟨rfl, b4⟩; have B4 := Lib.hid (B3.out.trans (b4.mono B3.out.size)); clear b4)
              | (go_at_call 9; have _hz := B1; refine (wordsP t _ (HT.out.below B1.out (Nat.le_refl _)) (by omega) WO.out).mono ?_; rintro e w3 ⟨v3, rfl, hv3, b3⟩; have V3 := Lib.hid hv3; have B3 := Lib.hid (B1.out.trans (b3.mono B1.out.size)); clear hv3 b3))
            go_ret
            exact ⟨ret_bool (by simp <;> omega), B8.out⟩
        | false =>
          have WO := Lib.hid hw
          clear hw
          rcases hq with ⟨q1, rfl⟩ | ⟨q1, q2, rfl, rfl⟩ | ⟨q1, q2, rfl⟩
          all_goals
            go_wp2_with (first
              | (go_at_call 18; have _hz := B7; refine (RD.out _).mono ?_; rintro e w8 ⟨rfl, b8⟩; have B8 := Lib.hid (B7.out.trans (b8.mono B7.out.size)); clear b8)
              | (go_at_call 13; have _hz := B6; refine (lexWakes _ (HT.out.below B6.out (Nat.le_refl _))).mono ?_; rintro e w7 ⟨rfl, b7⟩; have B7 := Lib.hid (B6.out.trans (b7.mono B6.out.size)); clear b7)
              | (go_at_call 11; have _hz := B5; refine (NU.out _).mono ?_; rintro e w6 ⟨rfl, b6⟩; have B6 := Lib.hid (B5.out.trans (b6.mono B5.out.size)); clear b6)
              | (go_at_call 17; have _hz := B4; refine (DI.out _ (HT.out.below B4.out (Nat.le_refl _))).mono ?_; rintro e w5 ⟨rfl, b5⟩; have B5 := Lib.hid (B4.out.trans (b5.mono B4.out.size)); clear b5)
              | (go_at_call 9; have _hz := B1; refine (wordsNo t WO.out (by omega) _ (HT.out.below B1.out (Nat.le_refl _))).mono ?_; rintro e w4 ⟨⟨v3, rfl⟩, b4⟩; have B4 := Lib.hid (B1.out.trans (b4.mono B1.out.size)); clear b4))
            go_ret
            exact ⟨ret_bool (by simp <;> omega), B8.out⟩
  · cases hw : wdOk t.data.toList with
    | true =>
      have WO := Lib.hid hw
      clear hw
      rcases hq with ⟨q1, rfl⟩ | ⟨q1, q2, rfl, rfl⟩ | ⟨q1, q2, rfl⟩
      all_goals
        go_enter Tryd.func4, Tryd.ntmps4
        go_wp2_with (first
          | (go_at_call 18; have _hz := B7; refine (RD.out _).mono ?_; rintro e w8 ⟨rfl, b8⟩; have B8 := Lib.hid (B7.out.trans (b8.mono B7.out.size)); clear b8)
          | (go_at_call 13; have _hz := B6; refine (lexWakes _ (HT.out.below B6.out (Nat.le_refl _))).mono ?_; rintro e w7 ⟨rfl, b7⟩; have B7 := Lib.hid (B6.out.trans (b7.mono B6.out.size)); clear b7)
          | (go_at_call 11; have _hz := B5; refine (NU.out _).mono ?_; rintro e w6 ⟨rfl, b6⟩; have B6 := Lib.hid (B5.out.trans (b6.mono B5.out.size)); clear b6)
          | (go_at_call 17; have _hz := B4; refine (DI.out _ (HT.out.below B4.out (Nat.le_refl _))).mono ?_; rintro e w5 ⟨rfl, b5⟩; have B5 := Lib.hid (B4.out.trans (b5.mono B4.out.size)); clear b5)
          | (go_at_call 16; have _hz := B3; refine (joinT t v3 _ V3.out (by omega)).mono ?_; rintro e w4 ⟨rfl, b4⟩; have B4 := Lib.hid (B3.out.trans (b4.mono B3.out.size)); clear b4)
          | (go_at_call 9; have _hz := B1; refine (wordsP t _ (HT.out.below B1.out (Nat.le_refl _)) (by omega) WO.out).mono ?_; rintro e w3 ⟨v3, rfl, hv3, b3⟩; have V3 := Lib.hid hv3; have B3 := Lib.hid (B1.out.trans (b3.mono B1.out.size)); clear hv3 b3)
          | (go_at_call 7; refine (LI.out _ HT.out).mono ?_; rintro e w1 ⟨v1, rfl, hv1, b1⟩; have V1 := Lib.hid hv1; have B1 := Lib.hid b1; clear hv1 b1))
        go_ret
        exact ⟨ret_bool (by simp <;> omega), B8.out⟩
    | false =>
      have WO := Lib.hid hw
      clear hw
      rcases hq with ⟨q1, rfl⟩ | ⟨q1, q2, rfl, rfl⟩ | ⟨q1, q2, rfl⟩
      all_goals
        go_enter Tryd.func4, Tryd.ntmps4
        go_wp2_with (first
          | (go_at_call 18; have _hz := B7; refine (RD.out _).mono ?_; rintro e w8 ⟨rfl, b8⟩; have B8 := Lib.hid (B7.out.trans (b8.mono B7.out.size)); clear b8)
          | (go_at_call 13; have _hz := B6; refine (lexWakes _ (HT.out.below B6.out (Nat.le_refl _))).mono ?_; rintro e w7 ⟨rfl, b7⟩; have B7 := Lib.hid (B6.out.trans (b7.mono B6.out.size)); clear b7)
          | (go_at_call 11; have _hz := B5; refine (NU.out _).mono ?_; rintro e w6 ⟨rfl, b6⟩; have B6 := Lib.hid (B5.out.trans (b6.mono B5.out.size)); clear b6)
          | (go_at_call 17; have _hz := B4; refine (DI.out _ (HT.out.below B4.out (Nat.le_refl _))).mono ?_; rintro e w5 ⟨rfl, b5⟩; have B5 := Lib.hid (B4.out.trans (b5.mono B4.out.size)); clear b5)
          | (go_at_call 9; have _hz := B1; refine (wordsNo t WO.out (by omega) _ (HT.out.below B1.out (Nat.le_refl _))).mono ?_; rintro e w4 ⟨⟨v3, rfl⟩, b4⟩; have B4 := Lib.hid (B1.out.trans (b4.mono B1.out.size)); clear b4)
          | (go_at_call 7; refine (LI.out _ HT.out).mono ?_; rintro e w1 ⟨v1, rfl, hv1, b1⟩; have V1 := Lib.hid hv1; have B1 := Lib.hid b1; clear hv1 b1))
        go_ret
        exact ⟨ret_bool (by simp <;> omega), B8.out⟩
theorem back (s : ByteArray) (n : Int) (w : World) (hT : TabL w) (h0 : -9223372036854775808 ≤ n) (h1 : n ≤ 9223372036854775807) :
    Calls Tryd.prog 4 #[.string s, .int .i64 n] w fun r w' => r = .returned (.bool true) ∧ Below w.heap.size w w' := by
  obtain ⟨t, hs⟩ : ∃ t, s.extract 0 (min (s.size : Int) 1000).toNat = t := ⟨_, rfl⟩
  have ht : t.size ≤ 1000 := by rw [← hs]; exact cut_text s 1000
  obtain ⟨z, q, e1, e2, hq⟩ := back_num n _ rfl
  refine back_core s n w hT t ht hs (bs (Lib.itoa n)) z (lnE t.data.toList) q (lnL t.data.toList) (Lib.hid (linesP t _ _ rfl rfl)) ?_ (Lib.hid fun w hT => digits n w hT h0 h1) (Lib.hid fun w => refDigits n w h0 h1) (Lib.hid fun w => numberAt _ 9999999 z q e1 e2 w) hq
  by_cases hE : lnE t.data.toList = 0
  · refine Or.inl ⟨hE, lnL_glue hE, lnL_free _, ?_⟩
    have := lnL_len t.data.toList
    rw [← size_list] at this
    omega
  · exact Or.inr (by rw [beq_eq_false_iff_ne]; exact hE)
end Go.Proofs.YtkcjaefhmanmeaaDoor
