/-
  What the reference's Parse of a proof's text answers. Conditions: texts of at most 4000 bytes.
-/
import Derived.Test.YtappfojjjegnpaaGreatDoorCtU
namespace Go.Proofs.YtappfojjjegnpaaGreatDoor
open Go.RowKit Go.Proofs.YtappfojjjegnpaaGreatDoor.LexM

/-- The words behind the first one, one by one. -/
def go6 : Bool → List Int → List Int → List (List UInt8) → Option (List Int × List Int)
  | fl, X, F, [] => if fl = true then some (X, F) else none
  | fl, X, F, p :: T => if p = [102] ∧ fl = false then go6 true X F T else if isInt p = true then (if fl = true then go6 fl X (F ++ [intVal p]) T else go6 fl (X ++ [intVal p]) F T) else none
theorem go6_true (X : List Int) : ∀ (T : List (List UInt8)) (F : List Int), go6 true X F T = if T.all isInt = true then some (X, F ++ T.map intVal) else none
  | [], F => by simp [go6]
  | p :: T, F => by
    rw [go6, if_neg (by simp)]
    cases hp : isInt p with
    | true => simp [go6_true X T, hp]
    | false => simp [hp]
theorem isInt_f : isInt [102] = false := by
  rw [Bool.eq_false_iff]
  intro h
  have := List.all_eq_true.1 (int_parts h).1 102 (by decide)
  revert this; decide
theorem go6_false : ∀ (T : List (List UInt8)) (X : List Int), go6 false X [] T = if (!(T.dropWhile fun p => !(p == [102])).isEmpty && (T.takeWhile fun p => !(p == [102])).all isInt && (T.dropWhile fun p => !(p == [102])).tail.all isInt) = true
    then some (X ++ (T.takeWhile fun p => !(p == [102])).map intVal, (T.dropWhile fun p => !(p == [102])).tail.map intVal) else none
  | [], X => by simp [go6]
  | p :: T, X => by
    rw [go6]
    by_cases hp : p = [102]
    · subst hp
      rw [if_pos ⟨rfl, rfl⟩, go6_true]
      simp
    · have hq : (p == [102]) = false := by simpa using hp
      rw [if_neg (fun h => hp h.1)]
      cases hi : isInt p with
      | true => simp [go6_false T, hq, hi]
      | false => simp [hq, hi]
theorem pr_go6 {l : List UInt8} {T : List (List UInt8)} (hl : l.length ≤ 1048576) (hp : pieces 32 l = [120] :: T) :
    (∀ X F, go6 false [] [] T = some (X, F) → prE l = 0 ∧ prX l = X ∧ prF l = F) ∧ (go6 false [] [] T = none → prE l = 4 ∧ prX l = [] ∧ prF l = []) := by
  have e : prOk l = (!(T.dropWhile fun p => !(p == [102])).isEmpty && (T.takeWhile fun p => !(p == [102])).all isInt && (T.dropWhile fun p => !(p == [102])).tail.all isInt) := by
    unfold prOk aft fore rest
    rw [hp, decide_eq_true hl]; simp
  have g := go6_false T []
  rw [← e, List.nil_append] at g
  cases hk : prOk l with
  | true =>
    rw [hk, if_pos rfl] at g
    refine ⟨fun X F h => ?_, fun h => by rw [g] at h; cases h⟩
    rw [g] at h
    simp only [Option.some.injEq, Prod.mk.injEq] at h
    obtain ⟨h1, h2, h3⟩ := prE_yes hk
    refine ⟨h1, ?_, ?_⟩
    · rw [h2, ← h.1]; unfold fore; rw [hp]; rfl
    · rw [h3, ← h.2]; unfold aft rest; rw [hp]; rfl
  | false =>
    rw [hk, if_neg (by simp)] at g
    exact ⟨fun X F h => (by rw [g] at h; cases h), fun _ => prE_no (by omega) hk⟩
theorem pr_head {l : List UInt8} (hl : l.length ≤ 1048576) (hp : (pieces 32 l).head? ≠ some [120]) : prE l = 4 ∧ prX l = [] ∧ prF l = [] := by
  refine prE_no (by omega) ?_
  unfold prOk
  have : ((pieces 32 l).head? == some [120]) = false := by simpa using hp
  rw [this]; simp

theorem OwnS.at_ {w : World} {B n : Nat} {v : Value} {l : List (List UInt8)} (h : OwnS w B v l) (e : l.length = n) : w.ownsRow B 9 1 v n (l.map encT7) := by subst e; exact h
theorem OwnI.at_ {w : World} {B n : Nat} {v : Value} {l : List Int} (h : OwnI w B v l) (e : l.length = n) : w.ownsRow B 3 1 v n (l.map (Value.int .i64)) := by subst e; exact h
/-- One int more in a row. -/
theorem int_more {w1 w wa w5 : World} {v v' : Value} {K : List Int} {a : Int} {n : Nat} (e : K.length = n) (hB : Below w1.heap.size w1 w) (hO : OwnI w w1.heap.size v K) (ha : Below w.heap.size w wa) (hown : w5.ownsRow w1.heap.size 3 1 v' (n + 1) (K.map (Value.int .i64) ++ [.int .i64 a])) (hgrow : wa.grownBy w5 v.ownBlock) :
    OwnI w5 w1.heap.size v' (K ++ [a]) ∧ Below w1.heap.size w1 w5 := by
  subst e
  exact int_app (hB.trans (ha.mono hB.size)) (hO.below ha) hown hgrow
def RqRel (l : List UInt8) (w wr : World) (lv wv iv : Value) : Prop := ∃ k : Nat, iv = .int .i64 k ∧ k ≤ l.length ∧ wv = .string (bs (ps 32 (l.take k)).2) ∧ OwnS wr w.heap.size lv (ps 32 (l.take k)).1 ∧ Below w.heap.size w wr
theorem own_baseS {w : World} {B C : Nat} {v : Value} {l : List (List UInt8)} (h : OwnS w B v l) (hC : C ≤ B) : OwnS w C v l := by
  refine ⟨h.1, ?_⟩
  rcases h.2 with q | ⟨g, cap, cur, hv, hg, r⟩
  · exact Or.inl q
  · exact Or.inr ⟨g, cap, cur, hv, by omega, r⟩
theorem cat_byte (t : List UInt8) (s : ByteArray) (k : Nat) (b : UInt8) (h : s.data.toList[k]? = some b) : bs t ++ s.extract k (k + 1) = bs (t ++ [b]) := by
  have e : s.extract k (k + 1) = bs [b] := by
    rw [extract_bs]
    congr 1
    rw [take_snoc _ _ _ h, List.drop_append_of_le_length (by rw [List.length_take]; have := (List.getElem?_eq_some_iff.1 h).1; omega), List.drop_eq_nil_of_le (by rw [List.length_take]; omega)]
    rfl
  rw [e, bs_app]
theorem ps_last_len (c : UInt8) (l : List UInt8) : (ps c l).2.length ≤ l.length := by
  have h := congrArg List.length (glue_ps c l)
  rw [List.length_append] at h
  omega
/-- Where the words stand. -/
def RyC (W : List (List UInt8)) (R : Option (List Int × List Int)) (xv fv flv iv : Value) (w1 wr : World) : Prop := ∃ (k : Nat) (fl : Bool) (X F : List Int) (w2 : World), iv = .int .i64 k ∧ flv = .bool fl ∧ 1 ≤ k ∧ k ≤ W.length ∧ X.length + F.length ≤ k ∧
  Below w1.heap.size w1 w2 ∧ Below w2.heap.size w2 wr ∧ OwnI w2 w1.heap.size xv X ∧ OwnI wr w2.heap.size fv F ∧ (fl = false → wr = w2 ∧ F = [] ∧ fv = .slice none 0 0) ∧ go6 fl X F (W.drop k) = R
/-- What the reference's Parse leaves. -/
theorem pr_ret {l : List UInt8} {z : Int} {w w' : World} (h : prE l = z ∧ prX l = [] ∧ prF l = []) (hb : Below w.heap.size w w') : ParseP l w (.returned (.tuple #[.slice none 0 0, .slice none 0 0, .int .i64 z])) w' :=
  ⟨_, _, by rw [h.1], by rw [h.2.1]; exact ints_nil _, by rw [h.2.2]; exact ints_nil _, hb⟩
set_option maxHeartbeats 16000000 in
set_option maxRecDepth 100000 in
theorem refParseC (s : ByteArray) (w : World) (hs : s.size ≤ 4000) : Calls Tryz.prog 6 #[.string s] w (ParseP s.data.toList w) := by
  have HZ := Lib.hid (size_list s)
  obtain ⟨i0, hi, hz0, hz1, hz2⟩ := info_partsS
  obtain ⟨j0, hj, jz0, jz1, jz2⟩ := info_parts infoI
  go_enter Tryz.func6, Tryz.ntmps6
  go_wp2
  go_loopw [5, 6, 7] (fun lv wv iv wr => RqRel s.data.toList w wr lv wv iv) (fun _ _ iv _ => s.size - (intOf iv).toNat)
  case atStart => exact ⟨0, rfl, Nat.zero_le _, rfl, World.ownsRow_nil _ _ _ _, Below.refl _ _⟩
  case round =>
    obtain ⟨k, rfl, hk, rfl, hO, hB⟩ := hrel
    have hks : k ≤ s.size := by rw [HZ.out]; exact hk
    obtain ⟨K, hK⟩ : ∃ K, (ps 32 (s.data.toList.take k)).1 = K := ⟨_, rfl⟩
    obtain ⟨t, ht⟩ : ∃ t, (ps 32 (s.data.toList.take k)).2 = t := ⟨_, rfl⟩
    have hKl : K.length ≤ 4000 := by
      have h1 := ps_count 32 (s.data.toList.take k)
      rw [hK, List.length_take] at h1; omega
    have htl : t.length ≤ 4000 := by
      have h1 := ps_last_len 32 (s.data.toList.take k)
      rw [ht, List.length_take] at h1; omega
    have KE := Lib.hid hK
    have TE := Lib.hid ht
    rw [hK] at hO
    rw [ht]
    obtain ⟨n, hn⟩ : ∃ n, K.length = n := ⟨_, rfl⟩
    obtain ⟨ao, co, e⟩ := hO.form
    rw [hn] at e hKl
    subst e
    have NE := Lib.hid hn
    have O := Lib.hid hO
    have B := Lib.hid hB
    have hwz := hB.size
    have hsz : (bs t).size ≤ 4000 := by rw [bs_size]; exact htl
    clear hO hB hk hK ht hn htl
    by_cases hlt : k < s.size
    · have hb := byte_at s k hlt
      obtain ⟨b, hbe⟩ : ∃ b, s[k]'hlt = b := ⟨_, rfl⟩
      rw [hbe] at hb
      have T := Lib.hid (take_snoc _ _ _ hb)
      by_cases hc : b = 32
      · subst hc
        have P : Hid (ps 32 (s.data.toList.take (k + 1)) = (K ++ [t], [])) := Lib.hid (by
          rw [T.out, ps_snoc, if_pos rfl, KE.out, TE.out])
        have q1 : (((32 : UInt8).toNat : Int) == 32) = true := rfl
        obtain ⟨sb, hsb⟩ : ∃ sb, bs t = sb := ⟨_, rfl⟩
        have SB := Lib.hid hsb
        rw [hsb] at hsz ⊢
        clear hb hsb
        go_wp2_with (at_builtin; refine wpList_append_fresh rfl (.tmp 27) (.tmp 29) 42 rfl w.heap.size 9 i0 (.string ByteArray.empty) 1 16 Tryz.underlying42 hi hz0 hz1 hz2 rfl (by decide) (.slice ao n co) n (K.map encT7) rfl ((O.out.below ((Below.refl _ _).alloc (Nat.le_refl _) _) (Nat.le_refl _)).at_ NE.out) ⟨wr.heap.size, 0, none⟩ 1 1 [.string sb] rfl rfl (newsT7 _ _ _ _ (by simp)) (oneT7 _) (by unfold maxLen; omega) (by omega) (by simp; omega) ?_; intro v5 w5 hown hgrow hfr; have hown2 : w5.ownsRow w.heap.size 9 1 v5 (K.length + 1) (K.map encT7 ++ [.string sb]) := (by rw [NE.out]; exact hown); obtain ⟨o5, b5⟩ := str_app SB.out.symm (B.out.trans (((Below.refl _ _).alloc (Nat.le_refl _) _).mono hwz)) (Nat.le_refl _) (O.out.below ((Below.refl _ _).alloc (Nat.le_refl _) _) (Nat.le_refl _)) hown2 hgrow; have O5 := Lib.hid o5; have B5 := Lib.hid b5; clear hown hown2 hgrow hfr o5 b5)
        go_roundw
        case rel => exact ⟨k + 1, by go_num, by rw [← HZ.out]; omega, by rw [P.out]; rfl, by rw [P.out]; exact O5.out, B5.out⟩
        case measure => (simp [intOf] <;> omega)
      · have P : Hid (ps 32 (s.data.toList.take (k + 1)) = (K, t ++ [b])) := Lib.hid (by
          rw [T.out, ps_other 32 _ b hc, KE.out, TE.out])
        have q1 : ((b.toNat : Int) == 32) = false := by rw [byte_test b 32 32 rfl]; simpa using hc
        have CB := Lib.hid (cat_byte t s k b hb)
        have hez : (s.extract k (k + 1)).size ≤ 1 := by rw [ByteArray.size_extract]; omega
        obtain ⟨sb, hsb⟩ : ∃ sb, bs t = sb := ⟨_, rfl⟩
        rw [hsb] at hsz CB ⊢
        clear hb hsb hc
        go_wp2
        go_roundw
        case rel => exact ⟨k + 1, by go_num, by rw [← HZ.out]; omega, by rw [P.out]; exact congrArg _ CB.out, by rw [P.out]; exact O.out, B.out⟩
        case measure => (simp [intOf] <;> omega)
    · have hks2 : k = s.size := by omega
      have hp : pieces 32 s.data.toList = K ++ [t] := by
        have h := pieces_ps 32 s.data.toList
        have e : s.data.toList.take k = s.data.toList := by rw [hks2, HZ.out, List.take_length]
        rw [h, ← e, KE.out, TE.out]
      have PW := Lib.hid hp
      obtain ⟨W, hW⟩ : ∃ W, K ++ [t] = W := ⟨_, rfl⟩
      obtain ⟨p0, T0, hW0⟩ : ∃ p0 T0, W = p0 :: T0 := by
        rw [← hW]
        cases K with
        | nil => exact ⟨_, _, rfl⟩
        | cons a r => exact ⟨_, _, rfl⟩
      have hWl : W.length = n + 1 := by rw [← hW, List.length_append, NE.out]; rfl
      have WL := Lib.hid hWl
      have HW := Lib.hid hW
      have W0 := Lib.hid hW0
      obtain ⟨sb, hsb⟩ : ∃ sb, bs t = sb := ⟨_, rfl⟩
      have SB := Lib.hid hsb
      rw [hsb] at hsz ⊢
      have hll : s.data.toList.length ≤ 1048576 := by rw [← HZ.out]; omega
      have LL := Lib.hid hll
      clear hp hsb hW hW0 hWl hll
      have APP : Hid (∀ v5 w5, (wr.alloc (.cells #[.string sb] 9)).grownBy w5 (Value.slice ao n co).ownBlock → w5.ownsRow w.heap.size 9 1 v5 (n + 1) (K.map encT7 ++ [.string sb]) →
          ∃ g c, v5 = .slice (some ⟨g, 0, none⟩) (n + 1) c ∧ n + 1 ≤ c ∧ g < w5.heap.size ∧ OwnS w5 w.heap.size (.slice (some ⟨g, 0, none⟩) (n + 1) c) W ∧ Below w.heap.size w w5 ∧ w5.cell? ⟨g, 0, none⟩ = some (.string (bs p0))) := Lib.hid (by
        intro v5 w5 hgrow hown
        have hown2 : w5.ownsRow w.heap.size 9 1 v5 (K.length + 1) (K.map encT7 ++ [.string sb]) := by rw [NE.out]; exact hown
        obtain ⟨o5, b5⟩ := str_app SB.out.symm (B.out.trans (((Below.refl _ _).alloc (Nat.le_refl _) _).mono hwz)) (Nat.le_refl _) (O.out.below ((Below.refl _ _).alloc (Nat.le_refl _) _) (Nat.le_refl _)) hown2 hgrow
        rw [HW.out] at o5
        obtain ⟨g, c, rfl, _, hg, hc⟩ := ownsRow_form hown (by omega)
        refine ⟨g, c, rfl, hc, hg, o5, b5, ?_⟩
        obtain ⟨b, o, c', e, hb, hcell⟩ := o5.strs.nth (i := 0) (by rw [WL.out]; omega)
        simp only [Value.slice.injEq, Option.some.injEq, Addr.mk.injEq, and_true] at e
        obtain ⟨⟨rfl, rfl⟩, _, rfl⟩ := e
        rw [hcell]
        congr 2
        have h0 := W0.out
        subst h0
        rfl)
      by_cases h120 : p0 = [120]
      · have hq : (!((bs p0).toList == [120])) = false := by rw [Bool.not_eq_false', beq_iff_eq, toList_data]; exact h120
        have PG := Lib.hid (pr_go6 (T := T0) LL.out (by rw [PW.out, HW.out, W0.out, h120]))
        clear h120
        go_wp2_with (at_builtin; refine wpList_append_fresh rfl (.tmp 38) (.tmp 40) 42 rfl w.heap.size 9 i0 (.string ByteArray.empty) 1 16 Tryz.underlying42 hi hz0 hz1 hz2 rfl (by decide) (.slice ao n co) n (K.map encT7) rfl ((O.out.below ((Below.refl _ _).alloc (Nat.le_refl _) _) (Nat.le_refl _)).at_ NE.out) ⟨wr.heap.size, 0, none⟩ 1 1 [.string sb] rfl rfl (newsT7 _ _ _ _ (by simp)) (oneT7 _) (by unfold maxLen; omega) (by omega) (by simp; omega) ?_; intro v5 w5 hown hgrow hfr; obtain ⟨g5, c5, rfl, hc5, hg5, o5, b5, d0⟩ := APP.out v5 w5 hgrow hown; have O5 := Lib.hid o5; have B5 := Lib.hid b5; clear hown hgrow hfr o5 b5)
        obtain ⟨R, hR⟩ : ∃ R, go6 false [] [] T0 = R := ⟨_, rfl⟩
        have RR := Lib.hid hR
        obtain ⟨w1, hw1⟩ : ∃ W, W = w5 := ⟨_, rfl⟩
        subst hw1
        obtain ⟨wo, hwo⟩ : ∃ W, W = wr := ⟨_, rfl⟩
        subst hwo
        clear hR d0
        go_loopw [8, 9, 10, 11] (fun xv fv flv iv wr => RyC W R xv fv flv iv w1 wr) (fun _ _ _ iv _ => n + 1 - (intOf iv).toNat)
        case atStart =>
          refine ⟨1, false, [], [], w1, rfl, rfl, Nat.le_refl _, by rw [WL.out]; omega, by simp, Below.refl _ _, Below.refl _ _, World.ownsRow_nil _ _ _ _, World.ownsRow_nil _ _ _ _, fun _ => ⟨rfl, rfl, rfl⟩, ?_⟩
          rw [W0.out]; exact RR.out
        case round =>
          obtain ⟨j, fl, X, F, w2, rfl, rfl, hj1, hj2, hXF, hb12, hb2, hOX, hOF, hno, hg⟩ := hrel
          rw [WL.out] at hj2
          obtain ⟨nX, hnX⟩ : ∃ n, X.length = n := ⟨_, rfl⟩
          obtain ⟨ax, cx, e⟩ := hOX.form
          rw [hnX] at e hXF
          subst e
          obtain ⟨nF, hnF⟩ : ∃ n, F.length = n := ⟨_, rfl⟩
          obtain ⟨af, cf, e⟩ := hOF.form
          rw [hnF] at e hXF
          subst e
          have nXE := Lib.hid hnX
          have nFE := Lib.hid hnF
          have B12 := Lib.hid hb12
          have B2 := Lib.hid hb2
          have OX := Lib.hid hOX
          have OF := Lib.hid hOF
          have NO := Lib.hid hno
          have G := Lib.hid hg
          have z12 := hb12.size
          have z2 := hb2.size
          have BW : Hid (Below w.heap.size w wr) := Lib.hid (B5.out.trans ((hb12.trans (hb2.mono z12)).mono B5.out.size))
          clear hnX hnF hb12 hb2 hOX hOF hno hg
          by_cases hlt : j < n + 1
          · have hjW : j < W.length := by rw [WL.out]; exact hlt
            obtain ⟨b, o, c', e, hb, hcell⟩ := O5.out.strs.nth hjW
            rw [WL.out] at e
            simp only [Value.slice.injEq, Option.some.injEq, Addr.mk.injEq, true_and, and_true] at e
            obtain ⟨⟨rfl, rfl⟩, rfl⟩ := e
            rw [Nat.zero_add] at hcell
            have d0 := (B2.out.cell (p := ⟨g5, j, none⟩) (Nat.lt_of_lt_of_le hb z12)).trans ((B12.out.cell (p := ⟨g5, j, none⟩) hb).trans hcell)
            have hg := G.out
            rw [List.drop_eq_getElem_cons hjW, go6] at hg
            obtain ⟨q, hq2⟩ : ∃ q, W[j] = q := ⟨_, rfl⟩
            rw [hq2] at hg d0
            have C := Lib.hid (refNumberC (bs q))
            clear hcell hq2
            by_cases hp : q = [102]
            · have t1 : ((bs q).toList == [102]) = true := by rw [toList_data, bs_data, hp]; rfl
              cases fl with
              | false =>
                obtain ⟨e1, e2, e3⟩ := NO.out rfl
                rw [if_pos ⟨hp, rfl⟩, e2] at hg
                have G2 := Lib.hid hg
                have E1 := Lib.hid e1
                have E2 := Lib.hid e2
                have E3 := Lib.hid e3
                clear hg e1 e2 e3 hp C
                go_wp2
                go_roundw
                case rel => exact ⟨j + 1, true, X, [], w2, by go_num, rfl, by omega, by rw [WL.out]; omega, by rw [nXE.out]; simp only [List.length_nil]; omega, B12.out, B2.out, OX.out, by rw [E3.out]; exact World.ownsRow_nil _ _ _ _, fun h => (by cases h), G2.out⟩
                case measure => (simp [intOf] <;> omega)
              | true =>
                rw [if_neg (by simp), hp, isInt_f, if_neg (by simp)] at hg
                have PF := Lib.hid (PG.out.2 (RR.out.trans hg.symm))
                have C2 : Hid (∀ w, Calls Tryz.prog 16 #[.string (bs q)] w fun e w' => (∃ z, e = .returned (.tuple #[.int .i64 z, .bool false])) ∧ Below w.heap.size w w') := Lib.hid (fun w => by
                  refine (C.out w).mono ?_
                  rintro e w' ⟨z, rfl, _, _, hb⟩
                  rw [bs_data, hp, isInt_f]
                  exact ⟨⟨z, rfl⟩, hb⟩)
                clear hg hp C
                go_wp2_with (go_at_call 16; refine (C2.out _).mono ?_; rintro e w6 ⟨⟨z, rfl⟩, b6⟩; have B6 := Lib.hid (BW.out.trans (b6.mono BW.out.size)); clear b6)
                go_ret3
                exact pr_ret PF.out B6.out
            · have t1 : ((bs q).toList == [102]) = false := by rw [toList_data, bs_data]; simpa using hp
              rw [if_neg (fun h => hp h.1)] at hg
              cases hi2 : isInt q with
              | false =>
                rw [hi2, if_neg (by simp)] at hg
                have PF := Lib.hid (PG.out.2 (RR.out.trans hg.symm))
                have C2 : Hid (∀ w, Calls Tryz.prog 16 #[.string (bs q)] w fun e w' => (∃ z, e = .returned (.tuple #[.int .i64 z, .bool false])) ∧ Below w.heap.size w w') := Lib.hid (fun w => by
                  refine (C.out w).mono ?_
                  rintro e w' ⟨z, rfl, _, _, hb⟩
                  rw [bs_data, hi2]
                  exact ⟨⟨z, rfl⟩, hb⟩)
                clear hg hp C hi2
                cases fl
                all_goals
                  go_wp2_with (go_at_call 16; refine (C2.out _).mono ?_; rintro e w6 ⟨⟨z, rfl⟩, b6⟩; have B6 := Lib.hid (BW.out.trans (b6.mono BW.out.size)); clear b6)
                  go_ret3
                  exact pr_ret PF.out B6.out
              | true =>
                rw [hi2, if_pos rfl] at hg
                obtain ⟨z, hz⟩ : ∃ z, intVal q = z := ⟨_, rfl⟩
                rw [hz] at hg
                have C2 : Hid (∀ w, Calls Tryz.prog 16 #[.string (bs q)] w fun e w' => e = .returned (.tuple #[.int .i64 z, .bool true]) ∧ Below w.heap.size w w') := Lib.hid (fun w => by
                  refine (C.out w).mono ?_
                  rintro e w' ⟨y, rfl, hv, _, hb⟩
                  rw [bs_data] at hv ⊢
                  rw [hv hi2, hz, hi2]
                  exact ⟨rfl, hb⟩)
                clear hp C hi2 hz
                cases fl with
                | true =>
                  rw [if_pos rfl] at hg
                  have G2 := Lib.hid hg
                  clear hg
                  go_wp2_with (first
                    | (go_at_call 16; refine (C2.out _).mono ?_; rintro e w6 ⟨rfl, b6⟩; have B6 : Hid (Below w2.heap.size w2 w6) := Lib.hid (B2.out.trans (b6.mono B2.out.size)); have OF6 := Lib.hid (OF.out.below b6); have b26 := B6.out.size; clear b6)
                    | (at_builtin; refine wpList_append_fresh rfl (.tmp 72) (.tmp 74) 22 rfl w2.heap.size 3 j0 (.int .i64 0) 1 8 Tryz.underlying22 hj jz0 jz1 jz2 rfl (by decide) (.slice af nF cf) nF (F.map (Value.int .i64)) rfl ((OF6.out.below ((Below.refl _ _).alloc (Nat.le_refl _) _)).at_ nFE.out) ⟨w6.heap.size, 0, none⟩ 1 1 [.int .i64 z] rfl rfl (newsI _ _ _ _ (by simp)) (oneI _) (by unfold maxLen; omega) (by omega) (by simp; omega) ?_; intro v7 w7 hown hgrow hfr; obtain ⟨o7, b7⟩ := int_more nFE.out B6.out OF6.out ((Below.refl _ _).alloc (Nat.le_refl _) _) hown hgrow; have O7 := Lib.hid o7; have B7 := Lib.hid b7; clear o7 b7; clear hown hgrow hfr))
                  go_roundw
                  case rel => exact ⟨j + 1, true, X, F ++ [z], w2, by go_num, rfl, by omega, by rw [WL.out]; omega, by rw [nXE.out, List.length_append, nFE.out]; simp only [List.length_singleton]; omega, B12.out, B7.out, OX.out, O7.out, fun h => (by cases h), G2.out⟩
                  case measure => (simp [intOf] <;> omega)
                | false =>
                  obtain ⟨e1, e2, e3⟩ := NO.out rfl
                  rw [if_neg (by simp), e2] at hg
                  have G2 := Lib.hid hg
                  have E1 := Lib.hid e1
                  have E3 := Lib.hid e3
                  clear hg e1 e2 e3
                  go_wp2_with (first
                    | (go_at_call 16; refine (C2.out _).mono ?_; rintro e w6 ⟨rfl, b6⟩; have B6 : Hid (Below w1.heap.size w1 w6) := Lib.hid ((B12.out.trans (B2.out.mono z12)).trans (b6.mono (by omega))); have OX6 : Hid (OwnI w6 w1.heap.size (.slice ax nX cx) X) := Lib.hid ((OX.out.below B2.out).below b6); have b26 := B6.out.size; clear b6)
                    | (at_builtin; refine wpList_append_fresh rfl (.tmp 76) (.tmp 78) 22 rfl w1.heap.size 3 j0 (.int .i64 0) 1 8 Tryz.underlying22 hj jz0 jz1 jz2 rfl (by decide) (.slice ax nX cx) nX (X.map (Value.int .i64)) rfl ((OX6.out.below ((Below.refl _ _).alloc (Nat.le_refl _) _)).at_ nXE.out) ⟨w6.heap.size, 0, none⟩ 1 1 [.int .i64 z] rfl rfl (newsI _ _ _ _ (by simp)) (oneI _) (by unfold maxLen; omega) (by omega) (by simp; omega) ?_; intro v7 w7 hown hgrow hfr; obtain ⟨o7, b7⟩ := int_more nXE.out B6.out OX6.out ((Below.refl _ _).alloc (Nat.le_refl _) _) hown hgrow; have O7 := Lib.hid o7; have B7 := Lib.hid b7; clear o7 b7; clear hown hgrow hfr))
                  go_roundw
                  case rel => exact ⟨j + 1, false, X ++ [z], [], w7, by go_num, rfl, by omega, by rw [WL.out]; omega, by rw [List.length_append, nXE.out]; simp only [List.length_singleton, List.length_nil]; omega, B7.out, Below.refl _ _, O7.out, by rw [E3.out]; exact World.ownsRow_nil _ _ _ _, fun _ => ⟨rfl, rfl, E3.out⟩, G2.out⟩
                  case measure => (simp [intOf] <;> omega)
          · have hg := G.out
            rw [List.drop_eq_nil_of_le (by rw [WL.out]; omega), go6] at hg
            cases fl with
            | false =>
              rw [if_neg (by simp)] at hg
              have PF := Lib.hid (PG.out.2 (RR.out.trans hg.symm))
              have hj3 : j = n + 1 := by omega
              clear hg
              go_wp2
              go_ret3
              exact pr_ret PF.out BW.out
            | true =>
              rw [if_pos rfl] at hg
              have PF := Lib.hid (PG.out.1 X F (RR.out.trans hg.symm))
              clear hg
              go_wp2
              go_ret3
              refine ⟨.slice ax nX cx, .slice af nF cf, by rw [PF.out.1]; rfl, ?_, ?_, BW.out⟩
              · rw [PF.out.2.1]; exact OX.out.ints.below B2.out
              · rw [PF.out.2.2]; exact OF.out.ints
      · have hq : (!((bs p0).toList == [120])) = true := by rw [Bool.not_eq_true', beq_eq_false_iff_ne, toList_data]; exact h120
        have F := Lib.hid (pr_head LL.out (by rw [PW.out, HW.out, W0.out]; simpa using h120))
        clear h120
        go_wp2_with (at_builtin; refine wpList_append_fresh rfl (.tmp 38) (.tmp 40) 42 rfl w.heap.size 9 i0 (.string ByteArray.empty) 1 16 Tryz.underlying42 hi hz0 hz1 hz2 rfl (by decide) (.slice ao n co) n (K.map encT7) rfl ((O.out.below ((Below.refl _ _).alloc (Nat.le_refl _) _) (Nat.le_refl _)).at_ NE.out) ⟨wr.heap.size, 0, none⟩ 1 1 [.string sb] rfl rfl (newsT7 _ _ _ _ (by simp)) (oneT7 _) (by unfold maxLen; omega) (by omega) (by simp; omega) ?_; intro v5 w5 hown hgrow hfr; obtain ⟨g5, c5, rfl, hc5, hg5, o5, b5, d0⟩ := APP.out v5 w5 hgrow hown; have O5 := Lib.hid o5; have B5 := Lib.hid b5; clear hown hgrow hfr o5 b5)
        go_ret3
        exact pr_ret F.out B5.out
end Go.Proofs.YtappfojjjegnpaaGreatDoor
