/-
  KittyTurns: the walk: at all small numbers and every two bytes the call answers true and turns nothing that was there. Conditions: none.
-/
import Derived.Test.YtkakeakdgidigaaKtY
namespace Go.Proofs.Ytkakeakdgidigaa
open Go.RowKit Go.Proofs.Ytkakeakdgidigaa.KtM

theorem zi_cells15 {w : World} {b o n c : Nat} {x : List Int} (h : ZiAt w (.slice (some ⟨b, o, none⟩) n c) x n) : ∀ j u, (x.map (Value.int .i64))[j]? = some u → w.cell? ((⟨b, o, none⟩ : Addr).add j) = some u := by
  intro j u hu
  obtain ⟨hl, A, c', e, hA⟩ := h
  simp only [Value.slice.injEq, true_and] at e
  obtain ⟨rfl, rfl⟩ := e
  have hj : j < n := by
    have := (List.getElem?_eq_some_iff.1 hu).1
    rw [List.length_map] at this
    omega
  obtain ⟨b', o', e, _, hx⟩ := hA (by omega)
  simp only [Option.some.injEq, Addr.mk.injEq, and_true] at e
  obtain ⟨rfl, rfl⟩ := e
  rw [List.getElem?_map] at hu
  have hxj : x[j]? = some x[j] := List.getElem?_eq_getElem (by omega)
  rw [hxj] at hu
  have hh := hx j hj
  rw [List.getD_eq_getElem?_getD, hxj] at hh
  show w.cell? (Addr.add _ _) = _
  rw [show (⟨b, o, none⟩ : Addr).add j = ⟨b, o + j, none⟩ from add_lit b o j, hh]
  exact hu
theorem good_app {A B : List Int} (h : GoodT A) (g : GoodT B) : GoodT (A ++ B) := fun t ht => by
  rcases List.mem_append.1 ht with c | c
  · exact h t c
  · exact g t c
theorem good_drop {T : List Int} (h : GoodT T) (k : Nat) : GoodT (T.drop k) := fun t ht => h t (List.mem_of_mem_drop ht)
theorem good_zeros : GoodT [0, 0] := fun t ht => by
  simp only [List.mem_cons, List.not_mem_nil, or_false] at ht
  rcases ht with rfl | rfl <;> omega
theorem flat_yes (T : List Int) (i : Nat) : (prA (T.take i ++ [0, 0] ++ T.drop i)).2.2 = (prA T).2.2 := by
  rw [Bool.eq_iff_iff, prA_yes, prA_yes]
  exact pair_flat T i 2
theorem round_yes (T : List Int) (k : Nat) : (prA (T.drop k ++ T.take k)).2.2 = (prA T).2.2 := by
  rw [Bool.eq_iff_iff, prA_yes, prA_yes]
  exact pair_round T k
theorem drop_at15 {w : World} {g n c : Nat} {x : List Int} (h : ZcAt w (.slice (some ⟨g, 0, none⟩) n c) x n) {k : Nat} (hk : k ≤ n) (hc : n ≤ c) : ∃ od : Nat, (if c = k then (some ⟨g, 0, none⟩ : Option Addr) else some ⟨g, k, none⟩) = some ⟨g, od, none⟩ ∧ ZiAt w (.slice (some ⟨g, od, none⟩) (n - k) (c - k)) (x.drop k) (n - k) := by
  by_cases e : c = k
  · rw [if_pos e]
    exact ⟨0, rfl, by rw [List.length_drop, h.1.1], _, _, rfl, fun h => absurd h (by omega)⟩
  · rw [if_neg e]
    refine ⟨k, rfl, ?_⟩
    by_cases e2 : k < n
    · have := (h.drop e2).1
      rw [Nat.zero_add] at this
      exact this
    · exact ⟨by rw [List.length_drop, h.1.1], _, _, rfl, fun h => absurd h (by omega)⟩
def FlR (L : List Int) (n : Nat) (wz wx : World) (v : Value) : Prop := OwnJ wx wz.heap.size v L n ∧ Below wz.heap.size wz wx
set_option maxHeartbeats 16000000 in
set_option maxRecDepth 100000 in
theorem turnsLaw15 (A : Option Addr) (n c K : Nat) (D : Nat → Int) (u1 u2 : Int) (w : World) (h : S8At w A n D) (hc : n ≤ c) (hK : K = min n 30) (h1 : 0 ≤ u1 ∧ u1 ≤ 255) (h2 : 0 ≤ u2 ∧ u2 ≤ 255) :
    Calls Try.prog 5 #[.slice A n c, .int .u8 u1, .int .u8 u2] w fun e w' => e = .returned (.bool true) ∧ Below w.heap.size w w' := by
  obtain ⟨i0, hi, hz0, hz1, hz2⟩ := info_parts infoI15
  have TU := Lib.hid (turns15 false A n c K D w h hc hK)
  have HG := Lib.hid (trn_good D K)
  have hl := trnT_len false D K
  have hK30 : K ≤ 30 := by omega
  have WK := Lib.hid wakes15
  obtain ⟨T, hT⟩ : ∃ T, trnT false D K = T := ⟨_, rfl⟩
  rw [hT] at TU HG hl
  have HL := Lib.hid hl
  obtain ⟨⟨⟨x0, x1⟩, ⟨y0, y1⟩, z⟩, hp⟩ : ∃ p, prA T = p := ⟨_, rfl⟩
  have PA : Hid (∀ (v : Value) w, ZiAt w v T K → Calls Try.prog 12 #[v] w fun e w' => e = .returned (.tuple #[.agg #[.int .i64 (x0 : Int), .int .i64 (x1 : Int)], .agg #[.int .i64 (y0 : Int), .int .i64 (y1 : Int)], .bool z]) ∧ Below w.heap.size w w') := Lib.hid (fun v w hZ => by
    have h := Pair15 v T K w hZ (by omega)
    rw [if_pos (good_iff.2 HG.out), hp] at h
    exact h)
  have HZ : Hid ((prA T).2.2 = z) := Lib.hid (by rw [hp])
  obtain ⟨m1, hm⟩ : ∃ m1 : Nat, (K : Int) + 1 = (m1 : Int) := ⟨K + 1, by omega⟩
  obtain ⟨i, him⟩ : ∃ r : Nat, u1 % (m1 : Int) = (r : Int) := ⟨(u1 % (m1 : Int)).toNat, by have := Int.emod_nonneg u1 (b := (m1 : Int)) (by omega); omega⟩
  obtain ⟨k, hkm⟩ : ∃ r : Nat, u2 % (m1 : Int) = (r : Int) := ⟨(u2 % (m1 : Int)).toNat, by have := Int.emod_nonneg u2 (b := (m1 : Int)) (by omega); omega⟩
  have him2 : u1.tmod (m1 : Int) = (i : Int) := by rw [Int.tmod_eq_emod_of_nonneg h1.1]; exact him
  have hkm2 : u2.tmod (m1 : Int) = (k : Int) := by rw [Int.tmod_eq_emod_of_nonneg h2.1]; exact hkm
  have hiK : i ≤ K := by have := Int.emod_lt_of_pos u1 (b := (m1 : Int)) (by omega); omega
  have hkK : k ≤ K := by have := Int.emod_lt_of_pos u2 (b := (m1 : Int)) (by omega); omega
  have hm4 : ((m1 : Int) == 0) = false := by rw [beq_eq_false_iff_ne]; omega
  have hm5 : ¬ (m1 : Int) = 0 := by omega
  have cu1 : IntKind.i64.wrap u1 = u1 := IntWalk.i64_in _ (by omega)
  have cu2 : IntKind.i64.wrap u2 = u2 := IntWalk.i64_in _ (by omega)
  have cm1 : IntKind.i64.wrap (m1 : Int) = m1 := IntWalk.i64_in _ (by omega)
  have ci : IntKind.i64.wrap (i : Int) = i := IntWalk.i64_in _ (by omega)
  have ck : IntKind.i64.wrap (k : Int) = k := IntWalk.i64_in _ (by omega)
  clear h hc hK hT hl hp h1 h2
  go_enter Try.func5, Try.ntmps5
  go_upto_region 2 with (go_at_call 6; refine TU.out.mono ?_; rintro e w1 ⟨lv, rfl, oj, b1⟩; have OJ := Lib.hid oj; obtain ⟨at1, ct1, e, hct⟩ := row_form15 oj; subst e; have ZT := Lib.hid oj.zc; have B1 := Lib.hid b1; clear oj b1)
  clear TU
  go_upto_region 3 with (go_at_call 12; refine (PA.out _ _ ZT.out.1).mono ?_; rintro e w2 ⟨rfl, b2⟩; have C2 := Lib.hid b2; clear b2)
  clear PA
  obtain ⟨w3, hw3⟩ : ∃ W, (w2.alloc (.cells #[.int .i64 (x0 : Int), .int .i64 (x1 : Int)] 24)).alloc (.cells #[.int .i64 (y0 : Int), .int .i64 (y1 : Int)] 24) = W := ⟨_, rfl⟩
  obtain ⟨-, b3⟩ := two_boxes hw3
  rw [hw3]
  have C3 := Lib.hid (C2.out.trans (b3.mono C2.out.size))
  clear hw3 b3 C2
  have FO : Hid ((at1 = none ∧ ct1 = 0 ∧ K = 0) ∨ ∃ g, at1 = some ⟨g, 0, none⟩) := Lib.hid (by
    rcases OJ.out.2 with ⟨e1, e2⟩ | ⟨g, cap, cur, e1, _⟩
    · simp only [Value.slice.injEq] at e1
      exact Or.inl ⟨e1.1, e1.2.2, e2⟩
    · simp only [Value.slice.injEq, true_and] at e1
      exact Or.inr ⟨g, e1.1⟩)
  have LTI : Hid (((T.take i).map (Value.int .i64)).length = i * 1) := Lib.hid (by rw [List.length_map, List.length_take, HL.out]; omega)
  have LTD : Hid (((T.drop i).map (Value.int .i64)).length = (K - i) * 1) := Lib.hid (by rw [List.length_map, List.length_drop, HL.out]; omega)
  have hic : i ≤ ct1 := by omega
  obtain ⟨L1, hL1⟩ : ∃ L : List Int, L = T.take i ++ [0, 0] := ⟨_, rfl⟩
  have HL1 := Lib.hid hL1
  clear hL1
  go_upto_region 4 with (fail)
  go_cut [12] from 35 to 44 (fun s12 wx => FlR (T.take i ++ [0, 0] ++ T.drop i) (K + 2) w3 wx s12)
  case first =>
    rcases FO.out with ⟨rfl, rfl, rfl⟩ | ⟨g, rfl⟩
    · obtain rfl : i = 0 := by omega
      have TN : Hid (T = []) := Lib.hid (List.eq_nil_of_length_eq_zero HL.out)
      have NONE : Hid True := Lib.hid trivial
      clear him him2 hkm hkm2 hm hm4 hm5 cu1 cu2 cm1 ck ci
      go_region_held3 (fun _ => True) (trivial) (first
        | ((have _h := O7; refine step_append_rows rfl (.tmp 40) (.tmp 43) 25 rfl w3.heap.size 3 i0 (.int .i64 0) 1 8 Try.underlying25 hi hz0 hz1 hz2 rfl (by decide) (.slice a7 2 c7) 2 [.int .i64 0, .int .i64 0] (by rfl) O7.out (.slice none 0 0) 0 0 [] (by rfl) (World.ownsRow_nil _ _ _ _) (fun u hu => by cases hu) (by unfold maxLen; omega) (by omega) B7.out.size ?_; intro v8 w8 hown hgrow hfr; have O8 : Hid (OwnJ w8 w3.heap.size v8 [0, 0] 2) := Lib.hid (by simpa [OwnJ] using hown); have B8 : Hid (Below w3.heap.size w3 w8) := Lib.hid (B7.out.grown hgrow B7.out.size (fun q hq => (World.ownsRow.lt O7.out q hq).1)); clear hown hgrow hfr))
        | ((have _h := O6; refine step_append_fresh rfl (.tmp 38) (.tmp 39) 25 rfl w3.heap.size 3 i0 (.int .i64 0) 1 8 Try.underlying25 hi hz0 hz1 hz2 rfl (by decide) (.slice a6 0 c6) 0 [] (by rfl) O6.out ⟨w3.heap.size, 0, none⟩ 2 2 [.int .i64 0, .int .i64 0] (by rfl) rfl (pair_news15 _ _ _ _ 3 ((G6.out.block _ (by simp)).trans (heap_alloc_new w3.drew _))) (pair_one15 _ _) (by unfold maxLen; omega) (by omega) (B6.out.size) ?_; intro v7 w7 hown hgrow hfr; have o7 : OwnJ w7 w3.heap.size v7 ([] ++ [0, 0]) (0 + 2) := OwnJ.two hown; obtain ⟨a7, c7, e7, -⟩ := row_form15 o7; subst e7; have O7 := Lib.hid o7; have B7 : Hid (Below w3.heap.size w3 w7) := Lib.hid (B6.out.grown hgrow B6.out.size (fun q hq => (World.ownsRow.lt O6.out q hq).1)); clear hown hgrow hfr o7))
        | ((have _h := O6; refine step_append_fresh rfl (.tmp 38) (.tmp 39) 25 rfl w3.heap.size 3 i0 (.int .i64 0) 1 8 Try.underlying25 hi hz0 hz1 hz2 rfl (by decide) (.slice a6 0 c6) 0 [] (by rfl) (row_below15 O6.out (below_alloc15 _ _) (Nat.le_refl _)) ⟨w6.heap.size, 0, none⟩ 2 2 [.int .i64 0, .int .i64 0] (by rfl) rfl (pair_news15 _ _ _ _ 3 (heap_alloc_new w6 _)) (pair_one15 _ _) (by unfold maxLen; omega) (by omega) (by have := B6.out.size; simp; omega) ?_; intro v7 w7 hown hgrow hfr; have o7 : OwnJ w7 w3.heap.size v7 ([] ++ [0, 0]) (0 + 2) := OwnJ.two hown; obtain ⟨a7, c7, e7, -⟩ := row_form15 o7; subst e7; have O7 := Lib.hid o7; have B7 : Hid (Below w3.heap.size w3 w7) := Lib.hid ((B6.out.alloc B6.out.size _).grown hgrow (by have := B6.out.size; simp; omega) (fun q hq => (World.ownsRow.lt O6.out q hq).1)); clear hown hgrow hfr o7))
        | ((have _h := NONE; refine step_append_rows rfl (.const (.slice none 0 0)) (.tmp 37) 25 rfl w3.heap.size 3 i0 (.int .i64 0) 1 8 Try.underlying25 hi hz0 hz1 hz2 rfl (by decide) (.slice none 0 0) 0 [] (by rfl) (World.ownsRow_nil _ _ _ _) (.slice none 0 0) 0 0 [] (by rfl) (World.ownsRow_nil _ _ _ _) (fun u hu => by cases hu) (by unfold maxLen; omega) (by omega) (by first | exact Nat.le_refl _ | simp) ?_; intro v6 w6 hown hgrow hfr; have o6 : OwnJ w6 w3.heap.size v6 [] 0 := (by simpa [OwnJ] using hown); obtain ⟨a6, c6, e6, -⟩ := row_form15 o6; subst e6; have O6 := Lib.hid o6; have G6 := Lib.hid ((Below.refl _ _).grown hgrow (Nat.le_refl _) (fun q hq => by cases hq)); have B6 : Hid (Below w3.heap.size w3 w6) := Lib.hid (Below.grown (by first | exact (Below.refl _ _).drew | exact ((Below.refl _ _).drew).alloc (by simp) _ | exact Below.refl _ _) hgrow (by first | exact Nat.le_refl _ | simp) (fun q hq => by cases hq)); clear hown hgrow hfr o6)))
      all_goals
        go_wp2_with fail
        go_meet
        exact ⟨by rw [TN.out]; exact O8.out, B8.out⟩
    · have HTI : Hid (∀ wq, Below w3.heap.size w3 wq → ZiAt wq (.slice (some ⟨g, 0, none⟩) i ct1) (T.take i) i) := Lib.hid (fun wq o => ((ZT.out.take hiK).1).below (C3.out.trans (o.mono C3.out.size)) (Nat.le_refl _))
      obtain ⟨od, had, HTD⟩ := drop_at15 (ZT.out) hiK hct
      have HTD := Lib.hid (fun wq (o : Below w3.heap.size w3 wq) => (HTD.below (C3.out.trans (o.mono C3.out.size)) (Nat.le_refl _)))
      have HAD := Lib.hid had
      clear him him2 hkm hkm2 hm hm4 hm5 cu1 cu2 cm1 ck
      go_region_held3 (fun _ => True) (trivial) (first
        | ((have _h := O7; refine step_append_fresh rfl (.tmp 40) (.tmp 43) 25 rfl w3.heap.size 3 i0 (.int .i64 0) 1 8 Try.underlying25 hi hz0 hz1 hz2 rfl (by decide) (.slice a7 (i + 2) c7) (i + 2) (L1.map (Value.int .i64)) (by rfl) O7.out ⟨g, od, none⟩ (K - i) (ct1 - i) ((T.drop i).map (Value.int .i64)) (by first | exact congrArg (fun a => Value.slice a (K - i) (ct1 - i)) HAD.out | rfl) LTD.out (zi_cells15 (HTD.out _ B7.out)) (ints_one15 _) (by unfold maxLen; omega) (by omega) B7.out.size ?_; intro v8 w8 hown hgrow hfr; have O8 : Hid (OwnJ w8 w3.heap.size v8 (T.take i ++ [0, 0] ++ T.drop i) (K + 2)) := Lib.hid (by have e : i + 2 + (K - i) = K + 2 := (by omega); rw [e, ← List.map_append, HL1.out] at hown; exact hown); have B8 : Hid (Below w3.heap.size w3 w8) := Lib.hid (B7.out.grown hgrow B7.out.size (fun q hq => (World.ownsRow.lt O7.out q hq).1)); clear hown hgrow hfr))
        | ((have _h := O6; refine step_append_fresh rfl (.tmp 38) (.tmp 39) 25 rfl w3.heap.size 3 i0 (.int .i64 0) 1 8 Try.underlying25 hi hz0 hz1 hz2 rfl (by decide) (.slice a6 i c6) i ((T.take i).map (Value.int .i64)) (by rfl) O6.out ⟨w3.heap.size, 0, none⟩ 2 2 [.int .i64 0, .int .i64 0] (by rfl) rfl (pair_news15 _ _ _ _ 3 ((G6.out.block _ (by simp)).trans (heap_alloc_new w3.drew _))) (pair_one15 _ _) (by unfold maxLen; omega) (by omega) (B6.out.size) ?_; intro v7 w7 hown hgrow hfr; have o7 : OwnJ w7 w3.heap.size v7 L1 (i + 2) := (by rw [HL1.out]; exact OwnJ.two hown); obtain ⟨a7, c7, e7, -⟩ := row_form15 o7; subst e7; have O7 := Lib.hid o7; have B7 : Hid (Below w3.heap.size w3 w7) := Lib.hid (B6.out.grown hgrow B6.out.size (fun q hq => (World.ownsRow.lt O6.out q hq).1)); clear hown hgrow hfr o7))
        | ((have _h := O6; refine step_append_fresh rfl (.tmp 38) (.tmp 39) 25 rfl w3.heap.size 3 i0 (.int .i64 0) 1 8 Try.underlying25 hi hz0 hz1 hz2 rfl (by decide) (.slice a6 i c6) i ((T.take i).map (Value.int .i64)) (by rfl) (row_below15 O6.out (below_alloc15 _ _) (Nat.le_refl _)) ⟨w6.heap.size, 0, none⟩ 2 2 [.int .i64 0, .int .i64 0] (by rfl) rfl (pair_news15 _ _ _ _ 3 (heap_alloc_new w6 _)) (pair_one15 _ _) (by unfold maxLen; omega) (by omega) (by have := B6.out.size; simp; omega) ?_; intro v7 w7 hown hgrow hfr; have o7 : OwnJ w7 w3.heap.size v7 L1 (i + 2) := (by rw [HL1.out]; exact OwnJ.two hown); obtain ⟨a7, c7, e7, -⟩ := row_form15 o7; subst e7; have O7 := Lib.hid o7; have B7 : Hid (Below w3.heap.size w3 w7) := Lib.hid ((B6.out.alloc B6.out.size _).grown hgrow (by have := B6.out.size; simp; omega) (fun q hq => (World.ownsRow.lt O6.out q hq).1)); clear hown hgrow hfr o7))
        | ((have _h := HTI; refine step_append_fresh rfl (.const (.slice none 0 0)) (.tmp 37) 25 rfl w3.heap.size 3 i0 (.int .i64 0) 1 8 Try.underlying25 hi hz0 hz1 hz2 rfl (by decide) (.slice none 0 0) 0 [] (by rfl) (World.ownsRow_nil _ _ _ _) ⟨g, 0, none⟩ i ct1 ((T.take i).map (Value.int .i64)) (by rfl) LTI.out (zi_cells15 (HTI.out _ (by first | exact (Below.refl _ _).drew | exact ((Below.refl _ _).drew).alloc (by simp) _ | exact Below.refl _ _))) (ints_one15 _) (by unfold maxLen; omega) (by omega) (by first | exact Nat.le_refl _ | simp) ?_; intro v6 w6 hown hgrow hfr; have o6 : OwnJ w6 w3.heap.size v6 (T.take i) i := (by simpa [OwnJ] using hown); obtain ⟨a6, c6, e6, -⟩ := row_form15 o6; subst e6; have O6 := Lib.hid o6; have G6 := Lib.hid ((Below.refl _ _).grown hgrow (Nat.le_refl _) (fun q hq => by cases hq)); have B6 : Hid (Below w3.heap.size w3 w6) := Lib.hid (Below.grown (by first | exact (Below.refl _ _).drew | exact ((Below.refl _ _).drew).alloc (by simp) _ | exact Below.refl _ _) hgrow (by first | exact Nat.le_refl _ | simp) (fun q hq => by cases hq)); clear hown hgrow hfr o6)))
      all_goals
        go_wp2_with fail
        go_meet
        exact ⟨O8.out, B8.out⟩
  case rest =>
    obtain ⟨hF, hFB⟩ := hcut
    obtain ⟨w4, hw4⟩ : ∃ W, W = wc := ⟨_, rfl⟩
    subst hw4
    obtain ⟨a12, c12, e12, -⟩ := row_form15 hF
    subst e12
    have F4 := Lib.hid hF
    have C4 := Lib.hid (C3.out.trans (hFB.mono C3.out.size))
    clear hF hFB him him2 hic
    have hkc : k ≤ ct1 := by omega
    have LTI2 : Hid (((T.take k).map (Value.int .i64)).length = k * 1) := Lib.hid (by rw [List.length_map, List.length_take, HL.out]; omega)
    have LTD2 : Hid (((T.drop k).map (Value.int .i64)).length = (K - k) * 1) := Lib.hid (by rw [List.length_map, List.length_drop, HL.out]; omega)
    go_upto_region 6 with (fail)
    clear hkm hkm2 hm hm4 hm5 cu1 cu2 cm1 ci ck
    go_cut [14] from 51 to 58 (fun s14 wx => FlR (T.drop k ++ T.take k) K w4 wx s14)
    case first =>
      rcases FO.out with ⟨rfl, rfl, rfl⟩ | ⟨g, rfl⟩
      · obtain rfl : k = 0 := by omega
        have TN : Hid (T = []) := Lib.hid (List.eq_nil_of_length_eq_zero HL.out)
        have NONE : Hid True := Lib.hid trivial
        go_region_held3 (fun _ => True) (trivial) (first
          | ((have _h := O6; refine step_append_rows rfl (.tmp 54) (.tmp 57) 25 rfl w4.heap.size 3 i0 (.int .i64 0) 1 8 Try.underlying25 hi hz0 hz1 hz2 rfl (by decide) (.slice a6 0 c6) 0 [] (by rfl) O6.out (.slice none 0 0) 0 0 [] (by rfl) (World.ownsRow_nil _ _ _ _) (fun u hu => by cases hu) (by unfold maxLen; omega) (by omega) B6.out.size ?_; intro v8 w8 hown hgrow hfr; have O8 : Hid (OwnJ w8 w4.heap.size v8 [] 0) := Lib.hid (by simpa [OwnJ] using hown); have B8 : Hid (Below w4.heap.size w4 w8) := Lib.hid (B6.out.grown hgrow B6.out.size (fun q hq => (World.ownsRow.lt O6.out q hq).1)); clear hown hgrow hfr))
          | ((have _h := NONE; refine step_append_rows rfl (.const (.slice none 0 0)) (.tmp 53) 25 rfl w4.heap.size 3 i0 (.int .i64 0) 1 8 Try.underlying25 hi hz0 hz1 hz2 rfl (by decide) (.slice none 0 0) 0 [] (by rfl) (World.ownsRow_nil _ _ _ _) (.slice none 0 0) 0 0 [] (by rfl) (World.ownsRow_nil _ _ _ _) (fun u hu => by cases hu) (by unfold maxLen; omega) (by omega) (by first | exact Nat.le_refl _ | simp) ?_; intro v6 w6 hown hgrow hfr; have o6 : OwnJ w6 w4.heap.size v6 [] 0 := (by simpa [OwnJ] using hown); obtain ⟨a6, c6, e6, -⟩ := row_form15 o6; subst e6; have O6 := Lib.hid o6; have B6 : Hid (Below w4.heap.size w4 w6) := Lib.hid (Below.grown (by first | exact (Below.refl _ _).drew | exact Below.refl _ _) hgrow (by first | exact Nat.le_refl _ | simp) (fun q hq => by cases hq)); clear hown hgrow hfr o6)))
        all_goals
          go_wp2_with fail
          go_meet
          exact ⟨by rw [TN.out]; exact O8.out, B8.out⟩
      · have HTI : Hid (∀ wq, Below w4.heap.size w4 wq → ZiAt wq (.slice (some ⟨g, 0, none⟩) k ct1) (T.take k) k) := Lib.hid (fun wq o => ((ZT.out.take hkK).1).below (C4.out.trans (o.mono C4.out.size)) (Nat.le_refl _))
        obtain ⟨od, had, HTD⟩ := drop_at15 (ZT.out) hkK hct
        have HTD := Lib.hid (fun wq (o : Below w4.heap.size w4 wq) => (HTD.below (C4.out.trans (o.mono C4.out.size)) (Nat.le_refl _)))
        have HAD := Lib.hid had
        go_region_held3 (fun _ => True) (trivial) (first
          | ((have _h := O6; refine step_append_fresh rfl (.tmp 54) (.tmp 57) 25 rfl w4.heap.size 3 i0 (.int .i64 0) 1 8 Try.underlying25 hi hz0 hz1 hz2 rfl (by decide) (.slice a6 (K - k) c6) (K - k) ((T.drop k).map (Value.int .i64)) (by rfl) O6.out ⟨g, 0, none⟩ k ct1 ((T.take k).map (Value.int .i64)) (by rfl) LTI2.out (zi_cells15 (HTI.out _ B6.out)) (ints_one15 _) (by unfold maxLen; omega) (by omega) B6.out.size ?_; intro v8 w8 hown hgrow hfr; have O8 : Hid (OwnJ w8 w4.heap.size v8 (T.drop k ++ T.take k) K) := Lib.hid (by have e : K - k + k = K := (by omega); rw [e, ← List.map_append] at hown; exact hown); have B8 : Hid (Below w4.heap.size w4 w8) := Lib.hid (B6.out.grown hgrow B6.out.size (fun q hq => (World.ownsRow.lt O6.out q hq).1)); clear hown hgrow hfr))
          | ((have _h := HTD; refine step_append_fresh rfl (.const (.slice none 0 0)) (.tmp 53) 25 rfl w4.heap.size 3 i0 (.int .i64 0) 1 8 Try.underlying25 hi hz0 hz1 hz2 rfl (by decide) (.slice none 0 0) 0 [] (by rfl) (World.ownsRow_nil _ _ _ _) ⟨g, od, none⟩ (K - k) (ct1 - k) ((T.drop k).map (Value.int .i64)) (by first | exact congrArg (fun a => Value.slice a (K - k) (ct1 - k)) HAD.out | rfl) LTD2.out (zi_cells15 (HTD.out _ (by first | exact (Below.refl _ _).drew | exact Below.refl _ _))) (ints_one15 _) (by unfold maxLen; omega) (by omega) (by first | exact Nat.le_refl _ | simp) ?_; intro v6 w6 hown hgrow hfr; have o6 : OwnJ w6 w4.heap.size v6 (T.drop k) (K - k) := (by simpa [OwnJ] using hown); obtain ⟨a6, c6, e6, -⟩ := row_form15 o6; subst e6; have O6 := Lib.hid o6; have B6 : Hid (Below w4.heap.size w4 w6) := Lib.hid (Below.grown (by first | exact (Below.refl _ _).drew | exact Below.refl _ _) hgrow (by first | exact Nat.le_refl _ | simp) (fun q hq => by cases hq)); clear hown hgrow hfr o6)))
        all_goals
          go_wp2_with fail
          go_meet
          exact ⟨O8.out, B8.out⟩
    case rest =>
      obtain ⟨hR, hRB⟩ := hcut
      obtain ⟨w5, hw5⟩ : ∃ W, W = wc := ⟨_, rfl⟩
      subst hw5
      obtain ⟨a14, c14, e14, -⟩ := row_form15 hR
      subst e14
      have R5 := Lib.hid hR
      have C5 := Lib.hid (C4.out.trans (hRB.mono C4.out.size))
      have D5 := Lib.hid hRB
      clear hR hRB
      have GF : GoodT (T.take i ++ [0, 0] ++ T.drop i) := good_app (good_app (good_take15 HG.out i) good_zeros) (good_drop HG.out i)
      have GR : GoodT (T.drop k ++ T.take k) := good_app (good_drop HG.out k) (good_take15 HG.out k)
      have YF := flat_yes T i
      have YR := round_yes T k
      rw [HZ.out] at YF YR
      obtain ⟨⟨⟨f0, f1⟩, ⟨f2, f3⟩, zf⟩, hpf⟩ : ∃ p, prA (T.take i ++ [0, 0] ++ T.drop i) = p := ⟨_, rfl⟩
      obtain ⟨⟨⟨r0, r1⟩, ⟨r2, r3⟩, zr⟩, hpr⟩ : ∃ p, prA (T.drop k ++ T.take k) = p := ⟨_, rfl⟩
      obtain rfl : zf = z := by rw [hpf] at YF; exact YF
      obtain rfl : zr = zf := by rw [hpr] at YR; exact YR
      have PF : Hid (∀ wq, Below w5.heap.size w5 wq → Calls Try.prog 12 #[.slice a12 (K + 2) c12] wq fun e w' => e = .returned (.tuple #[.agg #[.int .i64 (f0 : Int), .int .i64 (f1 : Int)], .agg #[.int .i64 (f2 : Int), .int .i64 (f3 : Int)], .bool zr]) ∧ Below wq.heap.size wq w') := Lib.hid (fun wq o => by
        have h := Pair15 (.slice a12 (K + 2) c12) (T.take i ++ [0, 0] ++ T.drop i) (K + 2) wq (F4.out.zs.below (D5.out.trans (o.mono D5.out.size)) (Nat.le_refl _)) (by omega)
        rw [if_pos (good_iff.2 GF), hpf] at h
        exact h)
      have PR : Hid (∀ wq, Below w5.heap.size w5 wq → Calls Try.prog 12 #[.slice a14 K c14] wq fun e w' => e = .returned (.tuple #[.agg #[.int .i64 (r0 : Int), .int .i64 (r1 : Int)], .agg #[.int .i64 (r2 : Int), .int .i64 (r3 : Int)], .bool zr]) ∧ Below wq.heap.size wq w') := Lib.hid (fun wq o => by
        have h := Pair15 (.slice a14 K c14) (T.drop k ++ T.take k) K wq (R5.out.zs.below o (Nat.le_refl _)) (by omega)
        rw [if_pos (good_iff.2 GR), hpr] at h
        exact h)
      have CF := Lib.hid (fun wq (o : Below w5.heap.size w5 wq) => corners15 (.slice a12 (K + 2) c12) (T.take i ++ [0, 0] ++ T.drop i) (K + 2) wq (F4.out.zs.below (D5.out.trans (o.mono D5.out.size)) (Nat.le_refl _)) (by omega))
      have CT := Lib.hid (fun wq (o : Below w5.heap.size w5 wq) => corners15 (.slice at1 K ct1) T K wq (ZT.out.1.below (C5.out.trans (o.mono C5.out.size)) (Nat.le_refl _)) (by omega))
      have LE : Hid ((crns (T.take i ++ [0, 0] ++ T.drop i)).length = (crns T).length) := Lib.hid (crns_flat T i 2)
      clear GF GR YF YR hpf hpr
      go_upto_region 8 with (go_at_call 12; refine (PF.out _ (Below.refl _ _)).mono ?_; rintro e w6 ⟨rfl, b6⟩; have B6 := Lib.hid b6; clear b6)
      obtain ⟨w7, hw7⟩ : ∃ W, (w6.alloc (.cells #[.int .i64 (f0 : Int), .int .i64 (f1 : Int)] 24)).alloc (.cells #[.int .i64 (f2 : Int), .int .i64 (f3 : Int)] 24) = W := ⟨_, rfl⟩
      obtain ⟨-, b7⟩ := two_boxes hw7
      rw [hw7]
      have B7 := Lib.hid (B6.out.trans (b7.mono B6.out.size))
      clear hw7 b7 B6 PF
      go_upto_region 9 with (go_at_call 12; refine (PR.out _ B7.out).mono ?_; rintro e w8 ⟨rfl, b8⟩; have B8 := Lib.hid (B7.out.trans (b8.mono B7.out.size)); clear b8)
      obtain ⟨w9, hw9⟩ : ∃ W, (w8.alloc (.cells #[.int .i64 (r0 : Int), .int .i64 (r1 : Int)] 24)).alloc (.cells #[.int .i64 (r2 : Int), .int .i64 (r3 : Int)] 24) = W := ⟨_, rfl⟩
      obtain ⟨-, b9⟩ := two_boxes hw9
      rw [hw9]
      have B9 := Lib.hid (B8.out.trans (b9.mono B8.out.size))
      clear hw9 b9 B8 B7 PR
      have qz : (zr == zr) = true := by cases zr <;> rfl
      have qn : ∀ n : Int, (n == n) = true := fun n => by rw [beq_iff_eq]
      go_wp2_with (first
        | (go_at_call 7; have _z := E2; refine (CT.out _ E2.out).mono ?_; rintro e w12 ⟨n2, l2, rfl, hn2, o2, b12⟩; obtain ⟨k2, d2, e2, -⟩ := o2.form; subst e2; have hnn : n2 = n1 := (by rw [← o2.1, ← LE.out]; exact HN1.out); subst hnn; have E3 := Lib.hid (E2.out.trans (b12.mono E2.out.size)); clear b12 o2)
        | (go_at_call 7; have _z := E1; refine (CF.out _ E1.out).mono ?_; rintro e w11 ⟨n1, l1, rfl, hn1, o1, b11⟩; obtain ⟨k1, d1, e1, -⟩ := o1.form; subst e1; have HN1 := Lib.hid o1.1; have E2 := Lib.hid (E1.out.trans (b11.mono E1.out.size)); clear b11 o1)
        | (go_at_call 15; refine (WK.out _).mono ?_; rintro e w10 ⟨rfl, b10⟩; have E1 := Lib.hid (B9.out.trans (b10.mono B9.out.size)); clear b10))
      go_ret
      exact ⟨rfl, B1.out.trans ((C5.out.trans (E3.out.mono C5.out.size)).mono B1.out.size)⟩
end Go.Proofs.Ytkakeakdgidigaa
