/-
  HeapLeast: the walk: whatever is pushed and popped, the top is never greater than anything that is there. Conditions: the acts lie in one block, below the heap's end.
-/
import Derived.Test.YtlhmlejkfgejiaaHeapPlaysW
import Derived.Maps.RangeWalk
import Derived.Maps.OwnOps
namespace Go.Proofs.Ytlhmlejkfgejiaa
open Go.RowKit Go.Proofs.Ytlhmlejkfgejiaa.HeapM Go.Maps

/-- How often x is in L. -/
def cnt (x : Int) (L : List Int) : Int := (L.count x : Int)
theorem cnt_bd (x : Int) (L : List Int) : 0 ≤ cnt x L ∧ cnt x L ≤ L.length := by
  have := List.count_le_length (a := x) (l := L)
  unfold cnt
  omega
theorem cnt_mem {x : Int} {L : List Int} (h : 0 < cnt x L) : x ∈ L := by
  unfold cnt at h
  exact List.count_pos_iff.1 (by omega)
theorem cnt_snoc (x k : Int) (L : List Int) : cnt x (L ++ [k]) = cnt x L + if x = k then 1 else 0 := by
  unfold cnt
  rw [List.count_append, List.count_singleton]
  by_cases h : x = k
  · subst h; simp
  · have : (k == x) = false := by simpa using Ne.symm h
    simp [h, this]
theorem cnt_erase (x : Int) (L : List Int) (a : Nat) (ha : a < L.length) : cnt x (L.eraseIdx a) = cnt x L - if x = L.getD a default then 1 else 0 := by
  have h1 := (getElem_cons_erase_perm ha).count_eq x
  rw [List.count_cons] at h1
  have e : L.getD a default = L[a] := by rw [List.getD_eq_getElem?_getD, List.getElem?_eq_getElem ha]; rfl
  rw [e]
  unfold cnt
  by_cases h : x = L[a]
  · rw [if_pos h]
    simp [h] at h1 ⊢
    omega
  · rw [if_neg h]
    have : (L[a] == x) = false := by simpa using Ne.symm h
    rw [this] at h1
    simp at h1
    omega

theorem first_le {L : List Int} {a : Nat} (h : First ltI L a) : ∀ y ∈ L, L.getD a default ≤ y := by
  intro y hy
  obtain ⟨b, hb, e⟩ := List.getElem_of_mem hy
  have hg : L.getD b default = y := by rw [List.getD_eq_getElem?_getD, List.getElem?_eq_getElem hb, e]; rfl
  rcases Nat.lt_trichotomy b a with h1 | h1 | h1
  · have := (h.2 b hb).1 h1
    rw [hg] at this
    simp only [ltI, decide_eq_true_eq] at this
    omega
  · subst h1; rw [hg]; exact Int.le_refl _
  · have := (h.2 b hb).2 h1
    rw [hg] at this
    simp only [ltI, decide_eq_false_iff_not] at this
    omega
theorem getD_mem {L : List Int} {a : Nat} (h : a < L.length) : L.getD a default ∈ L := by
  rw [List.getD_eq_getElem?_getD, List.getElem?_eq_getElem h]
  exact List.getElem_mem h
theorem first_min {L : List Int} {a a' : Nat} {k : Int} (h : First ltI L a) (h' : First ltI (L ++ [k]) a') : (L ++ [k]).getD a' default = min (L.getD a default) k := by
  have h1 := first_le h' (L.getD a default) (List.mem_append.2 (Or.inl (getD_mem h.1)))
  have h2 := first_le h' k (List.mem_append.2 (Or.inr (by simp)))
  have h3 := getD_mem h'.1
  rcases List.mem_append.1 h3 with h3 | h3
  · have := first_le h _ h3
    omega
  · simp only [List.mem_singleton] at h3
    omega

theorem first_one {k : Int} {a : Nat} (h : First ltI [k] a) : [k].getD a default = k := by
  have := h.1
  simp at this
  subst this
  rfl
theorem first_ex {α : Type} [Inhabited α] {lt : α → α → Bool} (hO : Ord lt) (L : List α) (h : 0 < L.length) : ∃ a, First lt L a := by
  have key : ∀ k, 0 < k → k ≤ L.length → ∃ a, FirstN lt L k a := by
    intro k
    induction k with
    | zero => intro h; omega
    | succ k ih =>
      intro _ hk
      by_cases e : k = 0
      · subst e; exact ⟨0, firstN_one L⟩
      · obtain ⟨a, ha⟩ := ih (by omega) (by omega)
        cases hl : lt (L.getD k default) (L.getD a default)
        · exact ⟨a, firstN_same ha hl⟩
        · exact ⟨k, firstN_next hO ha hl⟩
  exact key L.length h (Nat.le_refl _)

/-- The map tells how often each number is in L. -/
structure Tells (D : DataW Unit) (L : List Int) : Prop where
  map : IsMap D
  at_ : ∀ x, D.atKey (.int .i64 x) (.lit (.int .i64 0)) = .lit (.int .i64 (cnt x L))
theorem Tells.c {D : DataW Unit} {L : List Int} (h : Tells D L) {x c : Int} (hc : D.atKey (.int .i64 x) (.lit (.int .i64 0)) = .lit (.int .i64 c)) : c = cnt x L := by
  rw [h.at_ x] at hc
  injection hc with hc
  injection hc with _ hc
  exact hc.symm
theorem Tells.put {D : DataW Unit} {L L' : List Int} (h : Tells D L) {x c : Int} (hc : c = cnt x L') (ho : ∀ y, y ≠ x → cnt y L' = cnt y L) (hm : IsMap (D.put (.int .i64 x) (.lit (.int .i64 c)))) : Tells (D.put (.int .i64 x) (.lit (.int .i64 c))) L' := by
  refine ⟨hm, fun y => ?_⟩
  by_cases e : y = x
  · subst e
    rw [atKey_put_same (k := .int .i64 y) h.map trivial, hc]
  · rw [atKey_put_other (by intro h'; apply e; injection h'), h.at_ y, ho y e]

theorem lawI : Keyed Try.prog 3 := int_keyed Try.underlying3
theorem zeroI (w : World) : (zeroValue 3).run Try.prog w = .ok (.int .i64 0) w := by kernel_rfl

/-- The map's block is none of the heap's. -/
theorem foot_map {w : World} {p : Nat} {v : Value} {L : List Int} {c : Int} {B n : Nat} {D : DataW Unit} {lt : Int → Int → Bool} {fn : Nat} (h : HI.Is lt fn p w v L c) (h' : w.ownsMap Try.prog 3 (plainElem Try.prog 3) B n D) : ∀ b, HI.Foot p v b → b ≠ B := by
  obtain ⟨l, h, _⟩ := h
  obtain ⟨es, clock, hb, _⟩ := h'
  rintro b (rfl | hv) rfl
  · rw [h.blk] at hb; cases hb
  · rcases h.row.2 with ⟨rfl, _⟩ | ⟨g, cap, cur, rfl, _, hh, _⟩
    · simp [Value.ownBlock] at hv
    · simp only [Value.ownBlock, Option.some.injEq] at hv
      subst hv
      rw [hh] at hb; cases hb
theorem ownsMap_out {w w' : World} {B n : Nat} {D : DataW Unit} {S : Nat → Prop} (h : w.ownsMap Try.prog 3 (plainElem Try.prog 3) B n D) (o : Out S w w') (hS : ¬ S B) : w'.ownsMap Try.prog 3 (plainElem Try.prog 3) B n D := by
  have hlt := h.lt
  obtain ⟨es, clock, hb, r⟩ := h
  exact ⟨es, clock, (o.block B hlt hS).trans hb, r⟩
theorem ownsMap_below {w w' : World} {B n : Nat} {D : DataW Unit} (h : w.ownsMap Try.prog 3 (plainElem Try.prog 3) B n D) (o : Below w.heap.size w w') : w'.ownsMap Try.prog 3 (plainElem Try.prog 3) B n D :=
  ownsMap_out (S := fun _ => False) h (Out.ofBelow o) (fun e => e)

theorem map_step {w w' : World} {p : Nat} {v : Value} {L : List Int} {c : Int} {B n : Nat} {D : DataW Unit} {lt : Int → Int → Bool} {fn : Nat} (h : HI.Is lt fn p w v L c) (h' : w.ownsMap Try.prog 3 (plainElem Try.prog 3) B n D) (o : Out (HI.Foot p v) w w') : w'.ownsMap Try.prog 3 (plainElem Try.prog 3) B n D :=
  ownsMap_out h' o (fun e => foot_map h h' B e rfl)
theorem heap_step {w w' : World} {p : Nat} {v : Value} {L : List Int} {c : Int} {B n : Nat} {D : DataW Unit} {lt : Int → Int → Bool} {fn : Nat} (h : HI.Is lt fn p w v L c) (h' : w.ownsMap Try.prog 3 (plainElem Try.prog 3) B n D) (hg : w.grownBy w' (some B)) : HI.Is lt fn p w' v L c :=
  h.out (S := fun b => b = B) (Out.grown (Out.refl _ _) hg (fun k _ e => by cases e; rfl)) (fun b hb e => foot_map h h' b hb e)
theorem mine_step {w0 w w' : World} {p : Nat} {v : Value} {B A : Nat} (h : Mine A w0 w p v) (hg : w.grownBy w' (some B)) (hA : A ≤ B) : Mine A w0 w' p v :=
  h.other (S := fun b => b = B) (Out.grown (Out.refl _ _) hg (fun k _ e => by cases e; rfl)) (fun b _ e => by omega)
theorem wf64 {x : Int} (h : -1000000 ≤ x ∧ x ≤ 1000000) : (Lit.int .i64 x).wf = true := WalkArith.wf_i64 (by omega)

def LeastRel2 (w0 wr : World) (m B : Nat) (iv : Value) : Prop :=
  ∃ (k n : Nat) (v : Value) (L : List Int) (c : Int) (D : DataW Unit), iv = .int .i64 k ∧ k ≤ m ∧ c ≤ k ∧ n ≤ k ∧ HI.Is ltI 30 w0.heap.size wr v L c ∧ Mine w0.heap.size w0 wr w0.heap.size v ∧
    wr.ownsMap Try.prog 3 (plainElem Try.prog 3) B n D ∧ Tells D L ∧ ∀ y ∈ L, -128 ≤ y ∧ y ≤ 127

set_option maxHeartbeats 4000000 in
set_option maxRecDepth 100000 in
theorem leastlaw (b o n cap m : Nat) (Dt : Nat → Int × Int × Int) (w : World) (hb : b < w.heap.size) (hn : n ≤ cap) (_hc : cap ≤ 9223372036854775807) (hm1 : m ≤ n) (hm2 : m ≤ 100) (hmin : min (n : Int) 100 = (m : Int))
    (h0 : ∀ k, k < n → w.cell? ⟨b, o + k * 3, none⟩ = some (.int .u8 (Dt k).1)) (h1 : ∀ k, k < n → w.cell? ⟨b, o + k * 3 + 1, none⟩ = some (.int .i8 (Dt k).2.1)) (h2 : ∀ k, k < n → w.cell? ⟨b, o + k * 3 + 2, none⟩ = some (.int .i8 (Dt k).2.2))
    (r0 : ∀ k, k < n → 0 ≤ (Dt k).1 ∧ (Dt k).1 ≤ 255) (r1 : ∀ k, k < n → -128 ≤ (Dt k).2.1 ∧ (Dt k).2.1 ≤ 127) :
    Calls Try.prog 6 #[.slice (some ⟨b, o, none⟩) n cap] w fun e w' => e = .returned (.bool true) ∧ Below w.heap.size w w' := by
  have hmm := @run_makeMap Try.prog
  have H0 := Lib.hid h0
  have H1 := Lib.hid h1
  have H2 := Lib.hid h2
  have R0 := Lib.hid r0
  have R1 := Lib.hid r1
  clear h0 h1 h2 r0 r1
  go_enter Try.func6, Try.ntmps6
  go_wp2_with ((go_at_call 29; refine (HI.new (lt := ltI) _).mono ?_; rintro e w1 ⟨rfl, h1, b1⟩; have I1 := Lib.hid h1; have M1 : Hid (Mine w.heap.size w w1 w.heap.size (.slice none 0 0)) := ⟨Nat.le_refl _, b1, Nat.le_refl _, fun b hb => by simp [Value.ownBlock] at hb⟩; have hs1 := b1.size; clear h1 b1))
  clear hmin hmm
  go_loopw [24] (fun iv wr => LeastRel2 w wr m w1.heap.size iv) (fun iv _ => m - (intOf iv).toNat)
  case atStart => exact ⟨0, 0, _, [], 0, .map [], rfl, by omega, by omega, by omega, I1.out.below ((Below.refl _ _).alloc (Nat.le_refl _) _), M1.out.quiet ((Below.refl _ _).alloc (Nat.le_refl _) _), World.ownsMap_made _ _ _ _, ⟨⟨[], rfl⟩, fun x => rfl⟩, fun y hy => by cases hy⟩
  case round =>
    clear I1 M1
    obtain ⟨k, nm, v, L, c, D, rfl, hk, hck, hnm, hI, hM, hO, hT, hR⟩ := hrel
    have HR := Lib.hid hR
    have I := Lib.hid hI
    have M := Lib.hid hM
    have OM := Lib.hid hO
    have T := Lib.hid hT
    have hwr := hM.below.size
    have FT := Lib.hid hI.foot
    have hLc := hI.room
    clear hI hM hO hT hR
    have IA : Hid (∀ ob, HI.Is ltI 30 w.heap.size (wr.alloc ob) v L c) := fun ob => I.out.below ((Below.refl _ _).alloc (Nat.le_refl _) _)
    have OMA : Hid (∀ ob, (wr.alloc ob).ownsMap Try.prog 3 (plainElem Try.prog 3) w1.heap.size nm D) := fun ob => OM.out.alloc ob
    have MA : Hid (∀ ob, Mine w.heap.size w (wr.alloc ob) w.heap.size v) := fun ob => M.out.quiet ((Below.refl _ _).alloc (Nat.le_refl _) _)
    by_cases hlt : k < m
    · have d0 := (M.out.below.cell (p := ⟨b, o + k * 3, none⟩) hb).trans (H0.out k (by omega))
      have d1 := (M.out.below.cell (p := ⟨b, o + k * 3 + 1, none⟩) hb).trans (H1.out k (by omega))
      have d2 := (M.out.below.cell (p := ⟨b, o + k * 3 + 2, none⟩) hb).trans (H2.out k (by omega))
      have q0 := R0.out k (by omega)
      have q1 := R1.out k (by omega)
      generalize Dt k = x at *
      obtain ⟨y0, y1, y2⟩ := x
      simp only at d0 d1 d2 q0 q1
      obtain ⟨q00, q01⟩ := q0
      obtain ⟨q10, q11⟩ := q1
      have hbr : b < wr.heap.size := by omega
      by_cases e2 : y0 % 3 = 0
      · have t2 : (y0 % 3 == 0) = true := beq_iff_eq.2 e2
        clear e2
        by_cases hne : L.length = 0
        · obtain rfl : L = [] := List.eq_nil_of_length_eq_zero hne
          clear hne hLc
          go_wp2_with (go_at_call 31; refine (HI.pop_none _ v c _ (I.out.below ((Below.refl _ _).alloc (Nat.le_refl _) _))).mono ?_; rintro e w3 ⟨rfl, hb3⟩; have B3 : Hid (Below wr.heap.size wr w3) := Lib.hid (((Below.refl _ _).alloc (Nat.le_refl _) _).trans (hb3.mono (by simp))); clear hb3)
          go_roundw
          case rel => exact ⟨k + 1, nm, v, [], c, D, by go_num, by omega, by omega, by omega, I.out.below B3.out, M.out.quiet B3.out, ownsMap_below OM.out B3.out, T.out, HR.out⟩
          case measure => simp [intOf]; omega
        · obtain ⟨a, ha⟩ := I.out.first lessI (by omega)
          have hal : a < L.length := ha.1
          have hce : Hid (∀ y, cnt y (L.eraseIdx a) = cnt y L - if y = L.getD a default then 1 else 0) := fun y => cnt_erase y L a hal
          have hcb := Lib.hid (fun y => cnt_bd y L)
          have hLen : (L.length : Int) ≤ 1000000 := by omega
          generalize hx : L.getD a default = x at *
          have HX := Lib.hid hx
          have HA := Lib.hid ha
          clear ha hx hne
          have hxb : -128 ≤ x ∧ x ≤ 127 := by rw [← HX.out]; exact HR.out _ (getD_mem hal)
          have hx1 := hxb.1
          have hx2 := hxb.2
          clear hxb
          go_wp2_with (first
            | (go_at_call 31; refine (HI.pop_some lessI _ _ _ _ _ (IA.out _) (by omega) a HA.out x HX.out).mono ?_; rintro e w3 ⟨rfl, v3, i3, o3, f3⟩; have OM3 := Lib.hid (map_step (IA.out _) (OMA.out _) o3); have M3 := Lib.hid ((MA.out _).step o3 f3); have I3 := Lib.hid i3; clear i3 o3 f3)
            | (at_lookup; refine wpList_lookup_own_int _ rfl _ _ 58 rfl 3 3 .i64 lawI Try.underlying58 Try.underlying3 (zeroI _) w1.heap.size nm _ rfl OM3.out _ _ rfl (keyOf_int_mk Try.underlying3 (wf64 (by omega))) ?_; intro cc hat hwc; have hcc := Lib.hid (T.out.c hat); have hc0 : 0 ≤ cc := (by rw [hcc.out]; exact (hcb.out x).1); have hc1 : cc ≤ 1000000 := (by rw [hcc.out]; have := (hcb.out x).2; omega); clear hat hwc)
            | (at_mapUpdate; refine wpList_mapUpdate_own _ rfl _ _ _ 58 rfl 3 3 lawI Try.underlying58 _ w1.heap.size nm _ rfl OM3.out (by unfold maxLen; omega) _ _ _ rfl rfl (keyOf_int_mk Try.underlying3 (wf64 (by omega))) _ [] (plainElem_int Try.underlying3 (wf64 (by omega))) ?_; intro w4 hown4 hgrow4; have OM4 := Lib.hid hown4; have I4 := Lib.hid (heap_step I3.out OM3.out hgrow4); have M4 := Lib.hid (mine_step M3.out hgrow4 (by omega)); clear hown4 hgrow4))
          go_roundw
          case rel => exact ⟨k + 1, nm + 1, v3, L.eraseIdx a, c, _, by go_num, by omega, by omega, by omega, I4.out, M4.out, OM4.out, T.out.put (by rw [hce.out x, hcc.out, if_pos rfl]) (fun y hy => by rw [hce.out y, if_neg hy]; omega) (T.out.map.put _ _), fun y hy => HR.out y ((List.eraseIdx_sublist _ _).subset hy)⟩
          case measure => simp [intOf]; omega
      · have t2 : (y0 % 3 == 0) = false := beq_eq_false_iff_ne.2 e2
        clear e2
        by_cases hne : L.length = 0
        · obtain rfl : L = [] := List.eq_nil_of_length_eq_zero hne
          clear hne hLc
          obtain ⟨a2, ha2⟩ := first_ex ordI ([] ++ [y1]) (by simp)
          have HA2 := Lib.hid ha2
          have HX2 : Hid (([] ++ [y1]).getD a2 default = y1) := first_one (k := y1) ha2
          have hsn : Hid (∀ y, cnt y ([] ++ [y1]) = cnt y [] + if y = y1 then 1 else 0) := fun y => cnt_snoc y y1 []
          have hcb := Lib.hid (fun y => cnt_bd y [])
          have hmn := Lib.hid (first_le ha2)
          clear ha2
          go_wp2_with (first
            | (go_at_call 32; (with_reducible refine (HI.top_none _ v c _ (IA.out _)).mono ?_); rintro e w2 ⟨rfl, hb2⟩; have I2 := Lib.hid ((IA.out _).below hb2); have OM2 := Lib.hid (ownsMap_below (OMA.out _) hb2); have M2 := Lib.hid ((MA.out _).quiet hb2); clear hb2)
            | (go_at_call 33; (with_reducible refine (HI.push lessI _ v [] c y1 _ I2.out (by omega)).mono ?_); rintro e w3 ⟨rfl, v3, i3, o3, f3⟩; have OM3 := Lib.hid (map_step I2.out OM2.out o3); have M3 := Lib.hid (M2.out.step o3 f3); have I3 := Lib.hid i3; clear i3 o3 f3)
            | (at_lookup; refine wpList_lookup_own_int _ rfl _ _ 58 rfl 3 3 .i64 lawI Try.underlying58 Try.underlying3 (zeroI _) w1.heap.size nm _ rfl OM3.out _ _ rfl (keyOf_int_mk Try.underlying3 (wf64 (by omega))) ?_; intro cc hat hwc; have hcc := Lib.hid (T.out.c hat); have hc0 : 0 ≤ cc := (by rw [hcc.out]; exact (hcb.out y1).1); have hc1 : cc ≤ 1000 := (by rw [hcc.out]; have := (hcb.out y1).2; simp at this; omega); clear hat hwc)
            | (at_mapUpdate; refine wpList_mapUpdate_own _ rfl _ _ _ 58 rfl 3 3 lawI Try.underlying58 _ w1.heap.size nm _ rfl OM3.out (by unfold maxLen; omega) _ _ _ rfl rfl (keyOf_int_mk Try.underlying3 (wf64 (by omega))) _ [] (plainElem_int Try.underlying3 (wf64 (by omega))) ?_; intro w4 hown4 hgrow4; have OM4 := Lib.hid hown4; have I4 := Lib.hid (heap_step I3.out OM3.out hgrow4); have M4 := Lib.hid (mine_step M3.out hgrow4 (by omega)); clear hown4 hgrow4)
            | (go_at_call 32; (with_reducible refine (HI.top_x lessI I4.out HA2.out y1 HX2.out).mono ?_); rintro e w5 ⟨rfl, hb5⟩; have I5 := Lib.hid (I4.out.below hb5); have OM5 := Lib.hid (ownsMap_below OM4.out hb5); have M5 := Lib.hid (M4.out.quiet hb5); clear hb5)
            | (at_range; refine wpList_range_own _ rfl _ 58 rfl 3 3 lawI Try.underlying58 _ w1.heap.size (nm + 1) _ rfl OM5.out ?_; intro w6 hrg0 hg0 hs0; have RG0 := Lib.hid hrg0; have G0 := Lib.hid hg0; clear hrg0 hg0))
          go_frame
          have T5 : Hid (Tells (D.put (.int .i64 y1) (.lit (.int .i64 (cc + 1)))) ([] ++ [y1])) := T.out.put (by rw [hsn.out y1, hcc.out, if_pos rfl]) (fun y hy => by rw [hsn.out y, if_neg hy]; omega) (T.out.map.put _ _)
          have HR5 : Hid (∀ y ∈ [] ++ [y1], -128 ≤ y ∧ y ≤ 127) := fun y hy => by
            rcases List.mem_append.1 hy with h | h
            · exact HR.out y h
            · simp only [List.mem_singleton] at h; subst h; exact ⟨q10, q11⟩
          go_loopw [14, 15] (fun _ _ wq => ∃ (left : Lit → Bool) (ct : Nat), wq.ranges Try.prog 3 (plainElem Try.prog 3) w1.heap.size w5.heap.size (nm + 1) (D.put (.int .i64 y1) (.lit (.int .i64 (cc + 1)))) left ct ∧ Below w5.heap.size w5 wq) (fun _ _ wq => wq.rangeLeft w1.heap.size w5.heap.size)
          case atStart => exact ⟨_, _, RG0.out, (Below.refl _ _).grown G0.out (Nat.le_refl _) (fun k hk => by cases hk)⟩
          case round =>
            obtain ⟨left, ct, hrg, hbq⟩ := hrel
            rename_i wq
            have BQ := Lib.hid hbq
            have hsq := hbq.size
            clear hbq
            go_wp2_with (at_next; refine wpList_next_ranges_ii _ rfl _ rfl 3 3 .i64 .i64 lawI Try.underlying3 Try.underlying3 w1.heap.size w5.heap.size (nm + 1) _ _ _ rfl hrg ?_ ?_)
            · intro _ hl0
              clear hl0
              go_wp2
              go_roundw
              case rel => exact ⟨k + 1, nm + 1, v3, [] ++ [y1], c + 1, _, by go_num, by omega, by omega, by omega, I5.out.below BQ.out, M5.out.quiet BQ.out, hrg.owns, T5.out, HR5.out⟩
              case measure => simp [intOf]; omega
            · intro x2 c2 wz ct2 hwx hwc hlx hat hrg1 hlt1 hg1 hs1 hen
              have hc2 := Lib.hid (T5.out.c (hat _))
              have hc20 : 0 ≤ c2 := by rw [hc2.out]; exact (cnt_bd x2 _).1
              have HL1 := Lib.hid hlt1
              have HG1 := Lib.hid hg1
              have HRG := Lib.hid hrg1
              have HRG0 := Lib.hid hrg
              clear hat hwx hwc hlx hlt1 hg1 hrg1 hrg
              by_cases hcp : 0 < c2
              · have hle : y1 ≤ x2 := by rw [← HX2.out]; exact hmn.out x2 (cnt_mem (by rw [← hc2.out]; exact hcp))
                go_wp2
                go_roundw
                case rel => exact ⟨_, ct2, HRG.out, BQ.out.grown HG1.out hsq (fun k hk => by cases hk; exact Nat.le_refl _)⟩
                case measure => rw [HRG.out.left_eq, HRG0.out.left_eq]; exact HL1.out
              · go_wp2
                go_roundw
                case rel => exact ⟨_, ct2, HRG.out, BQ.out.grown HG1.out hsq (fun k hk => by cases hk; exact Nat.le_refl _)⟩
                case measure => rw [HRG.out.left_eq, HRG0.out.left_eq]; exact HL1.out
        · obtain ⟨a, ha⟩ := I.out.first lessI (by omega)
          generalize hx : L.getD a default = t at *
          have HX := Lib.hid hx
          have HA := Lib.hid ha
          clear ha hne
          obtain ⟨a2, ha2⟩ := first_ex ordI (L ++ [y1]) (by simp)
          have HA2 := Lib.hid ha2
          have HX2 : Hid ((L ++ [y1]).getD a2 default = (min t y1)) := by rw [← hx]; exact first_min HA.out ha2
          have hsn : Hid (∀ y, cnt y (L ++ [y1]) = cnt y L + if y = y1 then 1 else 0) := fun y => cnt_snoc y y1 L
          have hcb := Lib.hid (fun y => cnt_bd y L)
          have hmn := Lib.hid (first_le ha2)
          clear ha2 hx
          go_wp2_with (first
            | (go_at_call 32; (with_reducible refine (HI.top_x lessI (IA.out _) HA.out t HX.out).mono ?_); rintro e w2 ⟨rfl, hb2⟩; have I2 := Lib.hid ((IA.out _).below hb2); have OM2 := Lib.hid (ownsMap_below (OMA.out _) hb2); have M2 := Lib.hid ((MA.out _).quiet hb2); clear hb2)
            | (go_at_call 33; (with_reducible refine (HI.push lessI _ v L c y1 _ I2.out (by omega)).mono ?_); rintro e w3 ⟨rfl, v3, i3, o3, f3⟩; have OM3 := Lib.hid (map_step I2.out OM2.out o3); have M3 := Lib.hid (M2.out.step o3 f3); have I3 := Lib.hid i3; clear i3 o3 f3)
            | (at_lookup; refine wpList_lookup_own_int _ rfl _ _ 58 rfl 3 3 .i64 lawI Try.underlying58 Try.underlying3 (zeroI _) w1.heap.size nm _ rfl OM3.out _ _ rfl (keyOf_int_mk Try.underlying3 (wf64 (by omega))) ?_; intro cc hat hwc; have hcc := Lib.hid (T.out.c hat); have hc0 : 0 ≤ cc := (by rw [hcc.out]; exact (hcb.out y1).1); have hc1 : cc ≤ 1000 := (by rw [hcc.out]; have := (hcb.out y1).2; omega); clear hat hwc)
            | (at_mapUpdate; refine wpList_mapUpdate_own _ rfl _ _ _ 58 rfl 3 3 lawI Try.underlying58 _ w1.heap.size nm _ rfl OM3.out (by unfold maxLen; omega) _ _ _ rfl rfl (keyOf_int_mk Try.underlying3 (wf64 (by omega))) _ [] (plainElem_int Try.underlying3 (wf64 (by omega))) ?_; intro w4 hown4 hgrow4; have OM4 := Lib.hid hown4; have I4 := Lib.hid (heap_step I3.out OM3.out hgrow4); have M4 := Lib.hid (mine_step M3.out hgrow4 (by omega)); clear hown4 hgrow4)
            | (go_at_call 32; (with_reducible refine (HI.top_x lessI I4.out HA2.out (min t y1) HX2.out).mono ?_); rintro e w5 ⟨rfl, hb5⟩; have I5 := Lib.hid (I4.out.below hb5); have OM5 := Lib.hid (ownsMap_below OM4.out hb5); have M5 := Lib.hid (M4.out.quiet hb5); clear hb5)
            | (at_range; refine wpList_range_own _ rfl _ 58 rfl 3 3 lawI Try.underlying58 _ w1.heap.size (nm + 1) _ rfl OM5.out ?_; intro w6 hrg0 hg0 hs0; have RG0 := Lib.hid hrg0; have G0 := Lib.hid hg0; clear hrg0 hg0))
          go_frame
          have T5 : Hid (Tells (D.put (.int .i64 y1) (.lit (.int .i64 (cc + 1)))) (L ++ [y1])) := T.out.put (by rw [hsn.out y1, hcc.out, if_pos rfl]) (fun y hy => by rw [hsn.out y, if_neg hy]; omega) (T.out.map.put _ _)
          have HR5 : Hid (∀ y ∈ L ++ [y1], -128 ≤ y ∧ y ≤ 127) := fun y hy => by
            rcases List.mem_append.1 hy with h | h
            · exact HR.out y h
            · simp only [List.mem_singleton] at h; subst h; exact ⟨q10, q11⟩
          go_loopw [14, 15] (fun _ _ wq => ∃ (left : Lit → Bool) (ct : Nat), wq.ranges Try.prog 3 (plainElem Try.prog 3) w1.heap.size w5.heap.size (nm + 1) (D.put (.int .i64 y1) (.lit (.int .i64 (cc + 1)))) left ct ∧ Below w5.heap.size w5 wq) (fun _ _ wq => wq.rangeLeft w1.heap.size w5.heap.size)
          case atStart => exact ⟨_, _, RG0.out, (Below.refl _ _).grown G0.out (Nat.le_refl _) (fun k hk => by cases hk)⟩
          case round =>
            obtain ⟨left, ct, hrg, hbq⟩ := hrel
            rename_i wq
            have BQ := Lib.hid hbq
            have hsq := hbq.size
            clear hbq
            go_wp2_with (at_next; refine wpList_next_ranges_ii _ rfl _ rfl 3 3 .i64 .i64 lawI Try.underlying3 Try.underlying3 w1.heap.size w5.heap.size (nm + 1) _ _ _ rfl hrg ?_ ?_)
            · intro _ hl0
              clear hl0
              go_wp2
              go_roundw
              case rel => exact ⟨k + 1, nm + 1, v3, L ++ [y1], c + 1, _, by go_num, by omega, by omega, by omega, I5.out.below BQ.out, M5.out.quiet BQ.out, hrg.owns, T5.out, HR5.out⟩
              case measure => simp [intOf]; omega
            · intro x2 c2 wz ct2 hwx hwc hlx hat hrg1 hlt1 hg1 hs1 hen
              have hc2 := Lib.hid (T5.out.c (hat _))
              have hc20 : 0 ≤ c2 := by rw [hc2.out]; exact (cnt_bd x2 _).1
              have HL1 := Lib.hid hlt1
              have HG1 := Lib.hid hg1
              have HRG := Lib.hid hrg1
              have HRG0 := Lib.hid hrg
              clear hat hwx hwc hlx hlt1 hg1 hrg1 hrg
              by_cases hcp : 0 < c2
              · have hle : (min t y1) ≤ x2 := by rw [← HX2.out]; exact hmn.out x2 (cnt_mem (by rw [← hc2.out]; exact hcp))
                go_wp2
                go_roundw
                case rel => exact ⟨_, ct2, HRG.out, BQ.out.grown HG1.out hsq (fun k hk => by cases hk; exact Nat.le_refl _)⟩
                case measure => rw [HRG.out.left_eq, HRG0.out.left_eq]; exact HL1.out
              · go_wp2
                go_roundw
                case rel => exact ⟨_, ct2, HRG.out, BQ.out.grown HG1.out hsq (fun k hk => by cases hk; exact Nat.le_refl _)⟩
                case measure => rw [HRG.out.left_eq, HRG0.out.left_eq]; exact HL1.out
    · obtain rfl : k = m := by omega
      go_wp2_with (go_at_call 15; refine (wakes _).mono ?_; rintro e w9 ⟨rfl, hb9⟩)
      go_ret
      exact ⟨rfl, M.out.below.trans (hb9.mono (by omega))⟩
end Go.Proofs.Ytlhmlejkfgejiaa
