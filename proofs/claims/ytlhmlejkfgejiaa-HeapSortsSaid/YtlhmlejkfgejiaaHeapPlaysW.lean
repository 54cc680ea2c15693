/-
  HeapPlays: the walk: whatever is pushed and popped, the call answers true and turns nothing that was there. Conditions: the acts lie in one block, below the heap's end.
-/
import Derived.Test.YtlhmlejkfgejiaaHeapWithout
namespace Go.Proofs.Ytlhmlejkfgejiaa
open Go.RowKit Go.Proofs.Ytlhmlejkfgejiaa.HeapM

theorem least_any (B : Nat) (lv : Value) (L : List (Int × Int)) (w : World) (h : OwnL w B lv L) (hs : L.length ≤ 1000000) :
    Calls Try.prog 9 #[lv] w fun e w' => ∃ r : Int, e = .returned (.int .i64 r) ∧ Below w.heap.size w w' := by
  by_cases h0 : L.length = 0
  · rcases h.2 with ⟨rfl, _⟩ | ⟨g, cap, cur, rfl, _⟩
    · exact (least_none _ _ _).mono fun e w' ⟨a, b⟩ => ⟨_, a, b⟩
    · rw [h0]
      exact (least_none _ _ _).mono fun e w' ⟨a, b⟩ => ⟨_, a, b⟩
  · obtain ⟨g, cap, rfl, _, _, _⟩ := ownsRow_form h (by omega)
    obtain ⟨a, ha⟩ : ∃ a, First ltO L a := by
      have key : ∀ k, 0 < k → k ≤ L.length → ∃ a, FirstN ltO L k a := by
        intro k
        induction k with
        | zero => intro h; omega
        | succ k ih =>
          intro _ hk
          by_cases e : k = 0
          · subst e; exact ⟨0, firstN_one L⟩
          · obtain ⟨a, ha⟩ := ih (by omega) (by omega)
            cases hl : ltO (L.getD k default) (L.getD a default)
            · exact ⟨a, firstN_same ha hl⟩
            · exact ⟨k, firstN_next ordO ha hl⟩
      exact key L.length (by omega) (Nat.le_refl _)
    exact (least_some _ _ _ _ a _ L w h rfl hs ha).mono fun e w' ⟨x, b⟩ => ⟨_, x, b⟩

theorem row_ne {w : World} {base base' size size' n n' : Nat} {e e' : TypeId} {v v' : Value} {xs xs' : List Value} (h : w.ownsRow base e size v n xs) (h' : w.ownsRow base' e' size' v' n' xs') (hne : e ≠ e') : ∀ b, v.ownBlock = some b → v'.ownBlock ≠ some b := by
  intro b hb hb'
  rcases h.2 with ⟨rfl, _⟩ | ⟨g, cap, cur, rfl, _, hh, _⟩
  · simp [Value.ownBlock] at hb
  · rcases h'.2 with ⟨rfl, _⟩ | ⟨g', cap', cur', rfl, _, hh', _⟩
    · simp [Value.ownBlock] at hb'
    · simp only [Value.ownBlock, Option.some.injEq] at hb hb'
      subst hb
      subst hb'
      rw [hh] at hh'
      injection hh' with hh'
      injection hh' with _ ht
      exact hne ht
theorem foot_ne {w : World} {p : Nat} {v lv : Value} {L L' : List (Int × Int)} {c : Int} {B : Nat} {lt : Int × Int → Int × Int → Bool} {fn : Nat} (h : HO.Is lt fn p w v L c) (h' : OwnL w B lv L') : ∀ b, HO.Foot p v b → lv.ownBlock ≠ some b := by
  obtain ⟨l, h, _⟩ := h
  rintro b (rfl | hb)
  · intro e
    rcases h'.2 with ⟨rfl, _⟩ | ⟨g', cap', cur', rfl, _, hh', _⟩
    · simp [Value.ownBlock] at e
    · simp only [Value.ownBlock, Option.some.injEq] at e
      subst e
      rw [h.blk] at hh'
      injection hh' with hh'
      injection hh' with _ ht
      exact absurd ht (by decide)
  · exact row_ne h.row h' (by decide) b hb
theorem Mine.other {B : Nat} {w0 w w' : World} {p : Nat} {v : Value} {S : Nat → Prop} (h : Mine B w0 w p v) (o : Out S w w') (hS : ∀ b, b < w.heap.size → S b → B ≤ b) : Mine B w0 w' p v :=
  ⟨h.le, h.below.trans (o.below (Nat.le_trans h.le h.below.size) hS), h.p, h.v⟩
theorem ownsRow_slice {w : World} {base : Nat} {e : TypeId} {size n : Nat} {v : Value} {xs : List Value} (h : w.ownsRow base e size v n xs) : ∃ ao cap, v = .slice ao n cap := by
  rcases h.2 with ⟨h1, h2⟩ | ⟨g, cap, cur, hv, _⟩
  · subst h2; exact ⟨_, _, h1⟩
  · exact ⟨_, _, hv⟩
theorem ownsRow_base {w : World} {base base' : Nat} {e : TypeId} {size n : Nat} {v : Value} {xs : List Value} (h : w.ownsRow base e size v n xs) (hb : base' ≤ base) : w.ownsRow base' e size v n xs := by
  refine ⟨h.1, ?_⟩
  rcases h.2 with h2 | ⟨g, cap, cur, hv, hg, r⟩
  · exact Or.inl h2
  · exact Or.inr ⟨g, cap, cur, hv, by omega, r⟩
theorem OwnL.below {w w' : World} {B : Nat} {v : Value} {L : List (Int × Int)} (h : OwnL w B v L) (o : Below w.heap.size w w') : OwnL w' B v L := ownsRow_out (S := fun _ => False) h (Out.ofBelow o) (fun _ _ e => e)
theorem pushX {p : Nat} {v : Value} {L : List (Int × Int)} {c : Int} {w : World} (h : HO.Is ltO 8 p w v L c) (hc : c ≤ 999999) (a b : Int) :
    Calls Try.prog 13 #[.pointer (some ⟨p, 0, none⟩), .agg #[.int .i64 a, .int .i64 b]] w (HO.Pushed ltO 8 p v L c (a, b) w) := HO.push lessO p v L c (a, b) w h hc
theorem lenX {p : Nat} {v : Value} {L : List (Int × Int)} {c : Int} {w : World} {lt : Int × Int → Int × Int → Bool} {fn : Nat} (h : HO.Is lt fn p w v L c) (n : Int) (hn : (L.length : Int) = n) :
    Calls Try.prog 14 #[.pointer (some ⟨p, 0, none⟩)] w fun e w' => e = .returned (.int .i64 n) ∧ w = w' := by
  subst hn
  exact HO.len p v L c w h

def PlaysRel (w0 wr : World) (m : Nat) (lv iv : Value) : Prop :=
  ∃ (k : Nat) (v : Value) (L : List (Int × Int)) (c : Int), iv = .int .i64 k ∧ k ≤ m ∧ c ≤ k ∧ HO.Is ltO 8 w0.heap.size wr v L c ∧ Mine w0.heap.size w0 wr w0.heap.size v ∧ OwnL wr w0.heap.size lv L

set_option maxHeartbeats 4000000 in
set_option maxRecDepth 100000 in
theorem plays (b o n cap m : Nat) (D : Nat → Int × Int × Int) (w : World) (hb : b < w.heap.size) (hn : n ≤ cap) (_hc : cap ≤ 9223372036854775807) (hm1 : m ≤ n) (hm2 : m ≤ 200) (hmin : min (n : Int) 200 = (m : Int))
    (h0 : ∀ k, k < n → w.cell? ⟨b, o + k * 3, none⟩ = some (.int .u8 (D k).1)) (h1 : ∀ k, k < n → w.cell? ⟨b, o + k * 3 + 1, none⟩ = some (.int .i8 (D k).2.1)) (h2 : ∀ k, k < n → w.cell? ⟨b, o + k * 3 + 2, none⟩ = some (.int .i8 (D k).2.2))
    (r0 : ∀ k, k < n → 0 ≤ (D k).1 ∧ (D k).1 ≤ 255) (r1 : ∀ k, k < n → -128 ≤ (D k).2.1 ∧ (D k).2.1 ≤ 127) (r2 : ∀ k, k < n → -128 ≤ (D k).2.2 ∧ (D k).2.2 ≤ 127) :
    Calls Try.prog 3 #[.slice (some ⟨b, o, none⟩) n cap] w fun e w' => e = .returned (.bool true) ∧ Below w.heap.size w w' := by
  obtain ⟨i0, hi, hz0, hz1, hz2⟩ := info_parts infoL
  have H0 := Lib.hid h0
  have H1 := Lib.hid h1
  have H2 := Lib.hid h2
  have R0 := Lib.hid r0
  have R1 := Lib.hid r1
  have R2 := Lib.hid r2
  clear h0 h1 h2 r0 r1 r2
  go_enter Try.func3, Try.ntmps3
  go_wp2_with ((go_at_call 7; refine (HO.new (lt := ltO) _).mono ?_; rintro e w1 ⟨rfl, h1, b1⟩; have I1 := Lib.hid h1; have M1 : Hid (Mine w.heap.size w w1 w.heap.size (.slice none 0 0)) := ⟨Nat.le_refl _, b1, Nat.le_refl _, fun b hb => by simp [Value.ownBlock] at hb⟩; clear h1 b1))
  clear hmin
  go_loopw [4, 20] (fun lv iv wr => PlaysRel w wr m lv iv) (fun _ iv _ => m - (intOf iv).toNat)
  case atStart => exact ⟨0, _, [], 0, rfl, by omega, by omega, I1.out, M1.out, World.ownsRow_nil _ _ _ _⟩
  case round =>
    clear I1 M1
    obtain ⟨k, v, L, c, rfl, hk, hck, hI, hM, hO⟩ := hrel
    have I := Lib.hid hI
    have M := Lib.hid hM
    have OL := Lib.hid hO
    have hwr := hM.below.size
    have FT := Lib.hid hI.foot
    have hLc := hI.room
    clear hI hM hO
    by_cases hlt : k < m
    · have d0 := (M.out.below.cell (p := ⟨b, o + k * 3, none⟩) hb).trans (H0.out k (by omega))
      have d1 := (M.out.below.cell (p := ⟨b, o + k * 3 + 1, none⟩) hb).trans (H1.out k (by omega))
      have d2 := (M.out.below.cell (p := ⟨b, o + k * 3 + 2, none⟩) hb).trans (H2.out k (by omega))
      have q0 := R0.out k (by omega)
      have q1 := R1.out k (by omega)
      have q2 := R2.out k (by omega)
      generalize D k = x at *
      obtain ⟨y0, y1, y2⟩ := x
      simp only at d0 d1 d2 q0 q1 q2
      obtain ⟨q00, q01⟩ := q0
      obtain ⟨q10, q11⟩ := q1
      obtain ⟨q20, q21⟩ := q2
      have hbr : b < wr.heap.size := by omega
      by_cases e2 : y0 % 4 = 2
      · have t2 : (y0 % 4 == 2) = true := beq_iff_eq.2 e2
        clear e2
        by_cases hne : L.length = 0
        · obtain rfl : L = [] := List.eq_nil_of_length_eq_zero hne
          obtain ⟨ao, cp, rfl⟩ := ownsRow_slice OL.out
          clear hne hLc
          go_wp2_with (first
            | (go_at_call 9; refine (least_none ao cp _).mono ?_; rintro e w2 ⟨rfl, hb2⟩; have s0 : w2.cell? ⟨wr.heap.size, 0, none⟩ = some (.int .u8 y0) := (by rw [hb2.cell (by simp; omega)]; go_simp); have z2 : wr.heap.size + 1 < w2.heap.size := (by have := hb2.size; simp at this; omega); have B2 : Hid (Below wr.heap.size wr w2) := Lib.hid ((((Below.refl _ _).alloc (Nat.le_refl _) _).alloc (by simp) _).trans (hb2.mono (by simp; omega))); clear hb2)
            | (go_at_call 10; refine (HO.pop_none _ v c _ (I.out.below B2.out)).mono ?_; rintro e w3 ⟨rfl, hb3⟩; have B3 : Hid (Below wr.heap.size wr w3) := Lib.hid (B2.out.trans (hb3.mono (by omega))); have z3 : wr.heap.size + 1 < w3.heap.size := (by have := hb3.size; omega); clear hb3))
          go_quiet (fail)
          have hdr := Lib.hid (below_drewN ((Below.refl w3.heap.size w3).alloc (Nat.le_refl _) (.cells #[.int .i64 0, .int .i64 0] 26)) nq)
          go_wp2_with (first
            | (go_at_call 11; refine (without_none ao cp (-1) _).mono ?_; rintro e w4 ⟨rfl, rfl⟩)
            | (go_at_call 14; refine (lenX ((I.out.below B3.out).below (hdr.out.mono (by omega))) (0) rfl).mono ?_; rintro e w' ⟨rfl, rfl⟩))
          go_roundw
          case rel => exact ⟨k + 1, v, [], c, by go_num, by omega, by omega, (I.out.below B3.out).below (hdr.out.mono (by omega)), (M.out.quiet B3.out).quiet (hdr.out.mono (by omega)), World.ownsRow_nil _ _ _ _⟩
          case measure => simp [intOf]; omega
        · obtain ⟨g, cp, hu, _, hg, hcp⟩ := ownsRow_form OL.out (by omega)
          subst hu
          obtain ⟨a, ha⟩ := I.out.first lessO (by omega)
          have hge : (0 : Int) ≤ (a : Int) := by omega
          have hal : a < L.length := ha.1
          have hL6 : L.length ≤ 1000000 := by omega
          generalize hx : L.getD a default = x at *
          have HX := Lib.hid hx
          have HA := Lib.hid ha
          clear ha hx hne
          go_wp2_with (first
            | (go_at_call 9; refine (least_some 26 g cp L.length a w.heap.size L _ (OL.out.below (((Below.refl _ _).alloc (Nat.le_refl _) _).alloc (by simp) _)) rfl hL6 HA.out).mono ?_; rintro e w2 ⟨rfl, hb2⟩; have s0 : w2.cell? ⟨wr.heap.size, 0, none⟩ = some (.int .u8 y0) := (by rw [hb2.cell (by simp; omega)]; go_simp); have z2 : wr.heap.size + 1 < w2.heap.size := (by have := hb2.size; simp at this; omega); have B2 : Hid (Below wr.heap.size wr w2) := Lib.hid ((((Below.refl _ _).alloc (Nat.le_refl _) _).alloc (by simp) _).trans (hb2.mono (by simp; omega))); clear hb2)
            | (go_at_call 10; refine (HO.pop_some lessO _ _ _ _ _ (I.out.below B2.out) (by omega) a HA.out x HX.out).mono ?_; rintro e w3 ⟨rfl, v3, i3, o3, f3⟩; have z3 : wr.heap.size + 1 < w3.heap.size := (by have := o3.size; omega); have I3 := Lib.hid i3; have OL3 : Hid (OwnL w3 w.heap.size (.slice (some ⟨g, 0, none⟩) L.length cp) L) := Lib.hid (ownsRow_out (OL.out.below B2.out) o3 (fun b hb hf => foot_ne (I.out.below B2.out) (OL.out.below B2.out) b hf hb)); have M3 := Lib.hid ((M.out.quiet B2.out).step o3 f3); clear i3 o3 f3; have l0 : w3.cell? ⟨g, a * 2, none⟩ = some (.int .i64 x.1) := (by have := cellsL OL3.out rfl a hal 0 (by omega); rw [HX.out] at this; exact this); have l1 : w3.cell? ⟨g, a * 2 + 1, none⟩ = some (.int .i64 x.2) := (by have := cellsL OL3.out rfl a hal 1 (by omega); rw [HX.out] at this; exact this); have hg3 : g < w3.heap.size := (by omega)))
          go_quiet (fail)
          have hdr := Lib.hid (below_drewN ((Below.refl w3.heap.size w3).alloc (Nat.le_refl _) (.cells #[.int .i64 x.1, .int .i64 x.2] 26)) nq)
          go_wp2_with (first
            | (go_at_call 11; refine (without_some 26 g cp L.length a w.heap.size L _ (OL3.out.below hdr.out) rfl hL6).mono ?_; rintro e w4 ⟨v', rfl, hown, hb4⟩; have hs4 := hdr.out.size; obtain ⟨ao4, c4, rfl⟩ := ownsRow_slice hown; have OL4 : Hid (OwnL w4 w.heap.size (.slice ao4 (L.eraseIdx a).length c4) (L.eraseIdx a)) := Lib.hid (ownsRow_base hown (by omega)); have B4 : Hid (Below w3.heap.size w3 w4) := Lib.hid (hdr.out.trans (hb4.mono hs4)); clear hown hb4 hs4)
            | (go_at_call 14; refine (lenX (I3.out.below B4.out) (((L.eraseIdx a).length : Int)) rfl).mono ?_; rintro e w' ⟨rfl, rfl⟩))
          go_roundw
          case rel => exact ⟨k + 1, _, L.eraseIdx a, c, by go_num, by omega, by omega, I3.out.below B4.out, M3.out.quiet B4.out, OL4.out⟩
          case measure => simp [intOf]; omega
      · by_cases e3 : y0 % 4 = 3
        · have t2 : (y0 % 4 == 2) = false := beq_eq_false_iff_ne.2 e2
          have t3 : (y0 % 4 == 3) = true := beq_iff_eq.2 e3
          clear e2 e3
          by_cases hne : L.length = 0
          · obtain rfl : L = [] := List.eq_nil_of_length_eq_zero hne
            obtain ⟨ao, cp, rfl⟩ := ownsRow_slice OL.out
            clear hne hLc
            go_wp2_with (first
              | (go_at_call 9; refine (least_none ao cp _).mono ?_; rintro e w2 ⟨rfl, hb2⟩; have s0 : w2.cell? ⟨wr.heap.size, 0, none⟩ = some (.int .u8 y0) := (by rw [hb2.cell (by simp; omega)]; go_simp); have z2 : wr.heap.size + 1 < w2.heap.size := (by have := hb2.size; simp at this; omega); have B2 : Hid (Below wr.heap.size wr w2) := Lib.hid ((((Below.refl _ _).alloc (Nat.le_refl _) _).alloc (by simp) _).trans (hb2.mono (by simp; omega))); clear hb2)
              | (go_at_call 12; refine (HO.top_none _ v c _ (I.out.below B2.out)).mono ?_; rintro e w3 ⟨rfl, hb3⟩; have B3 : Hid (Below wr.heap.size wr w3) := Lib.hid (B2.out.trans (hb3.mono (by omega))); have z3 : wr.heap.size + 1 < w3.heap.size := (by have := hb3.size; omega); clear hb3))
            go_quiet (fail)
            have hdr := Lib.hid (below_drewN ((Below.refl w3.heap.size w3).alloc (Nat.le_refl _) (.cells #[.int .i64 0, .int .i64 0] 26)) nq)
            go_wp2_with (first
              | (go_at_call 14; refine (lenX ((I.out.below B3.out).below (hdr.out.mono (by omega))) (0) rfl).mono ?_; rintro e w' ⟨rfl, rfl⟩))
            go_roundw
            case rel => exact ⟨k + 1, v, [], c, by go_num, by omega, by omega, (I.out.below B3.out).below (hdr.out.mono (by omega)), (M.out.quiet B3.out).quiet (hdr.out.mono (by omega)), (OL.out.below B3.out).below (hdr.out.mono (by omega))⟩
            case measure => simp [intOf]; omega
          · obtain ⟨g, cp, hu, _, hg, hcp⟩ := ownsRow_form OL.out (by omega)
            subst hu
            obtain ⟨a, ha⟩ := I.out.first lessO (by omega)
            have hge : (0 : Int) ≤ (a : Int) := by omega
            have hal : a < L.length := ha.1
            have hL6 : L.length ≤ 1000000 := by omega
            generalize hx : L.getD a default = x at *
            have HX := Lib.hid hx
            have HA := Lib.hid ha
            clear ha hx hne
            go_wp2_with (first
              | (go_at_call 9; refine (least_some 26 g cp L.length a w.heap.size L _ (OL.out.below (((Below.refl _ _).alloc (Nat.le_refl _) _).alloc (by simp) _)) rfl hL6 HA.out).mono ?_; rintro e w2 ⟨rfl, hb2⟩; have s0 : w2.cell? ⟨wr.heap.size, 0, none⟩ = some (.int .u8 y0) := (by rw [hb2.cell (by simp; omega)]; go_simp); have z2 : wr.heap.size + 1 < w2.heap.size := (by have := hb2.size; simp at this; omega); have B2 : Hid (Below wr.heap.size wr w2) := Lib.hid ((((Below.refl _ _).alloc (Nat.le_refl _) _).alloc (by simp) _).trans (hb2.mono (by simp; omega))); clear hb2)
              | (go_at_call 12; refine (HO.top_x lessO (I.out.below B2.out) HA.out x HX.out).mono ?_; rintro e w3 ⟨rfl, hb3⟩; have z3 : wr.heap.size + 1 < w3.heap.size := (by have := hb3.size; omega); have I3 := Lib.hid ((I.out.below B2.out).below hb3); have OL3 : Hid (OwnL w3 w.heap.size (.slice (some ⟨g, 0, none⟩) L.length cp) L) := Lib.hid ((OL.out.below B2.out).below hb3); have M3 := Lib.hid ((M.out.quiet B2.out).quiet hb3); clear hb3; have l0 : w3.cell? ⟨g, a * 2, none⟩ = some (.int .i64 x.1) := (by have := cellsL OL3.out rfl a hal 0 (by omega); rw [HX.out] at this; exact this); have l1 : w3.cell? ⟨g, a * 2 + 1, none⟩ = some (.int .i64 x.2) := (by have := cellsL OL3.out rfl a hal 1 (by omega); rw [HX.out] at this; exact this); have hg3 : g < w3.heap.size := (by omega)))
            go_quiet (fail)
            have hdr := Lib.hid (below_drewN ((Below.refl w3.heap.size w3).alloc (Nat.le_refl _) (.cells #[.int .i64 x.1, .int .i64 x.2] 26)) nq)
            go_wp2_with (first
              | (go_at_call 14; refine (lenX (I3.out.below hdr.out) ((L.length : Int)) rfl).mono ?_; rintro e w' ⟨rfl, rfl⟩))
            go_roundw
            case rel => exact ⟨k + 1, _, L, c, by go_num, by omega, by omega, I3.out.below hdr.out, M3.out.quiet hdr.out, OL3.out.below hdr.out⟩
            case measure => simp [intOf]; omega
        · have t2 : (y0 % 4 == 2) = false := beq_eq_false_iff_ne.2 e2
          have t3 : (y0 % 4 == 3) = false := beq_eq_false_iff_ne.2 e3
          clear e2 e3
          go_wp2_with (first
            | (go_at_call 9; (with_reducible refine (least_any w.heap.size u4 L _ (OL.out.below (((Below.refl _ _).alloc (Nat.le_refl _) _).alloc (by simp) _)) (by omega)).mono ?_); rintro e w2 ⟨r, rfl, hb2⟩; have s0 : w2.cell? ⟨wr.heap.size, 0, none⟩ = some (.int .u8 y0) := (by rw [hb2.cell (by simp; omega)]; go_simp); have t0 : w2.cell? ⟨wr.heap.size + 1, 0, none⟩ = some (.int .i64 y1) := (by rw [hb2.cell (by simp)]; go_simp); have t1 : w2.cell? ⟨wr.heap.size + 1, 1, none⟩ = some (.int .i64 y2) := (by rw [hb2.cell (by simp)]; go_simp); have z2 : wr.heap.size + 1 < w2.heap.size := (by have := hb2.size; simp at this; omega); have B2 : Hid (Below wr.heap.size wr w2) := Lib.hid ((((Below.refl _ _).alloc (Nat.le_refl _) _).alloc (by simp) _).trans (hb2.mono (by simp; omega))); clear hb2)
            | (go_at_call 13; (with_reducible refine (pushX (I.out.below B2.out) (by omega) y1 y2).mono ?_); rintro e w3 ⟨rfl, v3, i3, o3, f3⟩; have z3 : wr.heap.size + 1 < w3.heap.size := (by have := o3.size; omega); have p0 : w3.cell? ⟨wr.heap.size + 1, 0, none⟩ = some (.int .i64 y1) := (by rw [o3.cell _ z2 (fun e => by have := FT.out _ e; omega)]; exact t0); have p1 : w3.cell? ⟨wr.heap.size + 1, 1, none⟩ = some (.int .i64 y2) := (by rw [o3.cell _ z2 (fun e => by have := FT.out _ e; omega)]; exact t1); have I3 := Lib.hid i3; have OL3 : Hid (OwnL w3 w.heap.size u4 L) := Lib.hid (ownsRow_out (OL.out.below B2.out) o3 (fun b hb hf => foot_ne (I.out.below B2.out) (OL.out.below B2.out) b hf hb)); have M3 := Lib.hid ((M.out.quiet B2.out).step o3 f3); clear i3 o3 f3)
            | (at_builtin; refine wpList_append_fresh rfl (.tmp 39) (.tmp 41) 28 rfl w.heap.size 26 i0 (.agg #[.int .i64 0, .int .i64 0]) 2 16 Try.underlying28 hi hz0 hz1 hz2 rfl (by decide) u4 _ _ rfl (OL3.out.alloc _) ⟨w3.heap.size, 0, none⟩ 1 1 (encL (y1, y2)) rfl rfl (newsL _ _ _) (encL_one _) (by unfold maxLen; omega) (by omega) (by simp; omega) ?_; intro v' w4 hown hgrow hfr; have o4 : Out (fun b => u4.ownBlock = some b) w3 w4 := ((Out.refl _ w3).alloc _).grown hgrow (fun _ _ e => e); have I4 := Lib.hid (I3.out.out o4 (foot_ne I3.out OL3.out)); have M4 := Lib.hid (M3.out.other o4 (fun b _ hb => (OL3.out.lt b hb).1)); have OL4 := Lib.hid (OwnL.snoc hown); obtain ⟨g4, c4, rfl, _, _, _⟩ := ownsRow_form hown (by omega); clear hown hgrow hfr o4)
            | (go_at_call 14; (with_reducible refine (lenX I4.out ((L.length : Int) + 1) (by simp)).mono ?_); rintro e w' ⟨rfl, rfl⟩))
          go_roundw
          case rel => exact ⟨k + 1, _, _, c + 1, by go_num, by omega, by omega, I4.out, M4.out, OL4.out⟩
          case measure => simp [intOf]; omega
    · obtain rfl : k = m := by omega
      go_wp2_with (go_at_call 15; refine (wakes _).mono ?_; rintro e w9 ⟨rfl, hb9⟩)
      go_ret
      exact ⟨rfl, M.out.below.trans (hb9.mono (by omega))⟩
end Go.Proofs.Ytlhmlejkfgejiaa
