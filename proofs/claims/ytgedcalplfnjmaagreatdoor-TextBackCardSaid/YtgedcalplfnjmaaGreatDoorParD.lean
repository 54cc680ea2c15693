/-
  What is read so far, in memory; addVertices. Conditions: texts of at most 2000000 bytes.
-/
import Derived.Test.YtgedcalplfnjmaaGreatDoorParC
namespace Go.Proofs.YtgedcalplfnjmaaGreatDoor
open Go.RowKit Go.Proofs.YtgedcalplfnjmaaGreatDoor.LexM Go.Proofs.YtgedcalplfnjmaaGreatDoor.ParM

theorem own_kind {w : World} {B k n p : Nat} {e T : TypeId} {v : Value} {xs : List Value} {cur : Array Value} {fz : Nat × Nat} (h : w.ownsRow B e k v n xs) (hp : w.heap[p]? = some (.cells cur T fz)) (hT : T ≠ e) : v.ownBlock ≠ some p := by
  intro hc
  rcases h.2 with ⟨rfl, _⟩ | ⟨g, cap, c2, rfl, _, hg, _⟩
  · cases hc
  · have : g = p := by simpa [Value.ownBlock] using hc
    subst this; rw [hg] at hp
    simp only [Option.some.injEq, Obj.cells.injEq] at hp
    exact hT hp.2.1.symm
theorem own_base {w : World} {B C k n : Nat} {e : TypeId} {v : Value} {xs : List Value} (h : w.ownsRow B e k v n xs) (hC : C ≤ B) : w.ownsRow C e k v n xs := by
  refine ⟨h.1, ?_⟩
  rcases h.2 with q | ⟨g, cap, cur, hv, hg, r⟩
  · exact Or.inl q
  · exact Or.inr ⟨g, cap, cur, hv, by omega, r⟩
/-- What is read so far: the box of its five cells, the rows of boxes and of edges. -/
structure RdM (w0 w : World) (p : Nat) (bg en : Bool) (bv ev : Value) (B : List Bool) (E : List Edg) (b : Nat) : Prop where
  blk : w.heap[p]? = some (.cells #[.bool bg, .bool en, bv, ev, .int .i64 b] 37 (0, 0))
  rb : OwnB w w0.heap.size bv B
  re : OwnE w w0.heap.size ev E
  base : w0.heap.size ≤ p
  below : Below w0.heap.size w0 w
def RdAt (w0 w : World) (p : Nat) (bg en : Bool) (B : List Bool) (E : List Edg) (b : Nat) : Prop := ∃ bv ev, RdM w0 w p bg en bv ev B E b
theorem rdT_b : 37 ≠ 4 := by decide
theorem rdT_e : 37 ≠ 40 := by decide
section
variable {w0 w w' : World} {p : Nat} {bg en : Bool} {bv ev : Value} {B : List Bool} {E : List Edg} {b : Nat}
theorem RdM.step (h : RdM w0 w p bg en bv ev B E b) (hb : Below w.heap.size w w') : RdM w0 w' p bg en bv ev B E b :=
  ⟨by rw [hb.block _ (Array.getElem?_eq_some_iff.1 h.blk).1]; exact h.blk, h.rb.below hb (Nat.le_refl _), h.re.below hb (Nat.le_refl _), h.base, h.below.trans (hb.mono h.below.size)⟩
theorem RdM.lt (h : RdM w0 w p bg en bv ev B E b) : p < w.heap.size := (Array.getElem?_eq_some_iff.1 h.blk).1
theorem RdM.c (h : RdM w0 w p bg en bv ev B E b) : w.cell? ⟨p, 0, none⟩ = some (.bool bg) ∧ w.cell? ⟨p, 1, none⟩ = some (.bool en) ∧ w.cell? ⟨p, 2, none⟩ = some bv ∧ w.cell? ⟨p, 3, none⟩ = some ev ∧ w.cell? ⟨p, 4, none⟩ = some (.int .i64 b) := by
  have h := h.blk
  refine ⟨?_, ?_, ?_, ?_, ?_⟩ <;> simp [World.cell?, h]
theorem RdM.fr (h : RdM w0 w p bg en bv ev B E b) (j : Nat) : w.frozen? ⟨p, j, none⟩ = false := by
  have h := h.blk
  simp only [World.frozen?, h]; simp
theorem RdM.nb (h : RdM w0 w p bg en bv ev B E b) : bv.ownBlock ≠ some p := own_kind h.rb h.blk rdT_b
theorem RdM.ne (h : RdM w0 w p bg en bv ev B E b) : ev.ownBlock ≠ some p := own_kind h.re h.blk rdT_e
theorem below_set (hb : Below w0.heap.size w0 w) (hp : w0.heap.size ≤ p) (j : Nat) (u : Value) : Below w0.heap.size w0 (w.setCell ⟨p, j, none⟩ u) :=
  hb.trans ((((Out.refl (fun x => x = p) w).setIn j u).below hb.size (fun i _ e => by omega)))
theorem RdM.set0 (h : RdM w0 w p bg en bv ev B E b) (x : Bool) : RdM w0 (w.setCell ⟨p, 0, none⟩ (.bool x)) p x en bv ev B E b :=
  ⟨by rw [heap_setCell_at h.blk]; rfl, ownsRow_setCell_other h.rb h.nb _, ownsRow_setCell_other h.re h.ne _, h.base, below_set h.below h.base _ _⟩
theorem RdM.set1 (h : RdM w0 w p bg en bv ev B E b) (x : Bool) : RdM w0 (w.setCell ⟨p, 1, none⟩ (.bool x)) p bg x bv ev B E b :=
  ⟨by rw [heap_setCell_at h.blk]; rfl, ownsRow_setCell_other h.rb h.nb _, ownsRow_setCell_other h.re h.ne _, h.base, below_set h.below h.base _ _⟩
theorem RdM.set2 (h : RdM w0 w p bg en bv ev B E b) {u : Value} {B' : List Bool} (hu : OwnB w w0.heap.size u B') : RdM w0 (w.setCell ⟨p, 2, none⟩ u) p bg en u ev B' E b :=
  ⟨by rw [heap_setCell_at h.blk]; rfl, ownsRow_setCell_other hu (own_kind hu h.blk rdT_b) _, ownsRow_setCell_other h.re h.ne _, h.base, below_set h.below h.base _ _⟩
theorem RdM.set3 (h : RdM w0 w p bg en bv ev B E b) {u : Value} {E' : List Edg} (hu : OwnE w w0.heap.size u E') : RdM w0 (w.setCell ⟨p, 3, none⟩ u) p bg en bv u B E' b :=
  ⟨by rw [heap_setCell_at h.blk]; rfl, ownsRow_setCell_other h.rb h.nb _, ownsRow_setCell_other hu (own_kind hu h.blk rdT_e) _, h.base, below_set h.below h.base _ _⟩
theorem RdM.set4 (h : RdM w0 w p bg en bv ev B E b) (x : Nat) : RdM w0 (w.setCell ⟨p, 4, none⟩ (.int .i64 x)) p bg en bv ev B E x :=
  ⟨by rw [heap_setCell_at h.blk]; rfl, ownsRow_setCell_other h.rb h.nb _, ownsRow_setCell_other h.re h.ne _, h.base, below_set h.below h.base _ _⟩
end

theorem fst_bad {l : List UInt8} (h : (wdL l).length ≠ 2) : fstE l = 4 := by
  unfold fstE
  split
  · rename_i e; rw [e] at h; simp at h
  · rfl
theorem fst_two {l a p : List UInt8} (h : wdL l = [a, p]) : fstE l = (if a = shapeW then fstW p else 4) ∧ fstB l = (if a = shapeW ∧ fstW p = 0 then fstV p else []) := by
  unfold fstE fstB; rw [h]; exact ⟨rfl, rfl⟩
theorem fstW_bx {p : List UInt8} : fstW p = (if isBx p = true then (if 4096 < (bxV p).length then 6 else 0) else 4) ∧ (isBx p = true → fstV p = bxV p) := by
  unfold fstW isBx bxV fstV
  by_cases h : p = [45]
  · rw [if_pos h, if_pos h, if_pos h, decide_eq_true h]; exact ⟨rfl, fun _ => rfl⟩
  · rw [if_neg h, if_neg h, if_neg h, decide_eq_false h, Bool.false_or]
    cases hb : isBox p with
    | true => simp [boxesOf]
    | false => simp
/-- What addVertices leaves. -/
def AdvP (w0 : World) (p : Nat) (bg en : Bool) (E : List Edg) (b : Nat) (l : List UInt8) (e : Ending) (w' : World) : Prop :=
  e = .returned (.int .i64 (fstE l)) ∧ ∃ B', RdAt w0 w' p bg en B' E b ∧ (fstE l = 0 → B' = fstB l)
set_option maxHeartbeats 8000000 in
set_option maxRecDepth 100000 in
theorem addVertices (w0 w : World) (p : Nat) (bg en : Bool) (B : List Bool) (E : List Edg) (b : Nat) (s : ByteArray) (h : RdAt w0 w p bg en B E b) (hT : TabL w) (hs : s.size ≤ 1500000) :
    Calls Tryz.prog 16 #[.pointer (some ⟨p, 0, none⟩), .string s] w (AdvP w0 p bg en E b s.data.toList) := by
  obtain ⟨bv, ev, hM⟩ := h
  have M := Lib.hid hM
  have HT := Lib.hid hT
  clear hM hT
  cases hok : wdOk s.data.toList with
  | false =>
    have hb : fstE s.data.toList = 4 := fst_bad (by unfold wdL; rw [hok]; simp)
    have F := Lib.hid hb
    have W := Lib.hid (wordsN s hok (by omega) w HT.out)
    clear hok hb
    go_enter Tryz.func16, Tryz.ntmps16
    go_wp2_with (go_at_call 32; refine W.out.mono ?_; rintro e w1 ⟨⟨A, k, c, rfl⟩, b1⟩; have M1 := Lib.hid (M.out.step b1); clear b1)
    go_ret
    exact ⟨by rw [F.out]; rfl, _, ⟨_, _, M1.out⟩, fun h => by rw [F.out] at h; cases h⟩
  | true =>
    obtain ⟨m, hm⟩ : ∃ m, (wdL s.data.toList).length = m := ⟨_, rfl⟩
    have h0 : 0 < m := by
      rw [← hm]; unfold wdL; rw [hok]; simp [pieces]
    have W := Lib.hid (wordsG s _ m hok rfl hm h0 (by omega) w HT.out)
    by_cases h2 : m = 2
    · subst h2
      obtain ⟨a, q, hw⟩ : ∃ a q, wdL s.data.toList = [a, q] := by
        match hl : wdL s.data.toList, hm with
        | [a, q], _ => exact ⟨a, q, rfl⟩
      have FT := Lib.hid (fst_two hw)
      have hql : (bs q).size ≤ 2000000 := by
        have := wdL_short (l := s.data.toList) q (by rw [hw]; simp)
        have := size_list s
        rw [bs_size]; omega
      have W2 : Hid (Calls Tryz.prog 32 #[.string s] w fun e w' => ∃ g o cap, e = .returned (.tuple #[.slice (some ⟨g, o, none⟩) 2 cap, .bool true]) ∧ 2 ≤ cap ∧ g < w'.heap.size ∧ w'.cell? ⟨g, o, none⟩ = some (.string (bs a)) ∧ w'.cell? ⟨g, o + 1, none⟩ = some (.string (bs q)) ∧ Below w.heap.size w w') := Lib.hid (by
        refine W.out.mono ?_
        rintro e w' ⟨g, o, cap, rfl, hc, hg, hcell, hb⟩
        have e0 := hcell 0 (by omega)
        have e1 := hcell 1 (by omega)
        simp only [hw, List.getElem_cons_zero, List.getElem_cons_succ, Nat.add_zero] at e0 e1
        exact ⟨g, o, cap, rfl, hc, hg, e0, e1, hb⟩)
      have RB := Lib.hid (fun w => readBoxes (bs q) w hql)
      clear W hw hm hok h0 hql
      by_cases ha : a = shapeW
      · have hqa : (!((bs a).toList == [115, 104, 97, 112, 101])) = false := by
          rw [Bool.not_eq_false', beq_iff_eq, toList_data]; exact ha
        have hf := FT.out
        rw [if_pos ha] at hf
        have FB := Lib.hid (fstW_bx (p := q))
        have hfe := hf.1
        have hfb := hf.2
        rw [FB.out.1] at hfe
        cases hx : isBx q with
        | false =>
          rw [hx] at hfe
          have F : Hid (fstE s.data.toList = 4) := Lib.hid hfe
          have R2 : Hid (∀ w, Calls Tryz.prog 33 #[.string (bs q)] w fun e w' => (∃ A k c, e = .returned (.tuple #[.slice A k c, .bool false])) ∧ Below w.heap.size w w') := Lib.hid (fun w => by
            refine (RB.out w).mono ?_
            rintro e w' ⟨v, rfl, ho, hb⟩
            obtain ⟨ao, co, rfl⟩ := ho.form
            rw [bs_data, hx]
            exact ⟨⟨_, _, _, rfl⟩, hb⟩)
          clear hf hfe hfb hx FB FT ha RB
          generalize bs a = sa at *
          generalize bs q = sq at *
          go_enter Tryz.func16, Tryz.ntmps16
          go_wp2_with (first
            | (go_at_call 33; refine (R2.out _).mono ?_; rintro e w2 ⟨⟨A, k, c, rfl⟩, b2⟩; have M2 := Lib.hid (M1.out.step b2); clear b2)
            | (go_at_call 32; refine W2.out.mono ?_; rintro e w1 ⟨g, o, cap, rfl, hcap, hg, d0, d1, b1⟩; have M1 := Lib.hid (M.out.step b1); clear b1))
          go_ret
          exact ⟨by rw [F.out]; rfl, _, ⟨_, _, M2.out⟩, fun h => by rw [F.out] at h; cases h⟩
        | true =>
          rw [hx, if_pos rfl] at hfe
          obtain ⟨n, hn⟩ : ∃ n, (bxV q).length = n := ⟨_, rfl⟩
          rw [hn] at hfe
          have hvv := FB.out.2 hx
          have R2 : Hid (∀ w, Calls Tryz.prog 33 #[.string (bs q)] w fun e w' => ∃ A c, e = .returned (.tuple #[.slice A n c, .bool true]) ∧ OwnB w' w.heap.size (.slice A n c) (bxV q) ∧ Below w.heap.size w w') := Lib.hid (fun w => by
            refine (RB.out w).mono ?_
            rintro e w' ⟨v, rfl, ho, hb⟩
            rw [bs_data] at ho ⊢
            obtain ⟨ao, co, rfl⟩ := ho.form
            rw [hx]
            subst hn
            exact ⟨_, _, rfl, ho, hb⟩)
          by_cases hmany : 4096 < n
          · rw [if_pos hmany] at hfe
            have F : Hid (fstE s.data.toList = 6) := Lib.hid hfe
            clear hf hfe hfb hx FB FT ha RB hn hvv
            generalize bs a = sa at *
            generalize bs q = sq at *
            go_enter Tryz.func16, Tryz.ntmps16
            go_wp2_with (first
              | (go_at_call 33; refine (R2.out _).mono ?_; rintro e w2 ⟨A, c, rfl, ho, b2⟩; have M2 := Lib.hid (M1.out.step b2); clear b2 ho)
              | (go_at_call 32; refine W2.out.mono ?_; rintro e w1 ⟨g, o, cap, rfl, hcap, hg, d0, d1, b1⟩; have M1 := Lib.hid (M.out.step b1); clear b1))
            go_ret
            exact ⟨by rw [F.out]; rfl, _, ⟨_, _, M2.out⟩, fun h => by rw [F.out] at h; cases h⟩
          · rw [if_neg hmany] at hfe
            have F : Hid (fstE s.data.toList = 0) := Lib.hid hfe
            have FV : Hid (bxV q = fstB s.data.toList) := Lib.hid (by
              rw [hfb, if_pos ⟨ha, by rw [FB.out.1, hx, if_pos rfl, hn, if_neg hmany]⟩, hvv])
            clear hf hfe hfb hx FB FT ha RB hn hvv
            generalize bxV q = BB at *
            generalize bs a = sa at *
            generalize bs q = sq at *
            go_enter Tryz.func16, Tryz.ntmps16
            go_wp2_with (first
              | (go_at_call 33; refine (R2.out _).mono ?_; rintro e w2 ⟨A, c, rfl, ho, b2⟩; have M2 := Lib.hid (M1.out.step b2); have O2 := Lib.hid (show OwnB w2 w0.heap.size (.slice A n c) BB from own_base ho M1.out.below.size); obtain ⟨x0, x1, x2, x3, x4⟩ := M2.out.c; have f2 := M2.out.fr 2; have pl := M2.out.lt; clear b2 ho)
              | (go_at_call 32; refine W2.out.mono ?_; rintro e w1 ⟨g, o, cap, rfl, hcap, hg, d0, d1, b1⟩; have M1 := Lib.hid (M.out.step b1); clear b1))
            go_ret
            exact ⟨by rw [F.out]; rfl, _, ⟨_, _, M2.out.set2 O2.out⟩, fun _ => FV.out⟩
      · have hqa : (!((bs a).toList == [115, 104, 97, 112, 101])) = true := by
          rw [Bool.not_eq_true', beq_eq_false_iff_ne, toList_data]; exact ha
        have hf := FT.out.1
        rw [if_neg ha] at hf
        have F := Lib.hid hf
        clear hf FT ha RB
        generalize bs a = sa at *
        go_enter Tryz.func16, Tryz.ntmps16
        go_wp2_with (go_at_call 32; refine W2.out.mono ?_; rintro e w1 ⟨g, o, cap, rfl, hcap, hg, d0, d1, b1⟩; have M1 := Lib.hid (M.out.step b1); clear b1)
        go_ret
        exact ⟨by rw [F.out]; rfl, _, ⟨_, _, M1.out⟩, fun h => by rw [F.out] at h; cases h⟩
    · have hb : fstE s.data.toList = 4 := fst_bad (by rw [hm]; exact h2)
      have F := Lib.hid hb
      have hq2 : ((m : Int) == 2) = false := by rw [beq_eq_false_iff_ne]; omega
      have hq3 : ((m : Int) != 2) = true := by simpa [bne] using hq2
      clear hok hb hm h2
      go_enter Tryz.func16, Tryz.ntmps16
      go_wp2_with (go_at_call 32; refine W.out.mono ?_; rintro e w1 ⟨g, o, cap, rfl, hcap, hg, hc, b1⟩; have M1 := Lib.hid (M.out.step b1); clear b1 hc)
      go_ret
      exact ⟨by rw [F.out]; rfl, _, ⟨_, _, M1.out⟩, fun h => by rw [F.out] at h; cases h⟩
end Go.Proofs.YtgedcalplfnjmaaGreatDoor
