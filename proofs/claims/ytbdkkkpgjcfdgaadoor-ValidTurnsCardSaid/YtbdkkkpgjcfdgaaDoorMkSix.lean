/-
  The reference's Make: a shape that may be written, of six vertices and twelve edges at most. Conditions: none.
-/
import Derived.Test.YtbdkkkpgjcfdgaaDoorNzPb
namespace Go.Proofs.YtbdkkkpgjcfdgaaDoor
open Go.RowKit Go.Proofs.YtbdkkkpgjcfdgaaDoor.LexM Go.Proofs.YtbdkkkpgjcfdgaaDoor.ParM

/-- A shape that Make makes. -/
structure Smal6 (B : List Bool) (E : List Edg) : Prop where
  vs : B.length ≤ 6
  es : E.length ≤ 12
  ok : ∀ e ∈ E, okE B.length e ∧ e.2.2.2.length ≤ 3
theorem Smal6.may {B : List Bool} {E : List Edg} (h : Smal6 B E) : May B E := by
  have h1 := h.vs
  have h2 := h.es
  have h3 := bends_small E (fun e he => (h.ok e he).2)
  exact ⟨by omega, by omega, by omega, fun e he => (h.ok e he).1⟩
theorem Smal6.snoc {B : List Bool} {E : List Edg} {e : Edg} (h : Smal6 B E) (hl : E.length < 12) (he : okE B.length e) (hb : e.2.2.2.length ≤ 3) : Smal6 B (E ++ [e]) :=
  ⟨h.vs, by rw [List.length_append, List.length_singleton]; omega, fun x hx => by
    rcases List.mem_append.1 hx with hx | hx
    · exact h.ok x hx
    · obtain rfl := List.mem_singleton.1 hx
      exact ⟨he, hb⟩⟩
def MkA6 (n0 : Nat) (wb : World) (s : Nat) (iv : Value) (wr : World) : Prop := ∃ (k : Nat) (bv : Value) (B : List Bool), iv = .int .i64 k ∧ k ≤ n0 ∧ k ≤ 6 ∧ B.length = k ∧ MkSt wb wr s bv (.slice none 0 0) B []
def MkB6 (n : Nat) (B : List Bool) (bv : Value) (wb : World) (s : Nat) (iv : Value) (wr : World) : Prop := ∃ (k : Nat) (ev : Value) (E : List Edg), iv = .int .i64 k ∧ k ≤ n ∧ k ≤ 12 ∧ E.length = k ∧ Smal6 B E ∧ MkSt wb wr s bv ev B E
def MakP6 (w : World) (e : Ending) (w' : World) : Prop := ∃ (A1 : Option Addr) (n1 c1 : Nat) (A2 : Option Addr) (n2 c2 : Nat) (B : List Bool) (E : List Edg), e = .returned (.agg #[.slice A1 n1 c1, .slice A2 n2 c2]) ∧ B.length = n1 ∧ E.length = n2 ∧ OwnB w' w.heap.size (.slice A1 n1 c1) B ∧ OwnE w' w.heap.size (.slice A2 n2 c2) E ∧ Smal6 B E ∧ Below w.heap.size w w'
theorem mk_own6 {w wb wr w6 : World} {bv ev : Value} {B : List Bool} {E : List Edg} (hs : wb.heap.size = w.heap.size + 2) (hb : OwnB wr wb.heap.size bv B) (he : OwnE wr wb.heap.size ev E) (u v : Value)
    (h6 : ((wr.setCell ⟨w.heap.size + 1, 0, none⟩ u).setCell ⟨w.heap.size + 1, 1, none⟩ v) = w6) : OwnB w6 w.heap.size bv B ∧ OwnE w6 w.heap.size ev E := by
  subst h6
  have n1 : bv.ownBlock ≠ some (w.heap.size + 1) := fun e => by have := (World.ownsRow.lt hb _ e).1; omega
  have n2 : ev.ownBlock ≠ some (w.heap.size + 1) := fun e => by have := (World.ownsRow.lt he _ e).1; omega
  exact ⟨own_base (ownsRow_setCell_other (ownsRow_setCell_other hb n1 _) n1 _) (by omega), own_base (ownsRow_setCell_other (ownsRow_setCell_other he n2 _) n2 _) (by omega)⟩
set_option maxHeartbeats 16000000 in
set_option maxRecDepth 100000 in
theorem refMake6 (bv : Value) (ZB : List Bool) (A : Option Addr) (n cap : Nat) (D : Nat → Int × Int × Int) (A2 : Option Addr) (n2 cap2 : Nat) (D2 : Nat → Int) (w : World) (hB : BlsAt w bv ZB) (hT : Tri8 w A n D) (hY : Byt8 w A2 n2 D2) :
    Calls Tryd.prog 8 #[.agg #[bv, .slice A n cap, .slice A2 n2 cap2], .int .i64 6] w (MakP6 w) := by
  have HB := Lib.hid hB
  have HT := Lib.hid hT
  have HY := Lib.hid hY
  obtain ⟨n0, hn0⟩ : ∃ n, ZB.length = n := ⟨_, rfl⟩
  obtain ⟨A0, c0, e⟩ := hB.form
  rw [hn0] at e
  subst e
  have LB := Lib.hid hn0
  obtain ⟨i0, hi, hz0, hz1, hz2⟩ := info_of infoBl
  clear hB hT hY hn0
  go_enter Tryd.func8, Tryd.ntmps8
  go_upto_block 0 with (fail)
  generalize hwb : World.alloc (World.alloc w _) _ = wb
  have b0 : Below w.heap.size w wb := by rw [← hwb]; exact ((Below.refl _ _).alloc (Nat.le_refl _) _).alloc (by simp) _
  have hs0 : wb.heap.size = w.heap.size + 2 := by rw [← hwb]; simp
  have hk0 : wb.heap[w.heap.size]? = some (.cells #[.slice A0 n0 c0, .slice A n cap, .slice A2 n2 cap2] 29 (0, 0)) := by rw [← hwb, Below.heap_alloc _ _ _ (by simp)]; exact heap_alloc_new w _
  have hk1 : wb.heap[w.heap.size + 1]? = some (.cells #[.slice none 0 0, .slice none 0 0] 36 (0, 0)) := by rw [← hwb]; exact heap_second w _ _
  generalize hws : World.alloc wb _ = ws
  have hS0 : MkSt wb ws (w.heap.size + 1 + 1) (.slice none 0 0) (.slice none 0 0) [] [] := ⟨by rw [← hws]; exact (Below.refl _ _).alloc (Nat.le_refl _) _, by rw [← hws, show w.heap.size + 1 + 1 = wb.heap.size by omega]; exact heap_alloc_new wb _, by omega, World.ownsRow_nil _ _ _ _, World.ownsRow_nil _ _ _ _⟩
  have zz : ∀ wr, Below wb.heap.size wb wr → wr.cell? ⟨w.heap.size, 0, none⟩ = some (.slice A0 n0 c0) ∧ wr.cell? ⟨w.heap.size, 1, none⟩ = some (.slice A n cap) ∧ wr.cell? ⟨w.heap.size, 2, none⟩ = some (.slice A2 n2 cap2) ∧ w.heap.size < wr.heap.size := by
    intro wr b
    have hl : w.heap.size < wb.heap.size := by omega
    have h1 := b.block _ hl
    rw [hk0] at h1
    exact ⟨by simp [World.cell?, h1], by simp [World.cell?, h1], by simp [World.cell?, h1], Nat.lt_of_lt_of_le hl b.size⟩
  have rr : ∀ wr, Below wb.heap.size wb wr → wr.heap[w.heap.size + 1]? = some (.cells #[.slice none 0 0, .slice none 0 0] 36 (0, 0)) ∧ wr.cell? ⟨w.heap.size + 1, 0, none⟩ = some (.slice none 0 0) ∧ wr.cell? ⟨w.heap.size + 1, 1, none⟩ = some (.slice none 0 0) ∧ wr.frozen? ⟨w.heap.size + 1, 0, none⟩ = false ∧ wr.frozen? ⟨w.heap.size + 1, 1, none⟩ = false ∧ w.heap.size + 1 < wr.heap.size := by
    intro wr b
    have hl : w.heap.size + 1 < wb.heap.size := by omega
    have h1 := b.block _ hl
    rw [hk1] at h1
    refine ⟨h1, by simp [World.cell?, h1], by simp [World.cell?, h1], ?_, ?_, Nat.lt_of_lt_of_le hl b.size⟩
    · simp only [World.frozen?, h1]; simp
    · simp only [World.frozen?, h1]; simp
  have ZZ := Lib.hid zz
  have RR := Lib.hid rr
  have B0 := Lib.hid b0
  have SB := Lib.hid hs0
  have S0 := Lib.hid hS0
  have BB := Lib.hid (HB.out.below b0 (Nat.le_refl _))
  have TT := Lib.hid (HT.out.below b0)
  have YY := Lib.hid (HY.out.below b0)
  clear hwb hws b0 hk0 hk1 hs0 hS0 zz rr
  go_cut [6] from 11 to 32 (fun _ wx => ∃ bv B, B.length ≤ 6 ∧ MkSt wb wx (w.heap.size + 1 + 1) bv (.slice none 0 0) B [])
  case first =>
    go_wp2_with (fail)
    go_loopw [6] (fun iv wr => MkA6 n0 wb (w.heap.size + 1 + 1) iv wr) (fun iv _ => 6 - (intOf iv).toNat)
    case atStart => exact ⟨0, _, [], rfl, by omega, by omega, rfl, S0.out⟩
    case round =>
      obtain ⟨k, bk, B, rfl, hk0, hk6, hBk, hM⟩ := hrel
      obtain ⟨ab, cb, e⟩ := hM.rb.form
      rw [hBk] at e
      subst e
      have M := Lib.hid hM
      have LK := Lib.hid hBk
      obtain ⟨y0, y1, f0, f1, yl⟩ := hM.cs
      obtain ⟨z0, z1, z2, zl⟩ := ZZ.out wr hM.below
      have hwr : wb.heap.size ≤ wr.heap.size := hM.below.size
      have hsb : w.heap.size + 1 + 1 ≤ wb.heap.size := by rw [SB.out]; omega
      by_cases h1 : k < n0
      · by_cases h2 : k < 6
        · have hkB : k < ZB.length := by rw [LB.out]; exact h1
          obtain ⟨b, o, c', e, hb, d0⟩ := BB.out.nth hkB
          rw [LB.out] at e
          simp only [Value.slice.injEq, true_and] at e
          obtain ⟨rfl, rfl⟩ := e
          have d1 := (hM.below.cell (p := ⟨b, o + k, none⟩) hb).trans d0
          have z3 := Nat.lt_of_lt_of_le hb hwr
          have q1 : decide (k < n0) = true := by rw [decide_eq_true_eq]; exact h1
          have q2 : decide (k < 6) = true := by rw [decide_eq_true_eq]; exact h2
          have q3 : decide ((k : Int) < 6) = true := by rw [decide_eq_true_eq]; omega
          obtain ⟨x, hx⟩ : ∃ x, ZB[k] = x := ⟨_, rfl⟩
          rw [hx] at d1
          clear d0 hx hM hBk hk0 hk6
          go_upto_region 5 with (fail)
          go_region_law (refine step_append_fresh rfl (.tmp 24) (.tmp 30) 26 rfl wb.heap.size 4 i0 (.bool false) 1 1 Tryd.underlying26 hi hz0 hz1 hz2 rfl (by decide) (.slice ab k cb) k (B.map Value.bool) (by simp [Act.eval]) ((M.out.rb.below (by first | exact ((Below.refl _ _).alloc (Nat.le_refl _) _).drew | exact ((Below.refl _ _).drew).alloc (by simp) _ | exact (Below.refl _ _).alloc (Nat.le_refl _) _) (Nat.le_refl _)).at_ LK.out) ⟨wr.heap.size, 0, none⟩ 1 1 [.bool x] (by simp [Act.eval]) rfl (by first | exact newsBd _ _ _ _ rfl | exact newsB _ _ _ _ rfl) (oneB _) (by unfold maxLen; omega) (by omega) (by simp; omega) ?_; intro v5 w5 hown hgrow hfr; obtain ⟨hs5, hM5⟩ := M.out.moreB LK.out (by first | exact ((Below.refl _ _).alloc (Nat.le_refl _) _).drew | exact ((Below.refl _ _).drew).alloc (by simp) _ | exact (Below.refl _ _).alloc (Nat.le_refl _) _) hown hgrow; obtain ⟨ao, cp5, e5⟩ := (OwnB.snocAt LK.out hown).form; rw [List.length_append, LK.out] at e5; simp only [List.length_singleton] at e5; subst e5; have M5 := Lib.hid hM5; have s5f : w5.frozen? ⟨w.heap.size + 1 + 1, 0, none⟩ = false := (by simp only [World.frozen?, hs5]; simp); have s5l := (Array.getElem?_eq_some_iff.1 hs5).1; have s5c : w5.cell? ⟨w.heap.size + 1 + 1, 0, none⟩ = some (.slice ab k cb) := (by simp [World.cell?, hs5]); clear hown hgrow hfr hs5 hM5)
          all_goals
            go_wp2
            go_roundw
            case rel => exact ⟨k + 1, _, B ++ [x], by go_num, by omega, by omega, by rw [List.length_append, LK.out]; rfl, by first | exact M5.out | exact M5.out.step ((Below.refl _ _).drew)⟩
            case measure => (simp [intOf] <;> omega)
        · have hk : k = 6 := by omega
          have q1 : decide (k < n0) = true := by rw [decide_eq_true_eq]; exact h1
          have q2 : decide (k < 6) = false := by rw [decide_eq_false_iff_not]; omega
          have q3 : decide ((k : Int) < 6) = false := by rw [decide_eq_false_iff_not]; omega
          clear hM hBk hk0 hk
          go_wp2
          go_meet
          exact ⟨_, B, by rw [LK.out]; omega, M.out⟩
      · have q1 : decide (k < n0) = false := by rw [decide_eq_false_iff_not]; omega
        clear hM hBk
        go_wp2
        go_meet
        exact ⟨_, B, by rw [LK.out]; omega, M.out⟩
  case rest =>
    obtain ⟨bm, B, hB6, hS1⟩ := hcut
    obtain ⟨w1, hw1⟩ : ∃ W, W = wc := ⟨_, rfl⟩
    subst hw1
    obtain ⟨m, hm⟩ : ∃ m, B.length = m := ⟨_, rfl⟩
    obtain ⟨ab, cb, e⟩ := hS1.rb.form
    rw [hm] at e
    subst e
    have S1 := Lib.hid hS1
    have LM := Lib.hid hm
    rw [hm] at hB6
    clear hS1 hm
    go_wp2
    go_loopw [7] (fun iv wr => MkB6 n B (.slice ab m cb) wb (w.heap.size + 1 + 1) iv wr) (fun iv _ => 12 - (intOf iv).toNat)
    case atStart => exact ⟨0, _, [], rfl, by omega, by omega, rfl, ⟨by rw [LM.out]; exact hB6, by simp, by simp⟩, S1.out⟩
    case round =>
      obtain ⟨k, ek, E, rfl, hkn, hk12, hEk, hSm, hM⟩ := hrel
      obtain ⟨ae, ce, e⟩ := hM.re.form
      rw [hEk] at e
      subst e
      have M := Lib.hid hM
      have LK := Lib.hid hEk
      have SM := Lib.hid hSm
      obtain ⟨y0, y1, f0, f1, yl⟩ := hM.cs
      obtain ⟨z0, z1, z2, zl⟩ := ZZ.out wr hM.below
      have hwr : wb.heap.size ≤ wr.heap.size := hM.below.size
      have hsb : w.heap.size + 1 + 1 ≤ wb.heap.size := by rw [SB.out]; omega
      by_cases h1 : k < n
      · by_cases h2 : k < 12
        · by_cases h3 : 0 < m
          · have q1 : decide (k < n) = true := by rw [decide_eq_true_eq]; exact h1
            have q2 : decide (k < 12) = true := by rw [decide_eq_true_eq]; exact h2
            have q3 : decide ((k : Int) < 12) = true := by rw [decide_eq_true_eq]; omega
            have q4 : decide (0 < m) = true := by rw [decide_eq_true_eq]; exact h3
            have q5 : decide ((0 : Int) < (m : Int)) = true := by rw [decide_eq_true_eq]; omega
            obtain ⟨b, o, hAe, hb, hcell⟩ := TT.out.at_ (by omega)
            subst hAe
            obtain ⟨c0', c1', c2'⟩ := hcell k h1
            obtain ⟨⟨p0, p1⟩, ⟨p2, p3⟩, p4, p5⟩ := TT.out.r k h1
            have d0 := (hM.below.cell (p := ⟨b, o + k * 3, none⟩) hb).trans c0'
            have d1 := (hM.below.cell (p := ⟨b, o + k * 3 + 1, none⟩) hb).trans c1'
            have d2 := (hM.below.cell (p := ⟨b, o + k * 3 + 2, none⟩) hb).trans c2'
            have z3 := Nat.lt_of_lt_of_le hb hwr
            clear hcell c0' c1' c2' hM hEk hSm
            generalize D k = tri at *
            obtain ⟨x, y, z⟩ := tri
            simp only at p0 p1 p2 p3 p4 p5 d0 d1 d2
            have hnz : ¬ m = 0 := by omega
            obtain ⟨a, ha⟩ : ∃ r : Nat, x % (m : Int) = (r : Int) := ⟨(x % (m : Int)).toNat, by have := Int.emod_nonneg x (b := (m : Int)) (by omega); omega⟩
            have ha1 : a < m := by have := Int.emod_lt_of_pos x (b := (m : Int)) (by omega); omega
            have ha2 : x.tmod (m : Int) = (a : Int) := by rw [Int.tmod_eq_emod_of_nonneg p0]; exact ha
            obtain ⟨c, hc⟩ : ∃ r : Nat, y % (m : Int) = (r : Int) := ⟨(y % (m : Int)).toNat, by have := Int.emod_nonneg y (b := (m : Int)) (by omega); omega⟩
            have hc1 : c < m := by have := Int.emod_lt_of_pos y (b := (m : Int)) (by omega); omega
            have hc2 : y.tmod (m : Int) = (c : Int) := by rw [Int.tmod_eq_emod_of_nonneg p2]; exact hc
            obtain ⟨d, hd⟩ : ∃ r : Nat, z % 4 = (r : Int) := ⟨(z % 4).toNat, by omega⟩
            have hd1 : d ≤ 3 := by omega
            have hd2 : z.tmod 4 = (d : Int) := by rw [Int.tmod_eq_emod_of_nonneg p4]; exact hd
            go_upto_region 9 with (fail)
            have cx1 : IntKind.i64.wrap x = x := IntWalk.i64_in _ (by omega)
            have cx2 : IntKind.i64.wrap y = y := IntWalk.i64_in _ (by omega)
            have cx3 : IntKind.i64.wrap z = z := IntWalk.i64_in _ (by omega)
            clear ha hc hd
            go_region_held3 (fun w' => w'.cell? ⟨w.heap.size, 1, none⟩ = some (.slice (some ⟨b, o, none⟩) n cap) ∧ w'.cell? ⟨w.heap.size + 1 + 1, 0, none⟩ = some (.slice ab m cb) ∧ w'.cell? ⟨b, o + k * 3, none⟩ = some (.int .u8 x) ∧ w'.cell? ⟨b, o + k * 3 + 1, none⟩ = some (.int .u8 y) ∧ w'.cell? ⟨b, o + k * 3 + 2, none⟩ = some (.int .u8 z)) (go_keep) (fail)
            clear cx1 cx2 cx3 ha2 hc2 hd2 d0 d1 d2 p0 p1 p2 p3 p4 p5
            go_upto_if 87 with (fail)
            have M2 := Lib.hid (M.out.step (((Below.refl _ _).alloc (Nat.le_refl _) (.cells #[.int .i64 a, .int .i64 c, .int .i64 d, .string ⟨#[]⟩] 75)).drew))
            have hE0 : EdSh a c d wr wr.heap.size [] (World.drew (World.alloc wr (.cells #[.int .i64 a, .int .i64 c, .int .i64 d, .string ⟨#[]⟩] 75))) := ⟨rfl, heap_alloc_new wr _, ((Below.refl _ _).alloc (Nat.le_refl _) _).drew⟩
            have E0 := Lib.hid hE0
            have BW := Lib.hid M.out.below
            clear hE0 y0 y1 f0 f1 yl z0 z1 z2 zl z3
            generalize World.drew (World.alloc wr _) = we at *
            obtain ⟨wo, hwo⟩ : ∃ W, W = wr := ⟨_, rfl⟩
            subst hwo
            go_cut [9] from 87 to 116 (fun _ wx => ∃ bb, bb.length ≤ 3 ∧ EdSh a c d wo wo.heap.size bb wx)
            case first =>
              by_cases hb2 : k < n2
              · have t1 : decide (k < n2) = true := by rw [decide_eq_true_eq]; exact hb2
                obtain ⟨b2, o2, hA2, hl2, hc2⟩ := YY.out.at_ (by omega)
                subst hA2
                have hcell2 := hc2 k hb2
                obtain ⟨r0, r1⟩ := YY.out.r k hb2
                obtain ⟨v, hv⟩ : ∃ v, D2 k = v := ⟨_, rfl⟩
                rw [hv] at hcell2 r0 r1
                have C2 := Lib.hid hcell2
                obtain ⟨q, hq⟩ : ∃ q : Nat, v % 4 = (q : Int) := ⟨(v % 4).toNat, by omega⟩
                have hq1 : q ≤ 3 := by omega
                have hq2 : v.tmod 4 = (q : Int) := by rw [Int.tmod_eq_emod_of_nonneg r0]; exact hq
                have hbw : b2 < wb.heap.size := hl2
                clear hc2 hcell2 hv hq
                go_wp2_with (fail)
                go_loopw [9] (fun iv wx => MkC q a c d wo wo.heap.size iv wx) (fun iv _ => 3 - (intOf iv).toNat)
                case atStart => exact ⟨0, [], rfl, by omega, rfl, E0.out⟩
                case round =>
                  obtain ⟨j, bb, rfl, hjq, hbl, hS⟩ := hrel
                  have BL := Lib.hid (BW.out.trans (hS.2.2.mono BW.out.size))
                  obtain ⟨z0, z1, z2, zl⟩ := ZZ.out wr BL.out
                  have d0 := (BL.out.cell (p := ⟨b2, o2 + k, none⟩) hbw).trans C2.out
                  have z3 := Nat.lt_of_lt_of_le hbw BL.out.size
                  obtain ⟨x0, x1, x2, x3, xf, xl⟩ := four_cells hS.2.1
                  have HS := Lib.hid hS
                  have LB2 := Lib.hid hbl
                  have hbz : (bs bb).size ≤ 3 := by rw [bs_size]; omega
                  clear hS hbl
                  by_cases hj : j < q
                  · have t2 : decide (j < q) = true := by rw [decide_eq_true_eq]; exact hj
                    have G1 := Lib.hid (HS.out.more 76 (Or.inl rfl))
                    have G2 := Lib.hid (HS.out.more 82 (Or.inr rfl))
                    go_wp2
                    all_goals
                      go_roundw
                      case rel => first | exact ⟨j + 1, bb ++ [76], by go_num, hj, by rw [List.length_append, LB2.out]; rfl, G1.out⟩ | exact ⟨j + 1, bb ++ [82], by go_num, hj, by rw [List.length_append, LB2.out]; rfl, G2.out⟩
                      case measure => (simp [intOf] <;> omega)
                  · have t2 : decide (j < q) = false := by rw [decide_eq_false_iff_not]; exact hj
                    go_wp2
                    go_meet
                    exact ⟨bb, by rw [LB2.out]; omega, HS.out⟩
              · have t1 : decide (k < n2) = false := by rw [decide_eq_false_iff_not]; exact hb2
                go_wp2
                go_meet
                exact ⟨[], by simp, E0.out⟩
            case rest =>
              obtain ⟨bb, hb3, hS⟩ := hcut
              obtain ⟨w4, hw4⟩ : ∃ W, W = wc := ⟨_, rfl⟩
              subst hw4
              have HS := Lib.hid hS
              have M4 := Lib.hid (M.out.step hS.2.2)
              have hwo4 := hS.2.2.size
              obtain ⟨x0, x1, x2, x3, xf, xl⟩ := four_cells hS.2.1
              obtain ⟨y0, y1, f0, f1, yl⟩ := M4.out.cs
              have OK : Hid (okE B.length ((a : Int), (c : Int), (d : Int), bb)) := Lib.hid ⟨by show (0 : Int) ≤ a; omega, by show (a : Int) < B.length; rw [LM.out]; omega, by show (0 : Int) ≤ c; omega, by show (c : Int) < B.length; rw [LM.out]; omega, by show (0 : Int) ≤ d; omega, by show (d : Int) ≤ 3; omega, hS.1⟩
              have HB3 := Lib.hid hb3
              obtain ⟨i1, hi1, hy0, hy1, hy2⟩ := info_of infoE4
              clear hS hb3
              go_wp2_with (at_builtin; refine wpList_append_fresh rfl (.tmp 118) (.tmp 120) 34 rfl wb.heap.size 75 i1 (.agg #[.int .i64 0, .int .i64 0, .int .i64 0, .string ByteArray.empty]) 4 40 Tryd.underlying34 hi1 hy0 hy1 hy2 rfl (by decide) (.slice ae k ce) k (E.flatMap encE) rfl ((M4.out.re.below ((Below.refl _ _).alloc (Nat.le_refl _) _) (Nat.le_refl _)).at_ LK.out) ⟨w4.heap.size, 0, none⟩ 1 1 (encE ((a : Int), (c : Int), (d : Int), bb)) rfl rfl (newsE _ _ _ _ rfl) (encE_one _) (by unfold maxLen; omega) (by omega) (by simp; omega) ?_; intro v5 w5 hown hgrow hfr; obtain ⟨hs5, hM5⟩ := M4.out.moreE LK.out ((Below.refl _ _).alloc (Nat.le_refl _) _) hown hgrow; obtain ⟨ao, cp5, e5⟩ := (OwnE.snocAt LK.out hown).form; rw [List.length_append, LK.out] at e5; simp only [List.length_singleton] at e5; subst e5; have M5 := Lib.hid hM5; have s5f : w5.frozen? ⟨w.heap.size + 1 + 1, 1, none⟩ = false := (by simp only [World.frozen?, hs5]; simp); have s5l := (Array.getElem?_eq_some_iff.1 hs5).1; have s5c : w5.cell? ⟨w.heap.size + 1 + 1, 1, none⟩ = some (.slice ae k ce) := (by simp [World.cell?, hs5]); clear hown hgrow hfr hs5 hM5)
              go_roundw
              case rel => exact ⟨k + 1, _, E ++ [((a : Int), (c : Int), (d : Int), bb)], by go_num, by omega, by omega, by rw [List.length_append, LK.out]; rfl, SM.out.snoc (by rw [LK.out]; omega) OK.out HB3.out, M5.out⟩
              case measure => (simp [intOf] <;> omega)
          · have q1 : decide (k < n) = true := by rw [decide_eq_true_eq]; exact h1
            have q2 : decide (k < 12) = true := by rw [decide_eq_true_eq]; exact h2
            have q3 : decide ((k : Int) < 12) = true := by rw [decide_eq_true_eq]; omega
            have q4 : decide (0 < m) = false := by rw [decide_eq_false_iff_not]; exact h3
            have q5 : decide ((0 : Int) < (m : Int)) = false := by rw [decide_eq_false_iff_not]; omega
            obtain ⟨rb, r0, r1, r2, r3, r4⟩ := RR.out wr hM.below
            clear hM hEk hSm
            go_wp2
            generalize hw6 : World.setCell _ ⟨w.heap.size + 1, 1, none⟩ _ = w6
            obtain ⟨u0, u1, hb6, _⟩ := shape_set rb (by omega) (B0.out.trans (M.out.below.mono B0.out.size)) _ _ hw6
            obtain ⟨hbl, hel⟩ := mk_own6 SB.out M.out.rb M.out.re _ _ hw6
            clear hw6
            refine bodyPost_ret (v := .agg #[.slice ab m cb, .slice ae k ce]) (by simp [results, Tryd.results8, go_sem, u0, u1]) rfl ⟨_, _, _, _, _, _, B, E, rfl, LM.out, LK.out, hbl, hel, SM.out, hb6⟩
        · have q1 : decide (k < n) = true := by rw [decide_eq_true_eq]; exact h1
          have q2 : decide (k < 12) = false := by rw [decide_eq_false_iff_not]; exact h2
          have q3 : decide ((k : Int) < 12) = false := by rw [decide_eq_false_iff_not]; omega
          obtain ⟨rb, r0, r1, r2, r3, r4⟩ := RR.out wr hM.below
          clear hM hEk hSm
          go_wp2
          generalize hw6 : World.setCell _ ⟨w.heap.size + 1, 1, none⟩ _ = w6
          obtain ⟨u0, u1, hb6, _⟩ := shape_set rb (by omega) (B0.out.trans (M.out.below.mono B0.out.size)) _ _ hw6
          obtain ⟨hbl, hel⟩ := mk_own6 SB.out M.out.rb M.out.re _ _ hw6
          clear hw6
          refine bodyPost_ret (v := .agg #[.slice ab m cb, .slice ae k ce]) (by simp [results, Tryd.results8, go_sem, u0, u1]) rfl ⟨_, _, _, _, _, _, B, E, rfl, LM.out, LK.out, hbl, hel, SM.out, hb6⟩
      · have q1 : decide (k < n) = false := by rw [decide_eq_false_iff_not]; exact h1
        obtain ⟨rb, r0, r1, r2, r3, r4⟩ := RR.out wr hM.below
        clear hM hEk hSm
        go_wp2
        generalize hw6 : World.setCell _ ⟨w.heap.size + 1, 1, none⟩ _ = w6
        obtain ⟨u0, u1, hb6, _⟩ := shape_set rb (by omega) (B0.out.trans (M.out.below.mono B0.out.size)) _ _ hw6
        obtain ⟨hbl, hel⟩ := mk_own6 SB.out M.out.rb M.out.re _ _ hw6
        clear hw6
        refine bodyPost_ret (v := .agg #[.slice ab m cb, .slice ae k ce]) (by simp [results, Tryd.results8, go_sem, u0, u1]) rfl ⟨_, _, _, _, _, _, B, E, rfl, LM.out, LK.out, hbl, hel, SM.out, hb6⟩
end Go.Proofs.YtbdkkkpgjcfdgaaDoor
