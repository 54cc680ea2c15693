/-
  TextApart: the walk: at every two shapes made of plain data the call answers true and turns nothing that was there. Conditions: the library's tables are laid.
-/
import Derived.Test.YtgedcalplfnjmaaDoorTxtK
import Derived.Test.YtgedcalplfnjmaaDoorMkFive
import Derived.Test.YtgedcalplfnjmaaDoorTxtS
import Derived.Test.YtgedcalplfnjmaaDoorTxtMa
import Derived.Test.YtgedcalplfnjmaaDoorAppendRows
import Derived.Lib.OthersKept
namespace Go.Proofs.YtgedcalplfnjmaaDoor
open Go.RowKit Go.Proofs.YtgedcalplfnjmaaDoor.LexM Go.Proofs.YtgedcalplfnjmaaDoor.ParM

theorem three_of {w : World} {x : Nat} {v0 v1 v2 : Value} {T : TypeId} (h1 : w.heap[x]? = some (.cells #[v0, v1, v2] T (0, 0))) : w.cell? ⟨x, 0, none⟩ = some v0 ∧ w.cell? ⟨x, 1, none⟩ = some v1 ∧ w.cell? ⟨x, 2, none⟩ = some v2 ∧ x < w.heap.size :=
  ⟨by simp [World.cell?, h1], by simp [World.cell?, h1], by simp [World.cell?, h1], (Array.getElem?_eq_some_iff.1 h1).1⟩
/-! Two shapes made, in boxes that are laid whenever it is. -/
/-- A box that is still empty. -/
def ShNb (wb wx : World) (p : Nat) : Prop := wx.heap[p]? = some (.cells #[.slice none 0 0, .slice none 0 0] 31 (0, 0)) ∧ wb.heap.size ≤ p
theorem ShNb.step {wb wx wy : World} {p : Nat} (h : ShNb wb wx p) (b : Below wx.heap.size wx wy) : ShNb wb wy p :=
  ⟨by rw [b.block _ (Array.getElem?_eq_some_iff.1 h.1).1]; exact h.1, h.2⟩
theorem ShNb.lt {wb wx : World} {p : Nat} (h : ShNb wb wx p) : p < wx.heap.size := (Array.getElem?_eq_some_iff.1 h.1).1
/-- A shape that Make made. -/
def ShRs (b0 : Nat) (wx : World) (A : Option Addr) (n c : Nat) (A' : Option Addr) (n' c' : Nat) (B : List Bool) (E : List Edg) : Prop := OwnB wx b0 (.slice A n c) B ∧ OwnE wx b0 (.slice A' n' c') E ∧ B.length = n ∧ E.length = n' ∧ Smal5 B E
theorem ShRs.step {wx wy : World} {b0 : Nat} {A A' : Option Addr} {n c n' c' : Nat} {B : List Bool} {E : List Edg} (h : ShRs b0 wx A n c A' n' c' B E) (b : Below wx.heap.size wx wy) : ShRs b0 wy A n c A' n' c' B E :=
  ⟨h.1.below b (Nat.le_refl _), h.2.1.below b (Nat.le_refl _), h.2.2.1, h.2.2.2.1, h.2.2.2.2⟩
/-- A box filled: the shapes are no part of it. -/
theorem ShRs.out {wx wy : World} {b0 : Nat} {A A' : Option Addr} {n c n' c' p : Nat} {B : List Bool} {E : List Edg} {x1 x2 : Value} (h : ShRs b0 wx A n c A' n' c' B E) (o : Out (fun x => x = p) wx wy) (hp : wx.heap[p]? = some (.cells #[x1, x2] 31 (0, 0))) : ShRs b0 wy A n c A' n' c' B E :=
  ⟨ownsRow_out h.1 o (fun b hb e => own_kind h.1 hp mkT_b (by rw [hb, e])), ownsRow_out h.2.1 o (fun b hb e => own_kind h.2.1 hp mkT_e (by rw [hb, e])), h.2.2⟩
theorem sh_store {wb wk w6 : World} {p : Nat} {c0 c1 : Value} (hk : wk.heap[p]? = some (.cells #[c0, c1] 31 (0, 0))) (v0 v1 : Value) (e : (wk.setCell ⟨p, 0, none⟩ v0).setCell ⟨p, 1, none⟩ v1 = w6) (hp : wb.heap.size ≤ p) (hb : Below wb.heap.size wb wk) :
    w6.heap[p]? = some (.cells #[v0, v1] 31 (0, 0)) ∧ Below wb.heap.size wb w6 ∧ Out (fun x => x = p) wk w6 := by
  obtain ⟨_, _, h3, h4⟩ := shape_set hk hp hb v0 v1 e
  subst e
  exact ⟨by rw [heap_setCell_at (heap_setCell_at hk 0 v0)]; rfl, h3, h4⟩
theorem two_of {w : World} {x : Nat} {v0 v1 : Value} {T : TypeId} (h1 : w.heap[x]? = some (.cells #[v0, v1] T (0, 0))) : w.cell? ⟨x, 0, none⟩ = some v0 ∧ w.cell? ⟨x, 1, none⟩ = some v1 ∧ w.frozen? ⟨x, 0, none⟩ = false ∧ w.frozen? ⟨x, 1, none⟩ = false ∧ x < w.heap.size := by
  refine ⟨by simp [World.cell?, h1], by simp [World.cell?, h1], ?_, ?_, (Array.getElem?_eq_some_iff.1 h1).1⟩
  · simp only [World.frozen?, h1]; simp
  · simp only [World.frozen?, h1]; simp
/-- Both made, in their boxes. -/
def ApP (wb : World) (s5 s6 : Value) (wx : World) : Prop := ∃ (p q : Nat) (a1 : Option Addr) (p1 d1 : Nat) (a2 : Option Addr) (p2 d2 : Nat) (B : List Bool) (E : List Edg) (a3 : Option Addr) (p3 d3 : Nat) (a4 : Option Addr) (p4 d4 : Nat) (C : List Bool) (F : List Edg),
  s5 = .pointer (some ⟨p, 0, none⟩) ∧ s6 = .pointer (some ⟨q, 0, none⟩) ∧ wx.heap[p]? = some (.cells #[.slice a1 p1 d1, .slice a2 p2 d2] 31 (0, 0)) ∧ wx.heap[q]? = some (.cells #[.slice a3 p3 d3, .slice a4 p4 d4] 31 (0, 0)) ∧ ShRs wb.heap.size wx a1 p1 d1 a2 p2 d2 B E ∧ ShRs wb.heap.size wx a3 p3 d3 a4 p4 d4 C F ∧ wb.heap.size ≤ p ∧ wb.heap.size ≤ q ∧ Below wb.heap.size wb wx
/-- A shape's copy with a vertex and an edge more, in its box. -/
def ApM (b0 : Nat) (wz : World) (m : Nat) (a6 : Option Addr) (n6 c6 n8 : Nat) (B : List Bool) (E : List Edg) (wx : World) : Prop := ∃ (a8 : Option Addr) (c8 : Nat), wx.heap[m]? = some (.cells #[.slice a6 n6 c6, .slice a8 n8 c8] 31 (0, 0)) ∧ OwnB wx b0 (.slice a6 n6 c6) B ∧ OwnE wx b0 (.slice a8 n8 c8) E ∧ Below wz.heap.size wz wx
def ApL (u : ByteArray) (w9 wr : World) (lv fv : Value) : Prop := ∃ (k n m : Nat), lv = .int .i64 n ∧ fv = .int .i64 m ∧ k ≤ u.size ∧ n = (u.data.toList.take k).count 10 ∧ m = hdT (u.data.toList.take k) ∧ wr.heap[w9.heap.size]? = some (.stringIter u k) ∧ Below w9.heap.size w9 wr
theorem ap_moved {u : ByteArray} {w9 wr : World} {k : Nat} (hi : wr.heap[w9.heap.size]? = some (.stringIter u k)) (hb : Below w9.heap.size w9 wr) (k2 : Nat) :
    (wr.iterAt w9.heap.size u k2).heap[w9.heap.size]? = some (.stringIter u k2) ∧ Below w9.heap.size w9 (wr.iterAt w9.heap.size u k2) ∧ (wr.iterAt w9.heap.size u k2).heap.size = wr.heap.size :=
  ⟨Lib.iterAt_heap wr _ u k k2 hi, Lib.below_iterAt hb (Nat.le_refl _) u k2, Lib.iterAt_size _ _ _ _⟩
theorem hdT_le (l : List UInt8) : hdT l ≤ l.length := by unfold hdT; exact (List.takeWhile_sublist _).length_le
theorem allB (B : List Bool) : ∀ u ∈ B.map Value.bool, u.oneCell' = true := fun u hu => by
  obtain ⟨x, _, rfl⟩ := List.mem_map.1 hu; rfl
theorem allE (E : List Edg) : ∀ u ∈ E.flatMap encE, u.oneCell' = true := fun u hu => by
  obtain ⟨x, _, hx⟩ := List.mem_flatMap.1 hu
  exact encE_one x u hx
theorem encE_cells {w : World} {g : Nat} {f t d : Int} {b : List UInt8} {T : TypeId} (h : w.heap[g]? = some (.cells #[.int .i64 f, .int .i64 t, .int .i64 d, .string (bs b)] T (0, 0))) : ∀ j z, (encE (f, t, d, b))[j]? = some z → w.cell? ((⟨g, 0, none⟩ : Addr).add j) = some z := by
  intro j z hz
  have e : (⟨g, 0, none⟩ : Addr).add j = ⟨g, j, none⟩ := by unfold Addr.add; split <;> simp_all
  rw [e]
  simp only [World.cell?, h]
  match j, hz with
  | 0, hz => simpa [encE] using hz
  | 1, hz => simpa [encE] using hz
  | 2, hz => simpa [encE] using hz
  | 3, hz => simpa [encE] using hz
  | j + 4, hz => simp [encE] at hz
theorem OwnE.more {w : World} {B n : Nat} {v : Value} {l : List Edg} {a : Edg} (e : l.length = n) (h : w.ownsRow B 23 4 v (n + 1) (l.flatMap encE ++ encE a)) : OwnE w B v (l ++ [a]) := by subst e; exact OwnE.snoc h
theorem OwnB.whole {w : World} {B n : Nat} {v : Value} {l : List Bool} (e : l.length = n) (h : w.ownsRow B 4 1 v (0 + n) ([] ++ l.map Value.bool)) : OwnB w B v l := by subst e; simpa [OwnB] using h
theorem OwnE.whole {w : World} {B n : Nat} {v : Value} {l : List Edg} (e : l.length = n) (h : w.ownsRow B 23 4 v (0 + n) ([] ++ l.flatMap encE)) : OwnE w B v l := by subst e; simpa [OwnE] using h
theorem same_eq {B C : List Bool} {E F : List Edg} (hM : May B E) (hN : May C F) : ((bs (printS B E)).toList == (bs (printS C F)).toList) = (decide (B = C) && decide (E = F)) := by
  rw [toList_data, toList_data, bs_data, bs_data, Bool.eq_iff_iff]
  simp only [beq_iff_eq, Bool.and_eq_true, decide_eq_true_eq]
  constructor
  · exact print_inj hM hN
  · rintro ⟨rfl, rfl⟩; rfl
set_option maxHeartbeats 16000000 in
set_option maxRecDepth 100000 in
theorem apart9 (v1 v2 : Value) (Z1 Z2 : List Bool) (A1 : Option Addr) (n1 c1 : Nat) (D1 : Nat → Int × Int × Int) (A2 : Option Addr) (n2 c2 : Nat) (D2 : Nat → Int) (A3 : Option Addr) (n3 c3 : Nat) (D3 : Nat → Int × Int × Int) (A4 : Option Addr) (n4 c4 : Nat) (D4 : Nat → Int) (w : World) (hT : TabL w)
    (h1 : BlsAt w v1 Z1) (h2 : Tri8 w A1 n1 D1) (h3 : Byt8 w A2 n2 D2) (h4 : BlsAt w v2 Z2) (h5 : Tri8 w A3 n3 D3) (h6 : Byt8 w A4 n4 D4) :
    Calls Tryd.prog 4 #[.agg #[v1, .slice A1 n1 c1, .slice A2 n2 c2], .agg #[v2, .slice A3 n3 c3, .slice A4 n4 c4]] w fun r w' => r = .returned (.bool true) ∧ Below w.heap.size w w' := by
  have HT := Lib.hid hT
  have WK := Lib.hid wakes9
  have M1 : Hid (∀ wx, Below w.heap.size w wx → Calls Tryd.prog 9 #[.agg #[v1, .slice A1 n1 c1, .slice A2 n2 c2], .int .i64 5] wx (MakP5 wx)) := Lib.hid (fun wx b => refMake5 v1 Z1 A1 n1 c1 D1 A2 n2 c2 D2 wx (h1.below b (Nat.le_refl _)) (h2.below b) (h3.below b))
  have M2 : Hid (∀ wx, Below w.heap.size w wx → Calls Tryd.prog 9 #[.agg #[v2, .slice A3 n3 c3, .slice A4 n4 c4], .int .i64 5] wx (MakP5 wx)) := Lib.hid (fun wx b => refMake5 v2 Z2 A3 n3 c3 D3 A4 n4 c4 D4 wx (h4.below b (Nat.le_refl _)) (h5.below b) (h6.below b))
  obtain ⟨A5, n5, c5, e⟩ : ∃ A n c, v1 = .slice A n c := by obtain ⟨A, c, e⟩ := h1.form; exact ⟨_, _, _, e⟩
  subst e
  obtain ⟨A6, n6, c6, e⟩ : ∃ A n c, v2 = .slice A n c := by obtain ⟨A, c, e⟩ := h4.form; exact ⟨_, _, _, e⟩
  subst e
  clear hT h1 h2 h3 h4 h5 h6
  go_enter Tryd.func4, Tryd.ntmps4
  go_upto_region 1 with (fail)
  generalize hwb : World.alloc (World.alloc w _) _ = wb
  have B0 : Hid (Below w.heap.size w wb) := Lib.hid (by rw [← hwb]; exact ((Below.refl _ _).alloc (Nat.le_refl _) _).alloc (by simp) _)
  have hk0 : wb.heap[w.heap.size]? = some (.cells #[.slice A5 n5 c5, .slice A1 n1 c1, .slice A2 n2 c2] 38 (0, 0)) := by rw [← hwb, Below.heap_alloc _ _ _ (by simp)]; exact heap_alloc_new w _
  have hk1 : wb.heap[w.heap.size + 1]? = some (.cells #[.slice A6 n6 c6, .slice A3 n3 c3, .slice A4 n4 c4] 38 (0, 0)) := by rw [← hwb]; exact heap_second w _ _
  obtain ⟨x0, x1, x2, xl⟩ := three_of hk0
  obtain ⟨y0, y1, y2, yl⟩ := three_of hk1
  have KS : Hid (∀ w', Below wb.heap.size wb w' → w'.cell? ⟨w.heap.size, 0, none⟩ = some (.slice A5 n5 c5) ∧ w'.cell? ⟨w.heap.size, 1, none⟩ = some (.slice A1 n1 c1) ∧ w'.cell? ⟨w.heap.size, 2, none⟩ = some (.slice A2 n2 c2) ∧ w'.cell? ⟨w.heap.size + 1, 0, none⟩ = some (.slice A6 n6 c6) ∧ w'.cell? ⟨w.heap.size + 1, 1, none⟩ = some (.slice A3 n3 c3) ∧ w'.cell? ⟨w.heap.size + 1, 2, none⟩ = some (.slice A4 n4 c4)) := Lib.hid (fun w' b => by
    obtain ⟨x0, x1, x2, _⟩ := three_of ((b.block _ (Array.getElem?_eq_some_iff.1 hk0).1).trans hk0)
    obtain ⟨y0, y1, y2, _⟩ := three_of ((b.block _ (Array.getElem?_eq_some_iff.1 hk1).1).trans hk1)
    exact ⟨x0, x1, x2, y0, y1, y2⟩)
  clear hwb hk0 hk1
  clear x0 x1 x2 xl y0 y1 y2 yl
  go_cut [5, 6] from 18 to 21 (fun s5 s6 wx => ApP wb s5 s6 wx)
  case first =>
    refine wp_region_held_drew (S := fun w' => Below wb.heap.size wb w') (by kernel_rfl) (Below.refl _ _).drew (fun hHeld => ?_)
    refine wpAnyH_take (i := 0) (v := ?_) rfl (by kernel_rfl) (by kernel_rfl) (by kernel_rfl) (fun _ _ _ h => h) (Or.inl ⟨by rfl, ?_⟩) (by assumption) ?_
    rotate_left
    · (intro w' hSw; obtain ⟨s0, s1, s2, s3, s4, s5⟩ := KS.out w' hSw; clear hSw; go_simp; try with_reducible rfl)
    refine wpAnyH_take (i := 2) (v := ?_) rfl (by kernel_rfl) (by kernel_rfl) (by kernel_rfl) (fun _ _ _ h => h) (Or.inl ⟨by rfl, ?_⟩) (by assumption) ?_
    rotate_left
    · (intro w' hSw; obtain ⟨s0, s1, s2, s3, s4, s5⟩ := KS.out w' hSw; clear hSw; go_simp; try with_reducible rfl)
    have BD0 : Hid (Below wb.heap.size wb (World.drew wb)) := Lib.hid ((Below.refl _ _).drew)
    generalize World.drew wb = u0 at *
    clear hHeld
    refine wpAnyH_ready (rs := [1, 4, 5]) (by kernel_rfl) (by simp) ?_
    refine AllReadyH.cons rfl (fun K hK => ?_) (AllReadyH.cons rfl (fun K hK => ?_) (AllReadyH.cons rfl (fun K hK => ?_) AllReadyH.nil))
    · go_simp
      refine (M1.out _ (B0.out.trans (BD0.out.mono B0.out.size))).mono ?_
      rintro e u1 ⟨a1, p1, d1, a2, p2, d2, B, E, rfl, lb, le, hb, he, hs, b9⟩
      have BD1 := Lib.hid (BD0.out.trans (b9.mono BD0.out.size))
      have R1_1 : Hid (ShRs wb.heap.size u1 a1 p1 d1 a2 p2 d2 B E) := Lib.hid ⟨own_base hb BD0.out.size, own_base he BD0.out.size, lb, le, hs⟩
      clear lb le hb he hs b9
      refine hK.out _ _ BD1.out (fun _ => ?_)
      clear hK K
      refine wpAnyH_ready (rs := [3, 4, 5]) (by kernel_rfl) (by simp) ?_
      refine AllReadyH.cons rfl (fun K hK => ?_) (AllReadyH.cons rfl (fun K hK => ?_) (AllReadyH.cons rfl (fun K hK => ?_) AllReadyH.nil))
      · go_simp
        refine (M2.out _ (B0.out.trans (BD1.out.mono B0.out.size))).mono ?_
        rintro e u2 ⟨a3, p3, d3, a4, p4, d4, C, F, rfl, lb, le, hb, he, hs, b9⟩
        have BD2 := Lib.hid (BD1.out.trans (b9.mono BD1.out.size))
        have R2_2 : Hid (ShRs wb.heap.size u2 a3 p3 d3 a4 p4 d4 C F) := Lib.hid ⟨own_base hb BD1.out.size, own_base he BD1.out.size, lb, le, hs⟩
        have R1_2 := Lib.hid (R1_1.out.step b9)
        clear lb le hb he hs b9
        refine hK.out _ _ BD2.out (fun _ => ?_)
        clear hK K
        refine wpAnyH_ready (rs := [4, 5]) (by kernel_rfl) (by simp) ?_
        refine AllReadyH.cons rfl (fun K hK => ?_) (AllReadyH.cons rfl (fun K hK => ?_) AllReadyH.nil)
        · go_simp
          generalize hw9 : World.alloc u2 _ = u3
          have b9 : Below u2.heap.size u2 u3 := by rw [← hw9]; exact (Below.refl _ _).alloc (Nat.le_refl _) _
          have BD3 := Lib.hid (BD2.out.trans (b9.mono BD2.out.size))
          have P5_3 : Hid (ShNb wb u3 u2.heap.size) := Lib.hid ⟨by rw [← hw9]; exact heap_alloc_new u2 _, BD2.out.size⟩
          have R1_3 := Lib.hid (R1_2.out.step b9)
          have R2_3 := Lib.hid (R2_2.out.step b9)
          clear hw9 b9
          refine hK.out _ _ BD3.out (fun _ => ?_)
          clear hK K
          refine wpAnyH_ready (rs := [5]) (by kernel_rfl) (by simp) ?_
          refine AllReadyH.cons rfl (fun K hK => ?_) AllReadyH.nil
          · go_simp
            generalize hw9 : World.alloc u3 _ = u4
            have b9 : Below u3.heap.size u3 u4 := by rw [← hw9]; exact (Below.refl _ _).alloc (Nat.le_refl _) _
            have BD4 := Lib.hid (BD3.out.trans (b9.mono BD3.out.size))
            have P6_4 : Hid (ShNb wb u4 u3.heap.size) := Lib.hid ⟨by rw [← hw9]; exact heap_alloc_new u3 _, BD3.out.size⟩
            have P5_4 := Lib.hid (P5_3.out.step b9)
            have R1_4 := Lib.hid (R1_3.out.step b9)
            have R2_4 := Lib.hid (R2_3.out.step b9)
            have ne9 : u3.heap.size ≠ u2.heap.size := by have := P5_3.out.lt; omega
            clear hw9 b9
            refine hK.out _ _ BD4.out (fun _ => ?_)
            clear hK K
            have ne9' : u2.heap.size ≠ u3.heap.size := by omega
            obtain ⟨k0, k1, k2, k3, kl⟩ := two_of P5_4.out.1
            refine wpAnyH_ready (rs := [6]) (by kernel_rfl) (by simp) ?_
            refine AllReadyH.cons rfl (fun K hK => ?_) AllReadyH.nil
            go_simp
            generalize hw9 : World.setCell _ ⟨u2.heap.size, 1, none⟩ _ = v1
            obtain ⟨g5, b9, o9⟩ := sh_store P5_4.out.1 _ _ hw9 P5_4.out.2 BD4.out
            have Q5 := Lib.hid g5
            have R1_v := Lib.hid (R1_4.out.out o9 P5_4.out.1)
            have R2_v := Lib.hid (R2_4.out.out o9 P5_4.out.1)
            have P6_v : Hid (ShNb wb v1 u3.heap.size) := Lib.hid ⟨by rw [o9.block _ P6_4.out.lt (fun e => ne9' e.symm)]; exact P6_4.out.1, P6_4.out.2⟩
            have B_v := Lib.hid b9
            clear hw9 g5 b9 o9 k0 k1 k2 k3 kl
            refine hK.out _ _ B_v.out (fun _ => ?_)
            clear hK K
            obtain ⟨k0, k1, k2, k3, kl⟩ := two_of P6_v.out.1
            refine wpAnyH_ready (rs := [7]) (by kernel_rfl) (by simp) ?_
            refine AllReadyH.cons rfl (fun K hK => ?_) AllReadyH.nil
            go_simp
            generalize hw9 : World.setCell _ ⟨u3.heap.size, 1, none⟩ _ = v2
            obtain ⟨g6, b9, o9⟩ := sh_store P6_v.out.1 _ _ hw9 P6_v.out.2 B_v.out
            have Q6 := Lib.hid g6
            have R1_z := Lib.hid (R1_v.out.out o9 P6_v.out.1)
            have R2_z := Lib.hid (R2_v.out.out o9 P6_v.out.1)
            have Q5_z : Hid (v2.heap[u2.heap.size]? = some (.cells #[.slice a1 p1 d1, .slice a2 p2 d2] 31 (0, 0))) := Lib.hid (by rw [o9.block _ (Array.getElem?_eq_some_iff.1 Q5.out).1 (fun e => ne9' e)]; exact Q5.out)
            have B_z := Lib.hid b9
            clear hw9 g6 b9 o9 k0 k1 k2 k3 kl
            refine hK.out _ _ B_z.out (fun _ => ?_)
            clear hK K
            refine wpAnyH_done (by kernel_rfl) ?_ _
            go_wp2
            go_meet
            exact ⟨_, _, _, _, _, _, _, _, B, E, _, _, _, _, _, _, C, F, rfl, rfl, Q5_z.out, Q6.out, R1_z.out, R2_z.out, P5_4.out.2, P6_4.out.2, B_z.out⟩
        · go_simp
          generalize hw9 : World.alloc u2 _ = u3
          have b9 : Below u2.heap.size u2 u3 := by rw [← hw9]; exact (Below.refl _ _).alloc (Nat.le_refl _) _
          have BD3 := Lib.hid (BD2.out.trans (b9.mono BD2.out.size))
          have P6_3 : Hid (ShNb wb u3 u2.heap.size) := Lib.hid ⟨by rw [← hw9]; exact heap_alloc_new u2 _, BD2.out.size⟩
          have R1_3 := Lib.hid (R1_2.out.step b9)
          have R2_3 := Lib.hid (R2_2.out.step b9)
          clear hw9 b9
          refine hK.out _ _ BD3.out (fun _ => ?_)
          clear hK K
          refine wpAnyH_ready (rs := [4]) (by kernel_rfl) (by simp) ?_
          refine AllReadyH.cons rfl (fun K hK => ?_) AllReadyH.nil
          · go_simp
            generalize hw9 : World.alloc u3 _ = u4
            have b9 : Below u3.heap.size u3 u4 := by rw [← hw9]; exact (Below.refl _ _).alloc (Nat.le_refl _) _
            have BD4 := Lib.hid (BD3.out.trans (b9.mono BD3.out.size))
            have P5_4 : Hid (ShNb wb u4 u3.heap.size) := Lib.hid ⟨by rw [← hw9]; exact heap_alloc_new u3 _, BD3.out.size⟩
            have P6_4 := Lib.hid (P6_3.out.step b9)
            have R1_4 := Lib.hid (R1_3.out.step b9)
            have R2_4 := Lib.hid (R2_3.out.step b9)
            have ne9 : u3.heap.size ≠ u2.heap.size := by have := P6_3.out.lt; omega
            clear hw9 b9
            refine hK.out _ _ BD4.out (fun _ => ?_)
            clear hK K
            have ne9' : u3.heap.size ≠ u2.heap.size := by omega
            obtain ⟨k0, k1, k2, k3, kl⟩ := two_of P5_4.out.1
            refine wpAnyH_ready (rs := [6]) (by kernel_rfl) (by simp) ?_
            refine AllReadyH.cons rfl (fun K hK => ?_) AllReadyH.nil
            go_simp
            generalize hw9 : World.setCell _ ⟨u3.heap.size, 1, none⟩ _ = v1
            obtain ⟨g5, b9, o9⟩ := sh_store P5_4.out.1 _ _ hw9 P5_4.out.2 BD4.out
            have Q5 := Lib.hid g5
            have R1_v := Lib.hid (R1_4.out.out o9 P5_4.out.1)
            have R2_v := Lib.hid (R2_4.out.out o9 P5_4.out.1)
            have P6_v : Hid (ShNb wb v1 u2.heap.size) := Lib.hid ⟨by rw [o9.block _ P6_4.out.lt (fun e => ne9' e.symm)]; exact P6_4.out.1, P6_4.out.2⟩
            have B_v := Lib.hid b9
            clear hw9 g5 b9 o9 k0 k1 k2 k3 kl
            refine hK.out _ _ B_v.out (fun _ => ?_)
            clear hK K
            obtain ⟨k0, k1, k2, k3, kl⟩ := two_of P6_v.out.1
            refine wpAnyH_ready (rs := [7]) (by kernel_rfl) (by simp) ?_
            refine AllReadyH.cons rfl (fun K hK => ?_) AllReadyH.nil
            go_simp
            generalize hw9 : World.setCell _ ⟨u2.heap.size, 1, none⟩ _ = v2
            obtain ⟨g6, b9, o9⟩ := sh_store P6_v.out.1 _ _ hw9 P6_v.out.2 B_v.out
            have Q6 := Lib.hid g6
            have R1_z := Lib.hid (R1_v.out.out o9 P6_v.out.1)
            have R2_z := Lib.hid (R2_v.out.out o9 P6_v.out.1)
            have Q5_z : Hid (v2.heap[u3.heap.size]? = some (.cells #[.slice a1 p1 d1, .slice a2 p2 d2] 31 (0, 0))) := Lib.hid (by rw [o9.block _ (Array.getElem?_eq_some_iff.1 Q5.out).1 (fun e => ne9' e)]; exact Q5.out)
            have B_z := Lib.hid b9
            clear hw9 g6 b9 o9 k0 k1 k2 k3 kl
            refine hK.out _ _ B_z.out (fun _ => ?_)
            clear hK K
            refine wpAnyH_done (by kernel_rfl) ?_ _
            go_wp2
            go_meet
            exact ⟨_, _, _, _, _, _, _, _, B, E, _, _, _, _, _, _, C, F, rfl, rfl, Q5_z.out, Q6.out, R1_z.out, R2_z.out, P5_4.out.2, P6_4.out.2, B_z.out⟩
      · go_simp
        generalize hw9 : World.alloc u1 _ = u2
        have b9 : Below u1.heap.size u1 u2 := by rw [← hw9]; exact (Below.refl _ _).alloc (Nat.le_refl _) _
        have BD2 := Lib.hid (BD1.out.trans (b9.mono BD1.out.size))
        have P5_2 : Hid (ShNb wb u2 u1.heap.size) := Lib.hid ⟨by rw [← hw9]; exact heap_alloc_new u1 _, BD1.out.size⟩
        have R1_2 := Lib.hid (R1_1.out.step b9)
        clear hw9 b9
        refine hK.out _ _ BD2.out (fun _ => ?_)
        clear hK K
        refine wpAnyH_ready (rs := [3, 5]) (by kernel_rfl) (by simp) ?_
        refine AllReadyH.cons rfl (fun K hK => ?_) (AllReadyH.cons rfl (fun K hK => ?_) AllReadyH.nil)
        · go_simp
          refine (M2.out _ (B0.out.trans (BD2.out.mono B0.out.size))).mono ?_
          rintro e u3 ⟨a3, p3, d3, a4, p4, d4, C, F, rfl, lb, le, hb, he, hs, b9⟩
          have BD3 := Lib.hid (BD2.out.trans (b9.mono BD2.out.size))
          have R2_3 : Hid (ShRs wb.heap.size u3 a3 p3 d3 a4 p4 d4 C F) := Lib.hid ⟨own_base hb BD2.out.size, own_base he BD2.out.size, lb, le, hs⟩
          have P5_3 := Lib.hid (P5_2.out.step b9)
          have R1_3 := Lib.hid (R1_2.out.step b9)
          clear lb le hb he hs b9
          refine hK.out _ _ BD3.out (fun _ => ?_)
          clear hK K
          refine wpAnyH_ready (rs := [5]) (by kernel_rfl) (by simp) ?_
          refine AllReadyH.cons rfl (fun K hK => ?_) AllReadyH.nil
          · go_simp
            generalize hw9 : World.alloc u3 _ = u4
            have b9 : Below u3.heap.size u3 u4 := by rw [← hw9]; exact (Below.refl _ _).alloc (Nat.le_refl _) _
            have BD4 := Lib.hid (BD3.out.trans (b9.mono BD3.out.size))
            have P6_4 : Hid (ShNb wb u4 u3.heap.size) := Lib.hid ⟨by rw [← hw9]; exact heap_alloc_new u3 _, BD3.out.size⟩
            have P5_4 := Lib.hid (P5_3.out.step b9)
            have R1_4 := Lib.hid (R1_3.out.step b9)
            have R2_4 := Lib.hid (R2_3.out.step b9)
            have ne9 : u3.heap.size ≠ u1.heap.size := by have := P5_3.out.lt; omega
            clear hw9 b9
            refine hK.out _ _ BD4.out (fun _ => ?_)
            clear hK K
            have ne9' : u1.heap.size ≠ u3.heap.size := by omega
            obtain ⟨k0, k1, k2, k3, kl⟩ := two_of P5_4.out.1
            refine wpAnyH_ready (rs := [6]) (by kernel_rfl) (by simp) ?_
            refine AllReadyH.cons rfl (fun K hK => ?_) AllReadyH.nil
            go_simp
            generalize hw9 : World.setCell _ ⟨u1.heap.size, 1, none⟩ _ = v1
            obtain ⟨g5, b9, o9⟩ := sh_store P5_4.out.1 _ _ hw9 P5_4.out.2 BD4.out
            have Q5 := Lib.hid g5
            have R1_v := Lib.hid (R1_4.out.out o9 P5_4.out.1)
            have R2_v := Lib.hid (R2_4.out.out o9 P5_4.out.1)
            have P6_v : Hid (ShNb wb v1 u3.heap.size) := Lib.hid ⟨by rw [o9.block _ P6_4.out.lt (fun e => ne9' e.symm)]; exact P6_4.out.1, P6_4.out.2⟩
            have B_v := Lib.hid b9
            clear hw9 g5 b9 o9 k0 k1 k2 k3 kl
            refine hK.out _ _ B_v.out (fun _ => ?_)
            clear hK K
            obtain ⟨k0, k1, k2, k3, kl⟩ := two_of P6_v.out.1
            refine wpAnyH_ready (rs := [7]) (by kernel_rfl) (by simp) ?_
            refine AllReadyH.cons rfl (fun K hK => ?_) AllReadyH.nil
            go_simp
            generalize hw9 : World.setCell _ ⟨u3.heap.size, 1, none⟩ _ = v2
            obtain ⟨g6, b9, o9⟩ := sh_store P6_v.out.1 _ _ hw9 P6_v.out.2 B_v.out
            have Q6 := Lib.hid g6
            have R1_z := Lib.hid (R1_v.out.out o9 P6_v.out.1)
            have R2_z := Lib.hid (R2_v.out.out o9 P6_v.out.1)
            have Q5_z : Hid (v2.heap[u1.heap.size]? = some (.cells #[.slice a1 p1 d1, .slice a2 p2 d2] 31 (0, 0))) := Lib.hid (by rw [o9.block _ (Array.getElem?_eq_some_iff.1 Q5.out).1 (fun e => ne9' e)]; exact Q5.out)
            have B_z := Lib.hid b9
            clear hw9 g6 b9 o9 k0 k1 k2 k3 kl
            refine hK.out _ _ B_z.out (fun _ => ?_)
            clear hK K
            refine wpAnyH_done (by kernel_rfl) ?_ _
            go_wp2
            go_meet
            exact ⟨_, _, _, _, _, _, _, _, B, E, _, _, _, _, _, _, C, F, rfl, rfl, Q5_z.out, Q6.out, R1_z.out, R2_z.out, P5_4.out.2, P6_4.out.2, B_z.out⟩
        · go_simp
          generalize hw9 : World.alloc u2 _ = u3
          have b9 : Below u2.heap.size u2 u3 := by rw [← hw9]; exact (Below.refl _ _).alloc (Nat.le_refl _) _
          have BD3 := Lib.hid (BD2.out.trans (b9.mono BD2.out.size))
          have P6_3 : Hid (ShNb wb u3 u2.heap.size) := Lib.hid ⟨by rw [← hw9]; exact heap_alloc_new u2 _, BD2.out.size⟩
          have P5_3 := Lib.hid (P5_2.out.step b9)
          have R1_3 := Lib.hid (R1_2.out.step b9)
          have ne9 : u2.heap.size ≠ u1.heap.size := by have := P5_2.out.lt; omega
          clear hw9 b9
          refine hK.out _ _ BD3.out (fun _ => ?_)
          clear hK K
          refine wpAnyH_ready (rs := [3]) (by kernel_rfl) (by simp) ?_
          refine AllReadyH.cons rfl (fun K hK => ?_) AllReadyH.nil
          · go_simp
            refine (M2.out _ (B0.out.trans (BD3.out.mono B0.out.size))).mono ?_
            rintro e u4 ⟨a3, p3, d3, a4, p4, d4, C, F, rfl, lb, le, hb, he, hs, b9⟩
            have BD4 := Lib.hid (BD3.out.trans (b9.mono BD3.out.size))
            have R2_4 : Hid (ShRs wb.heap.size u4 a3 p3 d3 a4 p4 d4 C F) := Lib.hid ⟨own_base hb BD3.out.size, own_base he BD3.out.size, lb, le, hs⟩
            have P5_4 := Lib.hid (P5_3.out.step b9)
            have P6_4 := Lib.hid (P6_3.out.step b9)
            have R1_4 := Lib.hid (R1_3.out.step b9)
            clear lb le hb he hs b9
            refine hK.out _ _ BD4.out (fun _ => ?_)
            clear hK K
            have ne9' : u1.heap.size ≠ u2.heap.size := by omega
            obtain ⟨k0, k1, k2, k3, kl⟩ := two_of P5_4.out.1
            refine wpAnyH_ready (rs := [6]) (by kernel_rfl) (by simp) ?_
            refine AllReadyH.cons rfl (fun K hK => ?_) AllReadyH.nil
            go_simp
            generalize hw9 : World.setCell _ ⟨u1.heap.size, 1, none⟩ _ = v1
            obtain ⟨g5, b9, o9⟩ := sh_store P5_4.out.1 _ _ hw9 P5_4.out.2 BD4.out
            have Q5 := Lib.hid g5
            have R1_v := Lib.hid (R1_4.out.out o9 P5_4.out.1)
            have R2_v := Lib.hid (R2_4.out.out o9 P5_4.out.1)
            have P6_v : Hid (ShNb wb v1 u2.heap.size) := Lib.hid ⟨by rw [o9.block _ P6_4.out.lt (fun e => ne9' e.symm)]; exact P6_4.out.1, P6_4.out.2⟩
            have B_v := Lib.hid b9
            clear hw9 g5 b9 o9 k0 k1 k2 k3 kl
            refine hK.out _ _ B_v.out (fun _ => ?_)
            clear hK K
            obtain ⟨k0, k1, k2, k3, kl⟩ := two_of P6_v.out.1
            refine wpAnyH_ready (rs := [7]) (by kernel_rfl) (by simp) ?_
            refine AllReadyH.cons rfl (fun K hK => ?_) AllReadyH.nil
            go_simp
            generalize hw9 : World.setCell _ ⟨u2.heap.size, 1, none⟩ _ = v2
            obtain ⟨g6, b9, o9⟩ := sh_store P6_v.out.1 _ _ hw9 P6_v.out.2 B_v.out
            have Q6 := Lib.hid g6
            have R1_z := Lib.hid (R1_v.out.out o9 P6_v.out.1)
            have R2_z := Lib.hid (R2_v.out.out o9 P6_v.out.1)
            have Q5_z : Hid (v2.heap[u1.heap.size]? = some (.cells #[.slice a1 p1 d1, .slice a2 p2 d2] 31 (0, 0))) := Lib.hid (by rw [o9.block _ (Array.getElem?_eq_some_iff.1 Q5.out).1 (fun e => ne9' e)]; exact Q5.out)
            have B_z := Lib.hid b9
            clear hw9 g6 b9 o9 k0 k1 k2 k3 kl
            refine hK.out _ _ B_z.out (fun _ => ?_)
            clear hK K
            refine wpAnyH_done (by kernel_rfl) ?_ _
            go_wp2
            go_meet
            exact ⟨_, _, _, _, _, _, _, _, B, E, _, _, _, _, _, _, C, F, rfl, rfl, Q5_z.out, Q6.out, R1_z.out, R2_z.out, P5_4.out.2, P6_4.out.2, B_z.out⟩
      · go_simp
        generalize hw9 : World.alloc u1 _ = u2
        have b9 : Below u1.heap.size u1 u2 := by rw [← hw9]; exact (Below.refl _ _).alloc (Nat.le_refl _) _
        have BD2 := Lib.hid (BD1.out.trans (b9.mono BD1.out.size))
        have P6_2 : Hid (ShNb wb u2 u1.heap.size) := Lib.hid ⟨by rw [← hw9]; exact heap_alloc_new u1 _, BD1.out.size⟩
        have R1_2 := Lib.hid (R1_1.out.step b9)
        clear hw9 b9
        refine hK.out _ _ BD2.out (fun _ => ?_)
        clear hK K
        refine wpAnyH_ready (rs := [3, 4]) (by kernel_rfl) (by simp) ?_
        refine AllReadyH.cons rfl (fun K hK => ?_) (AllReadyH.cons rfl (fun K hK => ?_) AllReadyH.nil)
        · go_simp
          refine (M2.out _ (B0.out.trans (BD2.out.mono B0.out.size))).mono ?_
          rintro e u3 ⟨a3, p3, d3, a4, p4, d4, C, F, rfl, lb, le, hb, he, hs, b9⟩
          have BD3 := Lib.hid (BD2.out.trans (b9.mono BD2.out.size))
          have R2_3 : Hid (ShRs wb.heap.size u3 a3 p3 d3 a4 p4 d4 C F) := Lib.hid ⟨own_base hb BD2.out.size, own_base he BD2.out.size, lb, le, hs⟩
          have P6_3 := Lib.hid (P6_2.out.step b9)
          have R1_3 := Lib.hid (R1_2.out.step b9)
          clear lb le hb he hs b9
          refine hK.out _ _ BD3.out (fun _ => ?_)
          clear hK K
          refine wpAnyH_ready (rs := [4]) (by kernel_rfl) (by simp) ?_
          refine AllReadyH.cons rfl (fun K hK => ?_) AllReadyH.nil
          · go_simp
            generalize hw9 : World.alloc u3 _ = u4
            have b9 : Below u3.heap.size u3 u4 := by rw [← hw9]; exact (Below.refl _ _).alloc (Nat.le_refl _) _
            have BD4 := Lib.hid (BD3.out.trans (b9.mono BD3.out.size))
            have P5_4 : Hid (ShNb wb u4 u3.heap.size) := Lib.hid ⟨by rw [← hw9]; exact heap_alloc_new u3 _, BD3.out.size⟩
            have P6_4 := Lib.hid (P6_3.out.step b9)
            have R1_4 := Lib.hid (R1_3.out.step b9)
            have R2_4 := Lib.hid (R2_3.out.step b9)
            have ne9 : u3.heap.size ≠ u1.heap.size := by have := P6_3.out.lt; omega
            clear hw9 b9
            refine hK.out _ _ BD4.out (fun _ => ?_)
            clear hK K
            have ne9' : u3.heap.size ≠ u1.heap.size := by omega
            obtain ⟨k0, k1, k2, k3, kl⟩ := two_of P5_4.out.1
            refine wpAnyH_ready (rs := [6]) (by kernel_rfl) (by simp) ?_
            refine AllReadyH.cons rfl (fun K hK => ?_) AllReadyH.nil
            go_simp
            generalize hw9 : World.setCell _ ⟨u3.heap.size, 1, none⟩ _ = v1
            obtain ⟨g5, b9, o9⟩ := sh_store P5_4.out.1 _ _ hw9 P5_4.out.2 BD4.out
            have Q5 := Lib.hid g5
            have R1_v := Lib.hid (R1_4.out.out o9 P5_4.out.1)
            have R2_v := Lib.hid (R2_4.out.out o9 P5_4.out.1)
            have P6_v : Hid (ShNb wb v1 u1.heap.size) := Lib.hid ⟨by rw [o9.block _ P6_4.out.lt (fun e => ne9' e.symm)]; exact P6_4.out.1, P6_4.out.2⟩
            have B_v := Lib.hid b9
            clear hw9 g5 b9 o9 k0 k1 k2 k3 kl
            refine hK.out _ _ B_v.out (fun _ => ?_)
            clear hK K
            obtain ⟨k0, k1, k2, k3, kl⟩ := two_of P6_v.out.1
            refine wpAnyH_ready (rs := [7]) (by kernel_rfl) (by simp) ?_
            refine AllReadyH.cons rfl (fun K hK => ?_) AllReadyH.nil
            go_simp
            generalize hw9 : World.setCell _ ⟨u1.heap.size, 1, none⟩ _ = v2
            obtain ⟨g6, b9, o9⟩ := sh_store P6_v.out.1 _ _ hw9 P6_v.out.2 B_v.out
            have Q6 := Lib.hid g6
            have R1_z := Lib.hid (R1_v.out.out o9 P6_v.out.1)
            have R2_z := Lib.hid (R2_v.out.out o9 P6_v.out.1)
            have Q5_z : Hid (v2.heap[u3.heap.size]? = some (.cells #[.slice a1 p1 d1, .slice a2 p2 d2] 31 (0, 0))) := Lib.hid (by rw [o9.block _ (Array.getElem?_eq_some_iff.1 Q5.out).1 (fun e => ne9' e)]; exact Q5.out)
            have B_z := Lib.hid b9
            clear hw9 g6 b9 o9 k0 k1 k2 k3 kl
            refine hK.out _ _ B_z.out (fun _ => ?_)
            clear hK K
            refine wpAnyH_done (by kernel_rfl) ?_ _
            go_wp2
            go_meet
            exact ⟨_, _, _, _, _, _, _, _, B, E, _, _, _, _, _, _, C, F, rfl, rfl, Q5_z.out, Q6.out, R1_z.out, R2_z.out, P5_4.out.2, P6_4.out.2, B_z.out⟩
        · go_simp
          generalize hw9 : World.alloc u2 _ = u3
          have b9 : Below u2.heap.size u2 u3 := by rw [← hw9]; exact (Below.refl _ _).alloc (Nat.le_refl _) _
          have BD3 := Lib.hid (BD2.out.trans (b9.mono BD2.out.size))
          have P5_3 : Hid (ShNb wb u3 u2.heap.size) := Lib.hid ⟨by rw [← hw9]; exact heap_alloc_new u2 _, BD2.out.size⟩
          have P6_3 := Lib.hid (P6_2.out.step b9)
          have R1_3 := Lib.hid (R1_2.out.step b9)
          have ne9 : u2.heap.size ≠ u1.heap.size := by have := P6_2.out.lt; omega
          clear hw9 b9
          refine hK.out _ _ BD3.out (fun _ => ?_)
          clear hK K
          refine wpAnyH_ready (rs := [3]) (by kernel_rfl) (by simp) ?_
          refine AllReadyH.cons rfl (fun K hK => ?_) AllReadyH.nil
          · go_simp
            refine (M2.out _ (B0.out.trans (BD3.out.mono B0.out.size))).mono ?_
            rintro e u4 ⟨a3, p3, d3, a4, p4, d4, C, F, rfl, lb, le, hb, he, hs, b9⟩
            have BD4 := Lib.hid (BD3.out.trans (b9.mono BD3.out.size))
            have R2_4 : Hid (ShRs wb.heap.size u4 a3 p3 d3 a4 p4 d4 C F) := Lib.hid ⟨own_base hb BD3.out.size, own_base he BD3.out.size, lb, le, hs⟩
            have P5_4 := Lib.hid (P5_3.out.step b9)
            have P6_4 := Lib.hid (P6_3.out.step b9)
            have R1_4 := Lib.hid (R1_3.out.step b9)
            clear lb le hb he hs b9
            refine hK.out _ _ BD4.out (fun _ => ?_)
            clear hK K
            have ne9' : u2.heap.size ≠ u1.heap.size := by omega
            obtain ⟨k0, k1, k2, k3, kl⟩ := two_of P5_4.out.1
            refine wpAnyH_ready (rs := [6]) (by kernel_rfl) (by simp) ?_
            refine AllReadyH.cons rfl (fun K hK => ?_) AllReadyH.nil
            go_simp
            generalize hw9 : World.setCell _ ⟨u2.heap.size, 1, none⟩ _ = v1
            obtain ⟨g5, b9, o9⟩ := sh_store P5_4.out.1 _ _ hw9 P5_4.out.2 BD4.out
            have Q5 := Lib.hid g5
            have R1_v := Lib.hid (R1_4.out.out o9 P5_4.out.1)
            have R2_v := Lib.hid (R2_4.out.out o9 P5_4.out.1)
            have P6_v : Hid (ShNb wb v1 u1.heap.size) := Lib.hid ⟨by rw [o9.block _ P6_4.out.lt (fun e => ne9' e.symm)]; exact P6_4.out.1, P6_4.out.2⟩
            have B_v := Lib.hid b9
            clear hw9 g5 b9 o9 k0 k1 k2 k3 kl
            refine hK.out _ _ B_v.out (fun _ => ?_)
            clear hK K
            obtain ⟨k0, k1, k2, k3, kl⟩ := two_of P6_v.out.1
            refine wpAnyH_ready (rs := [7]) (by kernel_rfl) (by simp) ?_
            refine AllReadyH.cons rfl (fun K hK => ?_) AllReadyH.nil
            go_simp
            generalize hw9 : World.setCell _ ⟨u1.heap.size, 1, none⟩ _ = v2
            obtain ⟨g6, b9, o9⟩ := sh_store P6_v.out.1 _ _ hw9 P6_v.out.2 B_v.out
            have Q6 := Lib.hid g6
            have R1_z := Lib.hid (R1_v.out.out o9 P6_v.out.1)
            have R2_z := Lib.hid (R2_v.out.out o9 P6_v.out.1)
            have Q5_z : Hid (v2.heap[u2.heap.size]? = some (.cells #[.slice a1 p1 d1, .slice a2 p2 d2] 31 (0, 0))) := Lib.hid (by rw [o9.block _ (Array.getElem?_eq_some_iff.1 Q5.out).1 (fun e => ne9' e)]; exact Q5.out)
            have B_z := Lib.hid b9
            clear hw9 g6 b9 o9 k0 k1 k2 k3 kl
            refine hK.out _ _ B_z.out (fun _ => ?_)
            clear hK K
            refine wpAnyH_done (by kernel_rfl) ?_ _
            go_wp2
            go_meet
            exact ⟨_, _, _, _, _, _, _, _, B, E, _, _, _, _, _, _, C, F, rfl, rfl, Q5_z.out, Q6.out, R1_z.out, R2_z.out, P5_4.out.2, P6_4.out.2, B_z.out⟩
    · go_simp
      generalize hw9 : World.alloc u0 _ = u1
      have b9 : Below u0.heap.size u0 u1 := by rw [← hw9]; exact (Below.refl _ _).alloc (Nat.le_refl _) _
      have BD1 := Lib.hid (BD0.out.trans (b9.mono BD0.out.size))
      have P5_1 : Hid (ShNb wb u1 u0.heap.size) := Lib.hid ⟨by rw [← hw9]; exact heap_alloc_new u0 _, BD0.out.size⟩
      clear hw9 b9
      refine hK.out _ _ BD1.out (fun _ => ?_)
      clear hK K
      refine wpAnyH_ready (rs := [1, 5]) (by kernel_rfl) (by simp) ?_
      refine AllReadyH.cons rfl (fun K hK => ?_) (AllReadyH.cons rfl (fun K hK => ?_) AllReadyH.nil)
      · go_simp
        refine (M1.out _ (B0.out.trans (BD1.out.mono B0.out.size))).mono ?_
        rintro e u2 ⟨a1, p1, d1, a2, p2, d2, B, E, rfl, lb, le, hb, he, hs, b9⟩
        have BD2 := Lib.hid (BD1.out.trans (b9.mono BD1.out.size))
        have R1_2 : Hid (ShRs wb.heap.size u2 a1 p1 d1 a2 p2 d2 B E) := Lib.hid ⟨own_base hb BD1.out.size, own_base he BD1.out.size, lb, le, hs⟩
        have P5_2 := Lib.hid (P5_1.out.step b9)
        clear lb le hb he hs b9
        refine hK.out _ _ BD2.out (fun _ => ?_)
        clear hK K
        refine wpAnyH_ready (rs := [3, 5]) (by kernel_rfl) (by simp) ?_
        refine AllReadyH.cons rfl (fun K hK => ?_) (AllReadyH.cons rfl (fun K hK => ?_) AllReadyH.nil)
        · go_simp
          refine (M2.out _ (B0.out.trans (BD2.out.mono B0.out.size))).mono ?_
          rintro e u3 ⟨a3, p3, d3, a4, p4, d4, C, F, rfl, lb, le, hb, he, hs, b9⟩
          have BD3 := Lib.hid (BD2.out.trans (b9.mono BD2.out.size))
          have R2_3 : Hid (ShRs wb.heap.size u3 a3 p3 d3 a4 p4 d4 C F) := Lib.hid ⟨own_base hb BD2.out.size, own_base he BD2.out.size, lb, le, hs⟩
          have P5_3 := Lib.hid (P5_2.out.step b9)
          have R1_3 := Lib.hid (R1_2.out.step b9)
          clear lb le hb he hs b9
          refine hK.out _ _ BD3.out (fun _ => ?_)
          clear hK K
          refine wpAnyH_ready (rs := [5]) (by kernel_rfl) (by simp) ?_
          refine AllReadyH.cons rfl (fun K hK => ?_) AllReadyH.nil
          · go_simp
            generalize hw9 : World.alloc u3 _ = u4
            have b9 : Below u3.heap.size u3 u4 := by rw [← hw9]; exact (Below.refl _ _).alloc (Nat.le_refl _) _
            have BD4 := Lib.hid (BD3.out.trans (b9.mono BD3.out.size))
            have P6_4 : Hid (ShNb wb u4 u3.heap.size) := Lib.hid ⟨by rw [← hw9]; exact heap_alloc_new u3 _, BD3.out.size⟩
            have P5_4 := Lib.hid (P5_3.out.step b9)
            have R1_4 := Lib.hid (R1_3.out.step b9)
            have R2_4 := Lib.hid (R2_3.out.step b9)
            have ne9 : u3.heap.size ≠ u0.heap.size := by have := P5_3.out.lt; omega
            clear hw9 b9
            refine hK.out _ _ BD4.out (fun _ => ?_)
            clear hK K
            have ne9' : u0.heap.size ≠ u3.heap.size := by omega
            obtain ⟨k0, k1, k2, k3, kl⟩ := two_of P5_4.out.1
            refine wpAnyH_ready (rs := [6]) (by kernel_rfl) (by simp) ?_
            refine AllReadyH.cons rfl (fun K hK => ?_) AllReadyH.nil
            go_simp
            generalize hw9 : World.setCell _ ⟨u0.heap.size, 1, none⟩ _ = v1
            obtain ⟨g5, b9, o9⟩ := sh_store P5_4.out.1 _ _ hw9 P5_4.out.2 BD4.out
            have Q5 := Lib.hid g5
            have R1_v := Lib.hid (R1_4.out.out o9 P5_4.out.1)
            have R2_v := Lib.hid (R2_4.out.out o9 P5_4.out.1)
            have P6_v : Hid (ShNb wb v1 u3.heap.size) := Lib.hid ⟨by rw [o9.block _ P6_4.out.lt (fun e => ne9' e.symm)]; exact P6_4.out.1, P6_4.out.2⟩
            have B_v := Lib.hid b9
            clear hw9 g5 b9 o9 k0 k1 k2 k3 kl
            refine hK.out _ _ B_v.out (fun _ => ?_)
            clear hK K
            obtain ⟨k0, k1, k2, k3, kl⟩ := two_of P6_v.out.1
            refine wpAnyH_ready (rs := [7]) (by kernel_rfl) (by simp) ?_
            refine AllReadyH.cons rfl (fun K hK => ?_) AllReadyH.nil
            go_simp
            generalize hw9 : World.setCell _ ⟨u3.heap.size, 1, none⟩ _ = v2
            obtain ⟨g6, b9, o9⟩ := sh_store P6_v.out.1 _ _ hw9 P6_v.out.2 B_v.out
            have Q6 := Lib.hid g6
            have R1_z := Lib.hid (R1_v.out.out o9 P6_v.out.1)
            have R2_z := Lib.hid (R2_v.out.out o9 P6_v.out.1)
            have Q5_z : Hid (v2.heap[u0.heap.size]? = some (.cells #[.slice a1 p1 d1, .slice a2 p2 d2] 31 (0, 0))) := Lib.hid (by rw [o9.block _ (Array.getElem?_eq_some_iff.1 Q5.out).1 (fun e => ne9' e)]; exact Q5.out)
            have B_z := Lib.hid b9
            clear hw9 g6 b9 o9 k0 k1 k2 k3 kl
            refine hK.out _ _ B_z.out (fun _ => ?_)
            clear hK K
            refine wpAnyH_done (by kernel_rfl) ?_ _
            go_wp2
            go_meet
            exact ⟨_, _, _, _, _, _, _, _, B, E, _, _, _, _, _, _, C, F, rfl, rfl, Q5_z.out, Q6.out, R1_z.out, R2_z.out, P5_4.out.2, P6_4.out.2, B_z.out⟩
        · go_simp
          generalize hw9 : World.alloc u2 _ = u3
          have b9 : Below u2.heap.size u2 u3 := by rw [← hw9]; exact (Below.refl _ _).alloc (Nat.le_refl _) _
          have BD3 := Lib.hid (BD2.out.trans (b9.mono BD2.out.size))
          have P6_3 : Hid (ShNb wb u3 u2.heap.size) := Lib.hid ⟨by rw [← hw9]; exact heap_alloc_new u2 _, BD2.out.size⟩
          have P5_3 := Lib.hid (P5_2.out.step b9)
          have R1_3 := Lib.hid (R1_2.out.step b9)
          have ne9 : u2.heap.size ≠ u0.heap.size := by have := P5_2.out.lt; omega
          clear hw9 b9
          refine hK.out _ _ BD3.out (fun _ => ?_)
          clear hK K
          refine wpAnyH_ready (rs := [3]) (by kernel_rfl) (by simp) ?_
          refine AllReadyH.cons rfl (fun K hK => ?_) AllReadyH.nil
          · go_simp
            refine (M2.out _ (B0.out.trans (BD3.out.mono B0.out.size))).mono ?_
            rintro e u4 ⟨a3, p3, d3, a4, p4, d4, C, F, rfl, lb, le, hb, he, hs, b9⟩
            have BD4 := Lib.hid (BD3.out.trans (b9.mono BD3.out.size))
            have R2_4 : Hid (ShRs wb.heap.size u4 a3 p3 d3 a4 p4 d4 C F) := Lib.hid ⟨own_base hb BD3.out.size, own_base he BD3.out.size, lb, le, hs⟩
            have P5_4 := Lib.hid (P5_3.out.step b9)
            have P6_4 := Lib.hid (P6_3.out.step b9)
            have R1_4 := Lib.hid (R1_3.out.step b9)
            clear lb le hb he hs b9
            refine hK.out _ _ BD4.out (fun _ => ?_)
            clear hK K
            have ne9' : u0.heap.size ≠ u2.heap.size := by omega
            obtain ⟨k0, k1, k2, k3, kl⟩ := two_of P5_4.out.1
            refine wpAnyH_ready (rs := [6]) (by kernel_rfl) (by simp) ?_
            refine AllReadyH.cons rfl (fun K hK => ?_) AllReadyH.nil
            go_simp
            generalize hw9 : World.setCell _ ⟨u0.heap.size, 1, none⟩ _ = v1
            obtain ⟨g5, b9, o9⟩ := sh_store P5_4.out.1 _ _ hw9 P5_4.out.2 BD4.out
            have Q5 := Lib.hid g5
            have R1_v := Lib.hid (R1_4.out.out o9 P5_4.out.1)
            have R2_v := Lib.hid (R2_4.out.out o9 P5_4.out.1)
            have P6_v : Hid (ShNb wb v1 u2.heap.size) := Lib.hid ⟨by rw [o9.block _ P6_4.out.lt (fun e => ne9' e.symm)]; exact P6_4.out.1, P6_4.out.2⟩
            have B_v := Lib.hid b9
            clear hw9 g5 b9 o9 k0 k1 k2 k3 kl
            refine hK.out _ _ B_v.out (fun _ => ?_)
            clear hK K
            obtain ⟨k0, k1, k2, k3, kl⟩ := two_of P6_v.out.1
            refine wpAnyH_ready (rs := [7]) (by kernel_rfl) (by simp) ?_
            refine AllReadyH.cons rfl (fun K hK => ?_) AllReadyH.nil
            go_simp
            generalize hw9 : World.setCell _ ⟨u2.heap.size, 1, none⟩ _ = v2
            obtain ⟨g6, b9, o9⟩ := sh_store P6_v.out.1 _ _ hw9 P6_v.out.2 B_v.out
            have Q6 := Lib.hid g6
            have R1_z := Lib.hid (R1_v.out.out o9 P6_v.out.1)
            have R2_z := Lib.hid (R2_v.out.out o9 P6_v.out.1)
            have Q5_z : Hid (v2.heap[u0.heap.size]? = some (.cells #[.slice a1 p1 d1, .slice a2 p2 d2] 31 (0, 0))) := Lib.hid (by rw [o9.block _ (Array.getElem?_eq_some_iff.1 Q5.out).1 (fun e => ne9' e)]; exact Q5.out)
            have B_z := Lib.hid b9
            clear hw9 g6 b9 o9 k0 k1 k2 k3 kl
            refine hK.out _ _ B_z.out (fun _ => ?_)
            clear hK K
            refine wpAnyH_done (by kernel_rfl) ?_ _
            go_wp2
            go_meet
            exact ⟨_, _, _, _, _, _, _, _, B, E, _, _, _, _, _, _, C, F, rfl, rfl, Q5_z.out, Q6.out, R1_z.out, R2_z.out, P5_4.out.2, P6_4.out.2, B_z.out⟩
      · go_simp
        generalize hw9 : World.alloc u1 _ = u2
        have b9 : Below u1.heap.size u1 u2 := by rw [← hw9]; exact (Below.refl _ _).alloc (Nat.le_refl _) _
        have BD2 := Lib.hid (BD1.out.trans (b9.mono BD1.out.size))
        have P6_2 : Hid (ShNb wb u2 u1.heap.size) := Lib.hid ⟨by rw [← hw9]; exact heap_alloc_new u1 _, BD1.out.size⟩
        have P5_2 := Lib.hid (P5_1.out.step b9)
        have ne9 : u1.heap.size ≠ u0.heap.size := by have := P5_1.out.lt; omega
        clear hw9 b9
        refine hK.out _ _ BD2.out (fun _ => ?_)
        clear hK K
        refine wpAnyH_ready (rs := [1]) (by kernel_rfl) (by simp) ?_
        refine AllReadyH.cons rfl (fun K hK => ?_) AllReadyH.nil
        · go_simp
          refine (M1.out _ (B0.out.trans (BD2.out.mono B0.out.size))).mono ?_
          rintro e u3 ⟨a1, p1, d1, a2, p2, d2, B, E, rfl, lb, le, hb, he, hs, b9⟩
          have BD3 := Lib.hid (BD2.out.trans (b9.mono BD2.out.size))
          have R1_3 : Hid (ShRs wb.heap.size u3 a1 p1 d1 a2 p2 d2 B E) := Lib.hid ⟨own_base hb BD2.out.size, own_base he BD2.out.size, lb, le, hs⟩
          have P5_3 := Lib.hid (P5_2.out.step b9)
          have P6_3 := Lib.hid (P6_2.out.step b9)
          clear lb le hb he hs b9
          refine hK.out _ _ BD3.out (fun _ => ?_)
          clear hK K
          refine wpAnyH_ready (rs := [3]) (by kernel_rfl) (by simp) ?_
          refine AllReadyH.cons rfl (fun K hK => ?_) AllReadyH.nil
          · go_simp
            refine (M2.out _ (B0.out.trans (BD3.out.mono B0.out.size))).mono ?_
            rintro e u4 ⟨a3, p3, d3, a4, p4, d4, C, F, rfl, lb, le, hb, he, hs, b9⟩
            have BD4 := Lib.hid (BD3.out.trans (b9.mono BD3.out.size))
            have R2_4 : Hid (ShRs wb.heap.size u4 a3 p3 d3 a4 p4 d4 C F) := Lib.hid ⟨own_base hb BD3.out.size, own_base he BD3.out.size, lb, le, hs⟩
            have P5_4 := Lib.hid (P5_3.out.step b9)
            have P6_4 := Lib.hid (P6_3.out.step b9)
            have R1_4 := Lib.hid (R1_3.out.step b9)
            clear lb le hb he hs b9
            refine hK.out _ _ BD4.out (fun _ => ?_)
            clear hK K
            have ne9' : u0.heap.size ≠ u1.heap.size := by omega
            obtain ⟨k0, k1, k2, k3, kl⟩ := two_of P5_4.out.1
            refine wpAnyH_ready (rs := [6]) (by kernel_rfl) (by simp) ?_
            refine AllReadyH.cons rfl (fun K hK => ?_) AllReadyH.nil
            go_simp
            generalize hw9 : World.setCell _ ⟨u0.heap.size, 1, none⟩ _ = v1
            obtain ⟨g5, b9, o9⟩ := sh_store P5_4.out.1 _ _ hw9 P5_4.out.2 BD4.out
            have Q5 := Lib.hid g5
            have R1_v := Lib.hid (R1_4.out.out o9 P5_4.out.1)
            have R2_v := Lib.hid (R2_4.out.out o9 P5_4.out.1)
            have P6_v : Hid (ShNb wb v1 u1.heap.size) := Lib.hid ⟨by rw [o9.block _ P6_4.out.lt (fun e => ne9' e.symm)]; exact P6_4.out.1, P6_4.out.2⟩
            have B_v := Lib.hid b9
            clear hw9 g5 b9 o9 k0 k1 k2 k3 kl
            refine hK.out _ _ B_v.out (fun _ => ?_)
            clear hK K
            obtain ⟨k0, k1, k2, k3, kl⟩ := two_of P6_v.out.1
            refine wpAnyH_ready (rs := [7]) (by kernel_rfl) (by simp) ?_
            refine AllReadyH.cons rfl (fun K hK => ?_) AllReadyH.nil
            go_simp
            generalize hw9 : World.setCell _ ⟨u1.heap.size, 1, none⟩ _ = v2
            obtain ⟨g6, b9, o9⟩ := sh_store P6_v.out.1 _ _ hw9 P6_v.out.2 B_v.out
            have Q6 := Lib.hid g6
            have R1_z := Lib.hid (R1_v.out.out o9 P6_v.out.1)
            have R2_z := Lib.hid (R2_v.out.out o9 P6_v.out.1)
            have Q5_z : Hid (v2.heap[u0.heap.size]? = some (.cells #[.slice a1 p1 d1, .slice a2 p2 d2] 31 (0, 0))) := Lib.hid (by rw [o9.block _ (Array.getElem?_eq_some_iff.1 Q5.out).1 (fun e => ne9' e)]; exact Q5.out)
            have B_z := Lib.hid b9
            clear hw9 g6 b9 o9 k0 k1 k2 k3 kl
            refine hK.out _ _ B_z.out (fun _ => ?_)
            clear hK K
            refine wpAnyH_done (by kernel_rfl) ?_ _
            go_wp2
            go_meet
            exact ⟨_, _, _, _, _, _, _, _, B, E, _, _, _, _, _, _, C, F, rfl, rfl, Q5_z.out, Q6.out, R1_z.out, R2_z.out, P5_4.out.2, P6_4.out.2, B_z.out⟩
    · go_simp
      generalize hw9 : World.alloc u0 _ = u1
      have b9 : Below u0.heap.size u0 u1 := by rw [← hw9]; exact (Below.refl _ _).alloc (Nat.le_refl _) _
      have BD1 := Lib.hid (BD0.out.trans (b9.mono BD0.out.size))
      have P6_1 : Hid (ShNb wb u1 u0.heap.size) := Lib.hid ⟨by rw [← hw9]; exact heap_alloc_new u0 _, BD0.out.size⟩
      clear hw9 b9
      refine hK.out _ _ BD1.out (fun _ => ?_)
      clear hK K
      refine wpAnyH_ready (rs := [1, 4]) (by kernel_rfl) (by simp) ?_
      refine AllReadyH.cons rfl (fun K hK => ?_) (AllReadyH.cons rfl (fun K hK => ?_) AllReadyH.nil)
      · go_simp
        refine (M1.out _ (B0.out.trans (BD1.out.mono B0.out.size))).mono ?_
        rintro e u2 ⟨a1, p1, d1, a2, p2, d2, B, E, rfl, lb, le, hb, he, hs, b9⟩
        have BD2 := Lib.hid (BD1.out.trans (b9.mono BD1.out.size))
        have R1_2 : Hid (ShRs wb.heap.size u2 a1 p1 d1 a2 p2 d2 B E) := Lib.hid ⟨own_base hb BD1.out.size, own_base he BD1.out.size, lb, le, hs⟩
        have P6_2 := Lib.hid (P6_1.out.step b9)
        clear lb le hb he hs b9
        refine hK.out _ _ BD2.out (fun _ => ?_)
        clear hK K
        refine wpAnyH_ready (rs := [3, 4]) (by kernel_rfl) (by simp) ?_
        refine AllReadyH.cons rfl (fun K hK => ?_) (AllReadyH.cons rfl (fun K hK => ?_) AllReadyH.nil)
        · go_simp
          refine (M2.out _ (B0.out.trans (BD2.out.mono B0.out.size))).mono ?_
          rintro e u3 ⟨a3, p3, d3, a4, p4, d4, C, F, rfl, lb, le, hb, he, hs, b9⟩
          have BD3 := Lib.hid (BD2.out.trans (b9.mono BD2.out.size))
          have R2_3 : Hid (ShRs wb.heap.size u3 a3 p3 d3 a4 p4 d4 C F) := Lib.hid ⟨own_base hb BD2.out.size, own_base he BD2.out.size, lb, le, hs⟩
          have P6_3 := Lib.hid (P6_2.out.step b9)
          have R1_3 := Lib.hid (R1_2.out.step b9)
          clear lb le hb he hs b9
          refine hK.out _ _ BD3.out (fun _ => ?_)
          clear hK K
          refine wpAnyH_ready (rs := [4]) (by kernel_rfl) (by simp) ?_
          refine AllReadyH.cons rfl (fun K hK => ?_) AllReadyH.nil
          · go_simp
            generalize hw9 : World.alloc u3 _ = u4
            have b9 : Below u3.heap.size u3 u4 := by rw [← hw9]; exact (Below.refl _ _).alloc (Nat.le_refl _) _
            have BD4 := Lib.hid (BD3.out.trans (b9.mono BD3.out.size))
            have P5_4 : Hid (ShNb wb u4 u3.heap.size) := Lib.hid ⟨by rw [← hw9]; exact heap_alloc_new u3 _, BD3.out.size⟩
            have P6_4 := Lib.hid (P6_3.out.step b9)
            have R1_4 := Lib.hid (R1_3.out.step b9)
            have R2_4 := Lib.hid (R2_3.out.step b9)
            have ne9 : u3.heap.size ≠ u0.heap.size := by have := P6_3.out.lt; omega
            clear hw9 b9
            refine hK.out _ _ BD4.out (fun _ => ?_)
            clear hK K
            have ne9' : u3.heap.size ≠ u0.heap.size := by omega
            obtain ⟨k0, k1, k2, k3, kl⟩ := two_of P5_4.out.1
            refine wpAnyH_ready (rs := [6]) (by kernel_rfl) (by simp) ?_
            refine AllReadyH.cons rfl (fun K hK => ?_) AllReadyH.nil
            go_simp
            generalize hw9 : World.setCell _ ⟨u3.heap.size, 1, none⟩ _ = v1
            obtain ⟨g5, b9, o9⟩ := sh_store P5_4.out.1 _ _ hw9 P5_4.out.2 BD4.out
            have Q5 := Lib.hid g5
            have R1_v := Lib.hid (R1_4.out.out o9 P5_4.out.1)
            have R2_v := Lib.hid (R2_4.out.out o9 P5_4.out.1)
            have P6_v : Hid (ShNb wb v1 u0.heap.size) := Lib.hid ⟨by rw [o9.block _ P6_4.out.lt (fun e => ne9' e.symm)]; exact P6_4.out.1, P6_4.out.2⟩
            have B_v := Lib.hid b9
            clear hw9 g5 b9 o9 k0 k1 k2 k3 kl
            refine hK.out _ _ B_v.out (fun _ => ?_)
            clear hK K
            obtain ⟨k0, k1, k2, k3, kl⟩ := two_of P6_v.out.1
            refine wpAnyH_ready (rs := [7]) (by kernel_rfl) (by simp) ?_
            refine AllReadyH.cons rfl (fun K hK => ?_) AllReadyH.nil
            go_simp
            generalize hw9 : World.setCell _ ⟨u0.heap.size, 1, none⟩ _ = v2
            obtain ⟨g6, b9, o9⟩ := sh_store P6_v.out.1 _ _ hw9 P6_v.out.2 B_v.out
            have Q6 := Lib.hid g6
            have R1_z := Lib.hid (R1_v.out.out o9 P6_v.out.1)
            have R2_z := Lib.hid (R2_v.out.out o9 P6_v.out.1)
            have Q5_z : Hid (v2.heap[u3.heap.size]? = some (.cells #[.slice a1 p1 d1, .slice a2 p2 d2] 31 (0, 0))) := Lib.hid (by rw [o9.block _ (Array.getElem?_eq_some_iff.1 Q5.out).1 (fun e => ne9' e)]; exact Q5.out)
            have B_z := Lib.hid b9
            clear hw9 g6 b9 o9 k0 k1 k2 k3 kl
            refine hK.out _ _ B_z.out (fun _ => ?_)
            clear hK K
            refine wpAnyH_done (by kernel_rfl) ?_ _
            go_wp2
            go_meet
            exact ⟨_, _, _, _, _, _, _, _, B, E, _, _, _, _, _, _, C, F, rfl, rfl, Q5_z.out, Q6.out, R1_z.out, R2_z.out, P5_4.out.2, P6_4.out.2, B_z.out⟩
        · go_simp
          generalize hw9 : World.alloc u2 _ = u3
          have b9 : Below u2.heap.size u2 u3 := by rw [← hw9]; exact (Below.refl _ _).alloc (Nat.le_refl _) _
          have BD3 := Lib.hid (BD2.out.trans (b9.mono BD2.out.size))
          have P5_3 : Hid (ShNb wb u3 u2.heap.size) := Lib.hid ⟨by rw [← hw9]; exact heap_alloc_new u2 _, BD2.out.size⟩
          have P6_3 := Lib.hid (P6_2.out.step b9)
          have R1_3 := Lib.hid (R1_2.out.step b9)
          have ne9 : u2.heap.size ≠ u0.heap.size := by have := P6_2.out.lt; omega
          clear hw9 b9
          refine hK.out _ _ BD3.out (fun _ => ?_)
          clear hK K
          refine wpAnyH_ready (rs := [3]) (by kernel_rfl) (by simp) ?_
          refine AllReadyH.cons rfl (fun K hK => ?_) AllReadyH.nil
          · go_simp
            refine (M2.out _ (B0.out.trans (BD3.out.mono B0.out.size))).mono ?_
            rintro e u4 ⟨a3, p3, d3, a4, p4, d4, C, F, rfl, lb, le, hb, he, hs, b9⟩
            have BD4 := Lib.hid (BD3.out.trans (b9.mono BD3.out.size))
            have R2_4 : Hid (ShRs wb.heap.size u4 a3 p3 d3 a4 p4 d4 C F) := Lib.hid ⟨own_base hb BD3.out.size, own_base he BD3.out.size, lb, le, hs⟩
            have P5_4 := Lib.hid (P5_3.out.step b9)
            have P6_4 := Lib.hid (P6_3.out.step b9)
            have R1_4 := Lib.hid (R1_3.out.step b9)
            clear lb le hb he hs b9
            refine hK.out _ _ BD4.out (fun _ => ?_)
            clear hK K
            have ne9' : u2.heap.size ≠ u0.heap.size := by omega
            obtain ⟨k0, k1, k2, k3, kl⟩ := two_of P5_4.out.1
            refine wpAnyH_ready (rs := [6]) (by kernel_rfl) (by simp) ?_
            refine AllReadyH.cons rfl (fun K hK => ?_) AllReadyH.nil
            go_simp
            generalize hw9 : World.setCell _ ⟨u2.heap.size, 1, none⟩ _ = v1
            obtain ⟨g5, b9, o9⟩ := sh_store P5_4.out.1 _ _ hw9 P5_4.out.2 BD4.out
            have Q5 := Lib.hid g5
            have R1_v := Lib.hid (R1_4.out.out o9 P5_4.out.1)
            have R2_v := Lib.hid (R2_4.out.out o9 P5_4.out.1)
            have P6_v : Hid (ShNb wb v1 u0.heap.size) := Lib.hid ⟨by rw [o9.block _ P6_4.out.lt (fun e => ne9' e.symm)]; exact P6_4.out.1, P6_4.out.2⟩
            have B_v := Lib.hid b9
            clear hw9 g5 b9 o9 k0 k1 k2 k3 kl
            refine hK.out _ _ B_v.out (fun _ => ?_)
            clear hK K
            obtain ⟨k0, k1, k2, k3, kl⟩ := two_of P6_v.out.1
            refine wpAnyH_ready (rs := [7]) (by kernel_rfl) (by simp) ?_
            refine AllReadyH.cons rfl (fun K hK => ?_) AllReadyH.nil
            go_simp
            generalize hw9 : World.setCell _ ⟨u0.heap.size, 1, none⟩ _ = v2
            obtain ⟨g6, b9, o9⟩ := sh_store P6_v.out.1 _ _ hw9 P6_v.out.2 B_v.out
            have Q6 := Lib.hid g6
            have R1_z := Lib.hid (R1_v.out.out o9 P6_v.out.1)
            have R2_z := Lib.hid (R2_v.out.out o9 P6_v.out.1)
            have Q5_z : Hid (v2.heap[u2.heap.size]? = some (.cells #[.slice a1 p1 d1, .slice a2 p2 d2] 31 (0, 0))) := Lib.hid (by rw [o9.block _ (Array.getElem?_eq_some_iff.1 Q5.out).1 (fun e => ne9' e)]; exact Q5.out)
            have B_z := Lib.hid b9
            clear hw9 g6 b9 o9 k0 k1 k2 k3 kl
            refine hK.out _ _ B_z.out (fun _ => ?_)
            clear hK K
            refine wpAnyH_done (by kernel_rfl) ?_ _
            go_wp2
            go_meet
            exact ⟨_, _, _, _, _, _, _, _, B, E, _, _, _, _, _, _, C, F, rfl, rfl, Q5_z.out, Q6.out, R1_z.out, R2_z.out, P5_4.out.2, P6_4.out.2, B_z.out⟩
      · go_simp
        generalize hw9 : World.alloc u1 _ = u2
        have b9 : Below u1.heap.size u1 u2 := by rw [← hw9]; exact (Below.refl _ _).alloc (Nat.le_refl _) _
        have BD2 := Lib.hid (BD1.out.trans (b9.mono BD1.out.size))
        have P5_2 : Hid (ShNb wb u2 u1.heap.size) := Lib.hid ⟨by rw [← hw9]; exact heap_alloc_new u1 _, BD1.out.size⟩
        have P6_2 := Lib.hid (P6_1.out.step b9)
        have ne9 : u1.heap.size ≠ u0.heap.size := by have := P6_1.out.lt; omega
        clear hw9 b9
        refine hK.out _ _ BD2.out (fun _ => ?_)
        clear hK K
        refine wpAnyH_ready (rs := [1]) (by kernel_rfl) (by simp) ?_
        refine AllReadyH.cons rfl (fun K hK => ?_) AllReadyH.nil
        · go_simp
          refine (M1.out _ (B0.out.trans (BD2.out.mono B0.out.size))).mono ?_
          rintro e u3 ⟨a1, p1, d1, a2, p2, d2, B, E, rfl, lb, le, hb, he, hs, b9⟩
          have BD3 := Lib.hid (BD2.out.trans (b9.mono BD2.out.size))
          have R1_3 : Hid (ShRs wb.heap.size u3 a1 p1 d1 a2 p2 d2 B E) := Lib.hid ⟨own_base hb BD2.out.size, own_base he BD2.out.size, lb, le, hs⟩
          have P5_3 := Lib.hid (P5_2.out.step b9)
          have P6_3 := Lib.hid (P6_2.out.step b9)
          clear lb le hb he hs b9
          refine hK.out _ _ BD3.out (fun _ => ?_)
          clear hK K
          refine wpAnyH_ready (rs := [3]) (by kernel_rfl) (by simp) ?_
          refine AllReadyH.cons rfl (fun K hK => ?_) AllReadyH.nil
          · go_simp
            refine (M2.out _ (B0.out.trans (BD3.out.mono B0.out.size))).mono ?_
            rintro e u4 ⟨a3, p3, d3, a4, p4, d4, C, F, rfl, lb, le, hb, he, hs, b9⟩
            have BD4 := Lib.hid (BD3.out.trans (b9.mono BD3.out.size))
            have R2_4 : Hid (ShRs wb.heap.size u4 a3 p3 d3 a4 p4 d4 C F) := Lib.hid ⟨own_base hb BD3.out.size, own_base he BD3.out.size, lb, le, hs⟩
            have P5_4 := Lib.hid (P5_3.out.step b9)
            have P6_4 := Lib.hid (P6_3.out.step b9)
            have R1_4 := Lib.hid (R1_3.out.step b9)
            clear lb le hb he hs b9
            refine hK.out _ _ BD4.out (fun _ => ?_)
            clear hK K
            have ne9' : u1.heap.size ≠ u0.heap.size := by omega
            obtain ⟨k0, k1, k2, k3, kl⟩ := two_of P5_4.out.1
            refine wpAnyH_ready (rs := [6]) (by kernel_rfl) (by simp) ?_
            refine AllReadyH.cons rfl (fun K hK => ?_) AllReadyH.nil
            go_simp
            generalize hw9 : World.setCell _ ⟨u1.heap.size, 1, none⟩ _ = v1
            obtain ⟨g5, b9, o9⟩ := sh_store P5_4.out.1 _ _ hw9 P5_4.out.2 BD4.out
            have Q5 := Lib.hid g5
            have R1_v := Lib.hid (R1_4.out.out o9 P5_4.out.1)
            have R2_v := Lib.hid (R2_4.out.out o9 P5_4.out.1)
            have P6_v : Hid (ShNb wb v1 u0.heap.size) := Lib.hid ⟨by rw [o9.block _ P6_4.out.lt (fun e => ne9' e.symm)]; exact P6_4.out.1, P6_4.out.2⟩
            have B_v := Lib.hid b9
            clear hw9 g5 b9 o9 k0 k1 k2 k3 kl
            refine hK.out _ _ B_v.out (fun _ => ?_)
            clear hK K
            obtain ⟨k0, k1, k2, k3, kl⟩ := two_of P6_v.out.1
            refine wpAnyH_ready (rs := [7]) (by kernel_rfl) (by simp) ?_
            refine AllReadyH.cons rfl (fun K hK => ?_) AllReadyH.nil
            go_simp
            generalize hw9 : World.setCell _ ⟨u0.heap.size, 1, none⟩ _ = v2
            obtain ⟨g6, b9, o9⟩ := sh_store P6_v.out.1 _ _ hw9 P6_v.out.2 B_v.out
            have Q6 := Lib.hid g6
            have R1_z := Lib.hid (R1_v.out.out o9 P6_v.out.1)
            have R2_z := Lib.hid (R2_v.out.out o9 P6_v.out.1)
            have Q5_z : Hid (v2.heap[u1.heap.size]? = some (.cells #[.slice a1 p1 d1, .slice a2 p2 d2] 31 (0, 0))) := Lib.hid (by rw [o9.block _ (Array.getElem?_eq_some_iff.1 Q5.out).1 (fun e => ne9' e)]; exact Q5.out)
            have B_z := Lib.hid b9
            clear hw9 g6 b9 o9 k0 k1 k2 k3 kl
            refine hK.out _ _ B_z.out (fun _ => ?_)
            clear hK K
            refine wpAnyH_done (by kernel_rfl) ?_ _
            go_wp2
            go_meet
            exact ⟨_, _, _, _, _, _, _, _, B, E, _, _, _, _, _, _, C, F, rfl, rfl, Q5_z.out, Q6.out, R1_z.out, R2_z.out, P5_4.out.2, P6_4.out.2, B_z.out⟩
  case rest =>
    obtain ⟨p, q, a1, p1, d1, a2, p2, d2, B, E, a3, p3, d3, a4, p4, d4, C, F, rfl, rfl, hp, hq, hr1, hr2, lp, lq, hB⟩ := hcut
    obtain ⟨wz, hwz⟩ : ∃ W, W = wc := ⟨_, rfl⟩
    subst hwz
    have BZ : Hid (Below w.heap.size w wz) := Lib.hid (B0.out.trans (hB.mono B0.out.size))
    have XP := Lib.hid (fun wr (b : Below wz.heap.size wz wr) => two_of ((b.block _ (Array.getElem?_eq_some_iff.1 hp).1).trans hp))
    have XQ := Lib.hid (fun wr (b : Below wz.heap.size wz wr) => two_of ((b.block _ (Array.getElem?_eq_some_iff.1 hq).1).trans hq))
    have hS1 := hr1.2.2.2.2
    have hS2 := hr2.2.2.2.2
    have hM1 := hS1.may
    have hM2 := hS2.may
    have hl1 := hr1.2.2.1
    have hl2 := hr1.2.2.2.1
    have hMB := may_more hM1 (by have := hS1.vs; omega) (by have := hS1.es; omega) (by have := bends_small E (fun e he => (hS1.ok e he).2); have := hS1.es; omega)
    rw [hl1] at hMB
    have hp1 : p1 ≤ 5 := by have := hS1.vs; omega
    have hp2 : p2 ≤ 10 := by have := hS1.es; omega
    have PR1 : Hid (∀ wx, Below wz.heap.size wz wx → Calls Tryd.prog 10 #[.agg #[.slice a1 p1 d1, .slice a2 p2 d2]] wx fun r w' => r = .returned (.tuple #[.string (bs (printS B E)), .int .i64 0]) ∧ Below wx.heap.size wx w') := Lib.hid (fun wx b => printT _ _ B E wx ((hr1.1.below b (Nat.le_refl _)).bls) ((hr1.2.1.below b (Nat.le_refl _)).eds) hM1 (HT.out.below (BZ.out.trans (b.mono BZ.out.size)) (Nat.le_refl _)))
    have PR2 : Hid (∀ wx, Below wz.heap.size wz wx → Calls Tryd.prog 10 #[.agg #[.slice a3 p3 d3, .slice a4 p4 d4]] wx fun r w' => r = .returned (.tuple #[.string (bs (printS C F)), .int .i64 0]) ∧ Below wx.heap.size wx w') := Lib.hid (fun wx b => printT _ _ C F wx ((hr2.1.below b (Nat.le_refl _)).bls) ((hr2.2.1.below b (Nat.le_refl _)).eds) hM2 (HT.out.below (BZ.out.trans (b.mono BZ.out.size)) (Nat.le_refl _)))
    have PR3 : Hid (∀ wx v v', Below wz.heap.size wz wx → OwnB wx wz.heap.size v (B ++ [true]) → OwnE wx wz.heap.size v' (E ++ [((p1 : Int), 0, 0, [76])]) → Calls Tryd.prog 10 #[.agg #[v, v']] wx fun r w' => r = .returned (.tuple #[.string (bs (printS (B ++ [true]) (E ++ [((p1 : Int), 0, 0, [76])]))), .int .i64 0]) ∧ Below wx.heap.size wx w') := Lib.hid (fun wx v v' b h1 h2 => printT _ _ _ _ wx h1.bls h2.eds hMB (HT.out.below (BZ.out.trans (b.mono BZ.out.size)) (Nat.le_refl _)))
    have SM : Hid (∀ wx, Below wz.heap.size wz wx → Calls Tryd.prog 11 #[.agg #[.slice a1 p1 d1, .slice a2 p2 d2], .agg #[.slice a3 p3 d3, .slice a4 p4 d4]] wx fun r w' => r = .returned (.bool (decide (B = C) && decide (E = F))) ∧ Below wx.heap.size wx w') := Lib.hid (fun wx b => refSameG _ _ _ _ B C E F wx ((hr1.1.below b (Nat.le_refl _)).bls) ((hr1.2.1.below b (Nat.le_refl _)).eds) ((hr2.1.below b (Nat.le_refl _)).bls) ((hr2.2.1.below b (Nat.le_refl _)).eds) (by omega) (by omega))
    have hse := same_eq hM1 hM2
    have OBz := Lib.hid hr1.1
    have OEz := Lib.hid hr1.2.1
    have LB := Lib.hid hl1
    have LE := Lib.hid hl2
    have hpa := print_ascii hMB
    have hpc := print_count hMB
    have hph := hd_print (B ++ [true]) (E ++ [((p1 : Int), 0, 0, [76])])
    rw [fst_some (by simp)] at hph
    rw [List.length_append, List.length_singleton, hl1] at hph
    rw [List.length_append, List.length_singleton, hl2] at hpc
    have hpl := print_len hMB
    obtain ⟨s1, hs1⟩ : ∃ s, bs (printS B E) = s := ⟨_, rfl⟩
    obtain ⟨s2, hs2⟩ : ∃ s, bs (printS C F) = s := ⟨_, rfl⟩
    obtain ⟨s3, hs3⟩ : ∃ s, bs (printS (B ++ [true]) (E ++ [((p1 : Int), 0, 0, [76])])) = s := ⟨_, rfl⟩
    obtain ⟨sm, hsm⟩ : ∃ b, (decide (B = C) && decide (E = F)) = b := ⟨_, rfl⟩
    have h3d : s3.data.toList = printS (B ++ [true]) (E ++ [((p1 : Int), 0, 0, [76])]) := by rw [← hs3, bs_data]
    have h3z : s3.size ≤ 90000 := by rw [← hs3, bs_size]; exact hpl
    rw [← h3d] at hpa hpc hph
    rw [hs1] at PR1
    rw [hs2] at PR2
    rw [hs3] at PR3
    rw [hsm] at SM
    rw [hs1, hs2, hsm] at hse
    have AS := Lib.hid hpa
    have CT := Lib.hid hpc
    have HD := Lib.hid hph
    have SE := Lib.hid hse
    obtain ⟨i0, hi, hz0, hz1, hz2⟩ := info_of infoBl
    obtain ⟨i1, hi1, hy0, hy1, hy2⟩ := info_of infoE4
    clear hp hq hr1 hr2 lp lq hB hS1 hS2 hM1 hM2 hl1 hl2 hMB hse hpa hpc hph hpl hs1 hs2 hs3 hsm h3d
    obtain ⟨x0, x1, _, _, xl⟩ := XP.out wz (Below.refl _ _)
    go_upto_region 3 with (go_at_call 10; refine (PR1.out _ (Below.refl _ _)).mono ?_; rintro e w1 ⟨rfl, b1⟩; have B1 : Hid (Below wz.heap.size wz w1) := Lib.hid b1; clear b1)
    clear x0 x1 xl
    obtain ⟨y0, y1, _, _, yl⟩ := XQ.out w1 B1.out
    go_upto_region 4 with (go_at_call 10; refine (PR2.out _ B1.out).mono ?_; rintro e w2 ⟨rfl, b2⟩; have B2 : Hid (Below wz.heap.size wz w2) := Lib.hid (B1.out.trans (b2.mono B1.out.size)); clear b2)
    clear y0 y1 yl
    obtain ⟨x0, x1, _, _, xl⟩ := XP.out w2 B2.out
    go_upto_region 5 with (fail)
    generalize hw3 : World.alloc w2 _ = w3
    have hk3 : w3.heap[w2.heap.size]? = some (.cells #[.slice a1 p1 d1, .slice a2 p2 d2] 31 (0, 0)) := by rw [← hw3]; exact heap_alloc_new w2 _
    have B3 : Hid (Below wz.heap.size wz w3) := Lib.hid (by rw [← hw3]; exact B2.out.alloc B2.out.size _)
    have hmz := B2.out.size
    obtain ⟨m, hm⟩ : ∃ g, w2.heap.size = g := ⟨_, rfl⟩
    rw [hm] at hk3 hmz ⊢
    have K3 := Lib.hid hk3
    have OB3 := Lib.hid (OBz.out.below B3.out (Nat.le_refl _))
    have hw3s := B3.out.size
    clear hw3 hk3 hm x0 x1 xl B1
    obtain ⟨x0, x1, _, _, xl⟩ := XP.out w3 B3.out
    go_upto_region 6 with (first
      | (at_builtin; refine wpList_append_rows rfl (.const (.slice none 0 0)) (.tmp 34) 28 rfl wz.heap.size 4 i0 (.bool false) 1 1 Tryd.underlying28 hi hz0 hz1 hz2 rfl (by decide) (.slice none 0 0) 0 [] rfl (World.ownsRow_nil _ _ _ _) (.slice a1 p1 d1) wb.heap.size p1 (B.map Value.bool) rfl (OB3.out.at_ LB.out) (allB B) (by unfold maxLen; omega) (by omega) hw3s ?_; intro v4 w4 hown hgrow hfr; have o4 := OwnB.whole LB.out hown; obtain ⟨a5', c5', e5⟩ := o4.form; rw [LB.out] at e5; subst e5; have hb9 : Below w3.heap.size w3 w4 := ((Below.refl _ _).grown hgrow (Nat.le_refl _) (fun q hq => by cases hq)); have B4 : Hid (Below wz.heap.size wz w4) := Lib.hid (B3.out.trans (hb9.mono B3.out.size)); have K4 := Lib.hid ((hb9.block _ (Array.getElem?_eq_some_iff.1 K3.out).1).trans K3.out); have O4 := Lib.hid o4; have hw4s := B4.out.size; clear hown hgrow hfr o4 hb9)
      | (at_builtin; refine wpList_append_fresh rfl (.tmp 35) (.tmp 36) 28 rfl wz.heap.size 4 i0 (.bool false) 1 1 Tryd.underlying28 hi hz0 hz1 hz2 rfl (by decide) (.slice a5' p1 c5') p1 (B.map Value.bool) rfl ((O4.out.below ((Below.refl _ _).alloc (Nat.le_refl _) _) (Nat.le_refl _)).at_ LB.out) ⟨w4.heap.size, 0, none⟩ 1 1 [.bool true] rfl rfl (newsB _ _ _ _ (by simp)) (oneB _) (by unfold maxLen; omega) (by omega) (by simp; omega) ?_; intro v5 w5 hown hgrow hfr; have o5 := OwnB.snocAt LB.out hown; obtain ⟨a6, c6, e6⟩ := o5.form; rw [List.length_append, LB.out] at e6; simp only [List.length_singleton] at e6; subst e6; have O5 := Lib.hid o5; have hk5 : w5.heap[m]? = some (.cells #[.slice a1 p1 d1, .slice a2 p2 d2] 31 (0, 0)) := (by rw [hgrow.block m (by have := (Array.getElem?_eq_some_iff.1 K4.out).1; simp; omega) (fun e => own_kind O4.out K4.out mkT_b e.symm), Below.heap_alloc _ _ _ (Array.getElem?_eq_some_iff.1 K4.out).1]; exact K4.out); have B5 : Hid (Below wz.heap.size wz w5) := Lib.hid ((B4.out.alloc hw4s _).grown hgrow (by simp; omega) (fun q hq => (World.ownsRow.lt O4.out q hq).1)); have K5 := Lib.hid hk5; obtain ⟨k0, k1, k2, k3, kl⟩ := two_of hk5; clear hown hgrow hfr o5 hk5))
    generalize hw6 : World.setCell w5 _ _ = w6
    have o6 : Out (fun x => x = m) w5 w6 := by rw [← hw6]; exact (Out.refl _ _).setIn _ _
    have MK6 : Hid (w6.heap[m]? = some (.cells #[.slice a6 (p1 + 1) c6, .slice a2 p2 d2] 31 (0, 0))) := Lib.hid (by rw [← hw6, heap_setCell_at K5.out]; rfl)
    have b6 : Below wz.heap.size wz w6 := B5.out.trans (o6.below B5.out.size (fun i _ e => by omega))
    have B6 := Lib.hid b6
    have O6 : Hid (OwnB w6 wz.heap.size (.slice a6 (p1 + 1) c6) (B ++ [true])) := Lib.hid (ownsRow_out O5.out o6 (fun b hb e => own_kind O5.out K5.out mkT_b (by rw [hb, e])))
    have OE6 : Hid (OwnE w6 wb.heap.size (.slice a2 p2 d2) E) := Lib.hid (OEz.out.below b6 (Nat.le_refl _))
    clear hw6 o6 b6 x0 x1 xl k0 k1 k2 k3 kl hw3s hw4s K3 K4 K5 OB3 O4 O5 B4 B5
    go_cut [47] from 39 to 48 (fun _ wx => ApM wz.heap.size wz m a6 (p1 + 1) c6 (p2 + 1) (B ++ [true]) (E ++ [((p1 : Int), 0, 0, [76])]) wx)
    case first =>
      refine wp_region_held_drew (S := fun w' => Below wz.heap.size wz w') (by kernel_rfl) B6.out.drew (fun hHeld => ?_)
      refine wpAnyH_take (i := 0) (v := ?_) rfl (by kernel_rfl) (by kernel_rfl) (by kernel_rfl) (fun _ _ _ h => h) (Or.inl ⟨by rfl, ?_⟩) (by assumption) ?_
      rotate_left
      · (intro w' hSw; obtain ⟨s0, s1, _, _, sl⟩ := XP.out w' hSw; clear hSw; go_simp; try with_reducible rfl)
      refine wpAnyH_take (i := 1) (v := ?_) rfl (by kernel_rfl) (by kernel_rfl) (by kernel_rfl) (fun _ _ _ h => h) (Or.inl ⟨by rfl, ?_⟩) (by assumption) ?_
      rotate_left
      · (intro w' hSw; obtain ⟨s0, s1, _, _, sl⟩ := XP.out w' hSw; clear hSw; go_simp; try with_reducible rfl)
      refine wpAnyH_take (i := 3) (v := ?_) rfl (by kernel_rfl) (by kernel_rfl) (by kernel_rfl) (fun _ _ _ h => h) (Or.inl ⟨by rfl, ?_⟩) (by assumption) ?_
      rotate_left
      · (intro w' hSw; obtain ⟨s0, s1, _, _, sl⟩ := XP.out w' hSw; clear hSw; go_simp; try with_reducible rfl)
      refine wpAnyH_take (i := 4) (v := ?_) rfl (by kernel_rfl) (by kernel_rfl) (by kernel_rfl) (fun _ _ _ h => h) (Or.inl ⟨by rfl, ?_⟩) (by assumption) ?_
      rotate_left
      · (intro w' hSw; obtain ⟨s0, s1, _, _, sl⟩ := XP.out w' hSw; clear hSw; go_simp; try with_reducible rfl)
      refine wpAnyH_take (i := 5) (v := ?_) rfl (by kernel_rfl) (by kernel_rfl) (by kernel_rfl) (fun _ _ _ h => h) (Or.inl ⟨by rfl, ?_⟩) (by assumption) ?_
      rotate_left
      · (intro w' hSw; obtain ⟨s0, s1, _, _, sl⟩ := XP.out w' hSw; clear hSw; go_simp; try with_reducible rfl)
      refine wpAnyH_take (i := 6) (v := ?_) rfl (by kernel_rfl) (by kernel_rfl) (by kernel_rfl) (fun _ _ _ h => h) (Or.inl ⟨by rfl, ?_⟩) (by assumption) ?_
      rotate_left
      · (intro w' hSw; obtain ⟨s0, s1, _, _, sl⟩ := XP.out w' hSw; clear hSw; go_simp; try with_reducible rfl)
      have BD0 : Hid (Below wz.heap.size wz (World.drew w6)) := Lib.hid hHeld
      have MK_0 : Hid ((World.drew w6).heap[m]? = _) := Lib.hid MK6.out
      have OB_0 : Hid (OwnB (World.drew w6) _ _ _) := Lib.hid (O6.out.below ((Below.refl _ _).drew) (Nat.le_refl _))
      have OE_0 : Hid (OwnE (World.drew w6) _ _ _) := Lib.hid (OE6.out.below ((Below.refl _ _).drew) (Nat.le_refl _))
      generalize World.drew w6 = u0 at *
      clear hHeld
      refine wpAnyH_ready (rs := [2, 7]) (by kernel_rfl) (by simp) ?_
      refine AllReadyH.cons rfl (fun K hK => ?_) (AllReadyH.cons rfl (fun K hK => ?_) AllReadyH.nil)
      · refine step_append_rows rfl (.const (.slice none 0 0)) (.tmp 40) 29 rfl wz.heap.size 23 i1 (.agg #[.int .i64 0, .int .i64 0, .int .i64 0, .string ByteArray.empty]) 4 40 Tryd.underlying29 hi1 hy0 hy1 hy2 rfl (by decide) (.slice none 0 0) 0 [] rfl (World.ownsRow_nil _ _ _ _) (.slice a2 p2 d2) wb.heap.size p2 (E.flatMap encE) rfl (OE_0.out.at_ LE.out) (allE E) (by unfold maxLen; omega) (by omega) BD0.out.size ?_
        intro v7 u1 hown hgrow hfr
        have o7 := OwnE.whole LE.out hown
        obtain ⟨a7, c7, e7⟩ := o7.form
        rw [LE.out] at e7
        subst e7
        have hb9 : Below u0.heap.size u0 u1 := (Below.refl _ _).grown hgrow (Nat.le_refl _) (fun q hq => by cases hq)
        have O7_1 := Lib.hid o7
        have BD1 := Lib.hid (BD0.out.trans (hb9.mono BD0.out.size))
        have MK_1 := Lib.hid ((hb9.block _ (Array.getElem?_eq_some_iff.1 MK_0.out).1).trans MK_0.out)
        have OB_1 := Lib.hid (OB_0.out.below hb9 (Nat.le_refl _))
        have OE_1 := Lib.hid (OE_0.out.below hb9 (Nat.le_refl _))
        clear hown hgrow hfr o7 hb9
        refine hK.out _ _ BD1.out (fun _ => ?_)
        clear hK K
        refine wpAnyH_ready (rs := [7]) (by kernel_rfl) (by simp) ?_
        refine AllReadyH.cons rfl (fun K hK => ?_) AllReadyH.nil
        go_simp
        generalize hw9 : World.alloc u1 _ = u2
        have hb9 : Below u1.heap.size u1 u2 := by rw [← hw9]; exact (Below.refl _ _).alloc (Nat.le_refl _) _
        have NB_2 : Hid (u2.heap[u1.heap.size]? = some (.cells #[.int .i64 p1, .int .i64 0, .int .i64 0, .string (bs [76])] 23 (0, 0))) := Lib.hid (by rw [← hw9]; exact heap_alloc_new u1 _)
        have BD2 := Lib.hid (BD1.out.trans (hb9.mono BD1.out.size))
        have MK_2 := Lib.hid ((hb9.block _ (Array.getElem?_eq_some_iff.1 MK_1.out).1).trans MK_1.out)
        have OB_2 := Lib.hid (OB_1.out.below hb9 (Nat.le_refl _))
        have OE_2 := Lib.hid (OE_1.out.below hb9 (Nat.le_refl _))
        have O7_2 := Lib.hid (O7_1.out.below hb9 (Nat.le_refl _))
        clear hw9 hb9
        refine hK.out _ _ BD2.out (fun _ => ?_)
        clear hK K
        refine wpAnyH_ready (rs := [8]) (by kernel_rfl) (by simp) ?_
        refine AllReadyH.cons rfl (fun K hK => ?_) AllReadyH.nil
        refine step_append_fresh rfl (.tmp 41) (.tmp 46) 29 rfl wz.heap.size 23 i1 (.agg #[.int .i64 0, .int .i64 0, .int .i64 0, .string ByteArray.empty]) 4 40 Tryd.underlying29 hi1 hy0 hy1 hy2 rfl (by decide) (.slice a7 p2 c7) p2 (E.flatMap encE) rfl (O7_2.out.at_ LE.out) ⟨u1.heap.size, 0, none⟩ 1 1 (encE ((p1 : Int), 0, 0, [76])) rfl rfl (encE_cells NB_2.out) (encE_one _) (by unfold maxLen; omega) (by omega) BD2.out.size ?_
        intro v8 v3 hown hgrow hfr
        have o8 := OwnE.more LE.out hown
        obtain ⟨a8, c8, e8⟩ := o8.form
        rw [List.length_append, LE.out] at e8
        simp only [List.length_singleton] at e8
        subst e8
        have hm9 := (hgrow.block m (Array.getElem?_eq_some_iff.1 MK_2.out).1 (fun e => own_kind O7_2.out MK_2.out mkT_e e.symm)).trans MK_2.out
        have hb9 : Below wz.heap.size wz v3 := BD2.out.grown hgrow BD2.out.size (fun q hq => (World.ownsRow.lt O7_2.out q hq).1)
        have ho9 : OwnB v3 wz.heap.size (.slice a6 (p1 + 1) c6) (B ++ [true]) := ownsRow_block OB_2.out (fun q hq => hgrow.block q (World.ownsRow.lt OB_2.out q hq).2 (fun e => by
          rcases OB_2.out.2 with ⟨e1, _⟩ | ⟨g, c1, c2, e1, _, hgk, _⟩
          · rw [e1] at hq; cases hq
          · rw [e1] at hq
            have : g = q := by simpa [Value.ownBlock] using hq
            subst this
            exact own_kind O7_2.out hgk (by decide) e.symm))
        have O8 := Lib.hid o8
        have HM := Lib.hid hm9
        have B9 := Lib.hid hb9
        have HO := Lib.hid ho9
        clear hown hgrow hfr o8 hm9 hb9 ho9
        refine hK.out _ _ B9.out (fun _ => ?_)
        clear hK K
        obtain ⟨k0, k1, k2, k3, kl⟩ := two_of HM.out
        refine wpAnyH_ready (rs := [9]) (by kernel_rfl) (by simp) ?_
        refine AllReadyH.cons rfl (fun K hK => ?_) AllReadyH.nil
        go_simp
        refine hK.out _ _ B9.out (fun _ => ?_)
        clear hK K
        refine wpAnyH_ready (rs := [10]) (by kernel_rfl) (by simp) ?_
        refine AllReadyH.cons rfl (fun K hK => ?_) AllReadyH.nil
        go_simp
        generalize hw9 : World.setCell v3 _ _ = v4
        have o9 : Out (fun x => x = m) v3 v4 := by rw [← hw9]; exact (Out.refl _ _).setIn _ _
        have h9 : v4.heap[m]? = some (.cells #[.slice a6 (p1 + 1) c6, .slice a8 (p2 + 1) c8] 31 (0, 0)) := by rw [← hw9, heap_setCell_at HM.out]; rfl
        have b9 : Below wz.heap.size wz v4 := B9.out.trans (o9.below B9.out.size (fun i _ e => by omega))
        have R : Hid (ApM wz.heap.size wz m a6 (p1 + 1) c6 (p2 + 1) (B ++ [true]) (E ++ [((p1 : Int), 0, 0, [76])]) v4) := Lib.hid ⟨a8, c8, h9, ownsRow_out HO.out o9 (fun b hb e => own_kind HO.out HM.out mkT_b (by rw [hb, e])), ownsRow_out O8.out o9 (fun b hb e => own_kind O8.out HM.out mkT_e (by rw [hb, e])), b9⟩
        have B10 := Lib.hid b9
        clear hw9 o9 h9 b9 k0 k1 k2 k3 kl
        refine hK.out _ _ B10.out (fun _ => ?_)
        clear hK K
        refine wpAnyH_done (by kernel_rfl) ?_ _
        go_wp2
        go_meet
        exact R.out
      · go_simp
        generalize hw9 : World.alloc u0 _ = u1
        have hb9 : Below u0.heap.size u0 u1 := by rw [← hw9]; exact (Below.refl _ _).alloc (Nat.le_refl _) _
        have NB_1 : Hid (u1.heap[u0.heap.size]? = some (.cells #[.int .i64 p1, .int .i64 0, .int .i64 0, .string (bs [76])] 23 (0, 0))) := Lib.hid (by rw [← hw9]; exact heap_alloc_new u0 _)
        have BD1 := Lib.hid (BD0.out.trans (hb9.mono BD0.out.size))
        have MK_1 := Lib.hid ((hb9.block _ (Array.getElem?_eq_some_iff.1 MK_0.out).1).trans MK_0.out)
        have OB_1 := Lib.hid (OB_0.out.below hb9 (Nat.le_refl _))
        have OE_1 := Lib.hid (OE_0.out.below hb9 (Nat.le_refl _))
        clear hw9 hb9
        refine hK.out _ _ BD1.out (fun _ => ?_)
        clear hK K
        refine wpAnyH_ready (rs := [2]) (by kernel_rfl) (by simp) ?_
        refine AllReadyH.cons rfl (fun K hK => ?_) AllReadyH.nil
        refine step_append_rows rfl (.const (.slice none 0 0)) (.tmp 40) 29 rfl wz.heap.size 23 i1 (.agg #[.int .i64 0, .int .i64 0, .int .i64 0, .string ByteArray.empty]) 4 40 Tryd.underlying29 hi1 hy0 hy1 hy2 rfl (by decide) (.slice none 0 0) 0 [] rfl (World.ownsRow_nil _ _ _ _) (.slice a2 p2 d2) wb.heap.size p2 (E.flatMap encE) rfl (OE_1.out.at_ LE.out) (allE E) (by unfold maxLen; omega) (by omega) BD1.out.size ?_
        intro v7 u2 hown hgrow hfr
        have o7 := OwnE.whole LE.out hown
        obtain ⟨a7, c7, e7⟩ := o7.form
        rw [LE.out] at e7
        subst e7
        have hb9 : Below u1.heap.size u1 u2 := (Below.refl _ _).grown hgrow (Nat.le_refl _) (fun q hq => by cases hq)
        have O7_2 := Lib.hid o7
        have BD2 := Lib.hid (BD1.out.trans (hb9.mono BD1.out.size))
        have MK_2 := Lib.hid ((hb9.block _ (Array.getElem?_eq_some_iff.1 MK_1.out).1).trans MK_1.out)
        have OB_2 := Lib.hid (OB_1.out.below hb9 (Nat.le_refl _))
        have OE_2 := Lib.hid (OE_1.out.below hb9 (Nat.le_refl _))
        have NB_2 := Lib.hid ((hb9.block _ (Array.getElem?_eq_some_iff.1 NB_1.out).1).trans NB_1.out)
        clear hown hgrow hfr o7 hb9
        refine hK.out _ _ BD2.out (fun _ => ?_)
        clear hK K
        refine wpAnyH_ready (rs := [8]) (by kernel_rfl) (by simp) ?_
        refine AllReadyH.cons rfl (fun K hK => ?_) AllReadyH.nil
        refine step_append_fresh rfl (.tmp 41) (.tmp 46) 29 rfl wz.heap.size 23 i1 (.agg #[.int .i64 0, .int .i64 0, .int .i64 0, .string ByteArray.empty]) 4 40 Tryd.underlying29 hi1 hy0 hy1 hy2 rfl (by decide) (.slice a7 p2 c7) p2 (E.flatMap encE) rfl (O7_2.out.at_ LE.out) ⟨u0.heap.size, 0, none⟩ 1 1 (encE ((p1 : Int), 0, 0, [76])) rfl rfl (encE_cells NB_2.out) (encE_one _) (by unfold maxLen; omega) (by omega) BD2.out.size ?_
        intro v8 v3 hown hgrow hfr
        have o8 := OwnE.more LE.out hown
        obtain ⟨a8, c8, e8⟩ := o8.form
        rw [List.length_append, LE.out] at e8
        simp only [List.length_singleton] at e8
        subst e8
        have hm9 := (hgrow.block m (Array.getElem?_eq_some_iff.1 MK_2.out).1 (fun e => own_kind O7_2.out MK_2.out mkT_e e.symm)).trans MK_2.out
        have hb9 : Below wz.heap.size wz v3 := BD2.out.grown hgrow BD2.out.size (fun q hq => (World.ownsRow.lt O7_2.out q hq).1)
        have ho9 : OwnB v3 wz.heap.size (.slice a6 (p1 + 1) c6) (B ++ [true]) := ownsRow_block OB_2.out (fun q hq => hgrow.block q (World.ownsRow.lt OB_2.out q hq).2 (fun e => by
          rcases OB_2.out.2 with ⟨e1, _⟩ | ⟨g, c1, c2, e1, _, hgk, _⟩
          · rw [e1] at hq; cases hq
          · rw [e1] at hq
            have : g = q := by simpa [Value.ownBlock] using hq
            subst this
            exact own_kind O7_2.out hgk (by decide) e.symm))
        have O8 := Lib.hid o8
        have HM := Lib.hid hm9
        have B9 := Lib.hid hb9
        have HO := Lib.hid ho9
        clear hown hgrow hfr o8 hm9 hb9 ho9
        refine hK.out _ _ B9.out (fun _ => ?_)
        clear hK K
        obtain ⟨k0, k1, k2, k3, kl⟩ := two_of HM.out
        refine wpAnyH_ready (rs := [9]) (by kernel_rfl) (by simp) ?_
        refine AllReadyH.cons rfl (fun K hK => ?_) AllReadyH.nil
        go_simp
        refine hK.out _ _ B9.out (fun _ => ?_)
        clear hK K
        refine wpAnyH_ready (rs := [10]) (by kernel_rfl) (by simp) ?_
        refine AllReadyH.cons rfl (fun K hK => ?_) AllReadyH.nil
        go_simp
        generalize hw9 : World.setCell v3 _ _ = v4
        have o9 : Out (fun x => x = m) v3 v4 := by rw [← hw9]; exact (Out.refl _ _).setIn _ _
        have h9 : v4.heap[m]? = some (.cells #[.slice a6 (p1 + 1) c6, .slice a8 (p2 + 1) c8] 31 (0, 0)) := by rw [← hw9, heap_setCell_at HM.out]; rfl
        have b9 : Below wz.heap.size wz v4 := B9.out.trans (o9.below B9.out.size (fun i _ e => by omega))
        have R : Hid (ApM wz.heap.size wz m a6 (p1 + 1) c6 (p2 + 1) (B ++ [true]) (E ++ [((p1 : Int), 0, 0, [76])]) v4) := Lib.hid ⟨a8, c8, h9, ownsRow_out HO.out o9 (fun b hb e => own_kind HO.out HM.out mkT_b (by rw [hb, e])), ownsRow_out O8.out o9 (fun b hb e => own_kind O8.out HM.out mkT_e (by rw [hb, e])), b9⟩
        have B10 := Lib.hid b9
        clear hw9 o9 h9 b9 k0 k1 k2 k3 kl
        refine hK.out _ _ B10.out (fun _ => ?_)
        clear hK K
        refine wpAnyH_done (by kernel_rfl) ?_ _
        go_wp2
        go_meet
        exact R.out
    case rest =>
      obtain ⟨a8, c8, hk7, ho7, he7, hb7⟩ := hcut
      obtain ⟨w7, hw7⟩ : ∃ W, W = wc := ⟨_, rfl⟩
      subst hw7
      have B7 := Lib.hid hb7
      have P3 := Lib.hid (PR3.out w7 _ _ hb7 ho7 he7)
      obtain ⟨k0, k1, _, _, kl⟩ := two_of hk7
      clear hb7 ho7 he7 hk7 MK6 O6 OE6 B6 B2 B3 PR1 PR2 PR3 OBz OEz
      go_upto_region 8 with (go_at_call 10; refine P3.out.mono ?_; rintro e w8 ⟨rfl, b8⟩; have B8 : Hid (Below wz.heap.size wz w8) := Lib.hid (B7.out.trans (b8.mono B7.out.size)); clear b8)
      clear k0 k1 kl P3
      have hq9 := SE.out
      cases sm
      all_goals
        go_wp2_with (first
          | (go_at_call 11; refine (SM.out _ B9.out).mono ?_; rintro e w10 ⟨rfl, b10⟩; have B10 : Hid (Below wz.heap.size wz w10) := Lib.hid (B9.out.trans (b10.mono B9.out.size)); clear b10)
          | (go_at_call 7; refine (WK.out _ (HT.out.below (BZ.out.trans (B8.out.mono BZ.out.size)) (Nat.le_refl _))).mono ?_; rintro e w9 ⟨rfl, b9⟩; have B9 : Hid (Below wz.heap.size wz w9) := Lib.hid (B8.out.trans (b9.mono B8.out.size)); clear b9; obtain ⟨x0, x1, _, _, xl⟩ := XP.out w9 B9.out; obtain ⟨y0, y1, _, _, yl⟩ := XQ.out w9 B9.out))
        clear x0 x1 xl y0 y1 yl hq9
        go_loopw [14, 15] (fun lv fv wr => ApL s3 w10 wr lv fv) (fun _ _ wr => s3.size - wr.iterPos w10.heap.size)
        case atStart =>
          refine ⟨0, 0, 0, rfl, rfl, Nat.zero_le _, rfl, rfl, ?_, (Below.refl _ _).alloc (Nat.le_refl _) _⟩
          have := World.iter_heap w10 s3 0
          simpa using this
        case round =>
          obtain ⟨k, n, f, rfl, rfl, hks, hn, hf, hit, hBW⟩ := hrel
          have hnk : n ≤ k := by rw [hn]; have := List.count_le_length (a := (10 : UInt8)) (l := s3.data.toList.take k); rw [List.length_take] at this; omega
          have hfk : f ≤ k := by rw [hf]; have := hdT_le (s3.data.toList.take k); rw [List.length_take] at this; omega
          have HN := Lib.hid hn
          have HF := Lib.hid hf
          have IT := Lib.hid hit
          have BW := Lib.hid hBW
          have hsz : w10.heap.size < wr.heap.size := (Array.getElem?_eq_some_iff.1 hit).1
          clear hn hf
          by_cases hp : k < s3.size
          · have hb := byte_at s3 k hp
            obtain ⟨b, hbe⟩ : ∃ b, s3[k]'hp = b := ⟨_, rfl⟩
            rw [hbe] at hb
            have ha : b.toNat < 128 := AS.out b (List.mem_of_getElem? hb)
            have hnx : ∀ ty, (Instr.next (.pointer (some ⟨w10.heap.size, 0, none⟩)) true ty).run Tryd.prog wr = _ := fun ty => Lib.run_next_ascii_at wr w10.heap.size s3 k ty hit hp (by rw [hbe]; exact ha)
            rw [hbe] at hnx
            obtain ⟨m1, m2, m3⟩ := ap_moved hit hBW (k + 1)
            obtain ⟨wi, hwi⟩ : ∃ wi, wr.iterAt w10.heap.size s3 (k + 1) = wi := ⟨_, rfl⟩
            rw [hwi] at m1 m2 m3 hnx
            have M1' := Lib.hid m1
            have M2' := Lib.hid m2
            have hwz : w10.heap.size < wi.heap.size := by omega
            have TS := Lib.hid (take_snoc _ _ _ hb)
            clear m1 m2 m3 hwi hb hbe hit hBW
            by_cases h10 : b = 10
            · have N1 : Hid (n + 1 = (s3.data.toList.take (k + 1)).count 10) := Lib.hid (by rw [TS.out, h10, count_feed, HN.out])
              have F1 : Hid (f = hdT (s3.data.toList.take (k + 1))) := Lib.hid (by rw [TS.out, h10, hd_feed, HF.out])
              subst h10
              have q1 : (((10 : UInt8).toNat : Int) == 10) = true := rfl
              have q2 : ((n : Int) + 1 == 0) = false := by rw [beq_eq_false_iff_ne]; omega
              go_wp2
              go_roundw
              case rel => exact ⟨k + 1, n + 1, f, by go_num, rfl, by omega, N1.out, F1.out, M1'.out, M2'.out⟩
              case measure =>
                simp only [World.iterPos, M1'.out, IT.out]
                omega
            · have q1 : ((b.toNat : Int) == 10) = false := by rw [byte_test b 10 10 rfl]; simpa using h10
              have N1 : Hid (n = (s3.data.toList.take (k + 1)).count 10) := Lib.hid (by rw [TS.out, count_other h10, HN.out])
              by_cases h0 : n = 0
              · have F1 : Hid (f + 1 = hdT (s3.data.toList.take (k + 1))) := Lib.hid (by rw [TS.out, hd_first h10 (by rw [← HN.out, h0]), HF.out])
                have q2 : ((n : Int) == 0) = true := by rw [beq_iff_eq]; omega
                clear h10 h0
                go_wp2
                go_roundw
                case rel => exact ⟨k + 1, n, f + 1, rfl, by go_num, by omega, N1.out, F1.out, M1'.out, M2'.out⟩
                case measure =>
                  simp only [World.iterPos, M1'.out, IT.out]
                  omega
              · have F1 : Hid (f = hdT (s3.data.toList.take (k + 1))) := Lib.hid (by rw [TS.out, hd_later (by rw [← HN.out]; exact h0), HF.out])
                have q2 : ((n : Int) == 0) = false := by rw [beq_eq_false_iff_ne]; omega
                clear h10 h0
                go_wp2
                go_roundw
                case rel => exact ⟨k + 1, n, f, rfl, rfl, by omega, N1.out, F1.out, M1'.out, M2'.out⟩
                case measure =>
                  simp only [World.iterPos, M1'.out, IT.out]
                  omega
          · have hnx : ∀ ty, (Instr.next (.pointer (some ⟨w10.heap.size, 0, none⟩)) true ty).run Tryd.prog wr = _ := fun ty => Lib.run_next_end_at wr w10.heap.size s3 k ty hit hp
            have hks2 : k = s3.size := by omega
            have hn2 := HN.out
            have hf2 := HF.out
            rw [hks2, size_list, List.take_length] at hn2 hf2
            rw [CT.out] at hn2
            rw [HD.out] at hf2
            have q1 : ((n : Int) == (p2 : Int) + 3) = true := by rw [beq_iff_eq]; omega
            have q2 : ((f : Int) == 6 + (p1 : Int) + 1) = true := by rw [beq_iff_eq]; omega
            obtain ⟨x0, x1, _, _, xl⟩ := XP.out wr (B10.out.trans (hBW.mono B10.out.size))
            have BF : Hid (Below w.heap.size w wr) := Lib.hid (BZ.out.trans ((B10.out.trans (hBW.mono B10.out.size)).mono BZ.out.size))
            clear hn2 hf2 hks2 hks hnk hfk hit hBW
            go_wp2
            go_ret
            exact ⟨rfl, BF.out⟩
end Go.Proofs.YtgedcalplfnjmaaDoor
