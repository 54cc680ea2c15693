/-
  The reference's Make: a shape that may be written, of six vertices and twelve edges at most. Conditions: none.
-/
import Derived.Test.YtgchmoabhblmcaaGreatDoorParP
import Derived.Test.YtgchmoabhblmcaaGreatDoorParX
import Derived.BigRegion
import Derived.Deep.RegionHeld3
import Derived.IntWalk
namespace Go.Proofs.YtgchmoabhblmcaaGreatDoor
open Go.RowKit Go.Proofs.YtgchmoabhblmcaaGreatDoor.LexM Go.Proofs.YtgchmoabhblmcaaGreatDoor.ParM

/-- A shape that Make makes. -/
structure Smal (B : List Bool) (E : List Edg) : Prop where
  vs : B.length ≤ 6
  es : E.length ≤ 12
  ok : ∀ e ∈ E, okE B.length e ∧ e.2.2.2.length ≤ 3
theorem bends_small : ∀ E : List Edg, (∀ e ∈ E, e.2.2.2.length ≤ 3) → bendsOf E ≤ 3 * E.length
  | [], _ => by simp [bendsOf]
  | e :: E, h => by
    have ih := bends_small E (fun x hx => h x (by simp [hx]))
    have h1 := h e (by simp)
    have hbe : bendsOf (e :: E) = e.2.2.2.length + bendsOf E := by simp [bendsOf]
    rw [hbe, List.length_cons]; omega
theorem Smal.may {B : List Bool} {E : List Edg} (h : Smal B E) : May B E := by
  have h1 := h.vs
  have h2 := h.es
  have h3 := bends_small E (fun e he => (h.ok e he).2)
  exact ⟨by omega, by omega, by omega, fun e he => (h.ok e he).1⟩
theorem Smal.snoc {B : List Bool} {E : List Edg} {e : Edg} (h : Smal B E) (hl : E.length < 12) (he : okE B.length e) (hb : e.2.2.2.length ≤ 3) : Smal B (E ++ [e]) :=
  ⟨h.vs, by rw [List.length_append, List.length_singleton]; omega, fun x hx => by
    rcases List.mem_append.1 hx with hx | hx
    · exact h.ok x hx
    · obtain rfl := List.mem_singleton.1 hx
      exact ⟨he, hb⟩⟩
/-- The shape under way, a row of bools and one of edges of the call's own. -/
structure MkSt (w0 w : World) (s : Nat) (bv ev : Value) (B : List Bool) (E : List Edg) : Prop where
  below : Below w0.heap.size w0 w
  sb : w.heap[s]? = some (.cells #[bv, ev] 26 (0, 0))
  sl : w0.heap.size ≤ s
  rb : OwnB w w0.heap.size bv B
  re : OwnE w w0.heap.size ev E
theorem mkT_b : 26 ≠ 4 := by decide
theorem mkT_e : 26 ≠ 29 := by decide
section
variable {w wr wl : World} {s : Nat} {bv ev : Value} {B : List Bool} {E : List Edg}
theorem MkSt.step (h : MkSt w wr s bv ev B E) (b : Below wr.heap.size wr wl) : MkSt w wl s bv ev B E :=
  ⟨h.below.trans (b.mono h.below.size), by rw [b.block _ (Array.getElem?_eq_some_iff.1 h.sb).1]; exact h.sb, h.sl, h.rb.below b (Nat.le_refl _), h.re.below b (Nat.le_refl _)⟩
theorem MkSt.cs (h : MkSt w wr s bv ev B E) : wr.cell? ⟨s, 0, none⟩ = some bv ∧ wr.cell? ⟨s, 1, none⟩ = some ev ∧ wr.frozen? ⟨s, 0, none⟩ = false ∧ wr.frozen? ⟨s, 1, none⟩ = false ∧ s < wr.heap.size := by
  have h1 := h.sb
  refine ⟨by simp [World.cell?, h1], by simp [World.cell?, h1], ?_, ?_, (Array.getElem?_eq_some_iff.1 h1).1⟩
  · simp only [World.frozen?, h1]; simp
  · simp only [World.frozen?, h1]; simp
end
theorem MkSt.moreE {w wz wa w5 : World} {s n : Nat} {bv ev v' : Value} {B : List Bool} {E : List Edg} {a : Edg} (h : MkSt w wz s bv ev B E) (hn : E.length = n) (ha : Below wz.heap.size wz wa) (hown : w5.ownsRow w.heap.size 29 4 v' (n + 1) (E.flatMap encE ++ encE a)) (hgrow : wa.grownBy w5 ev.ownBlock) :
    w5.heap[s]? = some (.cells #[bv, ev] 26 (0, 0)) ∧ MkSt w (w5.setCell ⟨s, 1, none⟩ v') s bv v' B (E ++ [a]) := by
  have H := h.step ha
  have lt : ∀ {k c}, wa.heap[k]? = some c → k < wa.heap.size := fun h => (Array.getElem?_eq_some_iff.1 h).1
  have hO := OwnE.snocAt hn hown
  have hsb : w5.heap[s]? = some (.cells #[bv, ev] 26 (0, 0)) := by
    rw [hgrow.block s (lt H.sb) (fun e => own_kind H.re H.sb mkT_e e.symm)]; exact H.sb
  have hw5 : Below w.heap.size w w5 := H.below.grown hgrow H.below.size (fun q hq => (World.ownsRow.lt H.re q hq).1)
  have hrb : OwnB w5 w.heap.size bv B := by
    refine ownsRow_block H.rb (fun q hq => hgrow.block q (World.ownsRow.lt H.rb q hq).2 (fun e => ?_))
    rcases H.rb.2 with ⟨rfl, _⟩ | ⟨g, c1, c2, rfl, _, hgk, _⟩
    · cases hq
    · have : g = q := by simpa [Value.ownBlock] using hq
      subst this
      exact own_kind H.re hgk (by decide) e.symm
  exact ⟨hsb, ⟨below_set hw5 h.sl _ _, by rw [heap_setCell_at hsb]; rfl, h.sl, ownsRow_setCell_other hrb (own_kind hrb hsb mkT_b) _, ownsRow_setCell_other hO (own_kind hO hsb mkT_e) _⟩⟩
theorem MkSt.moreB {w wz wa w5 : World} {s n : Nat} {bv ev v' : Value} {B : List Bool} {E : List Edg} {a : Bool} (h : MkSt w wz s bv ev B E) (hn : B.length = n) (ha : Below wz.heap.size wz wa) (hown : w5.ownsRow w.heap.size 4 1 v' (n + 1) (B.map Value.bool ++ [.bool a])) (hgrow : wa.grownBy w5 bv.ownBlock) :
    w5.heap[s]? = some (.cells #[bv, ev] 26 (0, 0)) ∧ MkSt w (w5.setCell ⟨s, 0, none⟩ v') s v' ev (B ++ [a]) E := by
  have H := h.step ha
  have lt : ∀ {k c}, wa.heap[k]? = some c → k < wa.heap.size := fun h => (Array.getElem?_eq_some_iff.1 h).1
  have hO := OwnB.snocAt hn hown
  have hsb : w5.heap[s]? = some (.cells #[bv, ev] 26 (0, 0)) := by
    rw [hgrow.block s (lt H.sb) (fun e => own_kind H.rb H.sb mkT_b e.symm)]; exact H.sb
  have hw5 : Below w.heap.size w w5 := H.below.grown hgrow H.below.size (fun q hq => (World.ownsRow.lt H.rb q hq).1)
  have hre : OwnE w5 w.heap.size ev E := by
    refine ownsRow_block H.re (fun q hq => hgrow.block q (World.ownsRow.lt H.re q hq).2 (fun e => ?_))
    rcases H.re.2 with ⟨rfl, _⟩ | ⟨g, c1, c2, rfl, _, hgk, _⟩
    · cases hq
    · have : g = q := by simpa [Value.ownBlock] using hq
      subst this
      exact own_kind H.rb hgk (by decide) e.symm
  exact ⟨hsb, ⟨below_set hw5 h.sl _ _, by rw [heap_setCell_at hsb]; rfl, h.sl, ownsRow_setCell_other hO (own_kind hO hsb mkT_b) _, ownsRow_setCell_other hre (own_kind hre hsb mkT_e) _⟩⟩
theorem newsBd (w : World) (t : TypeId) (x : Bool) (b : Nat) (hb : w.heap.size = b) : ∀ j z, [Value.bool x][j]? = some z → (w.alloc (.cells #[.bool x] t)).drew.cell? ((⟨b, 0, none⟩ : Addr).add j) = some z := fun j z hz => newsB w t x b hb j z hz
theorem four_cells {w : World} {x : Nat} {v0 v1 v2 v3 : Value} {T : TypeId} (h1 : w.heap[x]? = some (.cells #[v0, v1, v2, v3] T (0, 0))) : w.cell? ⟨x, 0, none⟩ = some v0 ∧ w.cell? ⟨x, 1, none⟩ = some v1 ∧ w.cell? ⟨x, 2, none⟩ = some v2 ∧ w.cell? ⟨x, 3, none⟩ = some v3 ∧ w.frozen? ⟨x, 3, none⟩ = false ∧ x < w.heap.size := by
  refine ⟨?_, ?_, ?_, ?_, ?_, (Array.getElem?_eq_some_iff.1 h1).1⟩
  iterate 4 simp [World.cell?, h1]
  simp only [World.frozen?, h1]; simp
/-- In the three loops. -/
def MkA (n0 : Nat) (wb : World) (s : Nat) (iv : Value) (wr : World) : Prop := ∃ (k : Nat) (bv : Value) (B : List Bool), iv = .int .i64 k ∧ k ≤ n0 ∧ k ≤ 6 ∧ B.length = k ∧ MkSt wb wr s bv (.slice none 0 0) B []
def MkB (n : Nat) (B : List Bool) (bv : Value) (wb : World) (s : Nat) (iv : Value) (wr : World) : Prop := ∃ (k : Nat) (ev : Value) (E : List Edg), iv = .int .i64 k ∧ k ≤ n ∧ k ≤ 12 ∧ E.length = k ∧ Smal B E ∧ MkSt wb wr s bv ev B E
/-- An edge under way. -/
def EdSh (f t d : Int) (wr : World) (x : Nat) (bb : List UInt8) (wx : World) : Prop := isTurns bb = true ∧ wx.heap[x]? = some (.cells #[.int .i64 f, .int .i64 t, .int .i64 d, .string (bs bb)] 29 (0, 0)) ∧ Below wr.heap.size wr wx
theorem bs_snoc (l : List UInt8) (x : UInt8) : bs l ++ ⟨#[x]⟩ = bs (l ++ [x]) := by
  rw [← bs_list (bs l ++ ⟨#[x]⟩)]
  congr 1
theorem turns_snoc {l : List UInt8} {x : UInt8} (h : isTurns l = true) (hx : x = 76 ∨ x = 82) : isTurns (l ++ [x]) = true := by
  unfold isTurns at h ⊢
  rw [List.all_append, h]
  rcases hx with rfl | rfl <;> rfl
theorem EdSh.more {f t d : Int} {wo wr : World} {bb : List UInt8} (h : EdSh f t d wo wo.heap.size bb wr) (x : UInt8) (hx : x = 76 ∨ x = 82) : EdSh f t d wo wo.heap.size (bb ++ [x]) (wr.setCell ⟨wo.heap.size, 3, none⟩ (.string (bs bb ++ ⟨#[x]⟩))) :=
  ⟨turns_snoc h.1 hx, by rw [heap_setCell_at h.2.1, bs_snoc]; rfl, below_set h.2.2 (Nat.le_refl _) _ _⟩
def MkC (q : Nat) (f t d : Int) (wr : World) (x : Nat) (iv : Value) (wx : World) : Prop := ∃ (k : Nat) (bb : List UInt8), iv = .int .i64 k ∧ k ≤ q ∧ bb.length = k ∧ EdSh f t d wr x bb wx
def MakP (w : World) (e : Ending) (w' : World) : Prop := ∃ (A1 : Option Addr) (n1 c1 : Nat) (A2 : Option Addr) (n2 c2 : Nat) (B : List Bool) (E : List Edg), e = .returned (.agg #[.slice A1 n1 c1, .slice A2 n2 c2]) ∧ B.length = n1 ∧ E.length = n2 ∧ BlsAt w' (.slice A1 n1 c1) B ∧ EdsAt w' (.slice A2 n2 c2) E ∧ Smal B E ∧ Below w.heap.size w w'
theorem mk_ret {w wb wr w6 : World} {bv ev : Value} {B : List Bool} {E : List Edg} (hs : wb.heap.size = w.heap.size + 2) (hb : OwnB wr wb.heap.size bv B) (he : OwnE wr wb.heap.size ev E) (u v : Value)
    (h6 : ((wr.setCell ⟨w.heap.size + 1, 0, none⟩ u).setCell ⟨w.heap.size + 1, 1, none⟩ v) = w6) : BlsAt w6 bv B ∧ EdsAt w6 ev E := by
  subst h6
  have n1 : bv.ownBlock ≠ some (w.heap.size + 1) := fun e => by have := (World.ownsRow.lt hb _ e).1; omega
  have n2 : ev.ownBlock ≠ some (w.heap.size + 1) := fun e => by have := (World.ownsRow.lt he _ e).1; omega
  exact ⟨OwnB.bls (B := wb.heap.size) (ownsRow_setCell_other (ownsRow_setCell_other hb n1 _) n1 _), OwnE.eds (B := wb.heap.size) (ownsRow_setCell_other (ownsRow_setCell_other he n2 _) n2 _)⟩
set_option maxHeartbeats 16000000 in
set_option maxRecDepth 100000 in
theorem refMake (bv : Value) (ZB : List Bool) (A : Option Addr) (n cap : Nat) (D : Nat → Int × Int × Int) (A2 : Option Addr) (n2 cap2 : Nat) (D2 : Nat → Int) (w : World) (hB : BlsAt w bv ZB) (hT : Tri8 w A n D) (hY : Byt8 w A2 n2 D2) :
    Calls Tryz.prog 10 #[.agg #[bv, .slice A n cap, .slice A2 n2 cap2], .int .i64 6] w (MakP w) := by
  have HB := Lib.hid hB
  have HT := Lib.hid hT
  have HY := Lib.hid hY
  obtain ⟨n0, hn0⟩ : ∃ n, ZB.length = n := ⟨_, rfl⟩
  obtain ⟨A0, c0, e⟩ := hB.form
  rw [hn0] at e
  subst e
  have LB := Lib.hid hn0
  obtain ⟨i0, hi, hz0, hz1, hz2⟩ := info_of infoBl
  clear hB hT hY hn0
  go_enter Tryz.func10, Tryz.ntmps10
  go_upto_block 0 with (fail)
  generalize hwb : World.alloc (World.alloc w _) _ = wb
  have b0 : Below w.heap.size w wb := by rw [← hwb]; exact ((Below.refl _ _).alloc (Nat.le_refl _) _).alloc (by simp) _
  have hs0 : wb.heap.size = w.heap.size + 2 := by rw [← hwb]; simp
  have hk0 : wb.heap[w.heap.size]? = some (.cells #[.slice A0 n0 c0, .slice A n cap, .slice A2 n2 cap2] 40 (0, 0)) := by rw [← hwb, Below.heap_alloc _ _ _ (by simp)]; exact heap_alloc_new w _
  have hk1 : wb.heap[w.heap.size + 1]? = some (.cells #[.slice none 0 0, .slice none 0 0] 26 (0, 0)) := by rw [← hwb]; exact heap_second w _ _
  generalize hws : World.alloc wb _ = ws
  have hS0 : MkSt wb ws (w.heap.size + 1 + 1) (.slice none 0 0) (.slice none 0 0) [] [] := ⟨by rw [← hws]; exact (Below.refl _ _).alloc (Nat.le_refl _) _, by rw [← hws, show w.heap.size + 1 + 1 = wb.heap.size by omega]; exact heap_alloc_new wb _, by omega, World.ownsRow_nil _ _ _ _, World.ownsRow_nil _ _ _ _⟩
  have zz : ∀ wr, Below wb.heap.size wb wr → wr.cell? ⟨w.heap.size, 0, none⟩ = some (.slice A0 n0 c0) ∧ wr.cell? ⟨w.heap.size, 1, none⟩ = some (.slice A n cap) ∧ wr.cell? ⟨w.heap.size, 2, none⟩ = some (.slice A2 n2 cap2) ∧ w.heap.size < wr.heap.size := by
    intro wr b
    have hl : w.heap.size < wb.heap.size := by omega
    have h1 := b.block _ hl
    rw [hk0] at h1
    exact ⟨by simp [World.cell?, h1], by simp [World.cell?, h1], by simp [World.cell?, h1], Nat.lt_of_lt_of_le hl b.size⟩
  have rr : ∀ wr, Below wb.heap.size wb wr → wr.heap[w.heap.size + 1]? = some (.cells #[.slice none 0 0, .slice none 0 0] 26 (0, 0)) ∧ wr.cell? ⟨w.heap.size + 1, 0, none⟩ = some (.slice none 0 0) ∧ wr.cell? ⟨w.heap.size + 1, 1, none⟩ = some (.slice none 0 0) ∧ wr.frozen? ⟨w.heap.size + 1, 0, none⟩ = false ∧ wr.frozen? ⟨w.heap.size + 1, 1, none⟩ = false ∧ w.heap.size + 1 < wr.heap.size := by
    intro wr b
    have hl : w.heap.size + 1 < wb.heap.size := by omega
    have h1 := b.block _ hl
    rw [hk1] at h1
    refine ⟨h1, by simp [World.cell?, h1], by simp [World.cell?, h1], ?_, ?_, Nat.lt_of_lt_of_le hl b.size⟩
    · simp only [World.frozen?, h1]; simp
    · simp only [World.frozen?, h1]; simp
  have ZZ := Lib.hid zz
  have RR := Lib.hid rr
  have B0 := Lib.hid b0
  have SB := Lib.hid hs0
  have S0 := Lib.hid hS0
  have BB := Lib.hid (HB.out.below b0 (Nat.le_refl _))
  have TT := Lib.hid (HT.out.below b0)
  have YY := Lib.hid (HY.out.below b0)
  clear hwb hws b0 hk0 hk1 hs0 hS0 zz rr
  go_cut [6] from 11 to 32 (fun _ wx => ∃ bv B, B.length ≤ 6 ∧ MkSt wb wx (w.heap.size + 1 + 1) bv (.slice none 0 0) B [])
  case first =>
    go_wp2_with (fail)
    go_loopw [6] (fun iv wr => MkA n0 wb (w.heap.size + 1 + 1) iv wr) (fun iv _ => 6 - (intOf iv).toNat)
    case atStart => exact ⟨0, _, [], rfl, by omega, by omega, rfl, S0.out⟩
    case round =>
      obtain ⟨k, bk, B, rfl, hk0, hk6, hBk, hM⟩ := hrel
      obtain ⟨ab, cb, e⟩ := hM.rb.form
      rw [hBk] at e
      subst e
      have M := Lib.hid hM
      have LK := Lib.hid hBk
      obtain ⟨y0, y1, f0, f1, yl⟩ := hM.cs
      obtain ⟨z0, z1, z2, zl⟩ := ZZ.out wr hM.below
      have hwr : wb.heap.size ≤ wr.heap.size := hM.below.size
      have hsb : w.heap.size + 1 + 1 ≤ wb.heap.size := by rw [SB.out]; omega
      by_cases h1 : k < n0
      · by_cases h2 : k < 6
        · have hkB : k < ZB.length := by rw [LB.out]; exact h1
          obtain ⟨b, o, c', e, hb, d0⟩ := BB.out.nth hkB
          rw [LB.out] at e
          simp only [Value.slice.injEq, true_and] at e
          obtain ⟨rfl, rfl⟩ := e
          have d1 := (hM.below.cell (p := ⟨b, o + k, none⟩) hb).trans d0
          have z3 := Nat.lt_of_lt_of_le hb hwr
          have q1 : decide (k < n0) = true := by rw [decide_eq_true_eq]; exact h1
          have q2 : decide (k < 6) = true := by rw [decide_eq_true_eq]; exact h2
          have q3 : decide ((k : Int) < 6) = true := by rw [decide_eq_true_eq]; omega
          obtain ⟨x, hx⟩ : ∃ x, ZB[k] = x := ⟨_, rfl⟩
          rw [hx] at d1
          clear d0 hx hM hBk hk0 hk6
          go_upto_region 5 with (fail)
          go_region_law (refine step_append_fresh rfl (.tmp 24) (.tmp 30) 23 rfl wb.heap.size 4 i0 (.bool false) 1 1 Tryz.underlying23 hi hz0 hz1 hz2 rfl (by decide) (.slice ab k cb) k (B.map Value.bool) (by simp [Act.eval]) ((M.out.rb.below (by first | exact ((Below.refl _ _).alloc (Nat.le_refl _) _).drew | exact ((Below.refl _ _).drew).alloc (by simp) _ | exact (Below.refl _ _).alloc (Nat.le_refl _) _) (Nat.le_refl _)).at_ LK.out) ⟨wr.heap.size, 0, none⟩ 1 1 [.bool x] (by simp [Act.eval]) rfl (by first | exact newsBd _ _ _ _ rfl | exact newsB _ _ _ _ rfl) (oneB _) (by unfold maxLen; omega) (by omega) (by simp; omega) ?_; intro v5 w5 hown hgrow hfr; obtain ⟨hs5, hM5⟩ := M.out.moreB LK.out (by first | exact ((Below.refl _ _).alloc (Nat.le_refl _) _).drew | exact ((Below.refl _ _).drew).alloc (by simp) _ | exact (Below.refl _ _).alloc (Nat.le_refl _) _) hown hgrow; obtain ⟨ao, cp5, e5⟩ := (OwnB.snocAt LK.out hown).form; rw [List.length_append, LK.out] at e5; simp only [List.length_singleton] at e5; subst e5; have M5 := Lib.hid hM5; have s5f : w5.frozen? ⟨w.heap.size + 1 + 1, 0, none⟩ = false := (by simp only [World.frozen?, hs5]; simp); have s5l := (Array.getElem?_eq_some_iff.1 hs5).1; have s5c : w5.cell? ⟨w.heap.size + 1 + 1, 0, none⟩ = some (.slice ab k cb) := (by simp [World.cell?, hs5]); clear hown hgrow hfr hs5 hM5)
          all_goals
            go_wp2
            go_roundw
            case rel => exact ⟨k + 1, _, B ++ [x], by go_num, by omega, by omega, by rw [List.length_append, LK.out]; rfl, by first | exact M5.out | exact M5.out.step ((Below.refl _ _).drew)⟩
            case measure => (simp [intOf] <;> omega)
        · have hk : k = 6 := by omega
          have q1 : decide (k < n0) = true := by rw [decide_eq_true_eq]; exact h1
          have q2 : decide (k < 6) = false := by rw [decide_eq_false_iff_not]; omega
          have q3 : decide ((k : Int) < 6) = false := by rw [decide_eq_false_iff_not]; omega
          clear hM hBk hk0 hk
          go_wp2
          go_meet
          exact ⟨_, B, by rw [LK.out]; omega, M.out⟩
      · have q1 : decide (k < n0) = false := by rw [decide_eq_false_iff_not]; omega
        clear hM hBk
        go_wp2
        go_meet
        exact ⟨_, B, by rw [LK.out]; omega, M.out⟩
  case rest =>
    obtain ⟨bm, B, hB6, hS1⟩ := hcut
    obtain ⟨w1, hw1⟩ : ∃ W, W = wc := ⟨_, rfl⟩
    subst hw1
    obtain ⟨m, hm⟩ : ∃ m, B.length = m := ⟨_, rfl⟩
    obtain ⟨ab, cb, e⟩ := hS1.rb.form
    rw [hm] at e
    subst e
    have S1 := Lib.hid hS1
    have LM := Lib.hid hm
    rw [hm] at hB6
    clear hS1 hm
    go_wp2
    go_loopw [7] (fun iv wr => MkB n B (.slice ab m cb) wb (w.heap.size + 1 + 1) iv wr) (fun iv _ => 12 - (intOf iv).toNat)
    case atStart => exact ⟨0, _, [], rfl, by omega, by omega, rfl, ⟨by rw [LM.out]; exact hB6, by simp, by simp⟩, S1.out⟩
    case round =>
      obtain ⟨k, ek, E, rfl, hkn, hk12, hEk, hSm, hM⟩ := hrel
      obtain ⟨ae, ce, e⟩ := hM.re.form
      rw [hEk] at e
      subst e
      have M := Lib.hid hM
      have LK := Lib.hid hEk
      have SM := Lib.hid hSm
      obtain ⟨y0, y1, f0, f1, yl⟩ := hM.cs
      obtain ⟨z0, z1, z2, zl⟩ := ZZ.out wr hM.below
      have hwr : wb.heap.size ≤ wr.heap.size := hM.below.size
      have hsb : w.heap.size + 1 + 1 ≤ wb.heap.size := by rw [SB.out]; omega
      by_cases h1 : k < n
      · by_cases h2 : k < 12
        · by_cases h3 : 0 < m
          · have q1 : decide (k < n) = true := by rw [decide_eq_true_eq]; exact h1
            have q2 : decide (k < 12) = true := by rw [decide_eq_true_eq]; exact h2
            have q3 : decide ((k : Int) < 12) = true := by rw [decide_eq_true_eq]; omega
            have q4 : decide (0 < m) = true := by rw [decide_eq_true_eq]; exact h3
            have q5 : decide ((0 : Int) < (m : Int)) = true := by rw [decide_eq_true_eq]; omega
            obtain ⟨b, o, hAe, hb, hcell⟩ := TT.out.at_ (by omega)
            subst hAe
            obtain ⟨c0', c1', c2'⟩ := hcell k h1
            obtain ⟨⟨p0, p1⟩, ⟨p2, p3⟩, p4, p5⟩ := TT.out.r k h1
            have d0 := (hM.below.cell (p := ⟨b, o + k * 3, none⟩) hb).trans c0'
            have d1 := (hM.below.cell (p := ⟨b, o + k * 3 + 1, none⟩) hb).trans c1'
            have d2 := (hM.below.cell (p := ⟨b, o + k * 3 + 2, none⟩) hb).trans c2'
            have z3 := Nat.lt_of_lt_of_le hb hwr
            clear hcell c0' c1' c2' hM hEk hSm
            generalize D k = tri at *
            obtain ⟨x, y, z⟩ := tri
            simp only at p0 p1 p2 p3 p4 p5 d0 d1 d2
            have hnz : ¬ m = 0 := by omega
            obtain ⟨a, ha⟩ : ∃ r : Nat, x % (m : Int) = (r : Int) := ⟨(x % (m : Int)).toNat, by have := Int.emod_nonneg x (b := (m : Int)) (by omega); omega⟩
            have ha1 : a < m := by have := Int.emod_lt_of_pos x (b := (m : Int)) (by omega); omega
            have ha2 : x.tmod (m : Int) = (a : Int) := by rw [Int.tmod_eq_emod_of_nonneg p0]; exact ha
            obtain ⟨c, hc⟩ : ∃ r : Nat, y % (m : Int) = (r : Int) := ⟨(y % (m : Int)).toNat, by have := Int.emod_nonneg y (b := (m : Int)) (by omega); omega⟩
            have hc1 : c < m := by have := Int.emod_lt_of_pos y (b := (m : Int)) (by omega); omega
            have hc2 : y.tmod (m : Int) = (c : Int) := by rw [Int.tmod_eq_emod_of_nonneg p2]; exact hc
            obtain ⟨d, hd⟩ : ∃ r : Nat, z % 4 = (r : Int) := ⟨(z % 4).toNat, by omega⟩
            have hd1 : d ≤ 3 := by omega
            have hd2 : z.tmod 4 = (d : Int) := by rw [Int.tmod_eq_emod_of_nonneg p4]; exact hd
            go_upto_region 9 with (fail)
            have cx1 : IntKind.i64.wrap x = x := IntWalk.i64_in _ (by omega)
            have cx2 : IntKind.i64.wrap y = y := IntWalk.i64_in _ (by omega)
            have cx3 : IntKind.i64.wrap z = z := IntWalk.i64_in _ (by omega)
            clear ha hc hd
            go_region_held3 (fun w' => w'.cell? ⟨w.heap.size, 1, none⟩ = some (.slice (some ⟨b, o, none⟩) n cap) ∧ w'.cell? ⟨w.heap.size + 1 + 1, 0, none⟩ = some (.slice ab m cb) ∧ w'.cell? ⟨b, o + k * 3, none⟩ = some (.int .u8 x) ∧ w'.cell? ⟨b, o + k * 3 + 1, none⟩ = some (.int .u8 y) ∧ w'.cell? ⟨b, o + k * 3 + 2, none⟩ = some (.int .u8 z)) (go_keep) (fail)
            clear cx1 cx2 cx3 ha2 hc2 hd2 d0 d1 d2 p0 p1 p2 p3 p4 p5
            go_upto_if 87 with (fail)
            have M2 := Lib.hid (M.out.step (((Below.refl _ _).alloc (Nat.le_refl _) (.cells #[.int .i64 a, .int .i64 c, .int .i64 d, .string ⟨#[]⟩] 29)).drew))
            have hE0 : EdSh a c d wr wr.heap.size [] (World.drew (World.alloc wr (.cells #[.int .i64 a, .int .i64 c, .int .i64 d, .string ⟨#[]⟩] 29))) := ⟨rfl, heap_alloc_new wr _, ((Below.refl _ _).alloc (Nat.le_refl _) _).drew⟩
            have E0 := Lib.hid hE0
            have BW := Lib.hid M.out.below
            clear hE0 y0 y1 f0 f1 yl z0 z1 z2 zl z3
            generalize World.drew (World.alloc wr _) = we at *
            obtain ⟨wo, hwo⟩ : ∃ W, W = wr := ⟨_, rfl⟩
            subst hwo
            go_cut [9] from 87 to 116 (fun _ wx => ∃ bb, bb.length ≤ 3 ∧ EdSh a c d wo wo.heap.size bb wx)
            case first =>
              by_cases hb2 : k < n2
              · have t1 : decide (k < n2) = true := by rw [decide_eq_true_eq]; exact hb2
                obtain ⟨b2, o2, hA2, hl2, hc2⟩ := YY.out.at_ (by omega)
                subst hA2
                have hcell2 := hc2 k hb2
                obtain ⟨r0, r1⟩ := YY.out.r k hb2
                obtain ⟨v, hv⟩ : ∃ v, D2 k = v := ⟨_, rfl⟩
                rw [hv] at hcell2 r0 r1
                have C2 := Lib.hid hcell2
                obtain ⟨q, hq⟩ : ∃ q : Nat, v % 4 = (q : Int) := ⟨(v % 4).toNat, by omega⟩
                have hq1 : q ≤ 3 := by omega
                have hq2 : v.tmod 4 = (q : Int) := by rw [Int.tmod_eq_emod_of_nonneg r0]; exact hq
                have hbw : b2 < wb.heap.size := hl2
                clear hc2 hcell2 hv hq
                go_wp2_with (fail)
                go_loopw [9] (fun iv wx => MkC q a c d wo wo.heap.size iv wx) (fun iv _ => 3 - (intOf iv).toNat)
                case atStart => exact ⟨0, [], rfl, by omega, rfl, E0.out⟩
                case round =>
                  obtain ⟨j, bb, rfl, hjq, hbl, hS⟩ := hrel
                  have BL := Lib.hid (BW.out.trans (hS.2.2.mono BW.out.size))
                  obtain ⟨z0, z1, z2, zl⟩ := ZZ.out wr BL.out
                  have d0 := (BL.out.cell (p := ⟨b2, o2 + k, none⟩) hbw).trans C2.out
                  have z3 := Nat.lt_of_lt_of_le hbw BL.out.size
                  obtain ⟨x0, x1, x2, x3, xf, xl⟩ := four_cells hS.2.1
                  have HS := Lib.hid hS
                  have LB2 := Lib.hid hbl
                  have hbz : (bs bb).size ≤ 3 := by rw [bs_size]; omega
                  clear hS hbl
                  by_cases hj : j < q
                  · have t2 : decide (j < q) = true := by rw [decide_eq_true_eq]; exact hj
                    have G1 := Lib.hid (HS.out.more 76 (Or.inl rfl))
                    have G2 := Lib.hid (HS.out.more 82 (Or.inr rfl))
                    go_wp2
                    all_goals
                      go_roundw
                      case rel => first | exact ⟨j + 1, bb ++ [76], by go_num, hj, by rw [List.length_append, LB2.out]; rfl, G1.out⟩ | exact ⟨j + 1, bb ++ [82], by go_num, hj, by rw [List.length_append, LB2.out]; rfl, G2.out⟩
                      case measure => (simp [intOf] <;> omega)
                  · have t2 : decide (j < q) = false := by rw [decide_eq_false_iff_not]; exact hj
                    go_wp2
                    go_meet
                    exact ⟨bb, by rw [LB2.out]; omega, HS.out⟩
              · have t1 : decide (k < n2) = false := by rw [decide_eq_false_iff_not]; exact hb2
                go_wp2
                go_meet
                exact ⟨[], by simp, E0.out⟩
            case rest =>
              obtain ⟨bb, hb3, hS⟩ := hcut
              obtain ⟨w4, hw4⟩ : ∃ W, W = wc := ⟨_, rfl⟩
              subst hw4
              have HS := Lib.hid hS
              have M4 := Lib.hid (M.out.step hS.2.2)
              have hwo4 := hS.2.2.size
              obtain ⟨x0, x1, x2, x3, xf, xl⟩ := four_cells hS.2.1
              obtain ⟨y0, y1, f0, f1, yl⟩ := M4.out.cs
              have OK : Hid (okE B.length ((a : Int), (c : Int), (d : Int), bb)) := Lib.hid ⟨by show (0 : Int) ≤ a; omega, by show (a : Int) < B.length; rw [LM.out]; omega, by show (0 : Int) ≤ c; omega, by show (c : Int) < B.length; rw [LM.out]; omega, by show (0 : Int) ≤ d; omega, by show (d : Int) ≤ 3; omega, hS.1⟩
              have HB3 := Lib.hid hb3
              obtain ⟨i1, hi1, hy0, hy1, hy2⟩ := info_of infoE4
              clear hS hb3
              go_wp2_with (at_builtin; refine wpList_append_fresh rfl (.tmp 118) (.tmp 120) 24 rfl wb.heap.size 29 i1 (.agg #[.int .i64 0, .int .i64 0, .int .i64 0, .string ByteArray.empty]) 4 40 Tryz.underlying24 hi1 hy0 hy1 hy2 rfl (by decide) (.slice ae k ce) k (E.flatMap encE) rfl ((M4.out.re.below ((Below.refl _ _).alloc (Nat.le_refl _) _) (Nat.le_refl _)).at_ LK.out) ⟨w4.heap.size, 0, none⟩ 1 1 (encE ((a : Int), (c : Int), (d : Int), bb)) rfl rfl (newsE _ _ _ _ rfl) (encE_one _) (by unfold maxLen; omega) (by omega) (by simp; omega) ?_; intro v5 w5 hown hgrow hfr; obtain ⟨hs5, hM5⟩ := M4.out.moreE LK.out ((Below.refl _ _).alloc (Nat.le_refl _) _) hown hgrow; obtain ⟨ao, cp5, e5⟩ := (OwnE.snocAt LK.out hown).form; rw [List.length_append, LK.out] at e5; simp only [List.length_singleton] at e5; subst e5; have M5 := Lib.hid hM5; have s5f : w5.frozen? ⟨w.heap.size + 1 + 1, 1, none⟩ = false := (by simp only [World.frozen?, hs5]; simp); have s5l := (Array.getElem?_eq_some_iff.1 hs5).1; have s5c : w5.cell? ⟨w.heap.size + 1 + 1, 1, none⟩ = some (.slice ae k ce) := (by simp [World.cell?, hs5]); clear hown hgrow hfr hs5 hM5)
              go_roundw
              case rel => exact ⟨k + 1, _, E ++ [((a : Int), (c : Int), (d : Int), bb)], by go_num, by omega, by omega, by rw [List.length_append, LK.out]; rfl, SM.out.snoc (by rw [LK.out]; omega) OK.out HB3.out, M5.out⟩
              case measure => (simp [intOf] <;> omega)
          · have q1 : decide (k < n) = true := by rw [decide_eq_true_eq]; exact h1
            have q2 : decide (k < 12) = true := by rw [decide_eq_true_eq]; exact h2
            have q3 : decide ((k : Int) < 12) = true := by rw [decide_eq_true_eq]; omega
            have q4 : decide (0 < m) = false := by rw [decide_eq_false_iff_not]; exact h3
            have q5 : decide ((0 : Int) < (m : Int)) = false := by rw [decide_eq_false_iff_not]; omega
            obtain ⟨rb, r0, r1, r2, r3, r4⟩ := RR.out wr hM.below
            clear hM hEk hSm
            go_wp2
            generalize hw6 : World.setCell _ ⟨w.heap.size + 1, 1, none⟩ _ = w6
            obtain ⟨u0, u1, hb6, _⟩ := shape_set rb (by omega) (B0.out.trans (M.out.below.mono B0.out.size)) _ _ hw6
            obtain ⟨hbl, hel⟩ := mk_ret SB.out M.out.rb M.out.re _ _ hw6
            clear hw6
            refine bodyPost_ret (v := .agg #[.slice ab m cb, .slice ae k ce]) (by simp [results, Tryz.results10, go_sem, u0, u1]) rfl ⟨_, _, _, _, _, _, B, E, rfl, LM.out, LK.out, hbl, hel, SM.out, hb6⟩
        · have q1 : decide (k < n) = true := by rw [decide_eq_true_eq]; exact h1
          have q2 : decide (k < 12) = false := by rw [decide_eq_false_iff_not]; exact h2
          have q3 : decide ((k : Int) < 12) = false := by rw [decide_eq_false_iff_not]; omega
          obtain ⟨rb, r0, r1, r2, r3, r4⟩ := RR.out wr hM.below
          clear hM hEk hSm
          go_wp2
          generalize hw6 : World.setCell _ ⟨w.heap.size + 1, 1, none⟩ _ = w6
          obtain ⟨u0, u1, hb6, _⟩ := shape_set rb (by omega) (B0.out.trans (M.out.below.mono B0.out.size)) _ _ hw6
          obtain ⟨hbl, hel⟩ := mk_ret SB.out M.out.rb M.out.re _ _ hw6
          clear hw6
          refine bodyPost_ret (v := .agg #[.slice ab m cb, .slice ae k ce]) (by simp [results, Tryz.results10, go_sem, u0, u1]) rfl ⟨_, _, _, _, _, _, B, E, rfl, LM.out, LK.out, hbl, hel, SM.out, hb6⟩
      · have q1 : decide (k < n) = false := by rw [decide_eq_false_iff_not]; exact h1
        obtain ⟨rb, r0, r1, r2, r3, r4⟩ := RR.out wr hM.below
        clear hM hEk hSm
        go_wp2
        generalize hw6 : World.setCell _ ⟨w.heap.size + 1, 1, none⟩ _ = w6
        obtain ⟨u0, u1, hb6, _⟩ := shape_set rb (by omega) (B0.out.trans (M.out.below.mono B0.out.size)) _ _ hw6
        obtain ⟨hbl, hel⟩ := mk_ret SB.out M.out.rb M.out.re _ _ hw6
        clear hw6
        refine bodyPost_ret (v := .agg #[.slice ab m cb, .slice ae k ce]) (by simp [results, Tryz.results10, go_sem, u0, u1]) rfl ⟨_, _, _, _, _, _, B, E, rfl, LM.out, LK.out, hbl, hel, SM.out, hb6⟩
end Go.Proofs.YtgchmoabhblmcaaGreatDoor
