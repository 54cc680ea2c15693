/-
  A shape under way in memory, a row of bools and one of edges of the call's own; an edge under way: what the reference's Make keeps. Conditions: none.
-/
import Derived.Test.YtgedcalplfnjmaaDoorParP
import Derived.Test.YtgedcalplfnjmaaDoorParX
import Derived.BigRegion
import Derived.Deep.RegionHeld3
import Derived.IntWalk
import Derived.Deep.CutRange
import Derived.Deep.CutBlock
namespace Go.Proofs.YtgedcalplfnjmaaDoor
open Go.RowKit Go.Proofs.YtgedcalplfnjmaaDoor.LexM Go.Proofs.YtgedcalplfnjmaaDoor.ParM

theorem bends_small : ∀ E : List Edg, (∀ e ∈ E, e.2.2.2.length ≤ 3) → bendsOf E ≤ 3 * E.length
  | [], _ => by simp [bendsOf]
  | e :: E, h => by
    have ih := bends_small E (fun x hx => h x (by simp [hx]))
    have h1 := h e (by simp)
    have hbe : bendsOf (e :: E) = e.2.2.2.length + bendsOf E := by simp [bendsOf]
    rw [hbe, List.length_cons]; omega
/-- The shape under way, a row of bools and one of edges of the call's own. -/
structure MkSt (w0 w : World) (s : Nat) (bv ev : Value) (B : List Bool) (E : List Edg) : Prop where
  below : Below w0.heap.size w0 w
  sb : w.heap[s]? = some (.cells #[bv, ev] 31 (0, 0))
  sl : w0.heap.size ≤ s
  rb : OwnB w w0.heap.size bv B
  re : OwnE w w0.heap.size ev E
theorem mkT_b : 31 ≠ 4 := by decide
theorem mkT_e : 31 ≠ 23 := by decide
section
variable {w wr wl : World} {s : Nat} {bv ev : Value} {B : List Bool} {E : List Edg}
theorem MkSt.step (h : MkSt w wr s bv ev B E) (b : Below wr.heap.size wr wl) : MkSt w wl s bv ev B E :=
  ⟨h.below.trans (b.mono h.below.size), by rw [b.block _ (Array.getElem?_eq_some_iff.1 h.sb).1]; exact h.sb, h.sl, h.rb.below b (Nat.le_refl _), h.re.below b (Nat.le_refl _)⟩
theorem MkSt.cs (h : MkSt w wr s bv ev B E) : wr.cell? ⟨s, 0, none⟩ = some bv ∧ wr.cell? ⟨s, 1, none⟩ = some ev ∧ wr.frozen? ⟨s, 0, none⟩ = false ∧ wr.frozen? ⟨s, 1, none⟩ = false ∧ s < wr.heap.size := by
  have h1 := h.sb
  refine ⟨by simp [World.cell?, h1], by simp [World.cell?, h1], ?_, ?_, (Array.getElem?_eq_some_iff.1 h1).1⟩
  · simp only [World.frozen?, h1]; simp
  · simp only [World.frozen?, h1]; simp
end
theorem MkSt.moreE {w wz wa w5 : World} {s n : Nat} {bv ev v' : Value} {B : List Bool} {E : List Edg} {a : Edg} (h : MkSt w wz s bv ev B E) (hn : E.length = n) (ha : Below wz.heap.size wz wa) (hown : w5.ownsRow w.heap.size 23 4 v' (n + 1) (E.flatMap encE ++ encE a)) (hgrow : wa.grownBy w5 ev.ownBlock) :
    w5.heap[s]? = some (.cells #[bv, ev] 31 (0, 0)) ∧ MkSt w (w5.setCell ⟨s, 1, none⟩ v') s bv v' B (E ++ [a]) := by
  have H := h.step ha
  have lt : ∀ {k c}, wa.heap[k]? = some c → k < wa.heap.size := fun h => (Array.getElem?_eq_some_iff.1 h).1
  have hO := OwnE.snocAt hn hown
  have hsb : w5.heap[s]? = some (.cells #[bv, ev] 31 (0, 0)) := by
    rw [hgrow.block s (lt H.sb) (fun e => own_kind H.re H.sb mkT_e e.symm)]; exact H.sb
  have hw5 : Below w.heap.size w w5 := H.below.grown hgrow H.below.size (fun q hq => (World.ownsRow.lt H.re q hq).1)
  have hrb : OwnB w5 w.heap.size bv B := by
    refine ownsRow_block H.rb (fun q hq => hgrow.block q (World.ownsRow.lt H.rb q hq).2 (fun e => ?_))
    rcases H.rb.2 with ⟨rfl, _⟩ | ⟨g, c1, c2, rfl, _, hgk, _⟩
    · cases hq
    · have : g = q := by simpa [Value.ownBlock] using hq
      subst this
      exact own_kind H.re hgk (by decide) e.symm
  exact ⟨hsb, ⟨below_set hw5 h.sl _ _, by rw [heap_setCell_at hsb]; rfl, h.sl, ownsRow_setCell_other hrb (own_kind hrb hsb mkT_b) _, ownsRow_setCell_other hO (own_kind hO hsb mkT_e) _⟩⟩
theorem MkSt.moreB {w wz wa w5 : World} {s n : Nat} {bv ev v' : Value} {B : List Bool} {E : List Edg} {a : Bool} (h : MkSt w wz s bv ev B E) (hn : B.length = n) (ha : Below wz.heap.size wz wa) (hown : w5.ownsRow w.heap.size 4 1 v' (n + 1) (B.map Value.bool ++ [.bool a])) (hgrow : wa.grownBy w5 bv.ownBlock) :
    w5.heap[s]? = some (.cells #[bv, ev] 31 (0, 0)) ∧ MkSt w (w5.setCell ⟨s, 0, none⟩ v') s v' ev (B ++ [a]) E := by
  have H := h.step ha
  have lt : ∀ {k c}, wa.heap[k]? = some c → k < wa.heap.size := fun h => (Array.getElem?_eq_some_iff.1 h).1
  have hO := OwnB.snocAt hn hown
  have hsb : w5.heap[s]? = some (.cells #[bv, ev] 31 (0, 0)) := by
    rw [hgrow.block s (lt H.sb) (fun e => own_kind H.rb H.sb mkT_b e.symm)]; exact H.sb
  have hw5 : Below w.heap.size w w5 := H.below.grown hgrow H.below.size (fun q hq => (World.ownsRow.lt H.rb q hq).1)
  have hre : OwnE w5 w.heap.size ev E := by
    refine ownsRow_block H.re (fun q hq => hgrow.block q (World.ownsRow.lt H.re q hq).2 (fun e => ?_))
    rcases H.re.2 with ⟨rfl, _⟩ | ⟨g, c1, c2, rfl, _, hgk, _⟩
    · cases hq
    · have : g = q := by simpa [Value.ownBlock] using hq
      subst this
      exact own_kind H.rb hgk (by decide) e.symm
  exact ⟨hsb, ⟨below_set hw5 h.sl _ _, by rw [heap_setCell_at hsb]; rfl, h.sl, ownsRow_setCell_other hO (own_kind hO hsb mkT_b) _, ownsRow_setCell_other hre (own_kind hre hsb mkT_e) _⟩⟩
theorem newsBd (w : World) (t : TypeId) (x : Bool) (b : Nat) (hb : w.heap.size = b) : ∀ j z, [Value.bool x][j]? = some z → (w.alloc (.cells #[.bool x] t)).drew.cell? ((⟨b, 0, none⟩ : Addr).add j) = some z := fun j z hz => newsB w t x b hb j z hz
theorem four_cells {w : World} {x : Nat} {v0 v1 v2 v3 : Value} {T : TypeId} (h1 : w.heap[x]? = some (.cells #[v0, v1, v2, v3] T (0, 0))) : w.cell? ⟨x, 0, none⟩ = some v0 ∧ w.cell? ⟨x, 1, none⟩ = some v1 ∧ w.cell? ⟨x, 2, none⟩ = some v2 ∧ w.cell? ⟨x, 3, none⟩ = some v3 ∧ w.frozen? ⟨x, 3, none⟩ = false ∧ x < w.heap.size := by
  refine ⟨?_, ?_, ?_, ?_, ?_, (Array.getElem?_eq_some_iff.1 h1).1⟩
  iterate 4 simp [World.cell?, h1]
  simp only [World.frozen?, h1]; simp
/-- An edge under way. -/
def EdSh (f t d : Int) (wr : World) (x : Nat) (bb : List UInt8) (wx : World) : Prop := isTurns bb = true ∧ wx.heap[x]? = some (.cells #[.int .i64 f, .int .i64 t, .int .i64 d, .string (bs bb)] 23 (0, 0)) ∧ Below wr.heap.size wr wx
theorem bs_snoc (l : List UInt8) (x : UInt8) : bs l ++ ⟨#[x]⟩ = bs (l ++ [x]) := by
  rw [← bs_list (bs l ++ ⟨#[x]⟩)]
  congr 1
theorem turns_more {l : List UInt8} {x : UInt8} (h : isTurns l = true) (hx : x = 76 ∨ x = 82) : isTurns (l ++ [x]) = true := by
  unfold isTurns at h ⊢
  rw [List.all_append, h]
  rcases hx with rfl | rfl <;> rfl
theorem EdSh.more {f t d : Int} {wo wr : World} {bb : List UInt8} (h : EdSh f t d wo wo.heap.size bb wr) (x : UInt8) (hx : x = 76 ∨ x = 82) : EdSh f t d wo wo.heap.size (bb ++ [x]) (wr.setCell ⟨wo.heap.size, 3, none⟩ (.string (bs bb ++ ⟨#[x]⟩))) :=
  ⟨turns_more h.1 hx, by rw [heap_setCell_at h.2.1, bs_snoc]; rfl, below_set h.2.2 (Nat.le_refl _) _ _⟩
def MkC (q : Nat) (f t d : Int) (wr : World) (x : Nat) (iv : Value) (wx : World) : Prop := ∃ (k : Nat) (bb : List UInt8), iv = .int .i64 k ∧ k ≤ q ∧ bb.length = k ∧ EdSh f t d wr x bb wx
theorem mk_ret {w wb wr w6 : World} {bv ev : Value} {B : List Bool} {E : List Edg} (hs : wb.heap.size = w.heap.size + 2) (hb : OwnB wr wb.heap.size bv B) (he : OwnE wr wb.heap.size ev E) (u v : Value)
    (h6 : ((wr.setCell ⟨w.heap.size + 1, 0, none⟩ u).setCell ⟨w.heap.size + 1, 1, none⟩ v) = w6) : BlsAt w6 bv B ∧ EdsAt w6 ev E := by
  subst h6
  have n1 : bv.ownBlock ≠ some (w.heap.size + 1) := fun e => by have := (World.ownsRow.lt hb _ e).1; omega
  have n2 : ev.ownBlock ≠ some (w.heap.size + 1) := fun e => by have := (World.ownsRow.lt he _ e).1; omega
  exact ⟨OwnB.bls (B := wb.heap.size) (ownsRow_setCell_other (ownsRow_setCell_other hb n1 _) n1 _), OwnE.eds (B := wb.heap.size) (ownsRow_setCell_other (ownsRow_setCell_other he n2 _) n2 _)⟩
end Go.Proofs.YtgedcalplfnjmaaDoor
