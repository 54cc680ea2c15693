/-
  The reference's Make with at most 12 cells; a grid of what it makes. Conditions: none.
-/
import Derived.Test.YtkgknbjcllcndaaGdK
import Derived.Test.YtkgknbjcllcndaaGrQ
import Derived.Test.YtkgknbjcllcndaaGrZ
import Derived.Test.YtkgknbjcllcndaaGrS
namespace Go.Proofs.Ytkgknbjcllcndaa
open Go.RowKit Go.Proofs.Ytkgknbjcllcndaa.GrM

theorem crossed : CrossSpec := fun pv lv P L n i x w hP hL hp hi hx hn hr => refCrossed pv lv P L n i x w hP hL hp hi hx hn hr
theorem NumAt.below {kd : IntKind} {lo hi : Int} {w w' : World} {A : Option Addr} {n : Nat} {D : Nat → Int} (h : NumAt kd lo hi w A n D) (b : Below w.heap.size w w') : NumAt kd lo hi w' A n D := by
  refine ⟨fun h0 => ?_, h.r⟩
  obtain ⟨q, o, e, hq, hc⟩ := h.at_ h0
  exact ⟨q, o, e, Nat.lt_of_lt_of_le hq b.size, fun k hk => (b.cell (p := ⟨q, o + k, none⟩) hq).trans (hc k hk)⟩
/-- A plane's argument: three slices of numbers. -/
structure Plane (w : World) (A1 A2 A3 : Option Addr) (n1 n2 n3 : Nat) (D1 D2 D3 : Nat → Int) : Prop where
  h1 : NumAt .u8 0 255 w A1 n1 D1
  h2 : NumAt .u8 0 255 w A2 n2 D2
  h3 : NumAt .i8 (-128) 127 w A3 n3 D3
  b1 : n1 ≤ 9223372036854775807
  b2 : n2 ≤ 9223372036854775807
  b3 : n3 ≤ 9223372036854775807
theorem Plane.below {w w' : World} {A1 A2 A3 : Option Addr} {n1 n2 n3 : Nat} {D1 D2 D3 : Nat → Int} (h : Plane w A1 A2 A3 n1 n2 n3 D1 D2 D3) (b : Below w.heap.size w w') : Plane w' A1 A2 A3 n1 n2 n3 D1 D2 D3 :=
  ⟨h.h1.below b, h.h2.below b, h.h3.below b, h.b1, h.b2, h.b3⟩
def Mk12 (w : World) (e : Ending) (w' : World) : Prop :=
  ∃ (N : Nat) (L : List Int) (A : Option Addr) (c : Nat) (pv : Value), e = .returned (.tuple #[.slice A N c, pv]) ∧ OwnG w' w.heap.size (.slice A N c) L N ∧ GoodG L N ∧ N ≤ 12 ∧ Below w.heap.size w w'
theorem make12 {A1 A2 A3 : Option Addr} {n1 n2 n3 : Nat} (c1 c2 c3 : Nat) {D1 D2 D3 : Nat → Int} {w : World} (h : Plane w A1 A2 A3 n1 n2 n3 D1 D2 D3) :
    Calls Try.prog 21 #[.agg #[.slice A1 n1 c1, .slice A2 n2 c2, .slice A3 n3 c3], .int .i64 12] w (Mk12 w) := by
  have hm := refMakeG crossed A1 A2 A3 n1 n2 n3 c1 c2 c3 12 D1 D2 D3 w h.h1 h.h2 h.h3 h.b1 h.b2 h.b3 (by decide)
  refine hm.mono ?_
  rintro e w' ⟨⟨P, L, lv, pv, t, rfl, o1, o2, ap, mk, hP⟩, b⟩
  obtain ⟨ao, co, rfl⟩ := o1.form
  exact ⟨P.length, L, ao, co, pv, rfl, o1, mk.good, hP, b⟩
theorem own_at {w : World} {B n c : Nat} {A : Option Addr} {L : List Int} (h : OwnG w B (.slice A n c) L n) (h0 : 0 < n) : ∃ g, A = some ⟨g, 0, none⟩ := by
  obtain ⟨g, cap, hv, _⟩ := ownsRow_form h h0
  simp only [Value.slice.injEq, true_and] at hv
  exact ⟨g, hv.1⟩
theorem good_chk {L : List Int} {n : Nat} (h : GoodG L n) (hn : n ≤ 4096) : chkG L n = 0 := chk_good.2 ⟨hn, h⟩
end Go.Proofs.Ytkgknbjcllcndaa
