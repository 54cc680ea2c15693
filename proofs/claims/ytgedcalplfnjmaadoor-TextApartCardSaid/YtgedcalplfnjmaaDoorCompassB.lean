/-
  The compass functions' walks, the second part: letters, and the direction between two points; and the given answers (muntinref01). Conditions: none but what each theorem states.
-/
import Derived.Test.YtgedcalplfnjmaaDoorCompass
import Derived.Lib.Bytealg
namespace Go.Proofs.YtgedcalplfnjmaaDoor
open Go.RowKit


/-- A direction's letter. -/
def letterS (d : Int) : ByteArray := if d = 0 then ⟨#[69]⟩ else if d = 1 then ⟨#[78]⟩ else if d = 2 then ⟨#[87]⟩ else if d = 3 then ⟨#[83]⟩ else ⟨#[]⟩
theorem letterS_f {d : Int} (h : ¬ (0 ≤ d ∧ d < 4)) : letterS d = ⟨#[]⟩ := by
  unfold letterS; rw [if_neg (by omega), if_neg (by omega), if_neg (by omega), if_neg (by omega)]

theorem letter_any (d : Int) (w : World) : Calls Tryd.prog 27 #[.int .i64 d] w fun e w' => e = .returned (.string (letterS d)) ∧ w' = w := by
  by_cases h0 : 0 ≤ d ∧ d < 4
  · have hgd := goodB_t h0.1 h0.2
    have hk : d = 0 ∨ d = 1 ∨ d = 2 ∨ d = 3 := by omega
    clear h0
    rcases hk with rfl | rfl | rfl | rfl
    all_goals
      go_enter Tryd.func27, Tryd.ntmps27
      go_wp2_with (go_at_call 12; refine (good_any _ _).mono ?_; rintro e w' ⟨rfl, rfl⟩)
      go_ret
      exact ⟨rfl, rfl⟩
  · have hgd := goodB_f h0
    rw [letterS_f h0]
    clear h0
    go_enter Tryd.func27, Tryd.ntmps27
    go_wp2_with (go_at_call 12; refine (good_any _ _).mono ?_; rintro e w' ⟨rfl, rfl⟩)
    go_ret
    exact ⟨rfl, rfl⟩

/-- internal/bytealg.IndexByteString. -/
theorem index_ext (s : ByteArray) (c : Int) (w : World) : (callFunc 71 #[.string s, .int .u8 c]).run Tryd.prog w = .ok (.value (.int .i64 (Lib.indexByte s.data.toList c.toNat.toUInt8))) w := by
  rw [run_callFunc_extern Tryd.func71 (by kernel_rfl) (by kernel_rfl) (by kernel_rfl) (e := Extern.BytealgIndexByte.indexByte) (by kernel_rfl), Lib.run_indexByteString]
  rfl


/-- Whose letter a byte is; -1: no one's. -/
def ofC (c : UInt8) : Int := if c = 69 then 0 else if c = 78 then 1 else if c = 87 then 2 else if c = 83 then 3 else -1
theorem ofC_index (c : UInt8) : Lib.indexByte [69, 78, 87, 83] c = ofC c := by
  by_cases h0 : c = 69
  · subst h0; rfl
  by_cases h1 : c = 78
  · subst h1; rfl
  by_cases h2 : c = 87
  · subst h2; rfl
  by_cases h3 : c = 83
  · subst h3; rfl
  unfold ofC
  rw [if_neg h0, if_neg h1, if_neg h2, if_neg h3]
  simp [Lib.indexByte, Ne.symm h0, Ne.symm h1, Ne.symm h2, Ne.symm h3]
theorem ofC_range (c : UInt8) : -1 ≤ ofC c ∧ ofC c < 4 := by
  unfold ofC; repeat' split
  all_goals omega




/-- The direction from a to b; -1: there is none. -/
def btwI (ax ay bx b : Int) : Int := if ((ax == bx) == (ay == b)) = true then -1 else if ax < bx then 0 else if ay < b then 1 else if bx < ax then 2 else 3
def dirD (k : Int) : Int := if k = -1 then 0 else k
def dirB (k : Int) : Bool := if k = -1 then false else true




end Go.Proofs.YtgedcalplfnjmaaDoor
