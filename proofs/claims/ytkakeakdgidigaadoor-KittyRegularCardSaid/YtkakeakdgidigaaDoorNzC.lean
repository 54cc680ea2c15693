/-
  The compass functions' walks: what each of them answers at any ints, over a world that holds the two tables. Conditions: none but what each theorem states.
  The compass functions' walks, the second part: letters, and the direction between two points; and the given answers (muntinref01). Conditions: none but what each theorem states.
  The compass functions' walks, the third part: the given answers, and the signs of life. Conditions: none but what each theorem states.
-/
import Derived.Test.YtkakeakdgidigaaDoorBase
import Derived.Lib.Bytealg
namespace Go.Proofs.YtkakeakdgidigaaDoor
open Go.RowKit

/-- A direction? -/
def goodB (d : Int) : Bool := decide (0 ≤ d ∧ d < 4)
theorem goodB_t {d : Int} (h0 : 0 ≤ d) (h1 : d < 4) : goodB d = true := decide_eq_true ⟨h0, h1⟩
theorem goodB_f {d : Int} (h : ¬ (0 ≤ d ∧ d < 4)) : goodB d = false := decide_eq_false h

theorem good_any (d : Int) (w : World) : Calls Tryd.prog 60 #[.int .i64 d] w fun e w' => e = .returned (.bool (goodB d)) ∧ w' = w := by
  by_cases h0 : 0 ≤ d
  · by_cases h1 : d < 4
    · rw [goodB_t h0 h1]
      go_enter Tryd.func60, Tryd.ntmps60
      go_wp2
      go_ret
      exact ⟨rfl, rfl⟩
    · rw [goodB_f (by omega)]
      go_enter Tryd.func60, Tryd.ntmps60
      go_wp2
      go_ret
      exact ⟨rfl, rfl⟩
  · rw [goodB_f (by omega)]
    go_enter Tryd.func60, Tryd.ntmps60
    go_wp2
    go_ret
    exact ⟨rfl, rfl⟩

theorem wrap_any (n k : Int) (w : World) (h0 : -4 ≤ n) (h1 : n ≤ 8) (hk : n % 4 = k) : Calls Tryd.prog 61 #[.int .i64 n] w fun e w' => e = .returned (.int .i64 k) ∧ w' = w := by
  have e : (n + 4) % 4 = k := by omega
  have H := Lib.hid e; clear e hk
  go_enter Tryd.func61, Tryd.ntmps61
  go_wp2
  go_ret
  exact ⟨ret_int H.out, rfl⟩

/-- d turned so often. -/
def leftI (d t : Int) : Int := if 0 ≤ d ∧ d < 4 then (d + t) % 4 else 0
theorem leftI_t {d t : Int} (h0 : 0 ≤ d) (h1 : d < 4) : leftI d t = (d + t) % 4 := if_pos ⟨h0, h1⟩
theorem leftI_f {d t : Int} (h : ¬ (0 ≤ d ∧ d < 4)) : leftI d t = 0 := if_neg h

theorem tmod4 (d t : Int) : -3 ≤ t.tmod 4 ∧ t.tmod 4 ≤ 3 ∧ (d + t.tmod 4) % 4 = (d + t) % 4 := by
  rcases Int.le_total 0 t with h | h
  · rw [Int.tmod_eq_emod_of_nonneg h]; omega
  · have e : t = - (-t) := by omega
    have k : t.tmod 4 = - ((-t) % 4) := by
      rw [e, Int.neg_tmod, Int.tmod_eq_emod_of_nonneg (by omega)]; simp
    rw [k]; omega

theorem left_any (d t : Int) (w : World) : Calls Tryd.prog 51 #[.int .i64 d, .int .i64 t] w fun e w' => e = .returned (.int .i64 (leftI d t)) ∧ w' = w := by
  by_cases h : 0 ≤ d ∧ d < 4
  · rw [leftI_t h.1 h.2]
    obtain ⟨h0, h1⟩ := h
    obtain ⟨t0, t1, t2⟩ := tmod4 d t
    have hg := goodB_t h0 h1
    have T := Lib.hid t2; clear t2
    go_enter Tryd.func51, Tryd.ntmps51
    go_wp2_with (first
      | (go_at_call 60; refine (good_any _ _).mono ?_; rintro e w' ⟨rfl, rfl⟩)
      | (go_at_call 61; go_must (refine (wrap_any _ _ _ (by omega) (by omega) T.out).mono ?_); rintro e w' ⟨rfl, rfl⟩))
    go_ret
    exact ⟨rfl, rfl⟩
  · rw [leftI_f h]
    have hg := goodB_f h
    clear h
    go_enter Tryd.func51, Tryd.ntmps51
    go_wp2_with (go_at_call 60; refine (good_any _ _).mono ?_; rintro e w' ⟨rfl, rfl⟩)
    go_ret
    exact ⟨rfl, rfl⟩




/-- How one turns. -/
def turnT (k : Int) : Int := if k = 0 then 0 else if k = 1 then 1 else if k = 2 then -2 else -1
def turnI (d e : Int) : Int := if (0 ≤ d ∧ d < 4) ∧ (0 ≤ e ∧ e < 4) then turnT ((e - d) % 4) else 0
theorem turnI_k {d e : Int} (k : Int) (h0 : 0 ≤ d ∧ d < 4) (h1 : 0 ≤ e ∧ e < 4) (hk : (e - d) % 4 = k) : turnI d e = turnT k := by rw [← hk]; exact if_pos ⟨h0, h1⟩
theorem turnI_f {d e : Int} (h : ¬ ((0 ≤ d ∧ d < 4) ∧ (0 ≤ e ∧ e < 4))) : turnI d e = 0 := if_neg h


/-- A step. -/
def stepX (d : Int) : Int := if d = 0 then 1 else if d = 2 then -1 else 0
def stepY (d : Int) : Int := if d = 1 then 1 else if d = 3 then -1 else 0


end Go.Proofs.YtkakeakdgidigaaDoor

namespace Go.Proofs.YtkakeakdgidigaaDoor
open Go.RowKit


/-- A direction's letter. -/
def letterS (d : Int) : ByteArray := if d = 0 then ⟨#[69]⟩ else if d = 1 then ⟨#[78]⟩ else if d = 2 then ⟨#[87]⟩ else if d = 3 then ⟨#[83]⟩ else ⟨#[]⟩
theorem letterS_f {d : Int} (h : ¬ (0 ≤ d ∧ d < 4)) : letterS d = ⟨#[]⟩ := by
  unfold letterS; rw [if_neg (by omega), if_neg (by omega), if_neg (by omega), if_neg (by omega)]




/-- Whose letter a byte is; -1: no one's. -/
def ofC (c : UInt8) : Int := if c = 69 then 0 else if c = 78 then 1 else if c = 87 then 2 else if c = 83 then 3 else -1
theorem ofC_index (c : UInt8) : Lib.indexByte [69, 78, 87, 83] c = ofC c := by
  by_cases h0 : c = 69
  · subst h0; rfl
  by_cases h1 : c = 78
  · subst h1; rfl
  by_cases h2 : c = 87
  · subst h2; rfl
  by_cases h3 : c = 83
  · subst h3; rfl
  unfold ofC
  rw [if_neg h0, if_neg h1, if_neg h2, if_neg h3]
  simp [Lib.indexByte, Ne.symm h0, Ne.symm h1, Ne.symm h2, Ne.symm h3]
theorem ofC_range (c : UInt8) : -1 ≤ ofC c ∧ ofC c < 4 := by
  unfold ofC; repeat' split
  all_goals omega




/-- The direction from a to b; -1: there is none. -/
def btwI (ax ay bx b : Int) : Int := if ((ax == bx) == (ay == b)) = true then -1 else if ax < bx then 0 else if ay < b then 1 else if bx < ax then 2 else 3
def dirD (k : Int) : Int := if k = -1 then 0 else k
def dirB (k : Int) : Bool := if k = -1 then false else true


theorem rgood_any (d : Int) (w : World) : Calls Tryd.prog 42 #[.int .i64 d] w fun e w' => e = .returned (.bool (goodB d)) ∧ w' = w := by
  by_cases h0 : 0 ≤ d
  · by_cases h1 : d ≤ 3
    · rw [goodB_t h0 (by omega)]
      go_enter Tryd.func42, Tryd.ntmps42
      go_wp2
      go_ret
      exact ⟨rfl, rfl⟩
    · rw [goodB_f (by omega)]
      go_enter Tryd.func42, Tryd.ntmps42
      go_wp2
      go_ret
      exact ⟨rfl, rfl⟩
  · rw [goodB_f (by omega)]
    go_enter Tryd.func42, Tryd.ntmps42
    go_wp2
    go_ret
    exact ⟨rfl, rfl⟩

theorem rleft_any (d t : Int) (w : World) : Calls Tryd.prog 43 #[.int .i64 d, .int .i64 t] w fun e w' => e = .returned (.int .i64 (leftI d t)) ∧ w' = w := by
  by_cases h : 0 ≤ d ∧ d < 4
  · rw [leftI_t h.1 h.2]
    obtain ⟨h0, h1⟩ := h
    obtain ⟨t0, t1, t2⟩ := tmod4 d t
    have hg := goodB_t h0 h1
    by_cases hn : t.tmod 4 < 0
    · have T : Hid ((d + (t.tmod 4 + 4)) % 4 = (d + t) % 4) := Lib.hid (by omega)
      clear t2
      go_enter Tryd.func43, Tryd.ntmps43
      go_wp2_with (go_at_call 42; refine (rgood_any _ _).mono ?_; rintro e w' ⟨rfl, rfl⟩)
      go_ret
      exact ⟨ret_int T.out, rfl⟩
    · have T := Lib.hid t2; clear t2
      go_enter Tryd.func43, Tryd.ntmps43
      go_wp2_with (go_at_call 42; refine (rgood_any _ _).mono ?_; rintro e w' ⟨rfl, rfl⟩)
      go_ret
      exact ⟨ret_int T.out, rfl⟩
  · rw [leftI_f h]
    have hg := goodB_f h
    clear h
    go_enter Tryd.func43, Tryd.ntmps43
    go_wp2_with (go_at_call 42; refine (rgood_any _ _).mono ?_; rintro e w' ⟨rfl, rfl⟩)
    go_ret
    exact ⟨rfl, rfl⟩

end Go.Proofs.YtkakeakdgidigaaDoor

namespace Go.Proofs.YtkakeakdgidigaaDoor
open Go.RowKit

theorem rturn_any (d e : Int) (w : World) : Calls Tryd.prog 26 #[.int .i64 d, .int .i64 e] w fun r w' => r = .returned (.int .i64 (turnI d e)) ∧ w' = w := by
  by_cases h0 : 0 ≤ d ∧ d < 4
  · have hgd := goodB_t h0.1 h0.2
    by_cases h1 : 0 ≤ e ∧ e < 4
    · have hge := goodB_t h1.1 h1.2
      have hk : (e - d) % 4 = 0 ∨ (e - d) % 4 = 1 ∨ (e - d) % 4 = 2 ∨ (e - d) % 4 = 3 := by omega
      by_cases hde : (d == e) = true
      · have : d = e := by simpa using hde
        rw [turnI_k 0 h0 h1 (by omega)]
        clear h0 h1 hk this
        go_enter Tryd.func26, Tryd.ntmps26
        go_wp2_with (go_at_call 42; refine (rgood_any _ _).mono ?_; rintro e w' ⟨rfl, rfl⟩)
        go_ret
        exact ⟨rfl, rfl⟩
      · have hne : (d == e) = false := by simpa using hde
        have hn : d ≠ e := by simpa using hne
        clear hde
        have k1 : ((leftI d 1) == e) = decide ((e - d) % 4 = 1) := by
          rw [leftI_t h0.1 h0.2, Bool.eq_iff_iff]; simp; omega
        have k3 : ((leftI d 3) == e) = decide ((e - d) % 4 = 3) := by
          rw [leftI_t h0.1 h0.2, Bool.eq_iff_iff]; simp; omega
        rcases hk with hk | hk | hk | hk
        · exact absurd hk (by omega)
        all_goals
          rw [turnI_k _ h0 h1 hk]
          simp only [hk] at k1 k3
          clear h0 h1 hn hk
          simp at k1 k3
          go_enter Tryd.func26, Tryd.ntmps26
          go_wp2_with (first
            | (go_at_call 42; refine (rgood_any _ _).mono ?_; rintro e w' ⟨rfl, rfl⟩)
            | (go_at_call 43; refine (rleft_any _ _ _).mono ?_; rintro e w' ⟨rfl, rfl⟩))
          go_ret
          exact ⟨rfl, rfl⟩
    · rw [turnI_f (fun h => h1 h.2)]
      have hge := goodB_f h1
      clear h1 h0
      go_enter Tryd.func26, Tryd.ntmps26
      go_wp2_with (go_at_call 42; refine (rgood_any _ _).mono ?_; rintro e w' ⟨rfl, rfl⟩)
      go_ret
      exact ⟨rfl, rfl⟩
  · rw [turnI_f (fun h => h0 h.1)]
    have hgd := goodB_f h0
    clear h0
    go_enter Tryd.func26, Tryd.ntmps26
    go_wp2_with (go_at_call 42; refine (rgood_any _ _).mono ?_; rintro e w' ⟨rfl, rfl⟩)
    go_ret
    exact ⟨rfl, rfl⟩





theorem rleft_k (d t k : Int) (w : World) (hk : leftI d t = k) : Calls Tryd.prog 43 #[.int .i64 d, .int .i64 t] w fun e w' => e = .returned (.int .i64 k) ∧ w' = w := by
  subst hk; exact rleft_any d t w



end Go.Proofs.YtkakeakdgidigaaDoor
