/-
  What the program's Lines, Words, Number and Digits answer. Conditions: texts of less than 2^31 bytes where they are split.
-/
import Derived.Test.YtgedcalplfnjmaaDoorLexA
import Derived.Lib.SmallJoins
namespace Go.Proofs.YtgedcalplfnjmaaDoor
open Go.RowKit Go.Proofs.YtgedcalplfnjmaaDoor.LexM

theorem toList_data (s : ByteArray) : s.toList = s.data.toList := Lib.toList_data s
theorem suffix_iff (l : List UInt8) (c : UInt8) : Lib.hasSuffix l [c] = true ↔ ∃ t, l = t ++ [c] := by
  unfold Lib.hasSuffix
  rw [List.isSuffixOf_iff_suffix]
  exact ⟨fun ⟨t, h⟩ => ⟨t, h.symm⟩, fun ⟨t, h⟩ => ⟨t, h.symm⟩⟩
theorem trim_hit (t : List UInt8) (c : UInt8) : Lib.trimSuffix (t ++ [c]) [c] = t := by
  unfold Lib.trimSuffix
  rw [if_pos ((suffix_iff _ _).2 ⟨t, rfl⟩)]
  simp



/-- What Lines leaves. -/
def LinesP (l : List UInt8) (w : World) (e : Ending) (w' : World) : Prop := ∃ v, e = .returned (.tuple #[v, .int .i64 (lnE l)]) ∧ StrsAt w' v (lnL l) ∧ Below w.heap.size w w'

theorem bs_inj {a b : List UInt8} (h : bs a = bs b) : a = b := by
  have := congrArg (fun s : ByteArray => s.data.toList) h
  exact this

/-- What Words leaves. -/
def WordsP (l : List UInt8) (w : World) (e : Ending) (w' : World) : Prop := ∃ v, e = .returned (.tuple #[v, .bool (wdOk l)]) ∧ StrsAt w' v (wdL l) ∧ Below w.heap.size w w'






theorem digits (n : Int) (w : World) (hT : TabL w) (h0 : -9223372036854775808 ≤ n) (h1 : n ≤ 9223372036854775807) :
    Calls Tryd.prog 26 #[.int .i64 n] w fun e w' => e = .returned (.string (bs (Lib.itoa n))) ∧ Below w.heap.size w w' := by
  have C := itoaW n h0 h1 w hT
  clear hT
  go_enter Tryd.func26, Tryd.ntmps26
  go_wp2_with (go_at_call 33; refine C.mono ?_; rintro e w1 ⟨rfl, b1⟩; have B1 := Lib.hid b1; clear b1)
  go_ret
  exact ⟨rfl, B1.out⟩
end Go.Proofs.YtgedcalplfnjmaaDoor
