/-
  LexLong: the walk: at every text and both choices the call answers true and turns nothing that was there. Conditions: the library's tables are laid.
-/
import Derived.Test.YtkcjaefhmanmeaaDoorLexTellsW
import Derived.Lib.Repeat
namespace Go.Proofs.YtkcjaefhmanmeaaDoor
open Go.RowKit Go.Proofs.YtkcjaefhmanmeaaDoor.LexM

theorem repeat_one (c : UInt8) : ∀ n, Lib.repeatL [c] n = List.replicate n c
  | 0 => rfl
  | n + 1 => by rw [Lib.repeatL, repeat_one c n]; rfl
theorem repW (z : Int) (c : Nat) (hz : z = c) (hc : c ≤ 1048576) (w : World) :
    Calls Tryd.prog 19 #[.string ⟨#[10]⟩, .int .i64 z] w fun e w' => e = .returned (.string (bs (List.replicate c 10))) ∧ Below w.heap.size w w' := by
  subst hz
  have h := Go.Proofs.Tryd.strings_Repeat ⟨#[10]⟩ c w (by omega) (by show 1 * c ≤ _; omega)
  have e : Lib.repeatL (⟨#[10]⟩ : ByteArray).data.toList c = List.replicate c 10 := repeat_one 10 c
  rw [e] at h
  exact h
theorem countW (p : ByteArray) (w : World) :
    Calls Tryd.prog 20 #[.string p, .string ⟨#[10]⟩] w fun e w' => e = .returned (.int .i64 ((p.data.toList.count 10 : Nat) : Int)) ∧ w = w' := by
  refine (Go.Proofs.Tryd.strings_Count_one p 10 w).mono ?_
  rintro e w' ⟨rfl, rfl⟩
  exact ⟨rfl, rfl⟩
theorem append_list (a b : ByteArray) : (a ++ b).data.toList = a.data.toList ++ b.data.toList := by simp
theorem size_append (a b : ByteArray) : (a ++ b).size = a.size + b.size := by
  rw [size_list, append_list, List.length_append, ← size_list, ← size_list]

set_option maxHeartbeats 8000000 in
set_option maxRecDepth 100000 in
theorem long_core (s : ByteArray) (more : Bool) (w : World) (hT : TabL w) (p : ByteArray) (hp : p.size ≤ 100) (hs : s.extract 0 (min (s.size : Int) 100).toNat = p)
    (R : ByteArray) (hR : R.size + p.size + 1 = 1048576) (z : Int) (hz : (1048576 : Int) - p.size - 1 = z) (N cnt : Nat) (hN : (N : Int) = 1048576 - p.size + cnt) (hc : cnt ≤ 100)
    (RE : Hid (∀ w, Calls Tryd.prog 19 #[.string ⟨#[10]⟩, .int .i64 z] w fun e w' => e = .returned (.string R) ∧ Below w.heap.size w w'))
    (CO : Hid (∀ w, Calls Tryd.prog 20 #[.string p, .string ⟨#[10]⟩] w fun e w' => e = .returned (.int .i64 cnt) ∧ w = w'))
    (LN : Hid (∀ w, TabL w → Calls Tryd.prog 7 #[.string (R ++ p ++ ⟨#[10]⟩)] w fun e w' => (∃ A c, e = .returned (.tuple #[.slice A N c, .int .i64 0])) ∧ Below w.heap.size w w'))
    (LM : Hid (∀ w, TabL w → Calls Tryd.prog 7 #[.string (R ++ p ++ ⟨#[10]⟩ ++ ⟨#[10]⟩)] w fun e w' => (∃ A c, e = .returned (.tuple #[.slice A 0 c, .int .i64 16])) ∧ Below w.heap.size w w')) :
    Calls Tryd.prog 5 #[.string s, .bool more] w fun r w' => r = .returned (.bool true) ∧ Below w.heap.size w w' := by
  have HT := Lib.hid hT
  have hw1 : wrap64 (1048576 - (p.size : Int)) = 1048576 - p.size := by unfold wrap64; omega
  have hw2 : wrap64 (1048576 - (p.size : Int) + cnt) = 1048576 - p.size + cnt := by unfold wrap64; omega
  have s1 := size_append R p
  have s2 := size_append (R ++ p) ⟨#[10]⟩
  have s3 : (⟨#[10]⟩ : ByteArray).size = 1 := rfl
  have b1 : R.size ≤ 2000000 := by omega
  have b2 : (R ++ p).size ≤ 2000000 := by omega
  have b3 : (R ++ p ++ ⟨#[10]⟩).size ≤ 2000000 := by omega
  clear hT s1 s2 s3 hR
  cases more with
  | true =>
    go_enter Tryd.func5, Tryd.ntmps5
    go_wp2_with (first
      | (go_at_call 13; have _hz := B2; refine (lexWakes _ (HT.out.below B2.out (Nat.le_refl _))).mono ?_; rintro e w3 ⟨rfl, b3⟩; have B3 := Lib.hid (B2.out.trans (b3.mono B2.out.size)); clear b3)
      | (go_at_call 7; have _hz := B1; refine (LM.out _ (HT.out.below B1.out (Nat.le_refl _))).mono ?_; rintro e w2 ⟨⟨A, c, rfl⟩, b2⟩; have B2 := Lib.hid (B1.out.trans (b2.mono B1.out.size)); clear b2)
      | (go_at_call 19; refine (RE.out _).mono ?_; rintro e w1 ⟨rfl, b1⟩; have B1 := Lib.hid b1; clear b1))
    go_ret
    exact ⟨rfl, B3.out⟩
  | false =>
    go_enter Tryd.func5, Tryd.ntmps5
    go_wp2_with (first
      | (go_at_call 20; refine (CO.out _).mono ?_; rintro e w4 ⟨rfl, rfl⟩)
      | (go_at_call 13; have _hz := B2; refine (lexWakes _ (HT.out.below B2.out (Nat.le_refl _))).mono ?_; rintro e w3 ⟨rfl, b3⟩; have B3 := Lib.hid (B2.out.trans (b3.mono B2.out.size)); clear b3)
      | (go_at_call 7; have _hz := B1; refine (LN.out _ (HT.out.below B1.out (Nat.le_refl _))).mono ?_; rintro e w2 ⟨⟨A, c, rfl⟩, b2⟩; have B2 := Lib.hid (B1.out.trans (b2.mono B1.out.size)); clear b2)
      | (go_at_call 19; refine (RE.out _).mono ?_; rintro e w1 ⟨rfl, b1⟩; have B1 := Lib.hid b1; clear b1))
    go_ret
    exact ⟨ret_bool (by simp <;> omega), B3.out⟩
theorem long (s : ByteArray) (more : Bool) (w : World) (hT : TabL w) :
    Calls Tryd.prog 5 #[.string s, .bool more] w fun r w' => r = .returned (.bool true) ∧ Below w.heap.size w w' := by
  obtain ⟨p, hs⟩ : ∃ p, s.extract 0 (min (s.size : Int) 100).toNat = p := ⟨_, rfl⟩
  have hp : p.size ≤ 100 := by rw [← hs]; exact cut_text s 100
  obtain ⟨c, hc⟩ : ∃ c : Nat, c = 1048575 - p.size := ⟨_, rfl⟩
  have hz := size_list p
  have hcnt := List.count_le_length (a := (10 : UInt8)) (l := p.data.toList)
  have hR : (bs (List.replicate c (10 : UInt8))).size = c := by rw [bs_size, List.length_replicate]
  have e1 : (bs (List.replicate c (10 : UInt8)) ++ p ++ ⟨#[10]⟩ : ByteArray).data.toList = (List.replicate c 10 ++ p.data.toList) ++ [10] := by
    rw [append_list, append_list]; rfl
  have hlen : ¬ 1048576 < ((List.replicate c (10 : UInt8) ++ p.data.toList) ++ [10]).length := by
    rw [List.length_append, List.length_append, List.length_replicate, List.length_singleton]; omega
  have hl := lnE_sep hlen
  have hcount : (pieces 10 (List.replicate c (10 : UInt8) ++ p.data.toList)).length = c + p.data.toList.count 10 + 1 := by
    rw [pieces_length, List.count_append, List.count_replicate_self]
  have e2 : lnE (bs (List.replicate c (10 : UInt8)) ++ p ++ ⟨#[10]⟩ ++ ⟨#[10]⟩ : ByteArray).data.toList = 16 := by
    refine lnE_long ?_
    rw [append_list, e1, List.length_append, List.length_append, List.length_append, List.length_replicate, List.length_singleton]
    show _ < _ + 1 + 1
    omega
  refine long_core s more w hT p hp hs (bs (List.replicate c 10)) (by rw [hR]; omega) _ rfl (c + p.data.toList.count 10 + 1) (p.data.toList.count 10) (by omega) (by omega)
    (Lib.hid fun w => repW _ c (by omega) (by omega) w) (Lib.hid fun w => countW p w)
    (Lib.hid (linesAt _ _ 0 (by rw [e1]; exact hl.1) (by rw [e1, hl.2]; exact hcount)))
    (Lib.hid (linesAt _ 0 16 e2 (by rw [lnL_none (by rw [e2]; decide)]; rfl)))
end Go.Proofs.YtkcjaefhmanmeaaDoor
