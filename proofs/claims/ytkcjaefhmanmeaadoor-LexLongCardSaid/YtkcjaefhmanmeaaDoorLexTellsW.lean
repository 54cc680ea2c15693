/-
  LexTells: the walk: at every text and every int the call answers true and turns nothing that was there. Conditions: the library's tables are laid.
-/
import Derived.Test.YtkcjaefhmanmeaaDoorLexK
namespace Go.Proofs.YtkcjaefhmanmeaaDoor
open Go.RowKit Go.Proofs.YtkcjaefhmanmeaaDoor.LexM

theorem equalS (L : List (List UInt8)) (v u : Value) (w : World) (hv : StrsAt w v L) (hu : StrsAt w u L) (hl : L.length ≤ 9223372036854775807) :
    Calls Tryd.prog 14 #[v, u] w fun e w' => e = .returned (.bool true) ∧ Below w.heap.size w w' := by
  obtain ⟨A, c, rfl, hc, hA⟩ := hv
  obtain ⟨A2, c2, rfl, hc2, hA2⟩ := hu
  by_cases h0 : 0 < L.length
  · obtain ⟨b, o, rfl, hb, hcell⟩ := hA h0
    obtain ⟨b2, o2, rfl, hb2, hcell2⟩ := hA2 h0
    refine (Go.Proofs.Tryd.slices_Equal_string b o L.length c b2 o2 L.length c2 (L.map bs) (L.map bs) w (by simp) (by simp) hl hl (fun j hj => ?_) (fun j hj => ?_)).mono ?_
    · rw [List.length_map] at hj
      rw [hcell j hj, getD_bs L j hj]
    · rw [List.length_map] at hj
      rw [hcell2 j hj, getD_bs L j hj]
    · rintro e w' ⟨rfl, q, rfl⟩
      exact ⟨ret_bool (by simp), below_drewN (Below.refl _ _) _⟩
  · obtain rfl : L = [] := List.eq_nil_of_length_eq_zero (by omega)
    refine (Go.Proofs.Tryd.slices_Equal_string_empty A A2 c 0 c2 w (by decide)).mono ?_
    rintro e w' ⟨rfl, rfl⟩
    exact ⟨rfl, Below.refl _ _⟩
theorem lnL_len (l : List UInt8) : (lnL l).length ≤ l.length := by
  unfold lnL
  split
  · exact ps_count 10 l
  · simp
theorem wdL_len (l : List UInt8) : (wdL l).length ≤ l.length + 1 := by
  unfold wdL
  split
  · rw [pieces_length]; have := List.count_le_length (a := (32 : UInt8)) (l := l); omega
  · simp

set_option maxHeartbeats 8000000 in
set_option maxRecDepth 100000 in
theorem tells_core (s : ByteArray) (most : Int) (w : World) (hT : TabL w) (t : ByteArray) (ht : t.size ≤ 1000) (hs : s.extract 0 (min (s.size : Int) 1000).toNat = t) :
    Calls Tryd.prog 3 #[.string s, .int .i64 most] w fun r w' => r = .returned (.bool true) ∧ Below w.heap.size w w' := by
  have HT := Lib.hid hT
  have hz := size_list t
  have L1 := Lib.hid (lnL_len t.data.toList)
  have L2 := Lib.hid (wdL_len t.data.toList)
  have hz2 : t.data.toList.length ≤ 1000 := by omega
  have Z2 := Lib.hid hz2
  clear hT hz hz2
  go_enter Tryd.func3, Tryd.ntmps3
  go_wp2_with (first
    | (go_at_call 14; have _hz := B8; refine (equalS _ v3 v4 _ (V3.out.below D3.out (Nat.le_refl _)) (V4.out.below D4.out (Nat.le_refl _)) (by have h1 := L2.out; have h2 := Z2.out; omega)).mono ?_; rintro e w9 ⟨rfl, b9⟩; have B9 := Lib.hid (B8.out.trans (b9.mono B8.out.size)); clear b9)
    | (go_at_call 14; have _hz := B7; refine (equalS _ v1 v2 _ (V1.out.below D1.out (Nat.le_refl _)) (V2.out.below D2.out (Nat.le_refl _)) (by have h1 := L1.out; have h2 := Z2.out; omega)).mono ?_; rintro e w8 ⟨rfl, b8⟩; have B8 := Lib.hid (B7.out.trans (b8.mono B7.out.size)); have D3 := Lib.hid (D3.out.trans (b8.mono D3.out.size)); have D4 := Lib.hid (D4.out.trans (b8.mono D4.out.size)); clear b8)
    | (go_at_call 13; refine (lexWakes _ (HT.out.below B6.out (Nat.le_refl _))).mono ?_; rintro e w7 ⟨rfl, b7⟩; have B7 := Lib.hid (B6.out.trans (b7.mono B6.out.size)); have D1 := Lib.hid (D1.out.trans (b7.mono D1.out.size)); have D2 := Lib.hid (D2.out.trans (b7.mono D2.out.size)); have D3 := Lib.hid (D3.out.trans (b7.mono D3.out.size)); have D4 := Lib.hid (D4.out.trans (b7.mono D4.out.size)); clear b7)
    | (go_at_call 12; refine (refNumber t most _).mono ?_; rintro e w6 ⟨rfl, b6⟩; have B6 := Lib.hid (B5.out.trans (b6.mono B5.out.size)); have D1 := Lib.hid (D1.out.trans (b6.mono D1.out.size)); have D2 := Lib.hid (D2.out.trans (b6.mono D2.out.size)); have D3 := Lib.hid (D3.out.trans (b6.mono D3.out.size)); have D4 := Lib.hid (D4.out.trans (b6.mono D4.out.size)); clear b6)
    | (go_at_call 11; refine (number t most _).mono ?_; rintro e w5 ⟨rfl, b5⟩; have B5 := Lib.hid (B4.out.trans (b5.mono B4.out.size)); have D1 := Lib.hid (D1.out.trans (b5.mono D1.out.size)); have D2 := Lib.hid (D2.out.trans (b5.mono D2.out.size)); have D3 := Lib.hid (D3.out.trans (b5.mono D3.out.size)); have D4 := Lib.hid (D4.out.trans (b5.mono D4.out.size)); clear b5)
    | (go_at_call 10; refine (refWords t _ (by omega)).mono ?_; rintro e w4 ⟨v4, rfl, hv4, b4⟩; have V4 := Lib.hid hv4; have B4 := Lib.hid (B3.out.trans (b4.mono B3.out.size)); have D1 := Lib.hid (D1.out.trans (b4.mono D1.out.size)); have D2 := Lib.hid (D2.out.trans (b4.mono D2.out.size)); have D3 := Lib.hid (D3.out.trans (b4.mono D3.out.size)); have D4 := Lib.hid (Below.refl w4.heap.size w4); clear hv4 b4)
    | (go_at_call 9; refine (words t _ (HT.out.below B2.out (Nat.le_refl _)) (by omega)).mono ?_; rintro e w3 ⟨v3, rfl, hv3, b3⟩; have V3 := Lib.hid hv3; have B3 := Lib.hid (B2.out.trans (b3.mono B2.out.size)); have D1 := Lib.hid (D1.out.trans (b3.mono D1.out.size)); have D2 := Lib.hid (D2.out.trans (b3.mono D2.out.size)); have D3 := Lib.hid (Below.refl w3.heap.size w3); clear hv3 b3)
    | (go_at_call 8; refine (refLines t _).mono ?_; rintro e w2 ⟨v2, rfl, hv2, b2⟩; have V2 := Lib.hid hv2; have B2 := Lib.hid (B1.out.trans (b2.mono B1.out.size)); have D1 := Lib.hid (D1.out.trans (b2.mono D1.out.size)); have D2 := Lib.hid (Below.refl w2.heap.size w2); clear hv2 b2)
    | (go_at_call 7; refine (lines t _ HT.out).mono ?_; rintro e w1 ⟨v1, rfl, hv1, b1⟩; have V1 := Lib.hid hv1; have B1 := Lib.hid b1; have D1 := Lib.hid (Below.refl w1.heap.size w1); clear hv1 b1))
  go_ret
  exact ⟨ret_bool (by simp), B9.out⟩

theorem cut_text (s : ByteArray) (n : Nat) : (s.extract 0 (min (s.size : Int) n).toNat).size ≤ n := by
  rw [ByteArray.size_extract]; omega
theorem tells (s : ByteArray) (most : Int) (w : World) (hT : TabL w) :
    Calls Tryd.prog 3 #[.string s, .int .i64 most] w fun r w' => r = .returned (.bool true) ∧ Below w.heap.size w w' :=
  tells_core s most w hT _ (cut_text s 1000) rfl
end Go.Proofs.YtkcjaefhmanmeaaDoor
