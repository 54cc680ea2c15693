/-
  kitty's pair: the first pair, found by the tables. Conditions: at most four hundred thousand numbers, each small.
-/
import Derived.Test.YtkakeakdgidigaaKtF
namespace Go.Proofs.Ytkakeakdgidigaa
open Go.RowKit Go.Maps Go.Proofs.Ytkakeakdgidigaa.KtM

def PrP (L : List Int) (tot : Int) (w : World) (e : Ending) (w' : World) : Prop :=
  ((∃ a b : Nat, FstZ L tot a b ∧ e = .returned (.tuple #[.int .i64 (a : Int), .int .i64 (b : Int), .bool true])) ∨ (NoZ L tot L.length ∧ e = .returned (.tuple #[.int .i64 0, .int .i64 0, .bool false]))) ∧ Below w.heap.size w w'
def PrR (L : List Int) (tot : Int) (m : Nat) (iv : Value) : Prop := ∃ k : Nat, iv = .int .i64 k ∧ k ≤ m ∧ NoZ L tot k
theorem optV_some (i : Nat) : optV (some i) = .tuple #[.int .i64 (i : Int), .bool true] := rfl
theorem optV_none : optV none = .tuple #[.int .i64 0, .bool false] := rfl
set_option maxHeartbeats 16000000 in
set_option maxRecDepth 100000 in
theorem pair15 (v : Value) (L : List Int) (m : Nat) (tot : Int) (w : World) (hZ : ZcAt w v L m) (hm : m ≤ 400000) (hs : SmallZ L) (ht1 : -1000000 ≤ tot) (ht2 : tot ≤ 1000000) :
    Calls Try.prog 22 #[v, .int .i64 tot] w (PrP L tot w) := by
  have HL := Lib.hid hZ.1.1
  obtain ⟨A, c, e, hc⟩ := hZ.2
  subst e
  have EN := Lib.hid (ends15 _ L m w hZ.1 hm hs)
  have HR := Lib.hid hZ.1.rows
  have HZ := Lib.hid hZ
  have HS := Lib.hid hs
  clear hZ hs
  go_enter Try.func22, Try.ntmps22
  go_wp2_with (go_at_call 26; refine EN.out.mono ?_; rintro e w1 ⟨rfl, en, b1⟩; have E1 := Lib.hid en; have B1 := Lib.hid b1; clear en b1)
  clear EN
  obtain ⟨nn, f, g, h1, h2, F, G⟩ := E1.out
  have H1 := Lib.hid h1
  have H2 := Lib.hid h2
  have HF := Lib.hid F
  have HG := Lib.hid G
  clear h1 h2 F G E1
  go_loop [22] (fun iv => PrR L tot m iv) (fun iv => m - (intOf iv).toNat)
  case atStart => exact ⟨0, rfl, Nat.zero_le _, fun j hj => absurd hj (by omega)⟩
  case round =>
    obtain ⟨k, rfl, hk, hN⟩ := hrel
    have NO := Lib.hid hN
    clear hN
    by_cases hlt : k < m
    · have q0 : decide (k < m) = true := decide_eq_true hlt
      rcases HR.out with h | ⟨b, o, rfl, hx⟩
      · exact absurd hlt (by omega)
      · obtain ⟨hb, hx⟩ := hx w1 B1.out
        have f0 := hx k hlt
        have hkL : k < L.length := by rw [HL.out]; exact hlt
        have FB := Lib.hid (HF.out.behind (tot := tot) hkL)
        have FF := Lib.hid (fun b => HF.out.found (tot := tot) (b := b) hkL NO.out)
        have FA := Lib.hid (fun be j => fst_ahead (L := L) (tot := tot) (a := k) (j := j) NO.out be)
        have GO := Lib.hid (fun be => HG.out.on (tot := tot) (a := k) NO.out be)
        have GS := Lib.hid (fun b => HG.out.some (L.getD k 0 + 2) b)
        have IX := Lib.hid (fun j w2 (o2 : Below w1.heap.size w1 w2) hj => index15 b (o + k) (m - k) (c - k) (L.drop k) (L.getD k 0 + 2) j w2 (((HZ.out.below B1.out (Nat.le_refl _)).drop hlt).1.below o2 (Nat.le_refl _)) (by omega) hj)
        have hsm := HS.out k
        obtain ⟨x, hx2⟩ : ∃ x, L.getD k 0 = x := ⟨_, rfl⟩
        have HX := Lib.hid hx2
        rw [hx2] at f0 hsm FB FF FA GO GS IX
        obtain ⟨x1, x2⟩ := hsm
        have lk := H1.out.look (v := x + 2 - tot) (by unfold Fit64; omega)
        have lg := H2.out.look (v := x + 2) (by unfold Fit64; omega)
        clear hx hx2 hkL
        cases ef : f (x + 2 - tot) with
        | none =>
          rw [ef, optV_none] at lk
          have BE := Lib.hid (FB.out (fun b hb => by rw [ef] at hb; cases hb))
          clear ef
          cases eg : g (x + 2) with
          | none =>
            rw [eg, optV_none] at lg
            have NN := Lib.hid (GO.out BE.out (fun b hb => by rw [eg] at hb; cases hb))
            clear eg GO FB FF FA GS IX
            go_wp2_with fail
            go_round
            case rel => exact ⟨k + 1, by go_num, by omega, NN.out⟩
            case measure => (simp [intOf] <;> omega)
          | some b2 =>
            rw [eg, optV_some] at lg
            by_cases c2 : k < b2
            · have q2 : decide (k < b2) = true := decide_eq_true c2
              obtain ⟨g1, g2, g3⟩ := GS.out b2 eg
              obtain ⟨j, hj, hj2, hj3⟩ := least15 (n := m - k) (p := fun j => (L.drop k).getD j 0 = x + 2) ⟨b2 - k, by rw [HL.out] at g1; omega, by rw [List.getD_eq_getElem?_getD, List.getElem?_drop, ← List.getD_eq_getElem?_getD, show k + (b2 - k) = b2 by omega]; exact g2⟩
              have dr : ∀ r, (L.drop k).getD r 0 = L.getD (k + r) 0 := fun r => by rw [List.getD_eq_getElem?_getD, List.getElem?_drop, ← List.getD_eq_getElem?_getD]
              have FO : Hid (FstZ L tot k (k + j)) := Lib.hid (FA.out BE.out j (by rw [HL.out]; omega) (by rw [← dr]; exact hj2) (fun r hr => by rw [← dr]; exact hj3 r hr))
              have IY := Lib.hid (fun w2 (o2 : Below w1.heap.size w1 w2) => IX.out j w2 o2 hj hj2 (fun r hr => hj3 r hr))
              have hkc : k ≤ c := by omega
              have hmc : m ≤ c := by omega
              obtain ⟨kj, hkj⟩ : ∃ n : Nat, (k : Int) + (j : Int) = (n : Int) := ⟨k + j, by omega⟩
              have KJ : Hid (k + j = kj) := Lib.hid (by omega)
              clear eg GO FB FF FA GS IX g1 g2 g3 hj2 hj3 dr
              go_wp2_with (go_at_call 27; refine (IY.out _ (Below.refl _ _)).mono ?_; rintro e w3 ⟨rfl, rfl⟩)
              go_ret3
              exact ⟨Or.inl ⟨k, kj, by rw [← KJ.out]; exact FO.out, rfl⟩, B1.out⟩
            · have q2 : decide (k < b2) = false := decide_eq_false c2
              have NN := Lib.hid (GO.out BE.out (fun b hb => by rw [eg] at hb; cases hb; exact c2))
              clear eg GO FB FF FA GS IX c2
              go_wp2_with fail
              go_round
              case rel => exact ⟨k + 1, by go_num, by omega, NN.out⟩
              case measure => (simp [intOf] <;> omega)
        | some b1 =>
          rw [ef, optV_some] at lk
          by_cases c1 : b1 < k
          · have q1 : decide (b1 < k) = true := decide_eq_true c1
            have FO := Lib.hid (FF.out b1 ef c1)
            clear ef lg GO FB FF FA GS IX c1
            go_wp2_with fail
            go_ret3
            exact ⟨Or.inl ⟨k, b1, FO.out, rfl⟩, B1.out⟩
          · have q1 : decide (b1 < k) = false := decide_eq_false c1
            have BE := Lib.hid (FB.out (fun b hb => by rw [ef] at hb; cases hb; exact c1))
            clear ef c1
            cases eg : g (x + 2) with
            | none =>
              rw [eg, optV_none] at lg
              have NN := Lib.hid (GO.out BE.out (fun b hb => by rw [eg] at hb; cases hb))
              clear eg GO FB FF FA GS IX
              go_wp2_with fail
              go_round
              case rel => exact ⟨k + 1, by go_num, by omega, NN.out⟩
              case measure => (simp [intOf] <;> omega)
            | some b2 =>
              rw [eg, optV_some] at lg
              by_cases c2 : k < b2
              · have q2 : decide (k < b2) = true := decide_eq_true c2
                obtain ⟨g1, g2, g3⟩ := GS.out b2 eg
                obtain ⟨j, hj, hj2, hj3⟩ := least15 (n := m - k) (p := fun j => (L.drop k).getD j 0 = x + 2) ⟨b2 - k, by rw [HL.out] at g1; omega, by rw [List.getD_eq_getElem?_getD, List.getElem?_drop, ← List.getD_eq_getElem?_getD, show k + (b2 - k) = b2 by omega]; exact g2⟩
                have dr : ∀ r, (L.drop k).getD r 0 = L.getD (k + r) 0 := fun r => by rw [List.getD_eq_getElem?_getD, List.getElem?_drop, ← List.getD_eq_getElem?_getD]
                have FO : Hid (FstZ L tot k (k + j)) := Lib.hid (FA.out BE.out j (by rw [HL.out]; omega) (by rw [← dr]; exact hj2) (fun r hr => by rw [← dr]; exact hj3 r hr))
                have IY := Lib.hid (fun w2 (o2 : Below w1.heap.size w1 w2) => IX.out j w2 o2 hj hj2 (fun r hr => hj3 r hr))
                have hkc : k ≤ c := by omega
                have hmc : m ≤ c := by omega
                obtain ⟨kj, hkj⟩ : ∃ n : Nat, (k : Int) + (j : Int) = (n : Int) := ⟨k + j, by omega⟩
                have KJ : Hid (k + j = kj) := Lib.hid (by omega)
                clear eg GO FB FF FA GS IX g1 g2 g3 hj2 hj3 dr
                go_wp2_with (go_at_call 27; refine (IY.out _ (Below.refl _ _)).mono ?_; rintro e w3 ⟨rfl, rfl⟩)
                go_ret3
                exact ⟨Or.inl ⟨k, kj, by rw [← KJ.out]; exact FO.out, rfl⟩, B1.out⟩
              · have q2 : decide (k < b2) = false := decide_eq_false c2
                have NN := Lib.hid (GO.out BE.out (fun b hb => by rw [eg] at hb; cases hb; exact c2))
                clear eg GO FB FF FA GS IX c2
                go_wp2_with fail
                go_round
                case rel => exact ⟨k + 1, by go_num, by omega, NN.out⟩
                case measure => (simp [intOf] <;> omega)
    · have q0 : decide (k < m) = false := decide_eq_false hlt
      obtain rfl : k = m := by omega
      go_wp2_with fail
      go_ret3
      exact ⟨Or.inr ⟨by rw [HL.out]; exact NO.out, rfl⟩, B1.out⟩
end Go.Proofs.Ytkakeakdgidigaa
