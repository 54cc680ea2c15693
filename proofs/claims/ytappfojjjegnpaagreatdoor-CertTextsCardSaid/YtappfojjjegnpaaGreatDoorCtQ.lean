/-
  What the program's Parse and Print answer. Conditions: the library's table and errors are laid; texts of at most 4000 bytes.
-/
import Derived.Test.YtappfojjjegnpaaGreatDoorCtP
namespace Go.Proofs.YtappfojjjegnpaaGreatDoor
open Go.RowKit Go.Proofs.YtappfojjjegnpaaGreatDoor.LexM

theorem StrsAt.row {w : World} {v : Value} {L : List (List UInt8)} (h : StrsAt w v L) (h0 : 0 < L.length) : ∃ b o cap, v = .slice (some ⟨b, o, none⟩) L.length cap ∧ L.length ≤ cap ∧ b < w.heap.size ∧ ∀ k (h : k < L.length), w.cell? ⟨b, o + k, none⟩ = some (.string (bs L[k])) := by
  obtain ⟨A, cap, rfl, hcap, hA⟩ := h
  obtain ⟨b, o, rfl, hb, hc⟩ := hA h0
  exact ⟨b, o, cap, rfl, hcap, hb, hc⟩
def ParseP (l : List UInt8) (w : World) (e : Ending) (w' : World) : Prop := ∃ xv fv, e = .returned (.tuple #[xv, fv, .int .i64 (prE l)]) ∧ IntsAt w' xv (prX l) ∧ IntsAt w' fv (prF l) ∧ Below w.heap.size w w'
def idxF (L : List (List UInt8)) : Int := Lib.idxOfS (L.map bs) (bs [102])
theorem indexF (L : List (List UInt8)) (v : Value) (w : World) (hv : StrsAt w v L) (hl : L.length ≤ 9223372036854775807) (h0 : 0 < L.length) :
    Calls Tryz.prog 14 #[v, .string ⟨#[102]⟩] w fun e w' => e = .returned (.int .i64 (idxF L)) ∧ Below w.heap.size w w' := by
  obtain ⟨A, cap, rfl, hc, hA⟩ := hv
  obtain ⟨b, o, rfl, hb, hcell⟩ := hA h0
  refine (Go.Proofs.Tryz.slices_Index_string b o L.length cap (L.map bs) (bs [102]) w (by simp) hl (fun j hj => ?_)).mono ?_
  · rw [List.length_map] at hj
    rw [hcell j hj, getD_bs L j hj]
  · rintro e w' ⟨rfl, rfl⟩
    rw [List.take_of_length_le (by simp)]
    exact ⟨rfl, Below.refl _ _⟩
theorem idxF_hit {L p t : List (List UInt8)} (h : L = [120] :: (p ++ [102] :: t)) (hp : [102] ∉ p) : idxF L = ((p.length + 1 : Nat) : Int) := by
  have hl : p.length + 1 < L.length := by rw [h]; simp
  have h1 := Lib.idxOfS_hit (L.map bs) L.length (p.length + 1) (bs [102]) hl (by simp) (by
    rw [getD_bs L _ hl]; congr 1; subst h; simp) (fun j hj => by
    rw [getD_bs L j (by omega)]
    intro e
    have e2 := bs_inj e
    subst h
    cases j with
    | zero => simp at e2
    | succ j =>
      simp only [List.getElem_cons_succ] at e2
      rw [List.getElem_append_left (by omega)] at e2
      exact hp (by rw [← e2]; exact List.getElem_mem _))
  rw [List.take_of_length_le (by simp)] at h1
  exact h1
theorem idxF_miss {L t : List (List UInt8)} (h : L = [120] :: t) (hp : [102] ∉ t) : idxF L = -1 := by
  have h1 := Lib.idxOfS_miss (L.map bs) L.length (bs [102]) (fun j hj => by
    rw [getD_bs L j hj]
    intro e
    have e2 := bs_inj e
    subst h
    cases j with
    | zero => simp at e2
    | succ j =>
      simp only [List.getElem_cons_succ] at e2
      exact hp (by rw [← e2]; exact List.getElem_mem _))
  rw [List.take_of_length_le (by simp)] at h1
  exact h1
theorem strs_part {w : World} {L : List (List UInt8)} {b o : Nat} (i n c : Nat) (hb : b < w.heap.size) (hc : ∀ k (h : k < L.length), w.cell? ⟨b, o + k, none⟩ = some (.string (bs L[k]))) (hi : i + n ≤ L.length) (hcap : n ≤ c) :
    StrsAt w (.slice (some ⟨b, o + i, none⟩) n c) ((L.drop i).take n) := by
  have hl : ((L.drop i).take n).length = n := by simp; omega
  refine ⟨_, c, by rw [hl], by rw [hl]; exact hcap, fun _ => ⟨b, o + i, rfl, hb, fun k hk => ?_⟩⟩
  rw [hl] at hk
  have := hc (i + k) (by omega)
  rw [← Nat.add_assoc] at this
  rw [this]
  simp
theorem part1 {w1 w : World} {L F : List (List UInt8)} {b o cap m : Nat} (hb : b < w1.heap.size) (hc : Hid (∀ k (h : k < L.length), w1.cell? ⟨b, o + k, none⟩ = some (.string (bs L[k])))) (D : Hid (Below w1.heap.size w1 w)) (hcap : L.length ≤ cap) (hn : m + 2 ≤ L.length) (p : Hid ((L.drop 1).take m = F)) :
    StrsAt w (.slice (some ⟨b, o + 1, none⟩) m (cap - 1)) F := by
  rw [← p.out]
  exact strs_part 1 m (cap - 1) (Nat.lt_of_lt_of_le hb D.out.size) (fun k h => (D.out.cell (p := ⟨b, o + k, none⟩) hb).trans (hc.out k h)) (by omega) (by omega)
theorem part2 {w1 w : World} {L F : List (List UInt8)} {b o cap m : Nat} (hb : b < w1.heap.size) (hc : Hid (∀ k (h : k < L.length), w1.cell? ⟨b, o + k, none⟩ = some (.string (bs L[k])))) (D : Hid (Below w1.heap.size w1 w)) (hcap : L.length ≤ cap) (hn : m + 2 ≤ L.length) (p : Hid ((L.drop (m + 2)).take (L.length - (m + 2)) = F)) :
    StrsAt w (.slice (some ⟨b, o + (m + 1 + 1), none⟩) (L.length - (m + 1 + 1)) (cap - (m + 1 + 1))) F := by
  rw [← p.out]
  exact strs_part (m + 2) (L.length - (m + 2)) (cap - (m + 2)) (Nat.lt_of_lt_of_le hb D.out.size) (fun k h => (D.out.cell (p := ⟨b, o + k, none⟩) hb).trans (hc.out k h)) (by omega) (by omega)
theorem part3 {w : World} {A : Option Addr} {L F : List (List UInt8)} {cap m : Nat} (hcap : L.length ≤ cap) (h : cap ≤ m + 1 + 1) (p : Hid ((L.drop (m + 2)).take (L.length - (m + 2)) = F)) : StrsAt w (.slice A (L.length - (m + 1 + 1)) 0) F := by
  have h0 : L.length - (m + 1 + 1) = 0 := by omega
  have e : F = [] := by rw [← p.out]; exact List.eq_nil_of_length_eq_zero (by simp; omega)
  subst e
  rw [h0]
  exact ⟨A, 0, rfl, Nat.le_refl _, fun h => absurd h (by simp)⟩
theorem word_len {l : List UInt8} : ∀ p ∈ pieces 32 l, p.length ≤ l.length := by
  intro p hp
  have h := glue_pieces 32 l
  obtain ⟨a, b, e⟩ := List.append_of_mem hp
  have h2 := congrArg List.length h
  rw [e, glue_append] at h2
  simp [glue] at h2
  omega

set_option maxHeartbeats 8000000 in
set_option maxRecDepth 100000 in
theorem parseC (s : ByteArray) (w : World) (hT : TabE w) (hs : s.size ≤ 4000) : Calls Tryz.prog 5 #[.string s] w (ParseP s.data.toList w) := by
  have HT := Lib.hid hT
  have hz := size_list s
  have HZ := Lib.hid hz
  have SP := Lib.hid (splitW 32 s w hT.tab (by omega))
  have hn0 : 0 < (cut 32 s).length := by simp [cut, pieces]
  have hn1 : (cut 32 s).length ≤ 4001 := by
    unfold cut; rw [pieces_length]
    have := List.count_le_length (a := (32 : UInt8)) (l := s.data.toList)
    omega
  have hwl : ∀ p ∈ cut 32 s, p.length ≤ 4000 := fun p hp => by have := word_len p hp; omega
  have WL := Lib.hid hwl
  obtain ⟨ws, hws⟩ : ∃ ws, cut 32 s = ws := ⟨_, rfl⟩
  have WS : Hid (pieces 32 s.data.toList = ws) := Lib.hid hws
  have SP2 := SP.out
  rw [hws] at SP2 hn0 hn1
  have WL2 := WL.out
  rw [hws] at WL2
  have S2 := Lib.hid SP2
  have W2 := Lib.hid WL2
  clear hT hz hwl SP hws SP2 WL WL2
  by_cases h1 : ws[0]'hn0 = [120]
  · have hq : (!((bs (ws[0]'hn0)).toList == [120])) = false := by
      rw [Bool.not_eq_false', beq_iff_eq, toList_data]; exact h1
    have hparts := words_parts s.data.toList
    rw [WS.out] at hparts
    have hcons : ws = [120] :: (fore s.data.toList ++ rest s.data.toList) := by
      rw [← hparts]
      cases ws with
      | nil => simp at hn0
      | cons p t => simp at h1; rw [h1]; rfl
    have hhead : ((pieces 32 s.data.toList).head? == some [120]) = true := by rw [WS.out, hcons]; rfl
    have hlen : s.data.toList.length ≤ 1048576 := by rw [← HZ.out]; omega
    have hok : prOk s.data.toList = (!(rest s.data.toList).isEmpty && (fore s.data.toList).all isInt && (aft s.data.toList).all isInt) := by
      unfold prOk; rw [decide_eq_true hlen, hhead]; simp
    have OK := Lib.hid hok
    have L5 : Hid (¬ 1048576 < s.data.toList.length) := Lib.hid (by omega)
    clear hparts hhead hlen hok h1
    by_cases hr : rest s.data.toList = []
    · have hI : idxF ws = -1 := by
        refine idxF_miss hcons ?_
        rw [hr, List.append_nil]; exact fore_free _
      have hp : prOk s.data.toList = false := by rw [OK.out, hr]; rfl
      have E := Lib.hid (prE_no L5.out hp)
      have IX := Lib.hid (fun v w hv hl => hI ▸ indexF ws v w hv hl hn0)
      clear hI hp hr hcons
      go_enter Tryz.func5, Tryz.ntmps5
      go_wp2_with (first
        | (go_at_call 14; refine (IX.out _ _ V.out (by omega)).mono ?_; rintro e w2 ⟨rfl, b2⟩; have B2 := Lib.hid (B1.out.trans (b2.mono B1.out.size)); have d1 := (b2.cell (p := ⟨b, o, none⟩) hb).trans d0; clear b2)
        | (go_at_call 13; refine S2.out.mono ?_; rintro e w1 ⟨v, rfl, hv, b1⟩; have V := Lib.hid hv; obtain ⟨b, o, cap, rfl, hb, d0⟩ := hv.nth hn0; rw [Nat.add_zero] at d0; have B1 := Lib.hid b1; clear hv b1))
      go_ret3
      exact ⟨_, _, by rw [E.out.1]; rfl, by rw [E.out.2.1]; exact ints_nil _, by rw [E.out.2.2]; exact ints_nil _, B2.out⟩
    · have hrest := rest_head hr
      rw [hrest] at hcons
      obtain ⟨m, hm⟩ : ∃ m, (fore s.data.toList).length = m := ⟨_, rfl⟩
      have hI : idxF ws = ((m + 1 : Nat) : Int) := by rw [← hm]; exact idxF_hit hcons (fore_free _)
      obtain ⟨i, hi⟩ : ∃ i : Int, ((m + 1 : Nat) : Int) = i := ⟨_, rfl⟩
      have hn : ws.length = m + 2 + (aft s.data.toList).length := by rw [hcons, ← hm]; simp; omega
      have IX := Lib.hid (fun v w hv hl => hI ▸ indexF ws v w hv hl hn0)
      have hre : (rest s.data.toList).isEmpty = false := by rw [hrest]; rfl
      have ok2 := OK.out
      rw [hre] at ok2
      simp only [Bool.not_false, Bool.true_and] at ok2
      have OK2 := Lib.hid ok2
      have p1 : ((ws.drop 1).take m) = fore s.data.toList := by rw [hcons, ← hm]; simp
      have p2 : ((ws.drop (m + 2)).take (ws.length - (m + 2))) = aft s.data.toList := by
        rw [List.take_of_length_le (by simp), hcons]
        have e : m + 2 = (fore s.data.toList ++ [[102]]).length + 1 := by simp [hm]
        rw [e, List.drop_succ_cons]
        have e2 : fore s.data.toList ++ [102] :: aft s.data.toList = (fore s.data.toList ++ [[102]]) ++ aft s.data.toList := by simp
        rw [e2, List.drop_left]
      have P1 := Lib.hid p1
      have P2 := Lib.hid p2
      have F4 : Hid (∀ x ∈ fore s.data.toList, x.length ≤ 2000000) := Lib.hid (fun x hx => by
        have := W2.out x (by rw [hcons]; simp [hx]); omega)
      have A4 : Hid (∀ x ∈ aft s.data.toList, x.length ≤ 2000000) := Lib.hid (fun x hx => by
        have := W2.out x (by rw [hcons]; simp [hx]); omega)
      have ha : (aft s.data.toList).length ≤ 4001 := by omega
      have hn2 : m + 2 ≤ ws.length := by omega
      clear hI hi hcons hrest hre ok2 p1 p2 hr OK hn
      have NP1 : Hid (∀ w v, StrsAt w v (fore s.data.toList) → TabE w → Calls Tryz.prog 15 #[v] w (NumsP (fore s.data.toList) w)) := Lib.hid (fun w v hv hT => readNumbers v _ w hv hT (by omega) F4.out)
      have NP2 : Hid (∀ w v, StrsAt w v (aft s.data.toList) → TabE w → Calls Tryz.prog 15 #[v] w (NumsP (aft s.data.toList) w)) := Lib.hid (fun w v hv hT => readNumbers v _ w hv hT (by omega) A4.out)
      cases hb1 : (fore s.data.toList).all isInt
      all_goals
        cases hb2 : (aft s.data.toList).all isInt
        all_goals
          have Q1 := Lib.hid hb1
          have Q2 := Lib.hid hb2
          have O3 := OK2.out
          rw [hb1, hb2] at O3
          have OK3 := Lib.hid O3
          clear hb1 hb2 O3
          go_enter Tryz.func5, Tryz.ntmps5
          go_wp2_with (first
            | (go_at_call 15; have _hz := N1; (first | (with_reducible refine (NP2.out _ _ (part2 hb CS D3 hcap hn2 P2) (HT.out.below B3.out (Nat.le_refl _))).mono ?_) | (with_reducible refine (NP2.out _ _ (part3 (A := some ⟨b, o, none⟩) hcap (by omega) P2) (HT.out.below B3.out (Nat.le_refl _))).mono ?_) | (exfalso; omega)); rintro e w4 ⟨v4, rfl, hv4, b4⟩; rw [Q2.out] at hv4 ⊢; have N2 := Lib.hid hv4; have N1 := Lib.hid (N1.out.below b4); have B4 := Lib.hid (B3.out.trans (b4.mono B3.out.size)); clear hv4 b4)
            | (go_at_call 15; (first | (with_reducible refine (NP1.out _ _ (part1 hb CS D2 hcap hn2 P1) (HT.out.below B2.out (Nat.le_refl _))).mono ?_) | (exfalso; omega)); rintro e w3 ⟨v3, rfl, hv3, b3⟩; rw [Q1.out] at hv3 ⊢; have N1 := Lib.hid hv3; have B3 := Lib.hid (B2.out.trans (b3.mono B2.out.size)); have D3 := Lib.hid (D2.out.trans (b3.mono D2.out.size)); clear hv3 b3)
            | (go_at_call 14; refine (IX.out _ _ V.out (by omega)).mono ?_; rintro e w2 ⟨rfl, b2⟩; have B2 := Lib.hid (B1.out.trans (b2.mono B1.out.size)); have D2 := Lib.hid b2; have d1 := (b2.cell (p := ⟨b, o, none⟩) hb).trans d0; clear b2)
            | (go_at_call 13; refine S2.out.mono ?_; rintro e w1 ⟨v, rfl, hv, b1⟩; have V := Lib.hid hv; obtain ⟨b, o, cap, rfl, hcap, hb, hcs⟩ := hv.row hn0; have CS := Lib.hid hcs; have d0 := hcs 0 hn0; rw [Nat.add_zero] at d0; have B1 := Lib.hid b1; clear hv b1 hcs))
          all_goals
            go_ret3
            first
              | (have E := prE_no L5.out OK3.out; exact ⟨_, _, by rw [E.1]; rfl, by rw [E.2.1]; exact ints_nil _, by rw [E.2.2]; exact ints_nil _, B4.out⟩)
              | (have E := prE_yes OK3.out; exact ⟨_, _, by rw [E.1]; rfl, by rw [E.2.1]; exact N1.out, by rw [E.2.2]; exact N2.out, B4.out⟩)
  · have hq : (!((bs (ws[0]'hn0)).toList == [120])) = true := by
      rw [Bool.not_eq_true', beq_eq_false_iff_ne, toList_data]; exact h1
    have hp : prOk s.data.toList = false := by
      unfold prOk
      have : ((pieces 32 s.data.toList).head? == some [120]) = false := by
        rw [WS.out, List.head?_eq_getElem?, List.getElem?_eq_getElem hn0]
        simpa using h1
      rw [this]; simp
    have E := Lib.hid (prE_no (by rw [← HZ.out]; omega) hp)
    clear h1 hp
    go_enter Tryz.func5, Tryz.ntmps5
    go_wp2_with (first
      | (go_at_call 14; refine (indexF ws _ _ V.out (by omega) hn0).mono ?_; rintro e w2 ⟨rfl, b2⟩; have B2 := Lib.hid (B1.out.trans (b2.mono B1.out.size)); have d1 := (b2.cell (p := ⟨b, o, none⟩) hb).trans d0; clear b2)
      | (go_at_call 13; refine S2.out.mono ?_; rintro e w1 ⟨v, rfl, hv, b1⟩; have V := Lib.hid hv; obtain ⟨b, o, cap, rfl, hb, d0⟩ := hv.nth hn0; rw [Nat.add_zero] at d0; have B1 := Lib.hid b1; clear hv b1))
    go_ret3
    exact ⟨_, _, by rw [E.out.1]; rfl, by rw [E.out.2.1]; exact ints_nil _, by rw [E.out.2.2]; exact ints_nil _, B2.out⟩
end Go.Proofs.YtappfojjjegnpaaGreatDoor
