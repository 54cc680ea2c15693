/-
  The reference's Ranks answers what the program's does. Conditions: at most a thousand numbers.
-/
import Derived.Test.YtdapbhnonhamhaaDagI
import Derived.IntWalk
namespace Go.Proofs.Ytdapbhnonhamhaa
open Go.RowKit Go.Proofs.Ytdapbhnonhamhaa.DagM

/-- The unlike numbers of the first k of x that are less than a. -/
structure LsOf (x : List Int) (a : Int) (k : Nat) (Ls : List Int) : Prop where
  nd : Ls.Nodup
  iff : ∀ y, y ∈ Ls ↔ y ∈ x.take k ∧ y < a
  len : Ls.length ≤ k
theorem LsOf.step {x : List Int} {a : Int} {k : Nat} {Ls : List Int} (h : LsOf x a k Ls) (hk : k < x.length) :
    LsOf x a (k + 1) (if (decide (a ≤ x[k]) || Ls.any (fun y => y == x[k])) = true then Ls else Ls ++ [x[k]]) := by
  have ht : ∀ y, y ∈ x.take (k + 1) ↔ y ∈ x.take k ∨ y = x[k] := fun y => by rw [List.take_succ_eq_append_getElem hk, List.mem_append, List.mem_singleton]
  by_cases h1 : a ≤ x[k]
  · rw [if_pos (by simp [h1])]
    refine ⟨h.nd, fun y => ?_, by have := h.len; omega⟩
    rw [h.iff, ht]
    constructor
    · rintro ⟨h2, h3⟩; exact ⟨Or.inl h2, h3⟩
    · rintro ⟨h2 | h2, h3⟩
      · exact ⟨h2, h3⟩
      · subst h2; omega
  · by_cases h2 : x[k] ∈ Ls
    · rw [if_pos (by simp [h2])]
      refine ⟨h.nd, fun y => ?_, by have := h.len; omega⟩
      rw [h.iff, ht]
      constructor
      · rintro ⟨h3, h4⟩; exact ⟨Or.inl h3, h4⟩
      · rintro ⟨h3 | h3, h4⟩
        · exact ⟨h3, h4⟩
        · subst h3; exact (h.iff _).1 h2
    · rw [if_neg (by simp [h1, h2] <;> omega)]
      refine ⟨List.nodup_append.2 ⟨h.nd, by simp, fun u hu v hv e => h2 (by rw [List.mem_singleton.1 hv] at e; exact e ▸ hu)⟩, fun y => ?_, by have := h.len; simp; omega⟩
      rw [List.mem_append, h.iff, ht, List.mem_singleton]
      constructor
      · rintro (⟨h3, h4⟩ | h3)
        · exact ⟨Or.inl h3, h4⟩
        · subst h3; exact ⟨Or.inr rfl, by omega⟩
      · rintro ⟨h3 | h3, h4⟩
        · exact Or.inl ⟨h3, h4⟩
        · exact Or.inr h3
theorem LsOf.rk {x : List Int} {a : Int} {Ls : List Int} (h : LsOf x a x.length Ls) : Ls.length = rk x a := rk_of h.nd (fun y => by rw [h.iff, List.take_length])
def RrRel (x : List Int) (w wr : World) (ov iv : Value) : Prop := ∃ k : Nat, iv = .int .i64 k ∧ k ≤ x.length ∧ Below w.heap.size w wr ∧ OwnN wr w.heap.size ov ((x.take k).map (rk x))
def MdRel (x : List Int) (a : Int) (wi wr : World) (lv iv : Value) : Prop := ∃ (k : Nat) (Ls : List Int), iv = .int .i64 k ∧ k ≤ x.length ∧ Below wi.heap.size wi wr ∧ OwnI wr wi.heap.size lv Ls ∧ LsOf x a k Ls
def InRel (Ls : List Int) (a b : Int) (wm wr : World) (mv iv : Value) : Prop := ∃ j : Nat, iv = .int .i64 j ∧ j ≤ Ls.length ∧ mv = .bool (decide (a ≤ b) || (Ls.take j).any (fun y => y == b)) ∧ Below wm.heap.size wm wr
theorem any_part {Ls : List Int} {j : Nat} {b : Int} (h : (Ls.take j).any (fun y => y == b) = true) : Ls.any (fun y => y == b) = true := by
  rw [List.any_eq_true] at h ⊢
  obtain ⟨y, hy, e⟩ := h
  exact ⟨y, List.mem_of_mem_take hy, e⟩
theorem val_get {x : List Int} {k : Nat} (h : k < x.length) : val x k = x[k] := by simp [val, List.getD_eq_getElem?_getD, h]

theorem newsNb2 (w : World) (t : TypeId) (x b : Nat) (hb : w.heap.size = b) : ∀ j z, [encNat x][j]? = some z → (w.alloc (.cells #[.int .i64 (x : Int)] t)).cell? ((⟨b, 0, none⟩ : Addr).add j) = some z := by
  subst hb
  exact newsN w t x
set_option maxHeartbeats 16000000 in
set_option maxRecDepth 100000 in
theorem refRanks (v : Value) (x : List Int) (w : World) (hX : IntsAt w v x) (hl : x.length ≤ 1000) :
    Calls Try.prog 24 #[v] w (Ranked x w) := by
  have XS := Lib.hid hX
  obtain ⟨Ax, cx, rfl, hcx, -⟩ := hX
  obtain ⟨i0, hi, hz0, hz1, hz2⟩ := info_parts infoI
  go_enter Try.func24, Try.ntmps24
  go_wp2
  go_loopw [3, 4] (fun ov iv wr => RrRel x w wr ov iv) (fun _ iv _ => x.length - (intOf iv).toNat)
  case atStart => exact ⟨0, rfl, by omega, Below.refl _ _, World.ownsRow_nil _ _ _ _⟩
  case round =>
    obtain ⟨i, rfl, hik, hB, hO⟩ := hrel
    have B := Lib.hid hB
    have O := Lib.hid hO
    have hwz := hB.size
    obtain ⟨ao, co, e⟩ := hO.form
    rw [List.length_map, List.length_take, Nat.min_eq_left hik] at e
    subst e
    clear hB hO
    by_cases hlt : i < x.length
    · obtain ⟨bx, ox, cx', e, hbx, a0⟩ := XS.out.at_ hlt
      simp only [Value.slice.injEq, true_and] at e
      obtain ⟨rfl, rfl⟩ := e
      have VG := Lib.hid (val_get hlt)
      have a1 := (B.out.cell (p := ⟨bx, ox + i, none⟩) hbx).trans a0
      have TS := Lib.hid (List.take_succ_eq_append_getElem hlt)
      clear a0
      rw [VG.out] at a1
      generalize x[i] = a at *
      go_wp2
      obtain ⟨wi, rfl⟩ : ∃ W, W = wr := ⟨_, rfl⟩
      go_loopw [5, 6] (fun lv iv wr => MdRel x a wi wr lv iv) (fun _ iv _ => x.length - (intOf iv).toNat)
      case atStart => exact ⟨0, [], rfl, by omega, Below.refl _ _, World.ownsRow_nil _ _ _ _, List.nodup_nil, fun y => by simp, by simp⟩
      case round =>
        obtain ⟨k, Ls, rfl, hk, hB2, hO2, hL⟩ := hrel
        have B2 := Lib.hid hB2
        have O2 := Lib.hid hO2
        have LS := Lib.hid hL
        have hiz := hB2.size
        have hLl := hL.len
        obtain ⟨al, cl, e⟩ := hO2.form
        subst e
        clear hB2 hO2 hL
        have a2 := (B2.out.cell (p := ⟨bx, ox + i, none⟩) (Nat.lt_of_lt_of_le hbx hwz)).trans a1
        by_cases hkt : k < x.length
        · obtain ⟨bx', ox', cx', e, _, b0⟩ := XS.out.at_ hkt
          simp only [Value.slice.injEq, Option.some.injEq, Addr.mk.injEq, and_true, true_and] at e
          obtain ⟨⟨rfl, rfl⟩, rfl⟩ := e
          have b2 := ((B.out.trans (B2.out.mono hwz)).cell (p := ⟨bx, ox + k, none⟩) hbx).trans b0
          rw [val_get hkt] at b2
          have ST := Lib.hid (LS.out.step hkt)
          clear b0
          generalize x[k] = b at *
          obtain ⟨wm, rfl⟩ : ∃ W, W = wr := ⟨_, rfl⟩
          go_wp2
          go_quiet (fail)
          all_goals
            go_wp2
            go_loopw [7, 8] (fun mv iv wr => InRel Ls a b wm wr mv iv) (fun _ iv _ => Ls.length - (intOf iv).toNat)
            case atStart => exact ⟨0, rfl, by omega, by simp, belowN (Below.refl _ _) _⟩
            case round =>
              obtain ⟨j, rfl, hj, rfl, hB3⟩ := hrel
              have B3 := Lib.hid hB3
              have hmz := hB3.size
              clear hB3
              generalize hbm : (decide (a ≤ b) || (Ls.take j).any (fun y => y == b)) = bm at *
              have BM := Lib.hid hbm
              clear hbm
              by_cases hjl : j < Ls.length
              · cases bm with
                | true =>
                  have hmt : (decide (a ≤ b) || Ls.any (fun y => y == b)) = true := by
                    have h := BM.out
                    rw [Bool.or_eq_true] at h ⊢
                    rcases h with h | h
                    · exact Or.inl h
                    · exact Or.inr (any_part h)
                  have MT := Lib.hid hmt
                  clear hmt
                  go_wp2
                  go_roundw
                  case rel =>
                    have s := ST.out
                    rw [if_pos (by rw [MT.out])] at s
                    exact ⟨k + 1, Ls, by go_num, by omega, B2.out.trans (B3.out.mono hiz), O2.out.below B3.out, s⟩
                  case measure => (simp [intOf] <;> omega)
                | false =>
                  have hmf : decide (a ≤ b) = false ∧ (Ls.take j).any (fun y => y == b) = false := by
                    have h := BM.out
                    rw [Bool.or_eq_false_iff] at h
                    exact h
                  have MF := Lib.hid hmf
                  obtain ⟨gl, ol, cl', e, _, lc⟩ := (O2.out.below B3.out).ints.at_ hjl
                  simp only [Value.slice.injEq, true_and] at e
                  obtain ⟨rfl, rfl⟩ := e
                  rw [val_get hjl] at lc
                  have b3 := (B3.out.cell (p := ⟨bx, ox + k, none⟩) (Nat.lt_of_lt_of_le hbx (Nat.le_trans hwz hiz))).trans b2
                  have AT := Lib.hid (any_take (fun y => y == b) Ls j hjl)
                  generalize Ls[j] = y at *
                  go_wp2
                  go_quiet (fail)
                  all_goals
                    go_wp2
                    go_roundw
                    case rel => exact ⟨j + 1, by go_num, by omega, by rw [AT.out, MF.out.1, MF.out.2]; simp, belowN B3.out _⟩
                    case measure => simp [intOf]; omega
              · obtain hjl2 : j = Ls.length := by omega
                subst hjl2
                have hbf := BM.out
                rw [List.take_length] at hbf
                have MT := Lib.hid hbf
                clear hbf hjl hj
                cases bm with
                | true =>
                  go_wp2
                  go_roundw
                  case rel =>
                    have s := ST.out
                    rw [if_pos (by rw [MT.out])] at s
                    exact ⟨k + 1, Ls, by go_num, by omega, B2.out.trans (B3.out.mono hiz), O2.out.below B3.out, s⟩
                  case measure => (simp [intOf] <;> omega)
                | false =>
                  have b3 := (B3.out.cell (p := ⟨bx, ox + k, none⟩) (Nat.lt_of_lt_of_le hbx (Nat.le_trans hwz hiz))).trans b2
                  go_wp2_with (at_builtin; refine wpList_append_fresh rfl (.tmp 51) (.tmp 56) 26 rfl wi.heap.size 3 i0 (.int .i64 0) 1 8 Try.underlying26 hi hz0 hz1 hz2 rfl (by decide) (.slice al Ls.length cl) Ls.length (Ls.map (Value.int .i64)) rfl ((O2.out.below B3.out).below ((Below.refl _ _).alloc (Nat.le_refl _) _)) ⟨wr.heap.size, 0, none⟩ 1 1 [.int .i64 b] rfl rfl (newsI _ _ _ _ (by simp)) (oneI _) (by unfold maxLen; omega) (by omega) (by simp; omega) ?_; intro v5 w5 hown hgrow hfr; obtain ⟨o5, b5⟩ := int_app ((B2.out.trans (B3.out.mono hiz)).trans (((Below.refl _ _).alloc (Nat.le_refl _) _).mono (Nat.le_trans hiz hmz))) ((O2.out.below B3.out).below ((Below.refl _ _).alloc (Nat.le_refl _) _)) hown hgrow; have O5 := Lib.hid o5; have B5 := Lib.hid b5; obtain ⟨g5, c5, rfl, _, _, _⟩ := ownsRow_form hown (by omega); clear hown hgrow hfr o5 b5)
                  go_roundw
                  case rel =>
                    have s := ST.out
                    rw [if_neg (by rw [MT.out]; decide)] at s
                    exact ⟨k + 1, Ls ++ [b], by go_num, by omega, B5.out, O5.out, s⟩
                  case measure => (simp [intOf] <;> omega)
        · obtain hkx : k = x.length := by omega
          subst hkx
          have hrk := LS.out.rk
          have RK := Lib.hid hrk
          have hll : Ls.length ≤ 1000 := by have := LS.out.len; omega
          have OW : Hid (wr.ownsRow w.heap.size 3 1 (.slice ao i co) i (((x.take i).map (rk x)).map encNat)) := by
            have h := O.out
            unfold OwnN at h
            rw [List.length_map, List.length_take, Nat.min_eq_left hik] at h
            exact Lib.hid (ownsRow_out (S := fun _ => False) h (Out.ofBelow B2.out) (fun _ _ e => e))
          have BW := Lib.hid (B.out.trans (B2.out.mono hwz))
          have hbz := BW.out.size
          clear hrk hkt hk
          go_wp2_with (at_builtin; refine wpList_append_fresh rfl (.tmp 58) (.tmp 61) 26 rfl w.heap.size 3 i0 (.int .i64 0) 1 8 Try.underlying26 hi hz0 hz1 hz2 rfl (by decide) (.slice ao i co) i (((x.take i).map (rk x)).map encNat) rfl (OW.out.alloc _) ⟨wr.heap.size, 0, none⟩ 1 1 [encNat Ls.length] rfl rfl (newsNb2 _ _ _ _ (by simp)) (oneN _) (by unfold maxLen; omega) (by omega) (by simp; omega) ?_; intro v5 w5 hown hgrow hfr; have b5 := Lib.hid ((BW.out.alloc hbz _).trans (((Out.refl _ _).grown (S := fun b => (Value.slice ao i co).ownBlock = some b) hgrow (fun _ _ e => e)).below (B := w.heap.size) (by simp; omega) (fun q _ e => (OW.out.lt q e).1))); have O5 : Hid (OwnN w5 w.heap.size v5 ((x.take (i + 1)).map (rk x))) := Lib.hid (by rw [TS.out, List.map_append]; refine OwnN.snoc ?_; rw [List.length_map, List.length_take, Nat.min_eq_left hik, ← RK.out]; exact hown); obtain ⟨g5, c5, rfl, _, _, _⟩ := ownsRow_form hown (by omega); clear hown hgrow hfr)
          go_roundw
          case rel => exact ⟨i + 1, by go_num, by omega, b5.out, O5.out⟩
          case measure => simp [intOf]; omega
    · obtain hix : i = x.length := by omega
      subst hix
      have h := O.out
      rw [List.take_length] at h
      have OO := Lib.hid h
      clear h hlt hik
      go_wp2
      go_ret
      exact ⟨_, rfl, OwnN.toI OO.out, B.out⟩
end Go.Proofs.Ytdapbhnonhamhaa
