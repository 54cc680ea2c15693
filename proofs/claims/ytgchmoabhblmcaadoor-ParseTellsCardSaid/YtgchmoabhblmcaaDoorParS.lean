/-
  What the reference's first line answers. Conditions: texts of at most 1000000 bytes.
-/
import Derived.Test.YtgchmoabhblmcaaDoorParR
namespace Go.Proofs.YtgchmoabhblmcaaDoor
open Go.RowKit Go.Proofs.YtgchmoabhblmcaaDoor.LexM Go.Proofs.YtgchmoabhblmcaaDoor.ParM

theorem refWordsG (s : ByteArray) (L : List (List UInt8)) (m : Nat) (hok : wdOk s.data.toList = true) (hL : wdL s.data.toList = L) (hm : L.length = m) (h0 : 0 < m) (hs : s.size ≤ 1000000) (w : World) :
    Calls Tryd.prog 28 #[.string s] w fun e w' => ∃ g o cap, e = .returned (.tuple #[.slice (some ⟨g, o, none⟩) m cap, .bool true]) ∧ m ≤ cap ∧ g < w'.heap.size ∧ (∀ k (h : k < L.length), w'.cell? ⟨g, o + k, none⟩ = some (.string (bs L[k]))) ∧ Below w.heap.size w w' := by
  refine (refWords s w hs).mono ?_
  rintro e w' ⟨v, rfl, hv, hb⟩
  rw [hL] at hv
  obtain ⟨A, cap, rfl, hc, hA⟩ := hv
  obtain ⟨g, o, rfl, hg, hcell⟩ := hA (by omega)
  subst hm
  rw [hok]
  exact ⟨g, o, cap, rfl, hc, hg, hcell, hb⟩
theorem refWordsN (s : ByteArray) (h : wdOk s.data.toList = false) (hs : s.size ≤ 1000000) (w : World) :
    Calls Tryd.prog 28 #[.string s] w fun e w' => (∃ A n c, e = .returned (.tuple #[.slice A n c, .bool false])) ∧ Below w.heap.size w w' := by
  refine (refWords s w hs).mono ?_
  rintro e w' ⟨v, rfl, hv, hb⟩
  obtain ⟨A, c, rfl, _⟩ := hv
  rw [h]
  exact ⟨⟨A, _, c, rfl⟩, hb⟩
/-- What the reference's first leaves. -/
def FstP (l : List UInt8) (w : World) (e : Ending) (w' : World) : Prop := ∃ v, e = .returned (.tuple #[v, .int .i64 (fstE l)]) ∧ OwnB w' w.heap.size v (fstB l) ∧ Below w.heap.size w w'
theorem fst_none {l : List UInt8} (h : fstE l ≠ 0) : fstB l = [] := by
  unfold fstE at h
  unfold fstB
  split
  · rename_i a p hw
    rw [hw] at h
    simp only at h
    by_cases ha : a = shapeW
    · rw [if_pos ha] at h; rw [if_neg (fun x => h x.2)]
    · rw [if_neg (fun x => ha x.1)]
  · rfl
theorem fst_ret {l : List UInt8} {z : Int} {w w' : World} (h : fstE l = z) (hz : z ≠ 0) (hb : Below w.heap.size w w') : FstP l w (.returned (.tuple #[.slice none 0 0, .int .i64 z])) w' :=
  ⟨_, by rw [h], by rw [fst_none (by rw [h]; exact hz)]; exact World.ownsRow_nil _ _ _ _, hb⟩
/-- Where the vertices' letters stand. -/
def RfRel (q : List UInt8) (w1 wr : World) (lv iv : Value) : Prop := ∃ k : Nat, iv = .int .i64 k ∧ k ≤ q.length ∧ isBox (q.take k) = true ∧ OwnB wr w1.heap.size lv (boxesOf (q.take k)) ∧ Below w1.heap.size w1 wr
theorem own_baseB {w : World} {B C : Nat} {v : Value} {l : List Bool} (h : OwnB w B v l) (hC : C ≤ B) : OwnB w C v l := own_base h hC
set_option maxHeartbeats 8000000 in
set_option maxRecDepth 100000 in
theorem refFirst (s : ByteArray) (w : World) (hs : s.size ≤ 1000000) : Calls Tryd.prog 15 #[.string s] w (FstP s.data.toList w) := by
  cases hok : wdOk s.data.toList with
  | false =>
    have F := Lib.hid (fst_bad (l := s.data.toList) (by unfold wdL; rw [hok]; simp))
    have W := Lib.hid (refWordsN s hok hs w)
    clear hok
    go_enter Tryd.func15, Tryd.ntmps15
    go_wp2_with (go_at_call 28; refine W.out.mono ?_; rintro e w1 ⟨⟨A, k, c, rfl⟩, b1⟩; have B1 := Lib.hid b1; clear b1)
    go_ret2
    exact fst_ret F.out (by decide) B1.out
  | true =>
    obtain ⟨m, hm⟩ : ∃ m, (wdL s.data.toList).length = m := ⟨_, rfl⟩
    have h0 : 0 < m := by
      rw [← hm]; unfold wdL; rw [hok]; simp [pieces]
    have W := Lib.hid (refWordsG s _ m hok rfl hm h0 hs w)
    by_cases h2 : m = 2
    · subst h2
      obtain ⟨a, q, hw⟩ : ∃ a q, wdL s.data.toList = [a, q] := by
        match hl : wdL s.data.toList, hm with
        | [a, q], _ => exact ⟨a, q, rfl⟩
      have FT := Lib.hid (fst_two hw)
      have hql : (bs q).size ≤ 1000000 := by
        have := wdL_short (l := s.data.toList) q (by rw [hw]; simp)
        have := size_list s
        rw [bs_size]; omega
      have W2 : Hid (Calls Tryd.prog 28 #[.string s] w fun e w' => ∃ g o cap, e = .returned (.tuple #[.slice (some ⟨g, o, none⟩) 2 cap, .bool true]) ∧ 2 ≤ cap ∧ g < w'.heap.size ∧ w'.cell? ⟨g, o, none⟩ = some (.string (bs a)) ∧ w'.cell? ⟨g, o + 1, none⟩ = some (.string (bs q)) ∧ Below w.heap.size w w') := Lib.hid (by
        refine W.out.mono ?_
        rintro e w' ⟨g, o, cap, rfl, hc, hg, hcell, hb⟩
        have e0 := hcell 0 (by omega)
        have e1 := hcell 1 (by omega)
        simp only [hw, List.getElem_cons_zero, List.getElem_cons_succ, Nat.add_zero] at e0 e1
        exact ⟨g, o, cap, rfl, hc, hg, e0, e1, hb⟩)
      clear W hw hm hok h0
      by_cases ha : a = shapeW
      · have hqa : (!((bs a).toList == [115, 104, 97, 112, 101])) = false := by
          rw [Bool.not_eq_false', beq_iff_eq, toList_data]; exact ha
        have hfe := FT.out.1
        have hfb := FT.out.2
        rw [if_pos ha] at hfe
        by_cases h45 : q = [45]
        · have hq : ((bs q).toList == [45]) = true := by rw [toList_data, bs_data, h45]; rfl
          have F : Hid (fstE s.data.toList = 0) := Lib.hid (by rw [hfe, h45]; rfl)
          have FB : Hid (fstB s.data.toList = []) := Lib.hid (by
            rw [hfb, if_pos ⟨ha, by rw [h45]; rfl⟩, h45]; rfl)
          clear hfe hfb FT ha h45
          generalize bs a = sa at *
          generalize bs q = sq at *
          go_enter Tryd.func15, Tryd.ntmps15
          go_wp2_with (go_at_call 28; refine W2.out.mono ?_; rintro e w1 ⟨g, o, cap, rfl, hcap, hg, d0, d1, b1⟩; have B1 := Lib.hid b1; clear b1)
          go_ret2
          exact ⟨.slice none 0 0, by rw [F.out]; rfl, by rw [FB.out]; exact World.ownsRow_nil _ _ _ _, B1.out⟩
        · have hq : ((bs q).toList == [45]) = false := by rw [toList_data, bs_data]; simpa using h45
          have hfw : fstW q = if isBox q = true then (if 4096 < q.length then 6 else 0) else 4 := by unfold fstW; rw [if_neg h45]
          have FW := Lib.hid (hfe.trans hfw)
          have FV : Hid (fstW q = 0 → fstB s.data.toList = boxesOf q) := Lib.hid (fun h => by
            rw [hfb, if_pos ⟨ha, h⟩]; unfold fstV; rw [if_neg h45])
          have FH := Lib.hid hfe
          have HZ : Hid ((bs q).size = q.length) := Lib.hid (bs_size q)
          have QD : Hid ((bs q).data.toList = q) := Lib.hid rfl
          obtain ⟨i0, hi, hz0, hz1, hz2⟩ := info_of infoBl
          clear hfe hfb FT ha h45 hfw
          generalize bs a = sa at *
          generalize bs q = sq at *
          go_enter Tryd.func15, Tryd.ntmps15
          go_wp2_with (go_at_call 28; refine W2.out.mono ?_; rintro e w1 ⟨g, o, cap, rfl, hcap, hg, d0, d1, b1⟩; have B1 := Lib.hid b1; clear b1)
          have D1 := Lib.hid d1
          obtain ⟨wz, hwz⟩ : ∃ W, W = w1 := ⟨_, rfl⟩
          subst hwz
          go_loopw [6, 7] (fun lv iv wr => RfRel q wz wr lv iv) (fun _ iv _ => sq.size - (intOf iv).toNat)
          case atStart => exact ⟨0, rfl, Nat.zero_le _, rfl, World.ownsRow_nil _ _ _ _, Below.refl _ _⟩
          case round =>
            obtain ⟨k, rfl, hk, hbx, hO, hB⟩ := hrel
            have hks : k ≤ sq.size := by rw [HZ.out]; exact hk
            have hkl : (boxesOf (q.take k)).length = k := by simp [boxesOf]; omega
            obtain ⟨ao, co, e⟩ := hO.form
            rw [hkl] at e
            subst e
            have O := Lib.hid hO
            have B := Lib.hid hB
            have BX := Lib.hid hbx
            have KL := Lib.hid hkl
            have e1 := (hB.cell (p := ⟨g, o + 1, none⟩) hg).trans D1.out
            have hwr := hB.size
            clear hO hB hbx hk hkl d0 d1
            by_cases hlt : k < sq.size
            · have hb := byte_at sq k hlt
              obtain ⟨b, hbe⟩ : ∃ b, sq[k]'hlt = b := ⟨_, rfl⟩
              rw [hbe, QD.out] at hb
              have TS := Lib.hid (take_snoc _ _ _ hb)
              have HM := Lib.hid (List.mem_of_getElem? hb)
              clear hb
              by_cases h12 : b = 112 ∨ b = 98
              · have GD : Hid (isBox (q.take (k + 1)) = true) := Lib.hid (by rw [TS.out]; exact box_snoc BX.out h12)
                have BS : Hid (boxesOf (q.take (k + 1)) = boxesOf (q.take k) ++ [decide (b = 98)]) := Lib.hid (by rw [TS.out]; exact boxesOf_snoc _ _)
                rcases h12 with rfl | rfl
                · have q1 : (((112 : UInt8).toNat : Int) == 112) = true := rfl
                  have q2 : (((112 : UInt8).toNat : Int) != 112) = false := rfl
                  have q3 : (((112 : UInt8).toNat : Int) == 98) = false := rfl
                  go_wp2_with (at_builtin; refine wpList_append_fresh rfl (.tmp 52) (.tmp 59) 22 rfl wz.heap.size 4 i0 (.bool false) 1 1 Tryd.underlying22 hi hz0 hz1 hz2 rfl (by decide) (.slice ao k co) k ((boxesOf (q.take k)).map Value.bool) rfl ((O.out.below ((Below.refl _ _).alloc (Nat.le_refl _) _) (Nat.le_refl _)).at_ KL.out) ⟨wr.heap.size, 0, none⟩ 1 1 [.bool _] rfl rfl (newsB _ _ _ _ (by simp)) (oneB _) (by unfold maxLen; omega) (by omega) (by simp; omega) ?_; intro v5 w5 hown hgrow hfr; have O5 := Lib.hid (OwnB.snocAt KL.out hown); have B5 : Hid (Below wz.heap.size wz w5) := Lib.hid ((B.out.trans (((Below.refl _ _).alloc (Nat.le_refl _) _).mono hwr)).grown hgrow (by simp; omega) (fun y hy => (World.ownsRow.lt O.out y hy).1)); clear hown hgrow hfr)
                  go_roundw
                  case rel => exact ⟨k + 1, by go_num, by rw [← HZ.out]; omega, GD.out, by rw [BS.out]; exact O5.out, B5.out⟩
                  case measure => (simp [intOf] <;> omega)
                · have q1 : (((98 : UInt8).toNat : Int) == 112) = false := rfl
                  have q2 : (((98 : UInt8).toNat : Int) != 112) = true := rfl
                  have q3 : (((98 : UInt8).toNat : Int) == 98) = true := rfl
                  have q4 : (((98 : UInt8).toNat : Int) != 98) = false := rfl
                  go_wp2_with (at_builtin; refine wpList_append_fresh rfl (.tmp 52) (.tmp 59) 22 rfl wz.heap.size 4 i0 (.bool false) 1 1 Tryd.underlying22 hi hz0 hz1 hz2 rfl (by decide) (.slice ao k co) k ((boxesOf (q.take k)).map Value.bool) rfl ((O.out.below ((Below.refl _ _).alloc (Nat.le_refl _) _) (Nat.le_refl _)).at_ KL.out) ⟨wr.heap.size, 0, none⟩ 1 1 [.bool _] rfl rfl (newsB _ _ _ _ (by simp)) (oneB _) (by unfold maxLen; omega) (by omega) (by simp; omega) ?_; intro v5 w5 hown hgrow hfr; have O5 := Lib.hid (OwnB.snocAt KL.out hown); have B5 : Hid (Below wz.heap.size wz w5) := Lib.hid ((B.out.trans (((Below.refl _ _).alloc (Nat.le_refl _) _).mono hwr)).grown hgrow (by simp; omega) (fun y hy => (World.ownsRow.lt O.out y hy).1)); clear hown hgrow hfr)
                  go_roundw
                  case rel => exact ⟨k + 1, by go_num, by rw [← HZ.out]; omega, GD.out, by rw [BS.out]; exact O5.out, B5.out⟩
                  case measure => (simp [intOf] <;> omega)
              · have hno := not_box HM.out (fun e => h12 (Or.inl e)) (fun e => h12 (Or.inr e))
                have F : Hid (fstE s.data.toList = 4) := Lib.hid (by rw [FW.out, hno]; rfl)
                have q1 : ((b.toNat : Int) == 112) = false := by rw [byte_test b 112 112 rfl]; simpa using fun e => h12 (Or.inl e)
                have q2 : ((b.toNat : Int) != 112) = true := by simpa [bne] using q1
                have q3 : ((b.toNat : Int) == 98) = false := by rw [byte_test b 98 98 rfl]; simpa using fun e => h12 (Or.inr e)
                have q4 : ((b.toNat : Int) != 98) = true := by simpa [bne] using q3
                clear h12 hno
                go_wp2
                go_ret2
                exact fst_ret F.out (by decide) (B1.out.trans (B.out.mono B1.out.size))
            · have hks2 : k = sq.size := by omega
              have hg2 := BX.out
              rw [hks2, HZ.out, List.take_length] at hg2
              have ho : OwnB wr wz.heap.size (.slice ao k co) (boxesOf q) := by
                have h := O.out
                rw [show q.take k = q by rw [hks2, HZ.out, List.take_length]] at h
                exact h
              have O2 := Lib.hid ho
              have hql2 : q.length = k := by rw [hks2, HZ.out]
              have hfw := FW.out
              rw [hg2, if_pos rfl, hql2] at hfw
              clear ho hg2 hql2
              by_cases hmany : 4096 < k
              · have F : Hid (fstE s.data.toList = 6) := Lib.hid (by rw [hfw, if_pos hmany])
                clear hfw
                go_wp2
                go_ret2
                exact fst_ret F.out (by decide) (B1.out.trans (B.out.mono B1.out.size))
              · have F : Hid (fstE s.data.toList = 0) := Lib.hid (by rw [hfw, if_neg hmany])
                clear hfw
                go_wp2
                go_ret2
                exact ⟨.slice ao k co, by rw [F.out]; rfl, by rw [FV.out (by rw [← FH.out]; exact F.out)]; exact own_baseB O2.out B1.out.size, B1.out.trans (B.out.mono B1.out.size)⟩
      · have hqa : (!((bs a).toList == [115, 104, 97, 112, 101])) = true := by
          rw [Bool.not_eq_true', beq_eq_false_iff_ne, toList_data]; exact ha
        have F : Hid (fstE s.data.toList = 4) := Lib.hid (by rw [FT.out.1, if_neg ha])
        clear FT ha
        generalize bs a = sa at *
        go_enter Tryd.func15, Tryd.ntmps15
        go_wp2_with (go_at_call 28; refine W2.out.mono ?_; rintro e w1 ⟨g, o, cap, rfl, hcap, hg, d0, d1, b1⟩; have B1 := Lib.hid b1; clear b1)
        go_ret2
        exact fst_ret F.out (by decide) B1.out
    · have F := Lib.hid (fst_bad (l := s.data.toList) (by rw [hm]; exact h2))
      have hq2 : ((m : Int) == 2) = false := by rw [beq_eq_false_iff_ne]; omega
      have hq3 : ((m : Int) != 2) = true := by simpa [bne] using hq2
      clear hok hm h2
      go_enter Tryd.func15, Tryd.ntmps15
      go_wp2_with (go_at_call 28; refine W.out.mono ?_; rintro e w1 ⟨g, o, cap, rfl, hcap, hg, hc, b1⟩; have B1 := Lib.hid b1; clear b1 hc)
      go_ret2
      exact fst_ret F.out (by decide) B1.out
end Go.Proofs.YtgchmoabhblmcaaDoor
