/-
  The reference's Words, Number and Digits answer what the program's do. Conditions: none.
-/
import Derived.Test.YtgchmoabhblmcaaDoorLexR
import Derived.Laws.IdiomStrings
namespace Go.Proofs.YtgchmoabhblmcaaDoor
open Go.RowKit Go.Proofs.YtgchmoabhblmcaaDoor.LexM

theorem ps_grows (c : UInt8) (t : List UInt8) : ∀ u : List UInt8, ∃ r, (ps c (t ++ u)).1 = (ps c t).1 ++ r := by
  intro u
  induction u using snoc_ind with
  | h0 => exact ⟨[], by simp⟩
  | h1 u b ih =>
    obtain ⟨r, hr⟩ := ih
    rw [← List.append_assoc, ps_snoc]
    by_cases h : b = c
    · rw [if_pos h, hr]; exact ⟨r ++ [(ps c (t ++ u)).2], by simp⟩
    · rw [if_neg h, hr]; exact ⟨r, rfl⟩
theorem bad_sep {c : UInt8} {l : List UInt8} {k : Nat} {L : List (List UInt8)} (h : PcAt c l k k L) (hk : l[k]? = some c) : [] ∈ pieces c l := by
  have h2 := (h.sep hk).done
  obtain ⟨r, hr⟩ := ps_grows c (l.take (k + 1)) (l.drop (k + 1))
  rw [List.take_append_drop, h2] at hr
  rw [pieces_ps, hr]
  have e : (l.take k).drop k = [] := List.drop_eq_nil_of_le (by rw [List.length_take]; omega)
  rw [e]
  simp
theorem bad_end {c : UInt8} {l : List UInt8} {L : List (List UInt8)} (h : PcAt c l l.length l.length L) : [] ∈ pieces c l := by
  rw [pieces_ps, h.end_]
  simp
theorem good_end {c : UInt8} {l : List UInt8} {f : Nat} {L : List (List UInt8)} (h : PcAt c l l.length f L) : pieces c l = L ++ [l.drop f] := by
  rw [pieces_ps, h.end_]
theorem wdOk_no {l : List UInt8} (h : [] ∈ pieces 32 l) : wdOk l = false ∧ wdL l = [] := by
  have e : wdOk l = false := by rw [wdOk_mem, decide_eq_true h]; rfl
  exact ⟨e, by unfold wdL; rw [e]; rfl⟩
theorem wdOk_yes {l : List UInt8} {L : List (List UInt8)} (h : pieces 32 l = L) (hn : [] ∉ L) : wdOk l = true ∧ wdL l = L := by
  have e : wdOk l = true := by rw [wdOk_mem, h, decide_eq_false hn]; rfl
  exact ⟨e, by unfold wdL; rw [e, h]; rfl⟩
/-- Where the reference's search for words stands. -/
def WdAt (l : List UInt8) (k f : Nat) (L : List (List UInt8)) : Prop := [] ∉ L ∧ ((PcAt 32 l k f L) ∨ (k = l.length + 1 ∧ pieces 32 l = L))
def RwRel (l : List UInt8) (w wr : World) (lv fv iv : Value) : Prop := ∃ (k f : Nat) (L : List (List UInt8)), iv = .int .i64 k ∧ fv = .int .i64 f ∧ k ≤ l.length + 1 ∧ f ≤ k ∧ L.length ≤ l.length + 1 ∧ WdAt l k f L ∧ OwnS wr w.heap.size lv L ∧ Below w.heap.size w wr
set_option maxHeartbeats 8000000 in
set_option maxRecDepth 100000 in
theorem refWords (s : ByteArray) (w : World) (hs : s.size ≤ 1000000) : Calls Tryd.prog 28 #[.string s] w (WordsP s.data.toList w) := by
  have HZ := Lib.hid (size_list s)
  obtain ⟨i0, hi, hz0, hz1, hz2⟩ := info_partsS
  go_enter Tryd.func28, Tryd.ntmps28
  go_wp2
  go_loopw [4, 5, 6] (fun lv fv iv wr => RwRel s.data.toList w wr lv fv iv) (fun _ _ iv _ => s.size + 1 - (intOf iv).toNat)
  case atStart => exact ⟨0, 0, [], rfl, rfl, by omega, by omega, by simp, ⟨by simp, Or.inl (PcAt.start _ _)⟩, World.ownsRow_nil _ _ _ _, Below.refl _ _⟩
  case round =>
    obtain ⟨k, f, L, rfl, rfl, hk, hfk, hLl, hW, hO, hB⟩ := hrel
    have hkl : k ≤ s.size + 1 := by rw [HZ.out]; exact hk
    have hLl2 : L.length ≤ s.size + 1 := by rw [HZ.out]; exact hLl
    have LL := Lib.hid hLl
    have W := Lib.hid hW
    have O := Lib.hid hO
    have B := Lib.hid hB
    have hwz := hB.size
    obtain ⟨ao, co, e⟩ := hO.form
    subst e
    clear hW hO hB hk hLl
    by_cases hle : k ≤ s.size
    · have hP : PcAt 32 s.data.toList k f L := by
        rcases W.out.2 with h | ⟨h, _⟩
        · exact h
        · rw [← HZ.out] at h; omega
      have P := Lib.hid hP
      clear hP
      by_cases hlt : k < s.size
      · have hb := byte_at s k hlt
        obtain ⟨b, hbe⟩ : ∃ b, s[k]'hlt = b := ⟨_, rfl⟩
        rw [hbe] at hb
        by_cases hc : b = 32
        · subst hc
          have HB := Lib.hid hb
          have hq : (((32 : UInt8).toNat : Int) == 32) = true := rfl
          clear hb
          by_cases hkf : k = f
          · subst hkf
            have X := Lib.hid (wdOk_no (bad_sep P.out HB.out))
            go_wp2
            go_ret2
            exact ⟨_, by rw [X.out.1]; rfl, by rw [X.out.2]; exact StrsAt.nil _, B.out⟩
          · have N := Lib.hid (P.out.sep HB.out)
            have hne : (s.data.toList.take k).drop f ≠ [] := by
              rw [Ne, List.drop_eq_nil_iff, List.length_take, ← HZ.out]; omega
            have NE := Lib.hid hne
            have hq2 : ((k : Int) == f) = false := by rw [beq_eq_false_iff_ne]; omega
            clear hne
            go_wp2_with (at_builtin; refine wpList_append_fresh rfl (.tmp 26) (.tmp 31) 36 rfl w.heap.size 9 i0 (.string ByteArray.empty) 1 16 Tryd.underlying36 hi hz0 hz1 hz2 rfl (by decide) (.slice ao L.length co) L.length (L.map encT7) rfl (O.out.below ((Below.refl _ _).alloc (Nat.le_refl _) _) (Nat.le_refl _)) ⟨wr.heap.size, 0, none⟩ 1 1 [.string (s.extract f k)] rfl rfl (newsT7 _ _ _ _ (by simp)) (oneT7 _) (by unfold maxLen; omega) (by omega) (by simp; omega) ?_; intro v5 w5 hown hgrow hfr; obtain ⟨o5, b5⟩ := str_app (extract_bs s f k) (B.out.trans (((Below.refl _ _).alloc (Nat.le_refl _) _).mono hwz)) (Nat.le_refl _) (O.out.below ((Below.refl _ _).alloc (Nat.le_refl _) _) (Nat.le_refl _)) hown hgrow; have O5 := Lib.hid o5; have B5 := Lib.hid b5; clear hown hgrow hfr o5 b5)
            go_roundw
            case rel =>
              have hw0 := W.out.1
              refine ⟨k + 1, k + 1, _, by go_num, by go_num, by rw [← HZ.out]; omega, Nat.le_refl _, ?_, ⟨?_, Or.inl N.out⟩, O5.out, B5.out⟩
              · have := ps_count 32 (s.data.toList.take (k + 1))
                rw [N.out.done, List.length_take] at this
                omega
              · rw [List.mem_append, List.mem_singleton]
                rintro (h | h)
                · exact hw0 h
                · exact NE.out h.symm
            case measure => (simp [intOf] <;> omega)
        · have N := Lib.hid (P.out.other hb hc)
          have hq : ((b.toNat : Int) == 32) = false := by rw [byte_test b 32 32 rfl]; simpa using hc
          clear hb hc
          go_wp2
          go_roundw
          case rel => exact ⟨k + 1, f, L, by go_num, rfl, by rw [← HZ.out]; omega, by omega, LL.out, ⟨W.out.1, Or.inl N.out⟩, O.out, B.out⟩
          case measure => (simp [intOf] <;> omega)
      · obtain hk2 : k = s.size := by omega
        have hp := P.out
        rw [hk2, HZ.out] at hp
        have P2 := Lib.hid hp
        clear hp P
        by_cases hkf : k = f
        · have hf : f = s.data.toList.length := by rw [← HZ.out]; omega
          have hp := P2.out
          rw [hf] at hp
          have X := Lib.hid (wdOk_no (bad_end hp))
          clear hp hf
          subst hkf hk2
          go_wp2
          go_ret2
          exact ⟨_, by rw [X.out.1]; rfl, by rw [X.out.2]; exact StrsAt.nil _, B.out⟩
        · have G := Lib.hid (good_end P2.out)
          have hne : s.data.toList.drop f ≠ [] := by
            rw [Ne, List.drop_eq_nil_iff, ← HZ.out]; omega
          have NE := Lib.hid hne
          have hq2 : ((s.size : Int) == f) = false := by rw [beq_eq_false_iff_ne]; omega
          have hx : s.extract f s.size = bs (s.data.toList.drop f) := by
            rw [extract_bs, HZ.out, List.take_length]
          have HX := Lib.hid hx
          clear hne hx
          subst hk2
          go_wp2_with (at_builtin; refine wpList_append_fresh rfl (.tmp 26) (.tmp 31) 36 rfl w.heap.size 9 i0 (.string ByteArray.empty) 1 16 Tryd.underlying36 hi hz0 hz1 hz2 rfl (by decide) (.slice ao L.length co) L.length (L.map encT7) rfl (O.out.below ((Below.refl _ _).alloc (Nat.le_refl _) _) (Nat.le_refl _)) ⟨wr.heap.size, 0, none⟩ 1 1 [.string (s.extract f s.size)] rfl rfl (newsT7 _ _ _ _ (by simp)) (oneT7 _) (by unfold maxLen; omega) (by omega) (by simp; omega) ?_; intro v5 w5 hown hgrow hfr; obtain ⟨o5, b5⟩ := str_app HX.out (B.out.trans (((Below.refl _ _).alloc (Nat.le_refl _) _).mono hwz)) (Nat.le_refl _) (O.out.below ((Below.refl _ _).alloc (Nat.le_refl _) _) (Nat.le_refl _)) hown hgrow; have O5 := Lib.hid o5; have B5 := Lib.hid b5; clear hown hgrow hfr o5 b5)
          go_roundw
          case rel =>
            have hw0 := W.out.1
            refine ⟨s.size + 1, s.size + 1, _, by go_num, by go_num, by rw [← HZ.out]; omega, Nat.le_refl _, ?_, ⟨?_, Or.inr ⟨by rw [← HZ.out], G.out⟩⟩, O5.out, B5.out⟩
            · have := ps_count 32 s.data.toList
              rw [P2.out.end_] at this
              rw [List.length_append, List.length_singleton]
              exact Nat.succ_le_succ this
            · rw [List.mem_append, List.mem_singleton]
              rintro (h | h)
              · exact hw0 h
              · exact NE.out h.symm
          case measure => (simp [intOf] <;> omega)
    · have hX : pieces 32 s.data.toList = L := by
        rcases W.out.2 with h | ⟨_, h⟩
        · exact absurd (by rw [HZ.out]; exact h.le2) hle
        · exact h
      have X := Lib.hid (wdOk_yes hX W.out.1)
      clear hX
      go_wp2
      go_ret2
      exact ⟨_, by rw [X.out.1]; rfl, by rw [X.out.2]; exact O.out.strs, B.out⟩
end Go.Proofs.YtgchmoabhblmcaaDoor
