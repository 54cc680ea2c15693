/-
  HeapSorts: the walk. Conditions: the numbers and words lie in blocks below the heap's end.
-/
import Derived.Test.YtlhmlejkfgejiaaSortsS
namespace Go.Proofs.Ytlhmlejkfgejiaa
open Go.RowKit Go.Proofs.Ytlhmlejkfgejiaa.HeapM Go.Proofs.Ytlhmlejkfgejiaa.StabM Go.Proofs.Ytlhmlejkfgejiaa.Stab

set_option maxHeartbeats 8000000 in
set_option maxRecDepth 100000 in
theorem sorts (A1 A2 : Option Addr) (n1 cap1 n2 cap2 m1 m2 : Nat) (D1 : Nat → Int) (D2 : Nat → ByteArray) (w : World) (hn1 : n1 ≤ cap1) (hn2 : n2 ≤ cap2) (hm2 : m2 ≤ n2) (hk2 : m2 ≤ 50) (hmin2 : min (n2 : Int) 50 = (m2 : Int))
    (hm1 : m1 ≤ n1) (hk1 : m1 ≤ 200) (hmin1 : min (n1 : Int) 200 = (m1 : Int))
    (hA1 : 0 < n1 → ∃ b o, A1 = some ⟨b, o, none⟩ ∧ b < w.heap.size ∧ ∀ k, k < n1 → w.cell? ⟨b, o + k, none⟩ = some (.int .i8 (D1 k)))
    (hA2 : 0 < n2 → ∃ b o, A2 = some ⟨b, o, none⟩ ∧ b < w.heap.size ∧ ∀ k, k < n2 → w.cell? ⟨b, o + k, none⟩ = some (.string (D2 k)))
    (r1 : ∀ k, k < n1 → -128 ≤ D1 k ∧ D1 k ≤ 127) :
    Calls Try.prog 4 #[.slice A1 n1 cap1, .slice A2 n2 cap2] w fun e w' => e = .returned (.bool true) ∧ Below w.heap.size w w' := by
  obtain ⟨i0, hi, hz0, hz1, hz2⟩ := info_parts infoL
  have HA1 := Lib.hid hA1
  have R1 := Lib.hid r1
  have HA2 := Lib.hid hA2
  clear hA1 r1 hA2
  go_enter Try.func4, Try.ntmps4
  go_wp2_with (go_at_call 7; refine (HO.new (lt := ltO) _).mono ?_; rintro e w1 ⟨rfl, j1, b1⟩; have I1 := Lib.hid j1; have B1 := Lib.hid b1; have z1 : w.heap.size < w1.heap.size := j1.size; clear j1 b1)
  clear hmin1
  go_loopw [6, 29] (fun lv iv wr => Sor1 m1 w wr lv iv) (fun _ iv _ => m1 - (intOf iv).toNat)
  case atStart => exact ⟨0, _, [], rfl, by omega, ⟨I1.out, ⟨Nat.le_refl _, B1.out, Nat.le_refl _, fun b hb => by simp [Value.ownBlock] at hb⟩, World.ownsRow_nil _ _ _ _⟩, Good.nil _, rfl⟩
  case round =>
    clear I1 B1
    obtain ⟨k, v, K, rfl, hk, hF, hG, hLn⟩ := hrel
    have F := Lib.hid hF
    have G := Lib.hid hG
    have LN := Lib.hid hLn
    clear hF hG hLn
    by_cases hlt : k < m1
    · obtain ⟨b, o, hAe, hbw, hcell⟩ := HA1.out (by omega)
      subst hAe
      have d0 := (F.out.m1.below.cell (p := ⟨b, o + k, none⟩) hbw).trans (hcell k (by omega))
      have hy := R1.out k (by omega)
      have hyl := hy.1
      have hyh := hy.2
      clear hcell hy
      generalize D1 k = y at *
      have hsn : Hid (Good 0 (K ++ [(y, (k : Int))])) := by
        have h := G.out.snoc y (by omega) (by omega)
        rw [LN.out] at h
        exact Lib.hid (by simpa using h)
      have hkl : K.length ≤ 1000000 := by have := LN.out; omega
      have hbr : b < wr.heap.size := by have := F.out.m1.below.size; omega
      have hwr := F.out.m1.below.size
      go_wp2_with (first
        | (go_at_call 13; (with_reducible refine (pushX (F.out.below ((Below.refl _ _).alloc (Nat.le_refl _) _)).i1 (by omega) y (k : Int)).mono ?_); rintro e w3 ⟨rfl, v3, i3, o3, f3⟩; have nf : ¬ HO.Foot w.heap.size v wr.heap.size := (fun e => by have := F.out.i1.foot _ e; omega); have z3 : wr.heap.size < w3.heap.size := (by have := o3.size; simp at this; omega); have p0 : w3.cell? ⟨wr.heap.size, 0, none⟩ = some (.int .i64 y) := (by rw [o3.cell _ (by simp) nf]; go_simp); have p1 : w3.cell? ⟨wr.heap.size, 1, none⟩ = some (.int .i64 (k : Int)) := (by rw [o3.cell _ (by simp) nf]; go_simp); have F3 := Lib.hid ((F.out.below ((Below.refl _ _).alloc (Nat.le_refl _) _)).push i3 o3 f3); have hw3 : w.heap.size ≤ w3.heap.size := (by omega); clear i3 o3 f3 nf)
        | (at_builtin; refine wpList_append_fresh rfl (.tmp 41) (.tmp 43) 28 rfl w.heap.size 26 i0 (.agg #[.int .i64 0, .int .i64 0]) 2 16 Try.underlying28 hi hz0 hz1 hz2 rfl (by decide) _ _ _ rfl (F3.out.rl.alloc _) ⟨w3.heap.size, 0, none⟩ 1 1 (encL (y, (k : Int))) rfl rfl (newsL _ _ _) (encL_one _) (by unfold maxLen; omega) (by omega) (by simp; omega) ?_; intro v' w4 hown hgrow hfr; have o4 : Out (fun b => u6.ownBlock = some b) w3 w4 := ((Out.refl _ w3).alloc _).grown hgrow (fun _ _ e => e); have F4 := Lib.hid (F3.out.list o4 (OwnL.snoc hown)); obtain ⟨g4, c4, rfl, _, _, _⟩ := ownsRow_form hown (by omega); clear o4; clear hown hgrow hfr))
      go_roundw
      case rel => exact ⟨k + 1, _, K ++ [(y, (k : Int))], by go_num, by omega, F4.out, hsn.out, by simp; exact LN.out⟩
      case measure => simp [intOf]; omega
    · obtain rfl : m1 = k := by omega
      clear hlt hk
      obtain ⟨ao6, c6, hu6⟩ := ownsRow_slice F.out.rl
      subst hu6
      have hK6 : K.length ≤ 200 := by rw [LN.out]; exact hk1
      have hwr := F.out.m1.below.size
      go_wp2_with (go_at_call 16; (with_reducible refine (sortAny cmp0 w.heap.size _ K _ F.out.rl G.out.bd G.out.pc (by omega)).mono ?_); intro e w9 ho; obtain ⟨rfl, X, f9, s9, l9⟩ := F.out.sorted G.out.pc ho; have F9 := Lib.hid f9; have S9 := Lib.hid s9; have L9 := Lib.hid l9; clear ho f9 s9 l9)
      go_loopw [50] (fun iv wr => Sor2 m1 (.slice ao6 K.length c6) X w wr iv) (fun iv _ => K.length - (intOf iv).toNat)
      case atStart => exact ⟨0, v, K, rfl, by omega, F9.out, by simpa using S9.out⟩
      case round =>
        clear F9 S9 F G
        obtain ⟨k, v3, R, rfl, hk, hD, hP⟩ := hrel
        have D := Lib.hid hD
        have PQ := Lib.hid hP
        have hwq := hD.m1.below.size
        clear hD hP
        have hl9 := L9.out
        generalize K.length = N at *
        obtain rfl : N = X.length := hl9.symm
        clear hl9
        by_cases hlt : k < X.length
        · have hkx : k < X.length := hlt
          obtain ⟨gx, cp, hu, _, hgx, _⟩ := ownsRow_form D.out.rl (by omega)
          simp only [Value.slice.injEq, true_and] at hu
          obtain ⟨rfl, rfl⟩ := hu
          have hP2 := PQ.out
          rw [List.drop_eq_getElem_cons hkx] at hP2
          obtain ⟨a, ha, hx, hs⟩ := hP2.inv
          have hxk : X.getD k default = X[k] := by simp [List.getD_eq_getElem?_getD, hkx]
          generalize X[k] = x at *
          have l0 : wr.cell? ⟨gx, k * 2, none⟩ = some (.int .i64 x.1) := by have := cellsL D.out.rl rfl k hkx 0 (by omega); rw [hxk] at this; exact this
          have l1 : wr.cell? ⟨gx, k * 2 + 1, none⟩ = some (.int .i64 x.2) := by have := cellsL D.out.rl rfl k hkx 1 (by omega); rw [hxk] at this; exact this
          have HA := Lib.hid ha
          have HX := Lib.hid hx
          have HS := Lib.hid hs
          have hR0 : 0 < R.length := by have := ha.1; omega
          clear ha hx hs hP2 hxk
          have NF : Hid (¬ HO.Foot w.heap.size v3 wr.heap.size) := Lib.hid (fun e => by have := D.out.i1.foot _ e; omega)
          have B2 := Lib.hid ((Below.refl wr.heap.size wr).alloc (Nat.le_refl _) (.cells #[.int .i64 x.1, .int .i64 x.2] 26))
          go_wp2_with (go_at_call 10; (with_reducible refine (HO.pop_some lessO _ _ _ _ _ (D.out.below B2.out).i1 (by omega) a HA.out x HX.out).mono ?_); rintro e w10 ⟨rfl, v4, i4, o4, f4⟩; have D4 := Lib.hid ((D.out.below B2.out).push i4 o4 f4); have z10 : wr.heap.size < w10.heap.size := (by have := o4.size; simp at this; omega); have p0 : w10.cell? ⟨wr.heap.size, 0, none⟩ = some (.int .i64 x.1) := (by rw [o4.cell _ (by simp) NF.out]; go_simp); have p1 : w10.cell? ⟨wr.heap.size, 1, none⟩ = some (.int .i64 x.2) := (by rw [o4.cell _ (by simp) NF.out]; go_simp); clear i4 o4 f4)
          go_roundw
          case rel =>
            have B10 := (Below.refl w10.heap.size w10).alloc (Nat.le_refl _) (.cells #[.int .i64 x.1, .int .i64 x.2] 26)
            exact ⟨k + 1, v4, _, by go_num, by omega, D4.out.below B10, HS.out⟩
          case measure => simp [intOf]; omega
        · obtain rfl : k = X.length := by omega
          have hR : R = [] := by
            have h := PQ.out
            rw [List.drop_length] at h
            have := h.len
            exact List.eq_nil_of_length_eq_zero (by simpa using this.symm)
          subst hR
          clear PQ hlt hk
          go_wp2_with (first
            | (go_at_call 18; refine (HS.new (lt := gtS) _).mono ?_; rintro e w1 ⟨rfl, j1, b1⟩; have JS := Lib.hid j1; have BS := Lib.hid b1; have zs : wr.heap.size < w1.heap.size := j1.size; clear j1 b1)
            | (go_at_call 20; have HC : 0 < m2 → ∃ b o, A2 = some ⟨b, o, none⟩ ∧ ∀ k, k < m2 → w1.cell? ⟨b, o + k, none⟩ = some (.string (D2 k)) := (fun h => by
                obtain ⟨b, o, e, hb, hc⟩ := HA2.out (by omega)
                exact ⟨b, o, e, fun k hk => ((BS.out.cell (p := ⟨b, o + k, none⟩) (Nat.lt_of_lt_of_le hb hwq)).trans (D.out.m1.below.cell (p := ⟨b, o + k, none⟩) hb)).trans (hc k (by omega))⟩); refine (cloneW A2 m2 cap2 D2 _ (by omega) HC).mono ?_; rintro e w2 ⟨lv2, rfl, ho, hb2⟩; generalize hss : (List.range m2).map (fun k => (D2 k).toList) = ss at ho; have hsl : ss.length ≤ 50 := (by rw [← hss]; simpa using hk2); obtain ⟨aoW, cW, rfl⟩ := ownsRow_slice ho; have DW : Hid (DuoW wr w2 wr.heap.size (.slice none 0 0) [] 0 (.slice aoW ss.length cW) ss) := ⟨JS.out.below hb2, ⟨Nat.le_refl _, BS.out.trans (hb2.mono (by omega)), Nat.le_refl _, fun b hb => by simp [Value.ownBlock] at hb⟩, ownsRow_base ho (by omega)⟩; clear hss ho hb2 HC))
          clear hmin2
          obtain ⟨wb, rfl⟩ : ∃ W, W = wr := ⟨_, rfl⟩
          go_loopw [76] (fun iv wr => Sor3 wb.heap.size (.slice aoW ss.length cW) ss wb wr iv) (fun iv _ => ss.length - (intOf iv).toNat)
          case atStart => exact ⟨0, _, rfl, by omega, by simpa using DW.out⟩
          case round =>
            obtain ⟨k, vw, rfl, hk, hE⟩ := hrel
            have E := Lib.hid hE
            have hzq := hE.m1.below.size
            clear hE DW
            by_cases hlt : k < ss.length
            · obtain ⟨gy, cq, hu, _, hgy, _⟩ := ownsRow_form E.out.rl (by omega)
              simp only [Value.slice.injEq, true_and] at hu
              obtain ⟨rfl, rfl⟩ := hu
              have c0 : wr.cell? ⟨gy, k, none⟩ = some (.string ⟨(ss[k]).toArray⟩) := by
                rw [E.out.rl.cellAt _ (by simpa using hlt)]
                simp [hlt]
              have ht : Hid ((ss.take (k + 1)).map (fun l => (⟨l.toArray⟩ : ByteArray)) = (ss.take k).map (fun l => (⟨l.toArray⟩ : ByteArray)) ++ [⟨(ss[k]).toArray⟩]) := Lib.hid (by rw [List.take_succ_eq_append_getElem hlt, List.map_append]; rfl)
              generalize (⟨(ss[k]).toArray⟩ : ByteArray) = x at *
              go_wp2_with (go_at_call 21; refine (HS.push lessG _ _ _ _ x _ E.out.i1 (by omega)).mono ?_; rintro e w3 ⟨rfl, v3', i3, o3, f3⟩; have E3 := Lib.hid (E.out.push i3 o3 f3); clear i3 o3 f3)
              go_roundw
              case rel => exact ⟨k + 1, _, by go_num, by omega, by rw [ht.out]; exact E3.out⟩
              case measure => simp [intOf]; omega
            · obtain rfl : k = ss.length := by omega
              clear hlt hk
              have hPW := Lib.hid (pops_words ss)
              go_wp2_with (first
                | (go_at_call 22; refine (sortW wb.heap.size _ ss _ E.out.rl (by omega)).mono ?_; rintro e w4 ⟨rfl, r4, g4⟩; have E4 := Lib.hid (E.out.list g4 r4); clear r4 g4)
                | (go_at_call 23; refine (revW wb.heap.size _ _ _ E4.out.rl (by simp; omega)).mono ?_; rintro e w5 ⟨rfl, r5, g5⟩; have E5 := Lib.hid (E4.out.list g5 r5); clear r5 g5))
              generalize hRS : (ss.mergeSort fun x y => decide (x ≤ y)).reverse = rs at *
              have hrl : rs.length ≤ 50 := by rw [← hRS]; simpa using hsl
              have hrg : ss.length ≤ rs.length := by rw [← hRS]; simp
              clear hRS
              go_loopw [90] (fun iv wr => Sor4 wb.heap.size ss.length (.slice aoW ss.length cW) rs wb wr iv) (fun iv _ => rs.length - (intOf iv).toNat)
              case atStart => exact ⟨0, vw, _, rfl, by omega, E5.out, by simpa using hPW.out⟩
              case round =>
                clear E5 E4 E hPW
                obtain ⟨k, v5, R, rfl, hk, hE, hP⟩ := hrel
                have E := Lib.hid hE
                have PQ := Lib.hid hP
                have hzr := hE.m1.below.size
                clear hE hP
                by_cases hlt : k < rs.length
                · obtain ⟨gy, cq, hu, _, hgy, _⟩ := ownsRow_form E.out.rl (by omega)
                  simp only [Value.slice.injEq] at hu
                  obtain ⟨rfl, hnn, rfl⟩ := hu
                  have c0 : wr.cell? ⟨gy, k, none⟩ = some (.string ⟨(rs[k]).toArray⟩) := by
                    have h := E.out.rl
                    unfold OwnW at h
                    rw [← hnn] at h
                    rw [h.cellAt _ (by omega)]
                    simp [hlt]
                  have HNN := Lib.hid hnn
                  have hrs6 : k < 50 := by omega
                  have hks : k < ss.length := by omega
                  clear hnn
                  have hP2 := PQ.out
                  rw [List.drop_eq_getElem_cons hlt, List.map_cons] at hP2
                  generalize (⟨(rs[k]).toArray⟩ : ByteArray) = x at *
                  obtain ⟨a, ha, hx, hs⟩ : ∃ a, First gtS R a ∧ R.getD a default = x ∧ PopSeq gtS (R.eraseIdx a) ((rs.drop (k + 1)).map fun l => (⟨l.toArray⟩ : ByteArray)) := by
                    generalize hX : x :: (rs.drop (k + 1)).map (fun l => (⟨l.toArray⟩ : ByteArray)) = Y at hP2
                    cases hP2 with
                    | nil => cases hX
                    | cons a hf hs =>
                      injection hX with e1 e2
                      subst e2
                      exact ⟨a, hf, e1.symm, hs⟩
                  have HA := Lib.hid ha
                  have HX := Lib.hid hx
                  have HS' := Lib.hid hs
                  clear ha hx hs hP2
                  go_wp2_with (go_at_call 24; refine (HS.pop_some lessG _ _ _ _ _ E.out.i1 (by omega) a HA.out x HX.out).mono ?_; rintro e w6 ⟨rfl, v6, i6, o6, f6⟩; have E6 := Lib.hid (E.out.push i6 o6 f6); clear i6 o6 f6)
                  go_roundw
                  case rel => exact ⟨k + 1, v6, _, by go_num, by omega, E6.out, HS'.out⟩
                  case measure => simp [intOf]; omega
                · obtain rfl : k = rs.length := by omega
                  have hR : R = [] := by
                    have h := PQ.out
                    rw [List.drop_length] at h
                    have := h.len
                    exact List.eq_nil_of_length_eq_zero (by simpa using this.symm)
                  subst hR
                  clear PQ hlt hk
                  have hdec : decide (rs.length < ss.length) = false := by simp; omega
                  go_wp2_with (first
                    | (go_at_call 15; refine (wakes _).mono ?_; rintro e w7 ⟨rfl, b7⟩; have I7 := Lib.hid ((D.out.i1.below E.out.m1.below).below b7); have E7 := Lib.hid (E.out.below b7); have z7 : wr.heap.size ≤ w7.heap.size := b7.size; have B7 := Lib.hid b7; clear b7)
                    | (go_at_call 14; (with_reducible refine (lenX I7.out 0 rfl).mono ?_); rintro e w8 ⟨rfl, rfl⟩)
                    | (go_at_call 25; (with_reducible refine (lenW E7.out.i1 0 rfl).mono ?_); rintro e w8 ⟨rfl, rfl⟩))
                  go_ret
                  exact ⟨rfl, D.out.m1.below.trans (E7.out.m1.below.mono (by omega))⟩
end Go.Proofs.Ytlhmlejkfgejiaa
