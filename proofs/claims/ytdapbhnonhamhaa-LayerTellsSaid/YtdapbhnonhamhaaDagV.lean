/-
  The reference's Order answers what the program's does. Conditions: none.
-/
import Derived.Test.YtdapbhnonhamhaaDagU
namespace Go.Proofs.Ytdapbhnonhamhaa
open Go.RowKit Go.Proofs.Ytdapbhnonhamhaa.DagM

theorem newsNb (w : World) (t : TypeId) (x b : Nat) (hb : w.heap.size = b) : ∀ j z, [encNat x][j]? = some z → (w.alloc (.cells #[.int .i64 (x : Int)] t)).cell? ((⟨b, 0, none⟩ : Addr).add j) = some z := by
  subst hb
  exact newsN w t x
set_option maxHeartbeats 8000000 in
set_option maxRecDepth 100000 in
theorem refOrder (n : Int) (v : Value) (L : List Arc) (w : World) (hA : ArcsAt w v L) :
    Calls Try.prog 10 #[.int .i64 n, v] w (Ordered n L w) := by
  have HA := Lib.hid hA
  cases hm : mayB n L with
  | false =>
    have e1 : ordErr n L = 2 := by unfold ordErr; rw [hm]; rfl
    have e2 : ordRes n L = [] := by unfold ordRes; rw [hm]; rfl
    have HM := Lib.hid hm
    have E1 := Lib.hid e1
    have E2 := Lib.hid e2
    clear hm e1 e2 hA
    go_enter Try.func10, Try.ntmps10
    go_wp2_with (go_at_call 27; refine (right n v L _ HA.out).mono ?_; rintro e w1 ⟨rfl, b1⟩; rw [HM.out]; have B1 := Lib.hid b1; clear b1)
    go_ret2
    refine ⟨.slice none 0 0, by rw [E1.out]; rfl, ?_, B1.out⟩
    rw [E2.out]
    exact World.ownsRow_nil _ _ _ _
  | true =>
    have hM := (mayB_iff n L).1 hm
    obtain ⟨N, rfl⟩ : ∃ N : Nat, n = (N : Int) := ⟨n.toNat, by have := hM.n0; omega⟩
    have hN : N ≤ 4096 := by have := hM.n1; omega
    have hLl := hM.len
    have HM := Lib.hid hm
    have MY := Lib.hid hM
    have hmk := mkBools N hN
    have ER : Hid ((topo (ends L) N).length < N → ordErr N L = 11 ∧ ordRes N L = []) := Lib.hid (fun hl => ⟨by rw [ordErr_ok MY.out]; simp [hl], by unfold ordRes; rw [HM.out]; simp [hl]⟩)
    have OK : Hid (¬ (topo (ends L) N).length < N → ordErr N L = 0 ∧ ordRes N L = topo (ends L) N) := Lib.hid (fun hl => ⟨by rw [ordErr_ok MY.out]; simp [hl], by unfold ordRes; rw [HM.out]; simp [hl]⟩)
    obtain ⟨i0, hi, hz0, hz1, hz2⟩ := info_parts infoI
    clear hm hM
    obtain ⟨A, cap, rfl, hcap, -⟩ := hA
    go_enter Try.func10, Try.ntmps10
    go_wp2_with (go_at_call 27; refine (right N _ L _ HA.out).mono ?_; rintro e w1 ⟨rfl, b1⟩; rw [HM.out]; have B1 := Lib.hid b1; have hzw : w.heap.size ≤ w1.heap.size := b1.size; clear b1)
    clear hmk
    go_loopw [8] (fun lv wr => RoRel (ends L) N w1.heap.size w wr lv) (fun lv _ => left N lv)
    case atStart =>
      refine ⟨[], ⟨B1.out.alloc hzw _, hzw, ?_, World.ownsRow_nil _ _ _ _⟩, gr_nil⟩
      have h := World.ownsRow_lit w1 (base := w.heap.size) (e := 4) (size := 1) (madeCells #[.bool false] N) N hzw (by unfold maxLen; omega) (by simp [size_madeCells])
      rw [toList_madeCells_one, made_map] at h
      exact h
    case round =>
      clear B1
      obtain ⟨P, hR, hG⟩ := hrel
      have R := Lib.hid hR
      have G := Lib.hid hG
      have hPl := gr_len hG
      have hwz := hR.below.size
      obtain ⟨ao, cp, hu⟩ := hR.ord.form
      subst hu
      clear hR hG
      by_cases hlt : P.length < N
      · go_wp2
        go_loop [9, 10] (fun nv vv => ScRel (ends L) P N nv vv) (fun _ vv => (intOf vv + 1).toNat)
        case atStart => exact ⟨N, _, Nat.le_refl _, rfl, rfl, by rw [scan_end]⟩
        case round =>
          obtain ⟨k, z, hk, hz, rfl, rfl⟩ := hrel
          by_cases hk0 : 0 < k
          · obtain ⟨k', rfl⟩ : ∃ k', k = k' + 1 := ⟨k - 1, by omega⟩
            obtain rfl : z = (k' : Int) := by omega
            have hkN : k' < N := by omega
            have SC := Lib.hid (scan_step (ends L) P N k' hkN)
            have FO := Lib.hid (free_okA L P k')
            have g0 := R.out.cell hkN
            clear hz hk0
            go_wp2
            go_loop [11, 12] (fun fv iv => FrRel L P k' fv iv) (fun _ iv => L.length - (intOf iv).toNat)
            case atStart => exact ⟨0, by omega, rfl, by simp⟩
            case round =>
              obtain ⟨i, hi', rfl, rfl⟩ := hrel
              generalize hbv : (!P.contains k' && (L.take i).all (okA P k')) = bv at *
              have HBV := Lib.hid hbv
              clear hbv
              by_cases hil : i < L.length
              · cases bv with
                | false =>
                  have e : free (ends L) P k' = false := by
                    rw [FO.out]
                    have h := HBV.out
                    cases hc : P.contains k' with
                    | true => rfl
                    | false =>
                      rw [hc] at h
                      rw [all_part (by simpa using h)]
                      rfl
                  have FE := Lib.hid e
                  clear e
                  go_wp2
                  go_round
                  case rel => exact ⟨k', (k' : Int) - 1, by omega, rfl, rfl, by rw [SC.out, FE.out]; rfl⟩
                  case measure => (simp [intOf] <;> omega)
                | true =>
                  obtain ⟨A', cap', e, _, hA⟩ := HA.out
                  simp only [Value.slice.injEq, true_and] at e
                  obtain ⟨rfl, rfl⟩ := e
                  obtain ⟨b, o, rfl, hb, hcell⟩ := hA (by omega)
                  obtain ⟨c0, c1, c2⟩ := hcell i hil
                  have d0 := (R.out.below.cell (p := ⟨b, o + i * 3, none⟩) hb).trans c0
                  have d1 := (R.out.below.cell (p := ⟨b, o + i * 3 + 1, none⟩) hb).trans c1
                  have ok := MY.out.ok L[i] (List.getElem_mem hil)
                  have AT := Lib.hid (all_take (okA P k') L i hil)
                  clear hA hcell c0 c1 c2
                  generalize L[i] = a at *
                  obtain ⟨f, t, z⟩ := a
                  obtain ⟨f, rfl⟩ : ∃ u : Nat, f = (u : Int) := ⟨f.toNat, by simp only at ok; omega⟩
                  obtain ⟨t, rfl⟩ : ∃ u : Nat, t = (u : Int) := ⟨t.toNat, by simp only at ok; omega⟩
                  simp only at ok d0 d1
                  have hfN : f < N := by omega
                  clear ok
                  have g1 := R.out.cell hfN
                  have hbt : (!P.contains k') = true ∧ (L.take i).all (okA P k') = true := by
                    have := HBV.out
                    simpa only [Bool.and_eq_true] using this
                  have HT := Lib.hid hbt
                  clear hbt
                  by_cases htk : t = k'
                  · subst htk
                    go_wp2
                    go_round
                    case rel => exact ⟨i + 1, by omega, by go_num, by rw [AT.out, HT.out.1, HT.out.2]; simp [okA, okE]⟩
                    case measure => (simp [intOf] <;> omega)
                  · have hb1 : (t != k') = true := by simpa using htk
                    have hb2 : ((t : Int) != (k' : Int)) = true := by simp; omega
                    go_wp2
                    go_round
                    case rel => exact ⟨i + 1, by omega, by go_num, by rw [AT.out, HT.out.1, HT.out.2]; simp [okA, okE, htk]⟩
                    case measure => (simp [intOf] <;> omega)
              · obtain rfl : i = L.length := by omega
                have hfb : free (ends L) P k' = bv := by
                  rw [FO.out]
                  have h := HBV.out
                  rw [List.take_length] at h
                  exact h
                have FE := Lib.hid hfb
                clear hfb
                cases bv with
                | false =>
                  go_wp2
                  go_round
                  case rel => exact ⟨k', (k' : Int) - 1, by omega, rfl, rfl, by rw [SC.out, FE.out]; rfl⟩
                  case measure => (simp [intOf] <;> omega)
                | true =>
                  go_wp2
                  go_round
                  case rel => exact ⟨k', (k' : Int) - 1, by omega, rfl, rfl, by rw [SC.out, FE.out]; rfl⟩
                  case measure => (simp [intOf] <;> omega)
          · obtain rfl : k = 0 := by omega
            obtain rfl : z = -1 := by omega
            clear hz hk0
            rcases scan_zero (ends L) P N with ⟨hs, hn⟩ | ⟨u, hu, hs, hn⟩
            · have T := Lib.hid (topo_uniq G.out hn)
              rw [hs]
              clear hs hn
              go_wp2
              go_ret2
              have hx := ER.out (by rw [← T.out]; exact hlt)
              refine ⟨.slice none 0 0, by rw [hx.1]; rfl, ?_, R.out.below⟩
              rw [hx.2]
              exact World.ownsRow_nil _ _ _ _
            · have NX := Lib.hid hn
              rw [hs]
              clear hs hn
              have e0 := R.out.cell hu
              have e1 := R.out.come.frozenAt u
              have hgl : w1.heap.size < wr.heap.size := (R.out.come.lt w1.heap.size rfl).2
              have PU := Lib.hid (R.out.put u)
              go_wp2_with (at_builtin; refine wpList_append_fresh rfl (.tmp 68) (.tmp 70) 26 rfl w.heap.size 3 i0 (.int .i64 0) 1 8 Try.underlying26 hi hz0 hz1 hz2 rfl (by decide) _ _ _ rfl (PU.out.ord.alloc _) ⟨wr.heap.size, 0, none⟩ 1 1 [encNat u] rfl rfl (newsNb _ _ u _ (by simp)) (oneN _) (by unfold maxLen; omega) (by omega) (by simp; omega) ?_; intro v4 w4 hown hgrow hfr; have R4 := Lib.hid ((PU.out.quiet ((Below.refl _ _).alloc (Nat.le_refl _) _)).app hgrow (OwnN.snoc hown)); obtain ⟨g4, c4, rfl, _, _, _⟩ := ownsRow_form hown (by omega); clear hown hgrow hfr)
              go_roundw
              case rel =>
                have h := R4.out
                rw [contains_snoc] at h
                exact ⟨P ++ [u], h, gr_snoc G.out NX.out⟩
              case measure => simp [left]; omega
      · have hPN : P.length = N := by omega
        have T := Lib.hid (topo_uniq G.out (gr_full G.out hPN))
        have hx := OK.out (by rw [← T.out]; omega)
        have HX := Lib.hid hx
        clear hx hPN
        go_wp2
        go_ret2
        refine ⟨.slice ao P.length cp, by rw [HX.out.1]; rfl, ?_, R.out.below⟩
        rw [HX.out.2, ← T.out]
        exact R.out.ord
end Go.Proofs.Ytdapbhnonhamhaa
