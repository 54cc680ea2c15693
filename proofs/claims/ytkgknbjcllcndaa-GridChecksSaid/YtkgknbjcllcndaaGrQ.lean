/-
  That the reference's Crossed answers something. Conditions: at most 100000 cells; each edge to the right or above leads to a cell.
-/
import Derived.Test.YtkgknbjcllcndaaGrQb
namespace Go.Proofs.Ytkgknbjcllcndaa
open Go.RowKit Go.Proofs.Ytkgknbjcllcndaa.GrM

def RxRel (n : Nat) (w wr : World) (av : Value) : Prop := ∃ k : Nat, av = .int .i64 k ∧ k ≤ n ∧ Below w.heap.size w wr
def RxIn (w wr : World) (dv : Value) : Prop := ∃ d : Nat, dv = .int .i64 d ∧ d ≤ 2 ∧ Below w.heap.size w wr
set_option maxHeartbeats 16000000 in
set_option maxRecDepth 100000 in
theorem refCrossed (pv lv : Value) (P : List (Int × Int)) (L : List Int) (n i x : Nat) (w : World) (hP : PtsAt w pv P) (hL : CelAt w lv L n) (hp : P.length = n) (hi : i < n) (hx : x < n) (hn : n ≤ 100000) (hr : ∀ v d, v < n → d < 2 → nxG L v d < n) :
    Calls Try.prog 35 #[pv, lv, .int .i64 i, .int .i64 x] w fun r w' => (∃ t : Bool, r = .returned (.bool t)) ∧ Below w.heap.size w w' := by
  obtain ⟨A0, c0, e, hcap, hA⟩ := hP
  subst e
  rw [hp] at hcap hA ⊢
  obtain ⟨b, o9, e, hb, hA2⟩ := hA (by omega)
  clear hA
  subst e
  have HA := Lib.hid hA2
  have HL := Lib.hid hL
  have HR := Lib.hid hr
  obtain ⟨A1, c1, e⟩ := hL.form
  subst e
  obtain ⟨hxi, hyi⟩ := hA2 i hi
  obtain ⟨hxx, hyx⟩ := hA2 x hx
  clear hA2 hL hr hp
  go_enter Try.func35, Try.ntmps35
  go_wp2
  go_loopw [9] (fun av wr => RxRel n w wr av) (fun av _ => n - (intOf av).toNat)
  case atStart => exact ⟨0, rfl, Nat.zero_le _, Below.refl _ _⟩
  case round =>
    obtain ⟨k, rfl, hk, hB⟩ := hrel
    have B := Lib.hid hB
    clear hB
    obtain ⟨wo, hwo⟩ : ∃ W, W = wr := ⟨_, rfl⟩
    subst hwo
    by_cases hlt : k < n
    · go_wp2
      go_loopw [10] (fun dv wr => RxIn w wr dv) (fun dv _ => 2 - (intOf dv).toNat)
      case atStart => exact ⟨0, rfl, Nat.zero_le _, B.out⟩
      case round =>
        clear B
        obtain ⟨d, rfl, hd, hB⟩ := hrel
        have B := Lib.hid hB
        clear hB
        by_cases hd2 : d < 2
        · have ry := HR.out k d hlt hd2
          obtain ⟨b1, o1, c', e, hb1, hnx, -⟩ := HL.out.nth hlt
          simp only [Value.slice.injEq, true_and] at e
          obtain ⟨e1, e2⟩ := e
          subst e1
          obtain ⟨cc, hcc⟩ : ∃ x, x = c1 := ⟨_, rfl⟩
          rw [← hcc] at HL ⊢
          clear e2 hcc
          have f1 : wr.cell? ⟨b1, o1 + k * 8 + d, none⟩ = some (.int .i64 (nxG L k d)) := (B.out.cell (p := ⟨b1, o1 + k * 8 + d, none⟩) hb1).trans (hnx d (by omega))
          clear hnx
          generalize nxG L k d = y at *
          have z1 := Nat.lt_of_lt_of_le hb B.out.size
          have z2 := Nat.lt_of_lt_of_le hb1 B.out.size
          rcases Int.lt_or_le y 0 with g1 | g1
          · have r1 : decide (y < 0) = true := by rw [decide_eq_true_eq]; exact g1
            clear g1
            go_wp2
            go_roundw
            case rel => exact ⟨d + 1, by go_num, by omega, B.out⟩
            case measure => (simp [intOf] <;> omega)
          · obtain ⟨j, rfl⟩ : ∃ j : Nat, y = (j : Int) := ⟨y.toNat, by omega⟩
            have hj : j < n := by omega
            have r1 : decide ((j : Int) < 0) = false := by rw [decide_eq_false_iff_not]; omega
            obtain ⟨hxk, hyk⟩ := HA.out k hlt
            obtain ⟨hxj, hyj⟩ := HA.out j hj
            have fxi := (B.out.cell (p := ⟨b, o9 + i * 2, none⟩) hb).trans hxi
            have fyi := (B.out.cell (p := ⟨b, o9 + i * 2 + 1, none⟩) hb).trans hyi
            have fxx := (B.out.cell (p := ⟨b, o9 + x * 2, none⟩) hb).trans hxx
            have fyx := (B.out.cell (p := ⟨b, o9 + x * 2 + 1, none⟩) hb).trans hyx
            have fxk := (B.out.cell (p := ⟨b, o9 + k * 2, none⟩) hb).trans hxk
            have fyk := (B.out.cell (p := ⟨b, o9 + k * 2 + 1, none⟩) hb).trans hyk
            have fxj := (B.out.cell (p := ⟨b, o9 + j * 2, none⟩) hb).trans hxj
            have fyj := (B.out.cell (p := ⟨b, o9 + j * 2 + 1, none⟩) hb).trans hyj
            clear hxk hyk hxj hyj ry g1
            generalize (P.getD i (0, 0)).1 = xi at *
            generalize (P.getD i (0, 0)).2 = yi at *
            generalize (P.getD x (0, 0)).1 = xx at *
            generalize (P.getD x (0, 0)).2 = yx at *
            generalize (P.getD k (0, 0)).1 = xk at *
            generalize (P.getD k (0, 0)).2 = yk at *
            generalize (P.getD j (0, 0)).1 = xj at *
            generalize (P.getD j (0, 0)).2 = yj at *
            go_upto_region 11 with (fail)
            obtain ⟨wa, hwa⟩ : ∃ W, W = ((wr.alloc (.cells #[.int .i64 xk, .int .i64 yk] 75)).alloc (.cells #[.int .i64 xj, .int .i64 yj] 75)) := ⟨_, rfl⟩
            have BA : Hid (Below wr.heap.size wr wa) := Lib.hid (by rw [hwa]; exact ((Below.refl _ _).alloc (Nat.le_refl _) _).alloc (by simp) _)
            have za : wa.heap.size = wr.heap.size + 2 := by rw [hwa]; simp
            have b0 : wa.cell? ⟨wr.heap.size, 0, none⟩ = some (.int .i64 xk) := by rw [hwa]; go_simp
            have b1 : wa.cell? ⟨wr.heap.size, 1, none⟩ = some (.int .i64 yk) := by rw [hwa]; go_simp
            have b2 : wa.cell? ⟨wr.heap.size + 1, 0, none⟩ = some (.int .i64 xj) := by rw [hwa]; go_simp
            have b3 : wa.cell? ⟨wr.heap.size + 1, 1, none⟩ = some (.int .i64 yj) := by rw [hwa]; go_simp
            rw [← hwa]
            clear hwa
            have gxi := (BA.out.cell (p := ⟨b, o9 + i * 2, none⟩) z1).trans fxi
            have gyi := (BA.out.cell (p := ⟨b, o9 + i * 2 + 1, none⟩) z1).trans fyi
            have gxx := (BA.out.cell (p := ⟨b, o9 + x * 2, none⟩) z1).trans fxx
            have gyx := (BA.out.cell (p := ⟨b, o9 + x * 2 + 1, none⟩) z1).trans fyx
            clear fxi fyi fxx fyx fxk fyk fxj fyj f1 r1
            have z3 : b < wa.heap.size := by omega
            obtain ⟨m, hm⟩ : ∃ m, m = wr.heap.size := ⟨_, rfl⟩
            have hm1 : m < wa.heap.size := by omega
            have hm2 : m + 1 < wa.heap.size := by omega
            have BW : Hid (Below w.heap.size w wa) := Lib.hid (B.out.trans (BA.out.mono B.out.size))
            rw [← hm] at b0 b1 b2 b3 ⊢
            clear za hm z1 z2 BA B
            go_cut [98] from 41 to 97 (fun s wx => ∃ t : Bool, s = .bool t ∧ Below wa.heap.size wa wx)
            case first =>
              refine crA (b := b) (o9 := o9) (n := n) (c0 := c0) (i := i) (x := x) (m := m) (xi := xi) (yi := yi) (xx := xx) (yx := yx) (xk := xk) (yk := yk) (xj := xj) (yj := yj) ⟨hi, hx, b0, b1, b2, b3, gxi, gyi, gxx, gyx⟩ ?_
              intro t v41 v42 v43 v44 v45 v46 v47 v48 v49 v50 v51 v52 v53 v54 v55 v56 v57 v58 v59 v60 v61 v62 v63 v64 v65 v66 v67 v68 v69 v70 v71 v72 v73 v74 v75 v76 v77 v78 v79 v80 v81 v82 v83 v84 v85 v86 v87 v88 v89 v90 v91 v92 v93 v94 v95 v96 v97 w' hw
              dsimp only
              go_wp2_with fail
              go_meet
              exact ⟨t, rfl, hw⟩
            case rest =>
              obtain ⟨t, rfl, hC⟩ := hcut
              obtain ⟨wz, hwz⟩ : ∃ W, W = wc := ⟨_, rfl⟩
              subst hwz
              have BZ : Hid (Below w.heap.size w wz) := Lib.hid (BW.out.trans (hC.mono BW.out.size))
              cases t
              · have c0' := (hC.cell (p := ⟨m, 0, none⟩) hm1).trans b0
                have c1' := (hC.cell (p := ⟨m, 1, none⟩) hm1).trans b1
                have c2' := (hC.cell (p := ⟨m + 1, 0, none⟩) hm2).trans b2
                have c3' := (hC.cell (p := ⟨m + 1, 1, none⟩) hm2).trans b3
                have k0 := (hC.cell (p := ⟨b, o9 + i * 2, none⟩) z3).trans gxi
                have k1 := (hC.cell (p := ⟨b, o9 + i * 2 + 1, none⟩) z3).trans gyi
                have k2 := (hC.cell (p := ⟨b, o9 + x * 2, none⟩) z3).trans gxx
                have k3 := (hC.cell (p := ⟨b, o9 + x * 2 + 1, none⟩) z3).trans gyx
                have z4 := Nat.lt_of_lt_of_le z3 hC.size
                clear b0 b1 b2 b3 gxi gyi gxx gyx hC BW z3
                go_upto_region 13 with (fail)
                go_cut [156] from 99 to 155 (fun s wx => ∃ t : Bool, s = .bool t ∧ Below wz.heap.size wz wx)
                case first =>
                  refine crB (b := b) (o9 := o9) (n := n) (c0 := c0) (i := i) (x := x) (m := m) (xi := xi) (yi := yi) (xx := xx) (yx := yx) (xk := xk) (yk := yk) (xj := xj) (yj := yj) ⟨hi, hx, c0', c1', c2', c3', k0, k1, k2, k3⟩ ?_
                  intro t v99 v100 v101 v102 v103 v104 v105 v106 v107 v108 v109 v110 v111 v112 v113 v114 v115 v116 v117 v118 v119 v120 v121 v122 v123 v124 v125 v126 v127 v128 v129 v130 v131 v132 v133 v134 v135 v136 v137 v138 v139 v140 v141 v142 v143 v144 v145 v146 v147 v148 v149 v150 v151 v152 v153 v154 v155 w' hw
                  dsimp only
                  go_wp2_with fail
                  go_meet
                  exact ⟨t, rfl, hw⟩
                case rest =>
                  obtain ⟨t, rfl, hC⟩ := hcut
                  obtain ⟨wy, hwy⟩ : ∃ W, W = wc := ⟨_, rfl⟩
                  subst hwy
                  have BY : Hid (Below w.heap.size w wy) := Lib.hid (BZ.out.trans (hC.mono BZ.out.size))
                  clear hC
                  cases t
                  · go_wp2_with fail
                    go_roundw
                    case rel => exact ⟨d + 1, by go_num, by omega, BY.out⟩
                    case measure => (simp [intOf] <;> omega)
                  · go_wp2_with fail
                    go_ret
                    exact ⟨⟨_, rfl⟩, BY.out⟩
              · go_wp2
                go_ret
                exact ⟨⟨_, rfl⟩, BZ.out⟩
        · have hd3 : d = 2 := by omega
          subst hd3
          go_wp2
          go_roundw
          case rel => exact ⟨k + 1, by go_num, by omega, B.out⟩
          case measure => (simp [intOf] <;> omega)
    · have hkn : k = n := by omega
      subst hkn
      go_wp2
      go_ret
      exact ⟨⟨_, rfl⟩, B.out⟩
end Go.Proofs.Ytkgknbjcllcndaa
