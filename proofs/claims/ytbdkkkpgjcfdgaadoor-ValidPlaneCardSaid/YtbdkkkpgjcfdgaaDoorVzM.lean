/-
  What it says that the reference's Crossed answers 'false': no edge that is there crosses the line. Conditions: at most 100000 cells; each edge to the right or above leads to a cell.
  What the reference's Make lays: places on a board of eight by eight, apart; edges to the nearest ones, none across another one. Conditions: at most 100000 bytes a list.
  What the reference's Make lays of places: cells drawn on the board. Conditions: none.
-/
import Derived.Test.YtbdkkkpgjcfdgaaDoorVzQ
import Derived.Test.YtbdkkkpgjcfdgaaDoorVzV
import Derived.Test.YtbdkkkpgjcfdgaaDoorVzO
namespace Go.Proofs.YtbdkkkpgjcfdgaaDoor
open Go.RowKit Go.Proofs.YtbdkkkpgjcfdgaaDoor.GrM

/-- An edge doesn't cross the line from i to x. -/
def NoC1 (P : List (Int × Int)) (L : List Int) (i x k d : Nat) : Prop := ∀ j : Nat, nxG L k d = (j : Int) →
  crT1 (P.getD i (0, 0)).1 (P.getD i (0, 0)).2 (P.getD x (0, 0)).1 (P.getD x (0, 0)).2 (P.getD k (0, 0)).1 (P.getD k (0, 0)).2 (P.getD j (0, 0)).1 (P.getD j (0, 0)).2 = false ∧
  crT2 (P.getD i (0, 0)).1 (P.getD i (0, 0)).2 (P.getD x (0, 0)).1 (P.getD x (0, 0)).2 (P.getD k (0, 0)).1 (P.getD k (0, 0)).2 (P.getD j (0, 0)).1 (P.getD j (0, 0)).2 = false
def VxRel (P : List (Int × Int)) (L : List Int) (i x n : Nat) (w wr : World) (av : Value) : Prop := ∃ k : Nat, av = .int .i64 k ∧ k ≤ n ∧ (∀ a d, a < k → d < 2 → NoC1 P L i x a d) ∧ Below w.heap.size w wr
def VxIn (P : List (Int × Int)) (L : List Int) (i x k : Nat) (w wr : World) (dv : Value) : Prop := ∃ d : Nat, dv = .int .i64 d ∧ d ≤ 2 ∧ (∀ a e, a < k → e < 2 → NoC1 P L i x a e) ∧ (∀ e, e < d → NoC1 P L i x k e) ∧ Below w.heap.size w wr
set_option maxHeartbeats 16000000 in
set_option maxRecDepth 100000 in
theorem refCrossX (pv lv : Value) (P : List (Int × Int)) (L : List Int) (n i x : Nat) (w : World) (hP : PtsAt w pv P) (hL : CelAt w lv L n) (hp : P.length = n) (hi : i < n) (hx : x < n) (hn : n ≤ 100000) (hr : ∀ v d, v < n → d < 2 → nxG L v d < n) :
    Calls Tryd.prog 21 #[pv, lv, .int .i64 i, .int .i64 x] w fun r w' => (∃ t : Bool, r = .returned (.bool t) ∧ (t = false → ∀ a d, a < n → d < 2 → NoC1 P L i x a d)) ∧ Below w.heap.size w w' := by
  obtain ⟨A0, c0, e, hcap, hA⟩ := hP
  subst e
  rw [hp] at hcap hA ⊢
  obtain ⟨b, o9, e, hb, hA2⟩ := hA (by omega)
  clear hA
  subst e
  have HA := Lib.hid hA2
  have HL := Lib.hid hL
  have HR := Lib.hid hr
  obtain ⟨A1, c1, e⟩ := hL.form
  subst e
  obtain ⟨hxi, hyi⟩ := hA2 i hi
  obtain ⟨hxx, hyx⟩ := hA2 x hx
  clear hA2 hL hr hp
  go_enter Tryd.func21, Tryd.ntmps21
  go_wp2
  go_loopw [9] (fun av wr => VxRel P L i x n w wr av) (fun av _ => n - (intOf av).toNat)
  case atStart => exact ⟨0, rfl, Nat.zero_le _, fun a d ha => absurd ha (by omega), Below.refl _ _⟩
  case round =>
    obtain ⟨k, rfl, hk, hno, hB⟩ := hrel
    have B := Lib.hid hB
    have NO := Lib.hid hno
    clear hB hno
    obtain ⟨wo, hwo⟩ : ∃ W, W = wr := ⟨_, rfl⟩
    subst hwo
    by_cases hlt : k < n
    · go_wp2
      go_loopw [10] (fun dv wr => VxIn P L i x k w wr dv) (fun dv _ => 2 - (intOf dv).toNat)
      case atStart => exact ⟨0, rfl, Nat.zero_le _, NO.out, fun e he => absurd he (by omega), B.out⟩
      case round =>
        clear B
        clear NO
        obtain ⟨d, rfl, hd, hno, hni, hB⟩ := hrel
        have B := Lib.hid hB
        have NO := Lib.hid hno
        have NI := Lib.hid hni
        clear hB hno hni
        by_cases hd2 : d < 2
        · have ry := HR.out k d hlt hd2
          obtain ⟨b1, o1, c', e, hb1, hnx, -⟩ := HL.out.nth hlt
          simp only [Value.slice.injEq, true_and] at e
          obtain ⟨e1, e2⟩ := e
          subst e1
          obtain ⟨cc, hcc⟩ : ∃ x, x = c1 := ⟨_, rfl⟩
          rw [← hcc] at HL ⊢
          clear e2 hcc
          have f1 : wr.cell? ⟨b1, o1 + k * 8 + d, none⟩ = some (.int .i64 (nxG L k d)) := (B.out.cell (p := ⟨b1, o1 + k * 8 + d, none⟩) hb1).trans (hnx d (by omega))
          clear hnx
          have ND : Hid (∀ y : Int, nxG L k d = y → (∀ j : Nat, y = (j : Int) → crT1 (P.getD i (0, 0)).1 (P.getD i (0, 0)).2 (P.getD x (0, 0)).1 (P.getD x (0, 0)).2 (P.getD k (0, 0)).1 (P.getD k (0, 0)).2 (P.getD j (0, 0)).1 (P.getD j (0, 0)).2 = false ∧ crT2 (P.getD i (0, 0)).1 (P.getD i (0, 0)).2 (P.getD x (0, 0)).1 (P.getD x (0, 0)).2 (P.getD k (0, 0)).1 (P.getD k (0, 0)).2 (P.getD j (0, 0)).1 (P.getD j (0, 0)).2 = false) → ∀ e, e < d + 1 → NoC1 P L i x k e) := Lib.hid (fun y hy hj e he => by
            by_cases c : e = d
            · subst c; intro j hj2; exact hj j (by rw [← hy]; exact hj2)
            · exact NI.out e (by omega))
          obtain ⟨y, hy⟩ : ∃ y, nxG L k d = y := ⟨_, rfl⟩
          have NY := Lib.hid (ND.out y hy)
          rw [hy] at f1 ry
          clear hy ND
          have z1 := Nat.lt_of_lt_of_le hb B.out.size
          have z2 := Nat.lt_of_lt_of_le hb1 B.out.size
          rcases Int.lt_or_le y 0 with g1 | g1
          · have r1 : decide (y < 0) = true := by rw [decide_eq_true_eq]; exact g1
            have NZ := Lib.hid (NY.out (fun j hj => by omega))
            clear g1
            go_wp2
            go_roundw
            case rel => exact ⟨d + 1, by go_num, by omega, NO.out, NZ.out, B.out⟩
            case measure => (simp [intOf] <;> omega)
          · obtain ⟨j, rfl⟩ : ∃ j : Nat, y = (j : Int) := ⟨y.toNat, by omega⟩
            have hj : j < n := by omega
            have r1 : decide ((j : Int) < 0) = false := by rw [decide_eq_false_iff_not]; omega
            obtain ⟨hxk, hyk⟩ := HA.out k hlt
            obtain ⟨hxj, hyj⟩ := HA.out j hj
            have fxi := (B.out.cell (p := ⟨b, o9 + i * 2, none⟩) hb).trans hxi
            have fyi := (B.out.cell (p := ⟨b, o9 + i * 2 + 1, none⟩) hb).trans hyi
            have fxx := (B.out.cell (p := ⟨b, o9 + x * 2, none⟩) hb).trans hxx
            have fyx := (B.out.cell (p := ⟨b, o9 + x * 2 + 1, none⟩) hb).trans hyx
            have fxk := (B.out.cell (p := ⟨b, o9 + k * 2, none⟩) hb).trans hxk
            have fyk := (B.out.cell (p := ⟨b, o9 + k * 2 + 1, none⟩) hb).trans hyk
            have fxj := (B.out.cell (p := ⟨b, o9 + j * 2, none⟩) hb).trans hxj
            have fyj := (B.out.cell (p := ⟨b, o9 + j * 2 + 1, none⟩) hb).trans hyj
            have NZ := Lib.hid (fun q => NY.out (fun j2 hj2 => by
              obtain rfl : j = j2 := by omega
              exact q))
            clear hxk hyk hxj hyj ry g1
            clear NY
            obtain ⟨xi, hxie⟩ : ∃ z, (P.getD i (0, 0)).1 = z := ⟨_, rfl⟩
            obtain ⟨yi, hyie⟩ : ∃ z, (P.getD i (0, 0)).2 = z := ⟨_, rfl⟩
            obtain ⟨xx, hxxe⟩ : ∃ z, (P.getD x (0, 0)).1 = z := ⟨_, rfl⟩
            obtain ⟨yx, hyxe⟩ : ∃ z, (P.getD x (0, 0)).2 = z := ⟨_, rfl⟩
            obtain ⟨xk, hxke⟩ : ∃ z, (P.getD k (0, 0)).1 = z := ⟨_, rfl⟩
            obtain ⟨yk, hyke⟩ : ∃ z, (P.getD k (0, 0)).2 = z := ⟨_, rfl⟩
            obtain ⟨xj, hxje⟩ : ∃ z, (P.getD j (0, 0)).1 = z := ⟨_, rfl⟩
            obtain ⟨yj, hyje⟩ : ∃ z, (P.getD j (0, 0)).2 = z := ⟨_, rfl⟩
            rw [hxie] at fxi
            rw [hyie] at fyi
            rw [hxxe] at fxx
            rw [hyxe] at fyx
            rw [hxke] at fxk
            rw [hyke] at fyk
            rw [hxje] at fxj
            rw [hyje] at fyj
            rw [hxie, hyie, hxxe, hyxe, hxke, hyke, hxje, hyje] at NZ
            clear hxie hyie hxxe hyxe hxke hyke hxje hyje
            go_upto_region 11 with (fail)
            obtain ⟨wa, hwa⟩ : ∃ W, W = ((wr.alloc (.cells #[.int .i64 xk, .int .i64 yk] 67)).alloc (.cells #[.int .i64 xj, .int .i64 yj] 67)) := ⟨_, rfl⟩
            have BA : Hid (Below wr.heap.size wr wa) := Lib.hid (by rw [hwa]; exact ((Below.refl _ _).alloc (Nat.le_refl _) _).alloc (by simp) _)
            have za : wa.heap.size = wr.heap.size + 2 := by rw [hwa]; simp
            have b0 : wa.cell? ⟨wr.heap.size, 0, none⟩ = some (.int .i64 xk) := by rw [hwa]; go_simp
            have b1 : wa.cell? ⟨wr.heap.size, 1, none⟩ = some (.int .i64 yk) := by rw [hwa]; go_simp
            have b2 : wa.cell? ⟨wr.heap.size + 1, 0, none⟩ = some (.int .i64 xj) := by rw [hwa]; go_simp
            have b3 : wa.cell? ⟨wr.heap.size + 1, 1, none⟩ = some (.int .i64 yj) := by rw [hwa]; go_simp
            rw [← hwa]
            clear hwa
            have gxi := (BA.out.cell (p := ⟨b, o9 + i * 2, none⟩) z1).trans fxi
            have gyi := (BA.out.cell (p := ⟨b, o9 + i * 2 + 1, none⟩) z1).trans fyi
            have gxx := (BA.out.cell (p := ⟨b, o9 + x * 2, none⟩) z1).trans fxx
            have gyx := (BA.out.cell (p := ⟨b, o9 + x * 2 + 1, none⟩) z1).trans fyx
            clear fxi fyi fxx fyx fxk fyk fxj fyj f1 r1
            have z3 : b < wa.heap.size := by omega
            obtain ⟨m, hm⟩ : ∃ m, m = wr.heap.size := ⟨_, rfl⟩
            have hm1 : m < wa.heap.size := by omega
            have hm2 : m + 1 < wa.heap.size := by omega
            have BW : Hid (Below w.heap.size w wa) := Lib.hid (B.out.trans (BA.out.mono B.out.size))
            rw [← hm] at b0 b1 b2 b3 ⊢
            clear za hm z1 z2 BA B
            go_cut [98] from 41 to 97 (fun s wx => ∃ t : Bool, s = .bool t ∧ t = crT1 xi yi xx yx xk yk xj yj ∧ Below wa.heap.size wa wx)
            case first =>
              refine vrA (b := b) (o9 := o9) (n := n) (c0 := c0) (i := i) (x := x) (m := m) (xi := xi) (yi := yi) (xx := xx) (yx := yx) (xk := xk) (yk := yk) (xj := xj) (yj := yj) ⟨hi, hx, b0, b1, b2, b3, gxi, gyi, gxx, gyx⟩ ?_
              intro t htv v41 v42 v43 v44 v45 v46 v47 v48 v49 v50 v51 v52 v53 v54 v55 v56 v57 v58 v59 v60 v61 v62 v63 v64 v65 v66 v67 v68 v69 v70 v71 v72 v73 v74 v75 v76 v77 v78 v79 v80 v81 v82 v83 v84 v85 v86 v87 v88 v89 v90 v91 v92 v93 v94 v95 v96 v97 w' hw
              dsimp only
              go_wp2_with fail
              go_meet
              exact ⟨t, rfl, htv, hw⟩
            case rest =>
              obtain ⟨t, rfl, ht1, hC⟩ := hcut
              have HT1 := Lib.hid ht1
              clear ht1
              obtain ⟨wz, hwz⟩ : ∃ W, W = wc := ⟨_, rfl⟩
              subst hwz
              have BZ : Hid (Below w.heap.size w wz) := Lib.hid (BW.out.trans (hC.mono BW.out.size))
              cases t
              · have c0' := (hC.cell (p := ⟨m, 0, none⟩) hm1).trans b0
                have c1' := (hC.cell (p := ⟨m, 1, none⟩) hm1).trans b1
                have c2' := (hC.cell (p := ⟨m + 1, 0, none⟩) hm2).trans b2
                have c3' := (hC.cell (p := ⟨m + 1, 1, none⟩) hm2).trans b3
                have k0 := (hC.cell (p := ⟨b, o9 + i * 2, none⟩) z3).trans gxi
                have k1 := (hC.cell (p := ⟨b, o9 + i * 2 + 1, none⟩) z3).trans gyi
                have k2 := (hC.cell (p := ⟨b, o9 + x * 2, none⟩) z3).trans gxx
                have k3 := (hC.cell (p := ⟨b, o9 + x * 2 + 1, none⟩) z3).trans gyx
                have z4 := Nat.lt_of_lt_of_le z3 hC.size
                clear b0 b1 b2 b3 gxi gyi gxx gyx hC BW z3
                go_upto_region 13 with (fail)
                go_cut [156] from 99 to 155 (fun s wx => ∃ t : Bool, s = .bool t ∧ t = crT2 xi yi xx yx xk yk xj yj ∧ Below wz.heap.size wz wx)
                case first =>
                  refine vrB (b := b) (o9 := o9) (n := n) (c0 := c0) (i := i) (x := x) (m := m) (xi := xi) (yi := yi) (xx := xx) (yx := yx) (xk := xk) (yk := yk) (xj := xj) (yj := yj) ⟨hi, hx, c0', c1', c2', c3', k0, k1, k2, k3⟩ ?_
                  intro t htv v99 v100 v101 v102 v103 v104 v105 v106 v107 v108 v109 v110 v111 v112 v113 v114 v115 v116 v117 v118 v119 v120 v121 v122 v123 v124 v125 v126 v127 v128 v129 v130 v131 v132 v133 v134 v135 v136 v137 v138 v139 v140 v141 v142 v143 v144 v145 v146 v147 v148 v149 v150 v151 v152 v153 v154 v155 w' hw
                  dsimp only
                  go_wp2_with fail
                  go_meet
                  exact ⟨t, rfl, htv, hw⟩
                case rest =>
                  obtain ⟨t, rfl, ht2, hC⟩ := hcut
                  have HT2 := Lib.hid ht2
                  clear ht2
                  obtain ⟨wy, hwy⟩ : ∃ W, W = wc := ⟨_, rfl⟩
                  subst hwy
                  have BY : Hid (Below w.heap.size w wy) := Lib.hid (BZ.out.trans (hC.mono BZ.out.size))
                  clear hC
                  cases t
                  · go_wp2_with fail
                    go_roundw
                    case rel => exact ⟨d + 1, by go_num, by omega, NO.out, NZ.out ⟨HT1.out.symm, HT2.out.symm⟩, BY.out⟩
                    case measure => (simp [intOf] <;> omega)
                  · go_wp2_with fail
                    go_ret
                    exact ⟨⟨_, rfl, fun h => absurd h (by decide)⟩, BY.out⟩
              · go_wp2
                go_ret
                exact ⟨⟨_, rfl, fun h => absurd h (by decide)⟩, BZ.out⟩
        · have hd3 : d = 2 := by omega
          subst hd3
          go_wp2
          go_roundw
          case rel => exact ⟨k + 1, by go_num, by omega, fun a e ha he => by
            by_cases c : a = k
            · subst c; exact NI.out e he
            · exact NO.out a e (by omega) he, B.out⟩
          case measure => (simp [intOf] <;> omega)
    · have hkn : k = n := by omega
      subst hkn
      go_wp2
      go_ret
      exact ⟨⟨_, rfl, fun _ => NO.out⟩, B.out⟩
end Go.Proofs.YtbdkkkpgjcfdgaaDoor

namespace Go.Proofs.YtbdkkkpgjcfdgaaDoor
open Go.RowKit Go.Proofs.YtbdkkkpgjcfdgaaDoor.GrM

/-- Places on the board. -/
def BndP (P : List (Int × Int)) : Prop := ∀ k, k < P.length → 0 ≤ (P.getD k (0, 0)).1 ∧ (P.getD k (0, 0)).1 < 8 ∧ 0 ≤ (P.getD k (0, 0)).2 ∧ (P.getD k (0, 0)).2 < 8
theorem bnd_nil : BndP [] := fun k hk => absurd hk (by simp)
theorem bnd_more {P : List (Int × Int)} {p : Int × Int} (h : BndP P) (h1 : 0 ≤ p.1 ∧ p.1 < 8) (h2 : 0 ≤ p.2 ∧ p.2 < 8) : BndP (P ++ [p]) := by
  intro k hk
  rw [List.length_append, List.length_singleton] at hk
  rw [List.getD_eq_getElem?_getD]
  by_cases c : k < P.length
  · rw [List.getElem?_append_left c, ← List.getD_eq_getElem?_getD]
    exact h k c
  · rw [List.getElem?_append_right (by omega), show k - P.length = 0 by omega]
    exact ⟨h1.1, h1.2, h2.1, h2.2⟩
/-- No edge crosses another one. -/
def NoX (P : List (Int × Int)) (L : List Int) : Prop := ∀ v u a b : Nat, v < P.length → u < P.length → nxG L v 0 = (a : Int) → nxG L u 1 = (b : Int) →
  ¬ ((P.getD v (0, 0)).1 < (P.getD u (0, 0)).1 ∧ (P.getD u (0, 0)).1 < (P.getD a (0, 0)).1 ∧ (P.getD u (0, 0)).2 < (P.getD v (0, 0)).2 ∧ (P.getD v (0, 0)).2 < (P.getD b (0, 0)).2)
theorem nox_start (P : List (Int × Int)) : NoX P (newG P.length) := fun v u a b hv _ h _ => by
  rw [nx_new hv (by decide)] at h; omega
theorem near_line {P : List (Int × Int)} {v d w : Nat} (h : nearP P v d = (w : Int)) : acP P d w = acP P d v := by
  rcases near_range P v d with q | ⟨x, _, q, r, _⟩
  · omega
  · obtain rfl : x = w := by omega
    exact (ahP_iff.1 r).1
/-- An edge more, that crosses none. -/
theorem nox_step {P : List (Int × Int)} {L : List Int} {t i d x : Nat} {o : Int} (hM : MkG P L t) (h : NoX P L) (hi : i < P.length) (hx : x < P.length) (hd : d < 2) (hn : nearP P i d = (x : Int)) (hc : ∀ a e, a < P.length → e < 2 → NoC1 P L i x a e) : NoX P (joinG L i d x o) := by
  intro v u a b hv hu ha hb hh
  have od : opp d ≠ 0 ∧ opp d ≠ 1 := by unfold opp; omega
  rw [nx_join o hM.len hi hx (by omega) (by decide), if_neg (by omega)] at ha hb
  have line := near_line hn
  by_cases c0 : d = 0
  · subst c0
    rw [if_neg (by omega)] at hb
    by_cases c : v = i ∧ 0 = 0
    · rw [if_pos c] at ha
      obtain rfl : x = a := by omega
      obtain ⟨rfl, _⟩ := c
      have q := (hc u 1 hu (by decide) b hb).2
      have lb := near_line ((hM.near u 1 hu (by decide) (by rw [hb]; omega)).1.symm.trans hb)
      simp only [acP, if_true, show ¬ (1 = 0) by decide, if_false] at line lb
      unfold crT2 at q
      have : ((P.getD u (0, 0)).1 == (P.getD b (0, 0)).1 && (P.getD v (0, 0)).2 == (P.getD x (0, 0)).2 && decide ((P.getD v (0, 0)).1 < (P.getD u (0, 0)).1) && decide ((P.getD u (0, 0)).1 < (P.getD x (0, 0)).1) && decide ((P.getD u (0, 0)).2 < (P.getD v (0, 0)).2) && decide ((P.getD v (0, 0)).2 < (P.getD b (0, 0)).2)) = true := by
        simp only [Bool.and_eq_true, beq_iff_eq, decide_eq_true_eq]
        exact ⟨⟨⟨⟨⟨lb.symm, line.symm⟩, hh.1⟩, hh.2.1⟩, hh.2.2.1⟩, hh.2.2.2⟩
      rw [this] at q
      cases q
    · rw [if_neg c] at ha
      exact h v u a b hv hu ha hb hh
  · obtain rfl : d = 1 := by omega
    rw [if_neg (by omega)] at ha
    by_cases c : u = i ∧ 1 = 1
    · rw [if_pos c] at hb
      obtain rfl : x = b := by omega
      obtain ⟨rfl, _⟩ := c
      have q := (hc v 0 hv (by decide) a ha).1
      have la := near_line ((hM.near v 0 hv (by decide) (by rw [ha]; omega)).1.symm.trans ha)
      simp only [acP, if_true, show ¬ (1 = 0) by decide, if_false] at line la
      unfold crT1 at q
      have : ((P.getD v (0, 0)).2 == (P.getD a (0, 0)).2 && (P.getD u (0, 0)).1 == (P.getD x (0, 0)).1 && decide ((P.getD v (0, 0)).1 < (P.getD u (0, 0)).1) && decide ((P.getD u (0, 0)).1 < (P.getD a (0, 0)).1) && decide ((P.getD u (0, 0)).2 < (P.getD v (0, 0)).2) && decide ((P.getD v (0, 0)).2 < (P.getD x (0, 0)).2)) = true := by
        simp only [Bool.and_eq_true, beq_iff_eq, decide_eq_true_eq]
        exact ⟨⟨⟨⟨⟨la.symm, line.symm⟩, hh.1⟩, hh.2.1⟩, hh.2.2.1⟩, hh.2.2.2⟩
      rw [this] at q
      cases q
    · rw [if_neg c] at hb
      exact h v u a b hv hu ha hb hh
/-- The state of Make's loops. -/
def Vz1 (g n m : Nat) (s1 s2 s3 : Value) (wb : World) (pv iv : Value) (wr : World) : Prop :=
  ∃ (k : Nat) (P : List (Int × Int)), iv = .int .i64 k ∧ k ≤ n ∧ P.length ≤ k ∧ P.length ≤ m ∧ OwnPt wr (g + 1) pv P ∧ (Apart P ∧ BndP P) ∧ BoxZ g s1 s2 s3 wr ∧ Below (g + 1) wb wr
def Vz3 (P : List (Int × Int)) (g : Nat) (pv s1 s2 s3 : Value) (wb : World) (lv iv : Value) (wr : World) : Prop :=
  ∃ (k : Nat) (L : List Int), iv = .int .i64 k ∧ k ≤ P.length ∧ (MkG P L (2 * k) ∧ NoX P L) ∧ OwnG wr (g + 1) lv L P.length ∧ OwnPt wr (g + 1) pv P ∧ BoxZ g s1 s2 s3 wr ∧ Below (g + 1) wb wr
def Vz4 (P : List (Int × Int)) (g k : Nat) (pv s1 s2 s3 : Value) (wb : World) (lv dv : Value) (wr : World) : Prop :=
  ∃ (d : Nat) (L : List Int), dv = .int .i64 d ∧ d ≤ 2 ∧ (MkG P L (2 * k + d) ∧ NoX P L) ∧ OwnG wr (g + 1) lv L P.length ∧ OwnPt wr (g + 1) pv P ∧ BoxZ g s1 s2 s3 wr ∧ Below (g + 1) wb wr
set_option maxHeartbeats 16000000 in
set_option maxRecDepth 100000 in
theorem refMakeX (A1 A2 A3 : Option Addr) (n1 n2 n3 c1 c2 c3 m : Nat) (D1 D2 D3 : Nat → Int) (w : World) (h1 : NumAt .u8 0 255 w A1 n1 D1) (h2 : NumAt .u8 0 255 w A2 n2 D2) (h3 : NumAt .i8 (-128) 127 w A3 n3 D3) (hn1 : n1 ≤ 9223372036854775807) (hn2 : n2 ≤ 9223372036854775807) (hn3 : n3 ≤ 9223372036854775807) (hm : m ≤ 100000) :
    Calls Tryd.prog 7 #[.agg #[.slice A1 n1 c1, .slice A2 n2 c2, .slice A3 n3 c3], .int .i64 m] w fun r w' => (∃ P L lv pv t, r = .returned (.tuple #[lv, pv]) ∧ OwnG w' w.heap.size lv L P.length ∧ OwnPt w' w.heap.size pv P ∧ Apart P ∧ BndP P ∧ MkG P L t ∧ NoX P L ∧ P.length ≤ m) ∧ Below w.heap.size w w' := by
  have H1 := Lib.hid h1
  have H2 := Lib.hid h2
  have H3 := Lib.hid h3
  have HC := Lib.hid refCrossX
  clear h1 h2 h3
  obtain ⟨i0, hi, hz0, hz1, hz2⟩ := info_p2
  go_enter Tryd.func7, Tryd.ntmps7
  go_upto_block 0 with (fail)
  obtain ⟨wb, hwb⟩ : ∃ W, W = w.alloc (.cells #[.slice A1 n1 c1, .slice A2 n2 c2, .slice A3 n3 c3] 25) := ⟨_, rfl⟩
  rw [← hwb]
  obtain ⟨g, hg⟩ : ∃ g, g = w.heap.size := ⟨_, rfl⟩
  have BB : Hid (Below w.heap.size w wb) := Lib.hid (by rw [hwb]; exact (Below.refl _ _).alloc (Nat.le_refl _) _)
  have SB : Hid (wb.heap.size = g + 1) := Lib.hid (by rw [hwb, hg]; simp)
  have ZB : Hid (BoxZ g (.slice A1 n1 c1) (.slice A2 n2 c2) (.slice A3 n3 c3) wb) := Lib.hid (by
    rw [hwb, hg]
    refine ⟨by simp, ?_, ?_, ?_⟩ <;> go_simp)
  have GW := Lib.hid hg
  rw [← hg]
  clear hwb hg
  go_cut [6, 7] from 18 to 67 (fun pv iv wx => ∃ P, OwnPt wx (g + 1) pv P ∧ (Apart P ∧ BndP P) ∧ P.length ≤ m ∧ P.length ≤ n1 ∧ BoxZ g (.slice A1 n1 c1) (.slice A2 n2 c2) (.slice A3 n3 c3) wx ∧ Below (g + 1) wb wx)
  case first =>
    go_wp2_with (fail)
    go_loopw [6, 7] (fun pv iv wr => Vz1 g n1 m (.slice A1 n1 c1) (.slice A2 n2 c2) (.slice A3 n3 c3) wb pv iv wr) (fun _ iv _ => n1 - (intOf iv).toNat)
    case atStart => exact ⟨0, [], rfl, Nat.zero_le _, Nat.le_refl _, Nat.zero_le _, OwnPt.nil _ _, ⟨apart_nil, bnd_nil⟩, ZB.out, Below.refl _ _⟩
    case round =>
      obtain ⟨k, P, rfl, hk, hPk, hPm, hO, hAp, hZ, hB⟩ := hrel
      obtain ⟨ao, co, e⟩ := hO.form
      subst e
      have O := Lib.hid hO
      have AP := Lib.hid hAp
      have Z := Lib.hid hZ
      have B := Lib.hid hB
      obtain ⟨y0, y1, -, -⟩ := hZ
      clear hO hAp hB
      by_cases hk1 : k < n1
      · by_cases hk2 : P.length < m
        · obtain ⟨b, o, e, hb, hcell⟩ := H1.out.at_ (by omega)
          subst e
          obtain ⟨p0, p1⟩ := H1.out.r k hk1
          have d0 := (B.out.cell (p := ⟨b, o + k, none⟩) (show b < g + 1 by have := GW.out; omega)).trans ((BB.out.cell (p := ⟨b, o + k, none⟩) hb).trans (hcell k hk1))
          have z3 : b < wr.heap.size := by have := GW.out; omega
          clear hcell
          generalize D1 k = z at *
          have q1 : decide (k < n1) = true := by rw [decide_eq_true_eq]; exact hk1
          have q2 : decide (P.length < m) = true := by rw [decide_eq_true_eq]; exact hk2
          obtain ⟨x1, hx1⟩ : ∃ r : Int, z % 8 = r := ⟨_, rfl⟩
          have hx1' : z.tmod 8 = x1 := by rw [Int.tmod_eq_emod_of_nonneg p0]; exact hx1
          obtain ⟨zq, hzq⟩ : ∃ r : Int, z / 8 = r := ⟨_, rfl⟩
          have hzq' : z.tdiv 8 = zq := by rw [Int.tdiv_eq_ediv_of_nonneg p0]; exact hzq
          have hzq0 : 0 ≤ zq ∧ zq ≤ 31 := by omega
          obtain ⟨x2, hx2⟩ : ∃ r : Int, zq % 8 = r := ⟨_, rfl⟩
          have XB : Hid ((0 ≤ x1 ∧ x1 < 8) ∧ 0 ≤ x2 ∧ x2 < 8) := Lib.hid (by omega)
          have hx2' : zq.tmod 8 = x2 := by rw [Int.tmod_eq_emod_of_nonneg hzq0.1]; exact hx2
          have cx1 : IntKind.i64.wrap z = z := IntWalk.i64_in _ (by omega)
          have cx2 : IntKind.i64.wrap zq = zq := IntWalk.i64_in _ (by omega)
          clear hx1 hzq hx2
          go_upto_region 5 with (fail)
          go_region_held3 (fun w' => w'.cell? ⟨g, 0, none⟩ = some (.slice (some ⟨b, o, none⟩) n1 c1) ∧ w'.cell? ⟨b, o + k, none⟩ = some (.int .u8 z)) (go_keep) (fail)
          obtain ⟨wa, hwa⟩ : ∃ W, W = (wr.alloc (.cells #[.int .i64 x1, .int .i64 x2] 67)).drew := ⟨_, rfl⟩
          have BA : Hid (Below wr.heap.size wr wa) := Lib.hid (by rw [hwa]; exact ((Below.refl _ _).alloc (Nat.le_refl _) _).drew)
          have za : wa.heap.size = wr.heap.size + 1 := by rw [hwa]; simp
          have b0 : wa.cell? ⟨wr.heap.size, 0, none⟩ = some (.int .i64 x1) := by rw [hwa]; go_simp
          have b1 : wa.cell? ⟨wr.heap.size, 1, none⟩ = some (.int .i64 x2) := by rw [hwa]; go_simp
          rw [← hwa]
          clear hwa d0 z3 p0 p1 hx1' hzq' hzq0 hx2' cx1 cx2 y1
          obtain ⟨s, hs⟩ : ∃ s, s = wr.heap.size := ⟨_, rfl⟩
          have OA : Hid (OwnPt wa (g + 1) (.slice ao P.length co) P) := Lib.hid (O.out.below BA.out (Nat.le_refl _))
          have ZA : Hid (BoxZ g (.slice (some ⟨b, o, none⟩) n1 c1) (.slice A2 n2 c2) (.slice A3 n3 c3) wa) := Lib.hid (Z.out.below (BA.out.mono (by omega)))
          have BW : Hid (Below (g + 1) wb wa) := Lib.hid (B.out.trans (BA.out.mono (by omega)))
          have hgs : g < s := by omega
          rw [← hs] at b0 b1 za ⊢
          clear BA O Z B hs y0
          obtain ⟨wo, hwo⟩ : ∃ W, W = wr := ⟨_, rfl⟩
          subst hwo
          go_wp2_with (fail)
          go_loopw [9, 10] (fun bv kv wr2 => Mz2 P (x1, x2) wa bv kv wr2) (fun _ kv _ => P.length - (intOf kv).toNat)
          case atStart => exact ⟨0, false, rfl, Nat.zero_le _, rfl, fun _ k hk => absurd hk (by omega), Below.refl _ _⟩
          case round =>
            obtain ⟨j, t, rfl, hj, rfl, hN, hB2⟩ := hrel
            have N := Lib.hid hN
            have B2 := Lib.hid hB2
            have e0 := (hB2.cell (p := ⟨s, 0, none⟩) (show s < wa.heap.size by omega)).trans b0
            have e1 := (hB2.cell (p := ⟨s, 1, none⟩) (show s < wa.heap.size by omega)).trans b1
            have z4 : s < wr.heap.size := by have := hB2.size; omega
            clear hN hB2
            by_cases hj1 : j < P.length
            · have q3 : decide (j < P.length) = true := by rw [decide_eq_true_eq]; exact hj1
              cases t
              · obtain ⟨A', cap', e, _, hA⟩ := (OA.out.below B2.out (Nat.le_refl _)).pts
                simp only [Value.slice.injEq, true_and] at e
                obtain ⟨rfl, rfl⟩ := e
                obtain ⟨b2, o2, e, hb2, hc⟩ := hA (by omega)
                subst e
                obtain ⟨f0, f1⟩ := hc j hj1
                obtain ⟨xj, hxj⟩ : ∃ r, (P.getD j (0, 0)).1 = r := ⟨_, rfl⟩
                obtain ⟨yj, hyj⟩ : ∃ r, (P.getD j (0, 0)).2 = r := ⟨_, rfl⟩
                rw [hxj] at f0
                rw [hyj] at f1
                clear hA hc
                obtain ⟨t2, ht2⟩ : ∃ t2, (xj == x1 && yj == x2) = t2 := ⟨_, rfl⟩
                have hq : ∀ W, (binOp .eql 67 (.agg #[.int .i64 xj, .int .i64 yj]) (.agg #[.int .i64 x1, .int .i64 x2])).run Tryd.prog W = .ok (.bool t2) W := fun W => by rw [← ht2]; exact eqPt W _ _ _ _
                have N2 : Hid (t2 = false → ∀ k, k < j + 1 → P.getD k (0, 0) ≠ (x1, x2)) := Lib.hid (fun h k hk => by
                  by_cases e : k = j
                  · subst e
                    intro e
                    rw [e] at hxj hyj
                    simp only at hxj hyj
                    subst hxj hyj
                    simp [h] at ht2
                  · exact N.out rfl k (by omega))
                clear hxj hyj ht2
                go_wp2_with (fail)
                go_quiet (fail)
                go_wp2_with (fail)
                go_roundw
                case rel => exact ⟨j + 1, t2, by go_num, by omega, rfl, N2.out, drewN_below B2.out _⟩
                case measure => (simp [intOf] <;> omega)
              · go_wp2_with (fail)
                go_quiet (fail)
                go_wp2_with (fail)
                go_roundw
                case rel => exact ⟨j + 1, true, by go_num, by omega, rfl, fun h => absurd h (by decide), drewN_below B2.out _⟩
                case measure => (simp [intOf] <;> omega)
            · have q3 : decide (j < P.length) = false := by rw [decide_eq_false_iff_not]; exact hj1
              cases t
              · have ZW := Lib.hid (ZA.out.below (B2.out.mono (by omega)))
                have OW := Lib.hid (OA.out.below B2.out (Nat.le_refl _))
                have BX := Lib.hid (BW.out.trans (B2.out.mono (by omega)))
                have AM := Lib.hid (And.intro (apart_more (p := (x1, x2)) AP.out.1 (fun k hk => N.out rfl k (by omega))) (bnd_more (p := (x1, x2)) AP.out.2 XB.out.1 XB.out.2))
                have hgz : g + 1 ≤ wr.heap.size := by omega
                clear q1 q2 b0 b1 N OA ZA BW B2
                go_wp2_with (at_builtin; refine wpList_append_fresh rfl (.tmp 64) (.tmp 66) 31 rfl (g + 1) 67 i0 (.agg #[.int .i64 0, .int .i64 0]) 2 16 Tryd.underlying31 hi hz0 hz1 hz2 rfl (by decide) (.slice ao P.length co) P.length (P.flatMap encP) rfl (OW.out.below ((Below.refl _ _).alloc (Nat.le_refl _) _) (Nat.le_refl _)) ⟨wr.heap.size, 0, none⟩ 1 1 (encP (x1, x2)) rfl rfl (newsP _ _ _ _ _ rfl) (allP _) (by unfold maxLen; omega) (by omega) (by simp; omega) ?_; intro v5 w5 hown hgrow hfr; have o5 := OwnPt.more hown; have O5 := Lib.hid o5; have B5 : Hid (Below (g + 1) wb w5) := Lib.hid ((BX.out.trans (((Below.refl _ _).alloc (Nat.le_refl _) _).mono hgz)).grown hgrow (by first | exact Nat.le_refl _ | (simp; omega)) (fun q hq => (World.ownsRow.lt OW.out q hq).1)); clear hown hgrow hfr o5)
                go_roundw
                case rel => exact ⟨k + 1, P ++ [(x1, x2)], by go_num, by omega, by simp; omega, by simp; omega, O5.out, AM.out, ZB.out.below B5.out, B5.out⟩
                case measure => (simp [intOf] <;> omega)
              · have ZW := Lib.hid (ZA.out.below (B2.out.mono (by omega)))
                have OW := Lib.hid (OA.out.below B2.out (Nat.le_refl _))
                have BX := Lib.hid (BW.out.trans (B2.out.mono (by omega)))
                go_wp2_with (fail)
                go_roundw
                case rel => exact ⟨k + 1, P, by go_num, by omega, by omega, hPm, OW.out, AP.out, ZW.out, BX.out⟩
                case measure => (simp [intOf] <;> omega)
        · have q1 : decide (k < n1) = true := by rw [decide_eq_true_eq]; exact hk1
          have q2 : decide (P.length < m) = false := by rw [decide_eq_false_iff_not]; exact hk2
          go_wp2_with (fail)
          go_meet
          exact ⟨P, O.out, AP.out, hPm, by omega, Z.out, B.out⟩
      · have q1 : decide (k < n1) = false := by rw [decide_eq_false_iff_not]; exact hk1
        go_wp2_with (fail)
        go_meet
        exact ⟨P, O.out, AP.out, hPm, by omega, Z.out, B.out⟩
  case rest =>
    obtain ⟨P, hO, hAp, hPm, hPn, hZ, hB⟩ := hcut
    obtain ⟨ap, cp, e⟩ := hO.form
    subst e
    obtain ⟨wz, hwz⟩ : ∃ W, W = wc := ⟨_, rfl⟩
    subst hwz
    have O := Lib.hid hO
    have AP := Lib.hid hAp
    have Z := Lib.hid hZ
    have B := Lib.hid hB
    have hgz : g < wz.heap.size := hZ.1
    clear hO hAp hZ hB
    go_wp2_with (go_at_call 19; go_loud (refine (refNew P.length wz (by omega)).mono ?_; rintro e w1 ⟨⟨g2, rfl, hN⟩, hb⟩; have N1 : Hid (OwnG w1 (g + 1) (.slice (some ⟨g2, 0, none⟩) P.length P.length) (newG P.length) P.length) := Lib.hid (hN.base (by omega)); have O1 := Lib.hid (O.out.below hb (Nat.le_refl _)); have B1 := Lib.hid (B.out.trans (hb.mono (by omega))); have Z1 := Lib.hid (Z.out.below (hb.mono (by omega))); clear hN hb))
    clear O Z B
    go_loopw [11, 12] (fun lv iv wr => Vz3 P g (.slice ap P.length cp) (.slice A1 n1 c1) (.slice A2 n2 c2) (.slice A3 n3 c3) wb lv iv wr) (fun _ iv _ => P.length - (intOf iv).toNat)
    case atStart => exact ⟨0, _, rfl, Nat.zero_le _, ⟨MkG.start P, nox_start P⟩, N1.out, O1.out, Z1.out, B1.out⟩
    case round =>
      clear N1 O1 Z1 B1
      obtain ⟨k, L, rfl, hk, hM, hN, hO, hZ, hB⟩ := hrel
      obtain ⟨al, cl, e⟩ := hN.form
      subst e
      have M := Lib.hid hM
      have N := Lib.hid hN
      have O := Lib.hid hO
      have Z := Lib.hid hZ
      have B := Lib.hid hB
      obtain ⟨y0, y1, y2, y3⟩ := hZ
      clear hM hN hO hB
      by_cases hk1 : k < P.length
      · have q1 : decide (k < P.length) = true := by rw [decide_eq_true_eq]; exact hk1
        go_upto_if 81 with (fail)
        go_cut [13] from 77 to 86 (fun s wx => ∃ u : Int, s = .int .u8 u ∧ 0 ≤ u ∧ u ≤ 255 ∧ wx = wr)
        case first =>
          by_cases h2 : k < n2
          · have q2 : decide (k < n2) = true := by rw [decide_eq_true_eq]; exact h2
            obtain ⟨b, o, e, hb, hcell⟩ := H2.out.at_ (by omega)
            subst e
            obtain ⟨p0, p1⟩ := H2.out.r k h2
            have d0 := (B.out.cell (p := ⟨b, o + k, none⟩) (show b < g + 1 by have := GW.out; omega)).trans ((BB.out.cell (p := ⟨b, o + k, none⟩) hb).trans (hcell k h2))
            have z3 : b < wr.heap.size := by have := GW.out; omega
            clear hcell
            generalize D2 k = z at *
            go_wp2_with (fail)
            go_meet
            exact ⟨z, rfl, p0, p1, rfl⟩
          · have q2 : decide (k < n2) = false := by rw [decide_eq_false_iff_not]; exact h2
            go_wp2_with (fail)
            go_meet
            exact ⟨3, rfl, by decide, by decide, rfl⟩
        case rest =>
          obtain ⟨u, rfl, hu0, hu1, hw⟩ := hcut
          subst hw
          obtain ⟨wr, hwr⟩ : ∃ W, W = wc := ⟨_, rfl⟩
          subst hwr
          go_upto_if 92 with (fail)
          go_cut [14] from 88 to 102 (fun s wx => ∃ o : Int, s = .int .i64 o ∧ -2 ≤ o ∧ o ≤ 200000 ∧ wx = wr)
          case first =>
            by_cases h3 : k < n3
            · have q2 : decide (k < n3) = true := by rw [decide_eq_true_eq]; exact h3
              obtain ⟨b, o, e, hb, hcell⟩ := H3.out.at_ (by omega)
              subst e
              obtain ⟨p0, p1⟩ := H3.out.r k h3
              have d0 := (B.out.cell (p := ⟨b, o + k, none⟩) (show b < g + 1 by have := GW.out; omega)).trans ((BB.out.cell (p := ⟨b, o + k, none⟩) hb).trans (hcell k h3))
              have z3 : b < wr.heap.size := by have := GW.out; omega
              clear hcell
              generalize D3 k = z at *
              by_cases hz : z < -2
              · have q3 : decide (z < -2) = true := by rw [decide_eq_true_eq]; exact hz
                go_wp2_with (fail)
                go_meet
                exact ⟨-z, by go_num, by omega, by omega, rfl⟩
              · have q3 : decide (z < -2) = false := by rw [decide_eq_false_iff_not]; exact hz
                go_wp2_with (fail)
                go_meet
                exact ⟨z, rfl, by omega, by omega, rfl⟩
            · have q2 : decide (k < n3) = false := by rw [decide_eq_false_iff_not]; exact h3
              go_wp2_with (fail)
              go_meet
              exact ⟨k, rfl, by omega, by omega, rfl⟩
          case rest =>
            obtain ⟨o, rfl, ho0, ho1, hw⟩ := hcut
            subst hw
            obtain ⟨wr, hwr⟩ : ∃ W, W = wc := ⟨_, rfl⟩
            subst hwr
            obtain ⟨wo, hwo⟩ : ∃ W, W = wr := ⟨_, rfl⟩
            subst hwo
            clear y0 y1 y2 y3
            go_wp2_with (fail)
            go_loopw [11, 15] (fun lv dv wr => Vz4 P g k (.slice ap P.length cp) (.slice A1 n1 c1) (.slice A2 n2 c2) (.slice A3 n3 c3) wb lv dv wr) (fun _ dv _ => 2 - (intOf dv).toNat)
            case atStart => exact ⟨0, L, rfl, by omega, M.out, N.out, O.out, Z.out, B.out⟩
            case round =>
              clear M N O Z B
              obtain ⟨d, L, rfl, hd, hM, hN, hO, hZ, hB⟩ := hrel
              obtain ⟨al, cl, e⟩ := hN.form
              subst e
              have M := Lib.hid hM
              have N := Lib.hid hN
              have O := Lib.hid hO
              have Z := Lib.hid hZ
              have B := Lib.hid hB
              have hgz : g < wr.heap.size := hZ.1
              clear hM hN hO hZ hB
              by_cases hd2 : d < 2
              · obtain ⟨bt, hbt⟩ : ∃ t, (bits BinOp.and IntKind.u8 (u / 2 ^ d) 1 == 0) = t := ⟨_, rfl⟩
                have MM := Lib.hid (And.intro (M.out.1.mono (u := 2 * k + (d + 1)) (by omega)) M.out.2)
                obtain ⟨q, hq⟩ : ∃ q, nearP P k d = q := ⟨_, rfl⟩
                have NR := Lib.hid hq
                cases bt
                · rcases near_range P k d with h | ⟨j, hj, h, _, _⟩
                  · obtain rfl : q = -1 := by omega
                    clear h hq
                    go_wp2_with (go_at_call 20; go_loud (refine (refNearestD _ P k d wr O.out.pts hk1 (by omega) hd2).mono ?_; rintro e w1 ⟨h, hb⟩; rw [NR.out] at h; subst h; have N1 : Hid (OwnG w1 (g + 1) (.slice al P.length cl) L P.length) := Lib.hid (N.out.below hb (Nat.le_refl _)); have O1 := Lib.hid (O.out.below hb (Nat.le_refl _)); have B1 := Lib.hid (B.out.trans (hb.mono (by omega))); have Z1 := Lib.hid (Z.out.below (hb.mono (by omega))); have hgz1 : g < w1.heap.size := (by have := hb.size; omega); clear hb))
                    go_roundw
                    case rel => exact ⟨d + 1, L, by go_num, by omega, MM.out, N1.out, O1.out, Z1.out, B1.out⟩
                    case measure => (simp [intOf] <;> omega)
                  · obtain rfl : q = (j : Int) := by omega
                    have r1 : decide ((j : Int) < 0) = false := by rw [decide_eq_false_iff_not]; omega
                    have LJ := Lib.hid (laid_join (d := d) o M.out.1.len hk1 hj (by omega))
                    have MS := Lib.hid (fun hc => And.intro (M.out.1.step AP.out.1 hk1 hd2 hq ho0) (nox_step (o := o) M.out.1 M.out.2 hk1 hj hd2 hq hc))
                    have RR : Hid (∀ v d, v < P.length → d < 2 → nxG L v d < P.length) := Lib.hid (fun v d hv hd => by
                      rcases M.out.1.good.side hv (show d < 4 by omega) with h | h
                      · omega
                      · exact h.2.1)
                    clear h hq
                    go_upto_if 126 with (first | (go_at_call 20; go_loud (refine (refNearestD _ P k d wr O.out.pts hk1 (by omega) hd2).mono ?_; rintro e w1 ⟨h, hb⟩; rw [NR.out] at h; subst h; have N1 : Hid (OwnG w1 (g + 1) (.slice al P.length cl) L P.length) := Lib.hid (N.out.below hb (Nat.le_refl _)); have O1 := Lib.hid (O.out.below hb (Nat.le_refl _)); have B1 := Lib.hid (B.out.trans (hb.mono (by omega))); have Z1 := Lib.hid (Z.out.below (hb.mono (by omega))); have hgz1 : g < w1.heap.size := (by have := hb.size; omega); clear hb)) | (go_at_call 21; go_loud (refine (HC.out _ _ P L P.length k j w1 O1.out.pts N1.out.cel rfl hk1 hj (by omega) RR.out).mono ?_; rintro e w2 ⟨⟨t, rfl, hnc⟩, hb⟩; have NC := Lib.hid hnc; clear hnc; have N2 : Hid (OwnG w2 (g + 1) (.slice al P.length cl) L P.length) := Lib.hid (N1.out.below hb (Nat.le_refl _)); have O2 := Lib.hid (O1.out.below hb (Nat.le_refl _)); have B2 := Lib.hid (B1.out.trans (hb.mono (by omega))); have Z2 := Lib.hid (Z1.out.below (hb.mono (by omega))); have hgz2 : g < w2.heap.size := (by have := hb.size; omega); clear hb)))
                    cases t
                    · go_wp2_with (go_at_call 22; go_loud (refine (refWith _ L (joinG L k d j o) P.length d k j o w2 N2.out.cel (by omega) (by omega) LJ.out).mono ?_; rintro e w3 ⟨⟨A', c', rfl, hN⟩, hb⟩; have N3 := Lib.hid (hN.base (C := g + 1) (by omega)); have O3 := Lib.hid (O2.out.below hb (Nat.le_refl _)); have B3 := Lib.hid (B2.out.trans (hb.mono (by omega))); have Z3 := Lib.hid (Z2.out.below (hb.mono (by omega))); clear hb hN))
                      go_roundw
                      case rel => exact ⟨d + 1, _, by go_num, by omega, MS.out (NC.out (by trivial)), N3.out, O3.out, Z3.out, B3.out⟩
                      case measure => (simp [intOf] <;> omega)
                    · go_wp2_with (fail)
                      go_roundw
                      case rel => exact ⟨d + 1, L, by go_num, by omega, MM.out, N2.out, O2.out, Z2.out, B2.out⟩
                      case measure => (simp [intOf] <;> omega)
                · go_wp2_with (go_at_call 20; go_loud (refine (refNearestD _ P k d wr O.out.pts hk1 (by omega) hd2).mono ?_; rintro e w1 ⟨h, hb⟩; rw [NR.out] at h; subst h; have N1 : Hid (OwnG w1 (g + 1) (.slice al P.length cl) L P.length) := Lib.hid (N.out.below hb (Nat.le_refl _)); have O1 := Lib.hid (O.out.below hb (Nat.le_refl _)); have B1 := Lib.hid (B.out.trans (hb.mono (by omega))); have Z1 := Lib.hid (Z.out.below (hb.mono (by omega))); have hgz1 : g < w1.heap.size := (by have := hb.size; omega); clear hb))
                  go_roundw
                  case rel => exact ⟨d + 1, L, by go_num, by omega, MM.out, N1.out, O1.out, Z1.out, B1.out⟩
                  case measure => (simp [intOf] <;> omega)
              · obtain rfl : d = 2 := by omega
                go_wp2_with (fail)
                go_roundw
                case rel => exact ⟨k + 1, L, by go_num, by omega, M.out, N.out, O.out, Z.out, B.out⟩
                case measure => (simp [intOf] <;> omega)
      · have q1 : decide (k < P.length) = false := by rw [decide_eq_false_iff_not]; exact hk1
        go_wp2_with (fail)
        go_ret2
        exact ⟨⟨P, L, _, _, 2 * k, rfl, N.out.base (by have := GW.out; omega), O.out.base (by have := GW.out; omega), AP.out.1, AP.out.2, M.out.1, M.out.2, hPm⟩, BB.out.trans (B.out.mono (by have := GW.out; omega))⟩
end Go.Proofs.YtbdkkkpgjcfdgaaDoor

namespace Go.Proofs.YtbdkkkpgjcfdgaaDoor
open Go.RowKit Go.ChangeShapes Go.WideShapes Go.Deep Go.Proofs.YtbdkkkpgjcfdgaaDoor.GrM Go.Proofs.YtbdkkkpgjcfdgaaDoor.VdM

theorem onB_of {P : List (Int × Int)} {L : List Int} {t : Nat} (h1 : Apart P) (h2 : BndP P) (h3 : MkG P L t) (h4 : NoX P L) : OnB P L where
  good := h3.good
  apart := h1
  bnd := h2
  near := fun v d hv hd hx => (h3.near v d hv hd hx).1
  nox := fun v u hv hu hx hy => by
    obtain ⟨a, ha, _⟩ := good_nat h3.good hv (by decide) hx
    obtain ⟨b, hb, _⟩ := good_nat h3.good hu (by decide) hy
    rw [ha, hb]
    exact h4 v u a b hv hu ha hb
def MkX (m : Nat) (w : World) (e : Ending) (w' : World) : Prop :=
  ∃ (P : List (Int × Int)) (L : List Int) (A : Option Addr) (c N : Nat) (pv : Value), e = .returned (.tuple #[.slice A N c, pv]) ∧ P.length = N ∧ OwnG w' w.heap.size (.slice A N c) L N ∧ OnB P L ∧ N ≤ m ∧ Below w.heap.size w w'
theorem makeX (m : Nat) (hm : m ≤ 100000) {A1 A2 A3 : Option Addr} {n1 n2 n3 : Nat} (c1 c2 c3 : Nat) {D1 D2 D3 : Nat → Int} {w : World} (h : Plane w A1 A2 A3 n1 n2 n3 D1 D2 D3) :
    Calls Tryd.prog 7 #[.agg #[.slice A1 n1 c1, .slice A2 n2 c2, .slice A3 n3 c3], .int .i64 m] w (MkX m w) := by
  refine (refMakeX A1 A2 A3 n1 n2 n3 c1 c2 c3 m D1 D2 D3 w h.h1 h.h2 h.h3 h.b1 h.b2 h.b3 hm).mono ?_
  rintro e w' ⟨⟨P, L, lv, pv, t, rfl, o1, o2, ap, bn, mk, nx, hP⟩, b⟩
  obtain ⟨ao, co, rfl⟩ := o1.form
  exact ⟨P, L, ao, co, P.length, pv, rfl, rfl, o1, onB_of ap bn mk nx, hP, b⟩
end Go.Proofs.YtbdkkkpgjcfdgaaDoor
