/-
  GridPlays: the walk: whatever is done, the call answers true and turns nothing that was there. Conditions: none.
-/
import Derived.Test.YtkgknbjcllcndaaGdPb
namespace Go.Proofs.Ytkgknbjcllcndaa
open Go.RowKit Go.Proofs.Ytkgknbjcllcndaa.GrM

/-- Two acts in a row. -/
def Acts2 (w : World) (g : Nat) (q V D W O V2 D2 W2 O2 : Int) : Prop := w.heap[g]? = some (.cells #[.int .u8 q, .int .i64 V, .int .i64 D, .int .i64 W, .int .i64 O, .int .u8 q, .int .i64 V2, .int .i64 D2, .int .i64 W2, .int .i64 O2] 31 (0, 0))
theorem Acts2.lt {w : World} {g : Nat} {q V D W O V2 D2 W2 O2 : Int} (h : Acts2 w g q V D W O V2 D2 W2 O2) : g < w.heap.size := (Array.getElem?_eq_some_iff.1 h).1
theorem Acts2.at_ {w : World} {g : Nat} {q V D W O V2 D2 W2 O2 : Int} (h : Acts2 w g q V D W O V2 D2 W2 O2) {j : Nat} (hj : j < 2) : ∃ a b c d : Int, w.cell? ⟨g, j * 5, none⟩ = some (.int .u8 q) ∧ w.cell? ⟨g, j * 5 + 1, none⟩ = some (.int .i64 a) ∧ w.cell? ⟨g, j * 5 + 2, none⟩ = some (.int .i64 b) ∧ w.cell? ⟨g, j * 5 + 3, none⟩ = some (.int .i64 c) ∧ w.cell? ⟨g, j * 5 + 4, none⟩ = some (.int .i64 d) := by
  unfold Acts2 at h
  have hc : j = 0 ∨ j = 1 := by omega
  rcases hc with rfl | rfl
  · exact ⟨V, D, W, O, by simp [World.cell?, h], by simp [World.cell?, h], by simp [World.cell?, h], by simp [World.cell?, h], by simp [World.cell?, h]⟩
  · exact ⟨V2, D2, W2, O2, by simp [World.cell?, h], by simp [World.cell?, h], by simp [World.cell?, h], by simp [World.cell?, h], by simp [World.cell?, h]⟩
theorem Acts2.out {w w' : World} {S : Nat → Prop} {g : Nat} {q V D W O V2 D2 W2 O2 : Int} (h : Acts2 w g q V D W O V2 D2 W2 O2) (o : Out S w w') (hn : ¬ S g) : Acts2 w' g q V D W O V2 D2 W2 O2 := (o.block g h.lt hn).trans h
def PlOut (wb : World) (p : Nat) (K : Nat) (wr : World) (lv iv : Value) : Prop :=
  ∃ (k : Nat) (v : Value) (A : Option Addr) (c n : Nat) (L : List Int), iv = .int .i64 k ∧ k ≤ K ∧ lv = .slice A n c ∧ PlS wb.heap.size wb wr p v lv L n ∧ n ≤ 7 + 2 * k
def PlIn (wb : World) (p g k : Nat) (q V D W O V2 D2 W2 O2 : Int) (wr : World) (lv jv : Value) : Prop :=
  ∃ (j : Nat) (v : Value) (A : Option Addr) (c n : Nat) (L : List Int), jv = .int .i64 j ∧ j ≤ 2 ∧ lv = .slice A n c ∧ PlS wb.heap.size wb wr p v lv L n ∧ n ≤ 7 + 2 * k + j ∧ Acts2 wr g q V D W O V2 D2 W2 O2 ∧ ¬ FootG p v g

set_option maxHeartbeats 16000000 in
set_option maxRecDepth 100000 in
theorem plays10 (u : Int) (b o ln cap K : Nat) (Dq DV DD DW DO : Nat → Int) (w : World) (hu0 : 0 ≤ u) (hu1 : u ≤ 255) (hb : b < w.heap.size) (hcap : ln ≤ cap) (hK : K ≤ ln) (hK40 : K ≤ 40) (hmin : (if (40 : Int) < (ln : Int) then (40 : Int) else (ln : Int)) = (K : Int))
    (r0 : ∀ k, k < ln → 0 ≤ Dq k ∧ Dq k ≤ 255) (hc : ∀ k, k < ln → w.cell? ⟨b, o + k * 5, none⟩ = some (.int .u8 (Dq k)) ∧ w.cell? ⟨b, o + k * 5 + 1, none⟩ = some (.int .i64 (DV k)) ∧ w.cell? ⟨b, o + k * 5 + 2, none⟩ = some (.int .i64 (DD k)) ∧ w.cell? ⟨b, o + k * 5 + 3, none⟩ = some (.int .i64 (DW k)) ∧ w.cell? ⟨b, o + k * 5 + 4, none⟩ = some (.int .i64 (DO k))) :
    Calls Try.prog 3 #[.int .u8 u, .slice (some ⟨b, o, none⟩) ln cap] w fun e w' => e = .returned (.bool true) ∧ Below w.heap.size w w' := by
  obtain ⟨m, hm⟩ : ∃ m : Nat, u % 8 = (m : Int) := ⟨(u % 8).toNat, by omega⟩
  have hm8 : m ≤ 7 := by omega
  have NY := Lib.hid (fun w => newY m w (by omega))
  have RN := Lib.hid (fun w => refNew m w (by omega))
  have WK := Lib.hid (fun w => wakes10 w)
  have R0 := Lib.hid r0
  have HC := Lib.hid hc
  clear r0 hc
  go_enter Try.func3, Try.ntmps3
  go_wp2_with (first
    | (go_at_call 10; refine (WK.out _).mono ?_; rintro e w3 ⟨rfl, b3⟩; have B3 := Lib.hid b3; clear b3)
    | (go_at_call 9; refine (RN.out _).mono ?_; rintro e w2 ⟨⟨g2, rfl, o2⟩, b2⟩; have O2 := Lib.hid o2; have B2 := Lib.hid b2; clear o2 b2)
    | (go_at_call 8; refine (NY.out _).mono ?_; rintro e w1 ⟨p, v1, rfl, g1, f1, b1⟩; have G1 := Lib.hid g1; have F1 := Lib.hid f1; have B1 := Lib.hid b1; clear g1 f1 b1))
  have S0 : Hid (PlS w.heap.size w w3 p v1 (.slice (some ⟨g2, 0, none⟩) m m) (newG m) m) := Lib.hid (by
    have h1 : PlS w.heap.size w w2 p v1 (.slice (some ⟨g2, 0, none⟩) m m) (newG m) m := by
      refine ⟨G1.out.below B2.out, O2.out.base (Nat.zero_le _), fun b hb hf => ?_, new_good m, F1.out, B1.out.trans (B2.out.mono B1.out.size)⟩
      have := (World.ownsRow.lt O2.out b hb).1
      have := G1.out.foot hf
      omega
    exact h1.still h1.below.size B3.out)
  clear G1 F1 B1 O2 B2 B3 hm hu0 hu1 hmin
  go_loopw [8, 49] (fun lv iv wr => PlOut w p K wr lv iv) (fun _ iv _ => K - (intOf iv).toNat)
  case atStart => exact ⟨0, v1, _, _, m, newG m, rfl, Nat.zero_le _, rfl, S0.out, by omega⟩
  case round =>
    clear S0
    obtain ⟨k, v, A, c, n, L, rfl, hk, rfl, hS, hn⟩ := hrel
    have S := Lib.hid hS
    have BW := Lib.hid hS.below
    have hsz := hS.below.size
    clear hS
    obtain ⟨wo, hwo⟩ : ∃ W, W = wr := ⟨_, rfl⟩
    subst hwo
    by_cases hlt : k < K
    · have q1 : decide (k < K) = true := decide_eq_true hlt
      obtain ⟨d0, d1, d2, d3, d4⟩ := HC.out k (by omega)
      obtain ⟨rq0, rq1⟩ := R0.out k (by omega)
      have e0 := (BW.out.cell (p := ⟨b, o + k * 5, none⟩) hb).trans d0
      have e1 := (BW.out.cell (p := ⟨b, o + k * 5 + 1, none⟩) hb).trans d1
      have e2 := (BW.out.cell (p := ⟨b, o + k * 5 + 2, none⟩) hb).trans d2
      have e3 := (BW.out.cell (p := ⟨b, o + k * 5 + 3, none⟩) hb).trans d3
      have e4 := (BW.out.cell (p := ⟨b, o + k * 5 + 4, none⟩) hb).trans d4
      have hbz := Nat.lt_of_lt_of_le hb hsz
      clear d0 d1 d2 d3 d4
      generalize Dq k = q at *
      generalize DV k = V at *
      generalize DD k = D at *
      generalize DW k = W at *
      generalize DO k = O at *
      obtain ⟨mV, hV⟩ : ∃ x : Nat, (if 0 < V then V else 0) = (x : Int) := ⟨V.toNat, by split <;> omega⟩
      obtain ⟨V2, hV2⟩ : ∃ x : Int, (mV : Int) % 10 = x := ⟨_, rfl⟩
      obtain ⟨mD, hD⟩ : ∃ x : Nat, (if 0 < D then D else 0) = (x : Int) := ⟨D.toNat, by split <;> omega⟩
      obtain ⟨D2, hD2⟩ : ∃ x : Int, (mD : Int) % 4 = x := ⟨_, rfl⟩
      obtain ⟨mW, hW⟩ : ∃ x : Nat, (if 0 < W then W else 0) = (x : Int) := ⟨W.toNat, by split <;> omega⟩
      obtain ⟨W2, hW2⟩ : ∃ x : Int, (mW : Int) % 10 = x := ⟨_, rfl⟩
      go_upto_region 9 with (fail)
      obtain ⟨O5, hO5⟩ : ∃ x : Int, O.tmod 5 = x := ⟨_, rfl⟩
      obtain ⟨O2, hO2⟩ : ∃ x : Int, (if -2 < O5 then O5 else -2) = x := ⟨_, rfl⟩
      go_wp2_with fail
      clear hV hV2 hD hD2 hW hW2 hO5 hO2 e0 e1 e2 e3 e4 hbz
      go_loopw [8, 75] (fun lv jv wr => PlIn w p (wo.heap.size + 1) k q V D W O V2 D2 W2 O2 wr lv jv) (fun _ jv _ => 2 - (intOf jv).toNat)
      case atStart =>
        refine ⟨0, v, _, _, n, L, rfl, Nat.zero_le _, rfl, S.out.still hsz (((Below.refl _ _).alloc (Nat.le_refl _) _).alloc (by simp) _), by omega, heap_two wo _ _, fun hf => ?_⟩
        have := S.out.grd.foot hf
        omega
      case round =>
        clear S BW hn
        obtain ⟨j, v, A, c, n, L, rfl, hj, rfl, hS, hn, hA, hg⟩ := hrel
        have S := Lib.hid hS
        have AC := Lib.hid hA
        have hsr := hS.below.size
        clear hS
        by_cases hj2 : j < 2
        · have q2 : decide (j < 2) = true := decide_eq_true hj2
          have q3 : decide ((j : Int) < 2) = true := decide_eq_true (by omega)
          obtain ⟨x1, x2, x3, x4, f0, f1, f2, f3, f4⟩ := hA.at_ hj2
          have hgl := hA.lt
          clear hA
          obtain ⟨r, hr⟩ : ∃ r : Int, q % 4 = r := ⟨_, rfl⟩
          go_upto_block 4 with (fail)
          clear hr f0 f1 f2 f3 f4
          obtain ⟨wx, hwx⟩ : ∃ W, W = wr.alloc (.cells #[.int .u8 q, .int .i64 x1, .int .i64 x2, .int .i64 x3, .int .i64 x4] 31) := ⟨_, rfl⟩
          have bx : Below wr.heap.size wr wx := by rw [hwx]; exact (Below.refl _ _).alloc (Nat.le_refl _) _
          have X := Lib.hid (show PlX wx wr.heap.size q x1 x2 x3 x4 from by rw [hwx]; exact heap_alloc_new wr _)
          have SX := Lib.hid (S.out.still hsr bx)
          have AX := Lib.hid (AC.out.out (Out.ofBelow (S := fun _ => False) bx) (fun e => e))
          have hxf : ¬ FootG p v wr.heap.size := fun hf => by have := S.out.grd.foot hf; omega
          have hsx : w.heap.size ≤ wx.heap.size := Nat.le_trans hsr bx.size
          rw [← hwx]
          generalize wr.heap.size = xb at *
          clear hwx bx S AC
          go_cut [8] from 160 to 160 (fun lv wc => PlC w.heap.size w p v n wx lv wc)
          case first =>
            refine plB4 SX.out X.out hsx hxf (by omega) ?_ ?_
            · intro lv2 v13 v14 v15 v16 v17 v18 v19 v20 v21 v22 v82 v83 v84 v85 v86 v87 v88 v89 v90 v91 v92 v93 v94 v95 v96 v97 v98 v99 v100 v101 v102 v103 v104 v105 v106 v107 v108 v109 v110 v111 v112 v113 v114 v115 v116 v117 v118 v119 v120 v121 v122 v123 v124 v125 v126 v127 v128 v129 v130 v131 v132 v133 v134 v135 v136 v137 v138 v139 v140 v141 v142 v143 v144 v145 v146 v147 v148 v149 v150 v151 v152 v153 v154 v155 v156 v157 v158 v159 v160 w' hw
              dsimp only
              go_wp2_with fail
              go_meet
              exact hw
            · intro v13 v14 v15 v16 v17 v18 v19 v20 v21 v22 v82 v83 v84 v85 v86 v87 v88 v89 v90 v91 v92 v93 v94 v95 v96 v97 v98 v99 v100 v101 v102 v103 v104 v105 v106 v107 v108 v109 v110 v111 v112 v113 v114 v115 v116 v117 v118 v119 v120 v121 v122 v123 v124 v125 v126 v127 v128 v129 v130 v131 v132 v133 v134 v135 v136 v137 v138 v139 v140 v141 v142 v143 v144 v145 v146 v147 v148 v149 v150 v151 v152 v153 v154 v155 v156 v157 v158 v159 v160
              dsimp only
              go_wp2_with fail
              go_roundw
              case rel => exact ⟨j + 1, v, A, c, n, L, by go_num, by omega, rfl, SX.out, by omega, AX.out, hg⟩
              case measure => (simp [intOf] <;> omega)
          case rest =>
            obtain ⟨v', L', n', S', O', F', hn'⟩ := hcut
            obtain ⟨wz, hwz⟩ : ∃ W, W = wc := ⟨_, rfl⟩
            subst hwz
            obtain ⟨A', c', e'⟩ := S'.lst.form
            subst e'
            have X2 := X.out.out O' hxf
            have XZ := Lib.hid X2
            have AZ := Lib.hid (AX.out.out O' hg)
            have hg' : ¬ FootG p v' (wo.heap.size + 1) := fun hf => by
              rcases F' _ hf with h | h
              · exact hg h
              · have := AX.out.lt; omega
            have SZ := Lib.hid S'
            have hsz2 := S'.below.size
            obtain ⟨-, y1, y2, -, -⟩ := X2.at_
            have NX := Lib.hid (nextY S'.grd x1 x2)
            clear X2 S' O' F' X AX SX hxf
            go_upto_region 31 with (go_at_call 17; refine NX.out.mono ?_; rintro e w5 ⟨rfl, b5⟩; have B5 := Lib.hid b5; clear b5)
            have SN := Lib.hid (SZ.out.still hsz2 B5.out)
            have XN := Lib.hid (XZ.out.out (Out.ofBelow (S := fun _ => False) B5.out) (fun e => e))
            have AN := Lib.hid (AZ.out.out (Out.ofBelow (S := fun _ => False) B5.out) (fun e => e))
            have hs5 := Nat.le_trans hsz2 B5.out.size
            clear NX SZ XZ AZ B5 y1 y2
            go_cut [26] from 205 to 205 (fun s wd => s = .bool (stepB L' n' x1 x2) ∧ Below w5.heap.size w5 wd)
            case first =>
              refine plH SN.out.lst SN.out.good XN.out ?_
              intro v171 v172 v173 v174 v175 v176 v177 v178 v179 v180 v181 v182 v183 v184 v185 v186 v187 v188 v189 v190 v191 v192 v193 v194 v195 v196 v197 v198 v199 v200 v201 v202 v203 v204 v205 w' hw
              dsimp only
              go_wp2_with fail
              go_meet
              exact ⟨rfl, hw⟩
            case rest =>
              obtain ⟨rfl, h6⟩ := hcut
              obtain ⟨w6, hw6⟩ : ∃ W, W = wc := ⟨_, rfl⟩
              subst hw6
              have SN2 := Lib.hid (SN.out.still hs5 h6)
              have XN2 := Lib.hid (XN.out.out (Out.ofBelow (S := fun _ => False) h6) (fun e => e))
              have AN2 := Lib.hid (AN.out.out (Out.ofBelow (S := fun _ => False) h6) (fun e => e))
              have hs6 := Nat.le_trans hs5 h6.size
              clear h6 SN XN AN
              go_upto_region 32 with (fail)
              go_cut [249] from 248 to 248 (fun s wd => s = .bool false ∧ Below w6.heap.size w6 wd)
              case first =>
                refine plE SN2.out.lst XN2.out ?_
                intro v206 v207 v208 v209 v210 v211 v212 v213 v214 v215 v216 v217 v218 v219 v220 v221 v222 v223 v224 v225 v226 v227 v228 v229 v230 v231 v232 v233 v234 v235 v236 v237 v238 v239 v240 v241 v242 v243 v244 v245 v246 v247 v248 w' hw
                dsimp only
                go_wp2_with fail
                go_meet
                exact ⟨rfl, hw⟩
              case rest =>
                obtain ⟨rfl, h7⟩ := hcut
                have SN3 := Lib.hid (SN2.out.still hs6 h7)
                have AN3 := Lib.hid (AN2.out.out (Out.ofBelow (S := fun _ => False) h7) (fun e => e))
                clear h7 SN2 XN2 AN2
                go_wp2_with fail
                go_roundw
                case rel => exact ⟨j + 1, v', A', c', n', L', by go_num, by omega, rfl, SN3.out, by omega, AN3.out, hg'⟩
                case measure => (simp [intOf] <;> omega)
        · have hj3 : j = 2 := by omega
          subst hj3
          have LY := Lib.hid (lenY S.out.grd)
          have CY := Lib.hid (cellsY S.out.grd (by omega))
          have q2 : decide (2 < 2) = false := by decide
          go_wp2_with (first
            | (go_at_call 19; refine (refSameC _ _ L L n n _ O6.out (OwnG.cel (S.out.lst.below B6.out (Nat.le_refl _))) (by omega) (by omega)).mono ?_; rintro e w7 ⟨rfl, b7⟩; rw [decide_eq_true (rfl : L = L)]; have B7 := Lib.hid b7; clear b7)
            | (go_at_call 20; refine CY.out.mono ?_; rintro e w6 ⟨A6, c6, rfl, o6, b6⟩; have O6 := Lib.hid (OwnG.cel o6); have B6 := Lib.hid b6; clear o6 b6)
            | (go_at_call 18; refine LY.out.mono ?_; rintro e w5 ⟨rfl, rfl⟩))
          go_roundw
          case rel => exact ⟨k + 1, v, A, c, n, L, by go_num, by omega, rfl, (S.out.still hsr B6.out).still (Nat.le_trans hsr B6.out.size) B7.out, by omega⟩
          case measure => (simp [intOf] <;> omega)
    · have hkK : k = K := by omega
      subst hkK
      have q1 : decide (k < k) = false := decide_eq_false hlt
      go_wp2_with fail
      go_ret
      exact ⟨rfl, BW.out⟩
end Go.Proofs.Ytkgknbjcllcndaa
