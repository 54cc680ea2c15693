/-
  CertProves: the walk. Conditions: what Solve is asked to leave; the library's table and errors are laid.
-/
import Derived.Test.YtdpacaomkahgfaaGreatDoorCtV
import Derived.Test.YtdpacaomkahgfaaGreatDoorCrLc
namespace Go.Proofs.YtdpacaomkahgfaaGreatDoor
open Go.RowKit Go.Proofs.YtdpacaomkahgfaaGreatDoor.DagM

structure PairAt (w : World) (b k : Nat) (a0 a1 : Option Addr) (c0 c1 : Nat) (p0 q0 : List Int) : Prop where
  fst : w.cell? ⟨b, k * 2, none⟩ = some (.slice a0 p0.length c0)
  snd : w.cell? ⟨b, k * 2 + 1, none⟩ = some (.slice a1 q0.length c1)
  x : IntsAt w (.slice a0 p0.length c0) p0
  f : IntsAt w (.slice a1 q0.length c1) q0
  lt : b < w.heap.size
def PvRel (w0 wr : World) (iv : Value) : Prop := ∃ k : Nat, iv = .int .i64 k ∧ k ≤ 2 ∧ Below w0.heap.size w0 wr
def PwRel (w0 wr : World) (iv : Value) : Prop := ∃ j : Nat, iv = .int .i64 j ∧ j ≤ 2 ∧ Below w0.heap.size w0 wr
def PlRel (n g cap : Nat) (w0 wr : World) (iv : Value) : Prop := ∃ (i : Nat) (s : Nat → Int), iv = .int .i64 i ∧ i ≤ n ∧ XzAt w0 wr g cap n s ∧ (∀ u, i ≤ u → -1000000 ≤ s u ∧ s u ≤ 1000000) ∧ (∀ u, -1001000 ≤ s u ∧ s u ≤ 1001000)
theorem coord_near {n : Nat} {x : List Int} (h : coordB n x = true) : x.length = n ∧ ∀ u, -1000000 ≤ x.getD u 0 ∧ x.getD u 0 ≤ 1000000 := by
  unfold coordB at h
  simp only [Bool.and_eq_true, decide_eq_true_eq, Bool.not_eq_true', List.any_eq_false] at h
  refine ⟨by omega, fun u => ?_⟩
  by_cases hu : u < x.length
  · have := h.2 x[u] (List.getElem_mem hu)
    simp only [far, Bool.or_eq_true, decide_eq_true_eq, not_or] at this
    simp [List.getD_eq_getElem?_getD, hu]
    omega
  · simp [List.getD_eq_getElem?_getD, hu]
theorem range_near {n : Nat} {s : Nat → Int} (h : ∀ u, -1001000 ≤ s u ∧ s u ≤ 1001000) (i : Int) (h0 : 0 ≤ i) (h1 : i < n) : -1100000 ≤ val ((List.range n).map s) i ∧ val ((List.range n).map s) i ≤ 1100000 ∧ i.toNat < ((List.range n).map s).length := by
  have hi : i.toNat < n := by omega
  have e : val ((List.range n).map s) i = s i.toNat := by simp [val, List.getD_eq_getElem?_getD, hi]
  rw [e]
  have := h i.toNat
  exact ⟨by omega, by omega, by simpa using hi⟩
set_option maxHeartbeats 8000000 in
set_option maxRecDepth 100000 in
theorem provesLaw (hS : SolveSpec) (N : Int) (A : Option Addr) (len cap : Nat) (D : Nat → Int × Int × Int) (Ax Af Ay : Option Addr) (cx cf cy : Nat) (xs fs ys : List Int) (w : World) (hTb : TabE w) (hN0 : 0 ≤ N) (hN1 : N ≤ 255) (hT : TriAt w A len D)
    (hX : IntsAt w (.slice Ax xs.length cx) xs) (hF : IntsAt w (.slice Af fs.length cf) fs) (hY : IntsAt w (.slice Ay ys.length cy) ys) :
    Calls Tryz.prog 4 #[.agg #[.int .u8 N, .slice A len cap, .slice Ax xs.length cx, .slice Af fs.length cf, .slice Ay ys.length cy]] w fun e w' => e = .returned (.bool true) ∧ Below w.heap.size w w' := by
  have T := Lib.hid hT
  have HT := Lib.hid hTb
  have SV := Lib.hid hS
  have XA := Lib.hid hX
  have FA := Lib.hid hF
  have YA := Lib.hid hY
  clear hT hS hTb hX hF hY
  go_enter Tryz.func4, Tryz.ntmps4
  go_wp2
  go_quiet (fail)
  all_goals
    go_upto_region 4 with (first
      | (go_at_call 8; go_loud (refine (make_ N A len cap 10 D _ hN0 hN1 (by omega) (by omega) (T.out.below (belowN ((Below.refl _ _).alloc (Nat.le_refl _) _) _))).mono ?_; rintro e w1 ⟨n, vK, K, rfl, hnm, hRi, hO, hb⟩; obtain ⟨aK, cK, rfl⟩ := hO.form; have OK1 := Lib.hid hO.arcs; have B1 : Hid (Below w.heap.size w w1) := Lib.hid ((belowN ((Below.refl _ _).alloc (Nat.le_refl _) _) _).trans (hb.mono (by simp))); have z1 : w.heap.size + 1 ≤ w1.heap.size := (by have := hb.size; simpa using this); have hn1 : 1 ≤ n := hRi.n1; have hKl : K.length ≤ 40 := hRi.len; have RI := Lib.hid hRi; have RO := Lib.hid (hRi.ord (by omega)); have RM := Lib.hid (hRi.may (by omega)); clear hRi hO hb))
      | (go_at_call 9; go_loud (refine (SV.out.ok n _ K _ OK1.out RO.out).mono ?_; rintro e w2 ⟨xv, fv, x, f, ways, rfl, hx, hf, hs, hb⟩; obtain ⟨ax, cx2, h1⟩ := hx.form; rw [hs.len] at h1; subst h1; obtain ⟨af, cf2, h2⟩ := hf.form; rw [hs.flen] at h2; subst h2; have SS := Lib.hid hs; have XI2 := Lib.hid hx.ints; have FI2 := Lib.hid hf.ints; have B2 := Lib.hid (B1.out.trans (hb.mono (by omega))); have z2 : w.heap.size + 1 ≤ w2.heap.size := (by have := hb.size; omega); have AK2 := Lib.hid (OK1.out.below hb); clear hx hf hs hb)))
    have XB := Lib.hid (XA.out.below B2.out)
    have FB := Lib.hid (FA.out.below B2.out)
    have YB := Lib.hid (YA.out.below B2.out)
    clear T XA FA YA OK1 B1
    have PR : Hid (∀ (o1 : Obj) (T2 : Nat) (k : Nat), k < 2 → ∃ a0 a1 c0 c1 p0 q0, PairAt ((w2.alloc o1).alloc (.cells #[.slice Ax xs.length cx, .slice Af fs.length cf, .slice ax n cx2, .slice af K.length cf2] T2)) (w2.heap.size + 1) k a0 a1 c0 c1 p0 q0) := Lib.hid (fun o1 T2 k hk => by
      have b2 := two_up w2 o1 (.cells #[.slice Ax xs.length cx, .slice Af fs.length cf, .slice ax n cx2, .slice af K.length cf2] T2)
      rcases (by omega : k = 0 ∨ k = 1) with rfl | rfl
      · exact ⟨Ax, Af, cx, cf, xs, fs, by go_simp, by go_simp, XB.out.below b2, FB.out.below b2, by simp⟩
      · refine ⟨ax, af, cx2, cf2, x, f, ?_, ?_, ?_, ?_, by simp⟩
        · rw [SS.out.len]; go_simp
        · rw [SS.out.flen]; go_simp
        · rw [SS.out.len]; exact XI2.out.below b2
        · rw [SS.out.flen]; exact FI2.out.below b2)
    go_wp2
    go_loopw [46] (fun iv wr => PvRel ((w2.alloc (.cells #[.slice ax n cx2, .slice af K.length cf2, .int .i64 ways] 33)).alloc (.cells #[.slice Ax xs.length cx, .slice Af fs.length cf, .slice ax n cx2, .slice af K.length cf2] 47)) wr iv) (fun iv _ => 2 - (intOf iv).toNat)
    case atStart => exact ⟨0, rfl, by omega, Below.refl _ _⟩
    case round =>
      obtain ⟨k, rfl, hk, hB⟩ := hrel
      have PR2 := PR.out (.cells #[.slice ax n cx2, .slice af K.length cf2, .int .i64 ways] 33) 47 k
      have hwb := two_up w2 (.cells #[.slice ax n cx2, .slice af K.length cf2, .int .i64 ways] 33) (.cells #[.slice Ax xs.length cx, .slice Af fs.length cf, .slice ax n cx2, .slice af K.length cf2] 47)
      clear PR
      generalize (w2.alloc (.cells #[.slice ax n cx2, .slice af K.length cf2, .int .i64 ways] 33)).alloc (.cells #[.slice Ax xs.length cx, .slice Af fs.length cf, .slice ax n cx2, .slice af K.length cf2] 47) = wl at *
      have B := Lib.hid (hwb.trans (hB.mono hwb.size))
      have R := Lib.hid hB
      have zl := hwb.size
      have zr := hB.size
      have AKr := Lib.hid (AK2.out.below B.out)
      have YR := Lib.hid (YB.out.below B.out)
      clear hwb hB
      by_cases hlt : k < 2
      · obtain ⟨a0, a1, c0, c1, p0, q0, HP⟩ := PR2 hlt
        have e0 := (R.out.cell (p := ⟨w2.heap.size + 1, k * 2, none⟩) HP.lt).trans HP.fst
        have e1 := (R.out.cell (p := ⟨w2.heap.size + 1, k * 2 + 1, none⟩) HP.lt).trans HP.snd
        have XR := Lib.hid (HP.x.below R.out)
        have FR := Lib.hid (HP.f.below R.out)
        clear PR2 HP
        obtain ⟨h, hmin, hh0, hh1⟩ : ∃ h : Nat, min (p0.length : Int) (n : Int) = (h : Int) ∧ h ≤ p0.length ∧ h ≤ n := ⟨min p0.length n, by omega, by omega, by omega⟩
        have hc0 : p0.length ≤ c0 := by
          obtain ⟨A', cap', e, hc, _⟩ := XR.out
          simp only [Value.slice.injEq, true_and] at e
          omega
        have hhc : h ≤ c0 := by omega
        have PT := Lib.hid (ints_take XR.out h hh0)
        obtain ⟨P, hPd⟩ : ∃ P, p0.take h = P := ⟨_, rfl⟩
        have hPl : P.length = h := by rw [← hPd, List.length_take]; omega
        have PL := Lib.hid hPl
        rw [hPd] at PT
        clear hPd hPl hc0 XR
        go_upto_region 8 with (go_at_call 10; go_loud (refine (cloneI _ P _ (PT.out.below (one_up wr _)) (by rw [PL.out]; omega)).mono ?_; rintro e w3 ⟨v3, rfl, ho, hb⟩; obtain ⟨a3, c3, h3⟩ := ho.form; rw [PL.out] at h3; subst h3; have P3 := Lib.hid (ho.ints); have m1 : w3.cell? ⟨wr.heap.size, 1, none⟩ = some (.slice a1 q0.length c1) := (hb.cell (p := ⟨wr.heap.size, 1, none⟩) (by simp)).trans (by go_simp); have q3 := one_below hb; have R3 := Lib.hid (R.out.trans (q3.mono zr)); have z3 := R3.out.size; have A3 := Lib.hid (AKr.out.below q3); have Y3 := Lib.hid (YR.out.below q3); have F3 := Lib.hid (FR.out.below q3); clear ho hb q3))
        obtain ⟨ce, hce⟩ : ∃ ce, certErr n K P q0 = ce := ⟨_, rfl⟩
        have CE := Lib.hid hce
        by_cases hz : ce = 0
        · subst hz
          obtain ⟨_, hcr, hft, _, _⟩ := cert_ok hce
          have CR := Lib.hid hcr
          have FT := Lib.hid hft
          have CB := Lib.hid (fun y (hy : fitB y K = true) => cert_best hce hy)
          obtain ⟨hln, hnr⟩ := coord_near hcr
          rw [PL.out] at hln
          have NR := Lib.hid hnr
          clear hce hcr hft hnr
          subst hln
          obtain ⟨bs, hbs⟩ : ∃ bs, costSum P K = bs := ⟨_, rfl⟩
          have HB := Lib.hid hbs
          rw [hbs] at CB
          clear hbs
          go_upto_region 12 with (first
            | (go_at_call 13; go_loud (refine (checkC h _ _ _ K P q0 _ A3.out P3.out F3.out (by omega)).mono ?_; rintro e w4 ⟨rfl, hb⟩; rw [CE.out]; have R4 := Lib.hid (R3.out.trans (hb.mono z3)); have z4 := R4.out.size; have A4 := Lib.hid (A3.out.below hb); have Y4 := Lib.hid (Y3.out.below hb); have P4 := Lib.hid (P3.out.below hb); clear hb))
            | (go_at_call 15; go_loud (refine (refFit h _ _ K P _ RM.out (by rw [PL.out]) A4.out P4.out).mono ?_; rintro e w5 ⟨rfl, hb⟩; rw [FT.out]; have R5 := Lib.hid (R4.out.trans (hb.mono z4)); have z5 := R5.out.size; have A5 := Lib.hid (A4.out.below hb); have Y5 := Lib.hid (Y4.out.below hb); have P5 := Lib.hid (P4.out.below hb); clear hb))
            | (go_at_call 16; go_loud (refine (refCost h _ _ K P _ RM.out CR.out FT.out A5.out P5.out).mono ?_; rintro e w6 ⟨rfl, hb⟩; rw [HB.out]; have R6 := Lib.hid (R5.out.trans (hb.mono z5)); have z6 := R6.out.size; have A6 := Lib.hid (A5.out.below hb); have Y6 := Lib.hid (Y5.out.below hb); have P6 := Lib.hid (P5.out.below hb); clear hb)))
          clear A3 Y3 F3 P3 R3 A4 Y4 P4 R4 A5 Y5 P5 R5 z3 z4 z5 m1 e0 e1 FR PT YR AKr CE FT CR
          have WD : Hid (∀ T j, j < 2 → ∃ wd : Int, 1 ≤ wd ∧ wd ≤ 1000 ∧ (w6.alloc (.cells #[.int .i64 3, .int .i64 1000] T)).cell? ⟨w6.heap.size, j, none⟩ = some (.int .i64 wd)) := Lib.hid (fun T j hj => by
            rcases (by omega : j = 0 ∨ j = 1) with rfl | rfl
            · exact ⟨3, by omega, by omega, by go_simp⟩
            · exact ⟨1000, by omega, by omega, by go_simp⟩)
          obtain ⟨wo, hwo⟩ : ∃ W, W = wr := ⟨_, rfl⟩
          subst hwo
          go_wp2
          go_loopw [81] (fun iv wr2 => PwRel (w6.alloc (.cells #[.int .i64 3, .int .i64 1000] 3)) wr2 iv) (fun iv _ => 2 - (intOf iv).toNat)
          case atStart => exact ⟨0, rfl, by omega, Below.refl _ _⟩
          case round =>
            obtain ⟨j, rfl, hj, hB⟩ := hrel
            have WD2 := WD.out 3 j
            have h7 := one_up w6 (.cells #[.int .i64 3, .int .i64 1000] 3)
            have h7z : w6.heap.size < (w6.alloc (.cells #[.int .i64 3, .int .i64 1000] 3)).heap.size := by simp
            clear WD
            generalize w6.alloc (.cells #[.int .i64 3, .int .i64 1000] 3) = w7 at *
            have S := Lib.hid hB
            have R7 := Lib.hid (R6.out.trans ((h7.trans (hB.mono h7.size)).mono z6))
            have A7 := Lib.hid (A6.out.below (h7.trans (hB.mono h7.size)))
            have Y7 := Lib.hid (Y6.out.below (h7.trans (hB.mono h7.size)))
            have P7 := Lib.hid (P6.out.below (h7.trans (hB.mono h7.size)))
            have s7 := hB.size
            have r7 := R7.out.size
            clear h7 hB
            by_cases hjl : j < 2
            · obtain ⟨wd, hwd0, hwd1, hc⟩ := WD2 hjl
              have y0 := (S.out.cell (p := ⟨w6.heap.size, j, none⟩) h7z).trans hc
              clear WD2 hc
              go_upto_region 16 with (go_at_call 10; go_loud (refine (cloneI _ P _ P7.out (by rw [PL.out]; omega)).mono ?_; rintro e w8 ⟨v8, rfl, ho, hb⟩; obtain ⟨g, cp, h8, hx8⟩ := ho.xz hb (by rw [PL.out]; omega); rw [PL.out] at h8 hx8; subst h8; have X8 := Lib.hid hx8; have z8 := hb.size; clear ho hb hx8))
              obtain ⟨wb, hwb⟩ : ∃ W, W = wr := ⟨_, rfl⟩
              subst hwb
              go_wp2
              go_loopw [89] (fun iv wr3 => PlRel h g cp wb wr3 iv) (fun iv _ => h - (intOf iv).toNat)
              case atStart => exact ⟨0, _, rfl, by omega, X8.out, fun u _ => NR.out u, fun u => by have := NR.out u; omega⟩
              case round =>
                clear X8 y0
                obtain ⟨i, s, rfl, hi, hX, h0, h1⟩ := hrel
                have X := Lib.hid hX
                have H0 := Lib.hid h0
                have H1 := Lib.hid h1
                have hgl := hX.gl
                have hbs := hX.below.size
                clear hX h0 h1
                by_cases hil : i < h
                · by_cases hy : i < ys.length
                  · obtain ⟨bx, ox, cx3, e, hbx, x0⟩ := Y7.out.nth hy
                    simp only [Value.slice.injEq, true_and] at e
                    obtain ⟨rfl, rfl⟩ := e
                    have y1 := (X.out.below.cell (p := ⟨bx, ox + i, none⟩) hbx).trans x0
                    clear x0
                    generalize ys[i] = u at *
                    obtain ⟨z, hz⟩ : ∃ z : Int, u.tmod wd = z := ⟨_, rfl⟩
                    have hza : -999 ≤ z ∧ z ≤ 999 := by have h1 := Int.lt_tmod_of_pos u (b := wd) (by omega); have h2 := Int.tmod_lt_of_pos u (b := wd) (by omega); omega
                    obtain ⟨hza1, hza2⟩ := hza
                    have hwn : ¬ wd = 0 := by omega
                    have hwb0 : (wd == 0) = false := by rw [beq_eq_false_iff_ne]; omega
                    have l0 := X.out.cell hil
                    have l1 := X.out.fr i
                    have hsk := H0.out i (Nat.le_refl _)
                    obtain ⟨p, hp⟩ : ∃ p, s i = p := ⟨_, rfl⟩
                    rw [hp] at l0 hsk
                    obtain ⟨hp1, hp2⟩ := hsk
                    clear hp
                    have hw1 : IntKind.i64.wrap z = z := IntWalk.i64_in _ (by omega)
                    have hw2 : IntKind.i64.wrap (p + z) = p + z := IntWalk.i64_in _ (by omega)
                    go_wp2
                    go_still_tail 12, (by kernel_rfl)
                    change wpList _ _ _ _ _ wr.drew
                    go_wp2
                    go_roundw
                    case rel =>
                      refine ⟨i + 1, _, by go_num, by omega, (X.out.set i (p + z)).quiet (Below.refl _ _).drew, fun v hv => ?_, fun v => ?_⟩
                      · have : ¬ v = i := by omega
                        rw [if_neg this]
                        exact H0.out v (by omega)
                      · by_cases e : v = i
                        · rw [if_pos e]; omega
                        · rw [if_neg e]; exact H1.out v
                    case measure => simp [intOf]; omega
                  · go_wp2
                    go_roundw
                    case rel => exact ⟨i + 1, s, by go_num, by omega, X.out, fun v hv => H0.out v (by omega), H1.out⟩
                    case measure => simp [intOf]; omega
                · have t0 : decide (i < h) = false := by simpa using hil
                  have XL : Hid (IntsAt wr (.slice (some ⟨g, 0, none⟩) h cp) ((List.range h).map s)) := Lib.hid X.out.own.ints
                  have AW := Lib.hid (A7.out.below X.out.below)
                  have RW := Lib.hid (S.out.trans (X.out.below.mono s7))
                  have SR := Lib.hid (fun i h0 h1 => range_near (n := h) H1.out i h0 h1)
                  clear hil hi H0 H1 X hgl hbs
                  obtain ⟨Ls, hLs⟩ : ∃ Ls, (List.range h).map s = Ls := ⟨_, rfl⟩
                  have LL : Hid (Ls.length = h) := Lib.hid (by rw [← hLs]; simp)
                  rw [hLs] at XL SR
                  clear hLs
                  cases hf : fitB Ls K with
                  | false =>
                    have HF := Lib.hid hf
                    clear hf
                    go_wp2_with (go_at_call 15; go_loud (refine (refFit h _ _ K Ls _ RM.out (by rw [LL.out]) AW.out XL.out).mono ?_; rintro e w9 ⟨rfl, hb⟩; rw [HF.out]; have Q9 := Lib.hid (RW.out.trans (hb.mono RW.out.size)); clear hb))
                    go_roundw
                    case rel => exact ⟨j + 1, by go_num, by omega, Q9.out⟩
                    case measure => simp [intOf]; omega
                  | true =>
                    have hbest := CB.out Ls hf
                    have HF := Lib.hid hf
                    obtain ⟨c2, hc2⟩ : ∃ c2, costSum Ls K = c2 := ⟨_, rfl⟩
                    rw [hc2] at hbest
                    have HC2 := Lib.hid hc2
                    have t1 : decide (c2 < bs) = false := by simp; omega
                    clear hf hc2
                    go_wp2_with (first
                      | (go_at_call 15; go_loud (refine (refFit h _ _ K Ls _ RM.out (by rw [LL.out]) AW.out XL.out).mono ?_; rintro e w9 ⟨rfl, hb⟩; rw [HF.out]; have Q9 := Lib.hid (RW.out.trans (hb.mono RW.out.size)); have A9 := Lib.hid (AW.out.below hb); have L9 := Lib.hid (XL.out.below hb); clear hb))
                      | (go_at_call 16; go_loud (refine (refCostW h _ _ K Ls _ RM.out SR.out HF.out A9.out L9.out).mono ?_; rintro e w10 ⟨rfl, hb⟩; rw [HC2.out]; have Q10 := Lib.hid (Q9.out.trans (hb.mono Q9.out.size)); clear hb)))
                    go_roundw
                    case rel => exact ⟨j + 1, by go_num, by omega, Q10.out⟩
                    case measure => simp [intOf]; omega
            · have t0 : decide (j < 2) = false := by simpa using hjl
              obtain hj2 : j = 2 := by omega
              clear WD2
              subst hj2
              go_wp2
              go_roundw
              case rel => exact ⟨k + 1, by go_num, by omega, R7.out⟩
              case measure => simp [intOf]; omega
        · have hz1 : (ce == 0) = false := by rw [beq_eq_false_iff_ne]; exact hz
          clear hce
          go_wp2_with (go_at_call 13; go_loud (refine (checkC n _ _ _ K P q0 _ A3.out P3.out F3.out (by omega)).mono ?_; rintro e w4 ⟨rfl, hb⟩; rw [CE.out]; have R4 := Lib.hid (R3.out.trans (hb.mono z3)); clear hb))
          go_roundw
          case rel => exact ⟨k + 1, by go_num, by omega, R4.out⟩
          case measure => simp [intOf]; omega
      · obtain hk2 : k = 2 := by omega
        have t0 : decide (k < 2) = false := by simpa using hlt
        have HTr := Lib.hid (HT.out.below (B2.out.trans (B.out.mono (by omega))) (Nat.le_refl _))
        have BW := Lib.hid (B2.out.trans (B.out.mono (by omega)))
        clear PR2
        subst hk2
        go_wp2_with (go_at_call 12; go_loud (refine (wakes6 _ HTr.out).mono ?_; rintro e w9 ⟨rfl, hb⟩; have B9 := Lib.hid (BW.out.trans (hb.mono BW.out.size)); clear hb))
        go_ret
        exact ⟨rfl, B9.out⟩
end Go.Proofs.YtdpacaomkahgfaaGreatDoor
