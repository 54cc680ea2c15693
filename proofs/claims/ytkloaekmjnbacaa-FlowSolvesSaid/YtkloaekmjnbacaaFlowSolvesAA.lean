/-
  FlowSolves: the walk. Conditions: what Solve and Supply are asked to leave.
  FlowSolves: its arguments opened. Conditions: what Solve and Supply are asked to leave.
-/
import Derived.Test.YtkloaekmjnbacaaFlowLa
import Derived.Test.YtkloaekmjnbacaaFlowLb
import Derived.Test.YtkloaekmjnbacaaFlowLc
import Derived.Deep.RegionHeld3
namespace Go.Proofs.Ytkloaekmjnbacaa
open Go.RowKit Go.Proofs.Ytkloaekmjnbacaa.DagM

/-- The graph with one arc more, in a row of the call's own. -/
def MoreAt (K : List Arc) (a b : Nat) (w0 w4 wx : World) (v : Value) : Prop := OwnA wx w0.heap.size v (K ++ [((a : Int), (b : Int), 0)]) ∧ Below w4.heap.size w4 wx

theorem newsB {w w5 : World} {T : TypeId} {a : Arc} (h : Below (w.alloc (.cells (encA a).toArray T)).heap.size (w.alloc (.cells (encA a).toArray T)) w5) : ∀ j z, (encA a)[j]? = some z → w5.cell? ((⟨w.heap.size, 0, none⟩ : Addr).add j) = some z := by
  intro j z hz
  have h1 := newsA w T a w.heap.size rfl j z hz
  rw [add_lit] at h1 ⊢
  exact (h.cell (p := ⟨w.heap.size, 0 + j, none⟩) (by simp)).trans h1

theorem ord_kinds {n : Nat} {L : List Arc} (h : ordErr n L ≠ 0) : (ordErr n L = 2 ∧ ¬ May n L) ∨ (ordErr n L = 11 ∧ May n L) := by
  by_cases hm : mayB n L = true
  · right
    refine ⟨?_, (mayB_iff _ _).1 hm⟩
    unfold ordErr at h ⊢
    rw [if_pos hm] at h ⊢
    by_cases hl : (topo (ends L) (n : Int).toNat).length < (n : Int).toNat
    · rw [if_pos hl]
    · rw [if_neg hl] at h; exact absurd rfl h
  · left
    refine ⟨?_, fun h2 => hm ((mayB_iff _ _).2 h2)⟩
    unfold ordErr
    rw [if_neg hm]

set_option maxHeartbeats 8000000 in
set_option maxRecDepth 100000 in
theorem solves (hS : SolveSpec) (hU : SupplySpec) (N : Int) (A : Option Addr) (len cap : Nat) (D : Nat → Int × Int × Int) (p q : Int) (w : World) (hN0 : 0 ≤ N) (hN1 : N ≤ 255) (hT : TriAt w A len D) (hp0 : 0 ≤ p) (hp1 : p ≤ 255) (hq0 : 0 ≤ q) (hq1 : q ≤ 255) :
    Calls Try.prog 3 #[.agg #[.int .u8 N, .slice A len cap], .agg #[.int .u8 p, .int .u8 q]] w fun e w' => e = .returned (.bool true) ∧ Below w.heap.size w w' := by
  have T := Lib.hid hT
  have SV := Lib.hid hS
  have SU := Lib.hid hU
  clear hT hS hU
  obtain ⟨i0, hi, hz0, hz1, hz2⟩ := info_parts infoA3c
  go_enter Try.func3, Try.ntmps3
  go_upto_region 3 with (first
    | (go_at_call 8; refine (make_ N A len cap 30 D _ hN0 hN1 (by omega) (by omega) (T.out.below (((Below.refl _ _).alloc (Nat.le_refl _) _).alloc (by simp) _))).mono ?_; rintro e w1 ⟨n, vK, K, rfl, hnm, hRi, hO, hb⟩; obtain ⟨aK, cK, rfl⟩ := hO.form; have OK1 := Lib.hid hO.arcs; have k0 : w1.cell? ⟨w.heap.size + 1, 0, none⟩ = some (.int .u8 p) := (hb.cell (p := ⟨w.heap.size + 1, 0, none⟩) (by simp)).trans (by go_simp); have k1 : w1.cell? ⟨w.heap.size + 1, 1, none⟩ = some (.int .u8 q) := (hb.cell (p := ⟨w.heap.size + 1, 1, none⟩) (by simp)).trans (by go_simp); have B1 : Hid (Below w.heap.size w w1) := Lib.hid ((((Below.refl _ _).alloc (Nat.le_refl _) _).alloc (by simp) _).trans (hb.mono (by simp; omega))); have z1 : w.heap.size + 2 ≤ w1.heap.size := (by have := hb.size; simpa using this); have hn1 : 1 ≤ n := hRi.n1; have hKl : K.length ≤ 40 := hRi.len; have RO := Lib.hid (hRi.ord (by omega)); have RM := Lib.hid (hRi.may (by omega)); clear hRi hO hb)
    | (go_at_call 9; refine (SV.out.ok n _ K _ OK1.out RO.out).mono ?_; rintro e w2 ⟨xv, fv, x, f, ways, rfl, hx, hf, hs, hb⟩; obtain ⟨ax, cx, h1⟩ := hx.form; rw [hs.len] at h1; subst h1; obtain ⟨af, cf, h2⟩ := hf.form; rw [hs.flen] at h2; subst h2; have SS := Lib.hid hs; have XI2 := Lib.hid hx.ints; have FI2 := Lib.hid hf.ints; have B2 := Lib.hid hb; have z2 := hb.size; clear hx hf hs hb))
  have m0 := (B2.out.cell (p := ⟨w.heap.size + 1, 0, none⟩) (show w.heap.size + 1 < w1.heap.size by omega)).trans k0
  have m1 := (B2.out.cell (p := ⟨w.heap.size + 1, 1, none⟩) (show w.heap.size + 1 < w1.heap.size by omega)).trans k1
  have bb : Below w2.heap.size w2 (w2.alloc (.cells #[.slice ax n cx, .slice af K.length cf, .int .i64 ways] 31)) := (Below.refl _ _).alloc (Nat.le_refl _) _
  have g0 : (w2.alloc (.cells #[.slice ax n cx, .slice af K.length cf, .int .i64 ways] 31)).cell? ⟨w2.heap.size, 0, none⟩ = some (.slice ax n cx) := by simp
  have g1 : (w2.alloc (.cells #[.slice ax n cx, .slice af K.length cf, .int .i64 ways] 31)).cell? ⟨w2.heap.size, 1, none⟩ = some (.slice af K.length cf) := by simp
  have g2 : (w2.alloc (.cells #[.slice ax n cx, .slice af K.length cf, .int .i64 ways] 31)).cell? ⟨w2.heap.size, 2, none⟩ = some (.int .i64 ways) := by simp
  have zb : w2.heap.size < (w2.alloc (.cells #[.slice ax n cx, .slice af K.length cf, .int .i64 ways] 31)).heap.size := by simp
  generalize w2.alloc (.cells #[.slice ax n cx, .slice af K.length cf, .int .i64 ways] 31) = wb at *
  have BB := Lib.hid (B2.out.trans (bb.mono z2))
  have XI := Lib.hid (XI2.out.below bb)
  have FI := Lib.hid (FI2.out.below bb)
  have AK := Lib.hid (OK1.out.below BB.out)
  have mb0 := (bb.cell (p := ⟨w.heap.size + 1, 0, none⟩) (show w.heap.size + 1 < w2.heap.size by omega)).trans m0
  have mb1 := (bb.cell (p := ⟨w.heap.size + 1, 1, none⟩) (show w.heap.size + 1 < w2.heap.size by omega)).trans m1
  have hfl := SS.out.flen
  have hxl := SS.out.len
  have FL := Lib.hid hfl
  have XL := Lib.hid hxl
  have hcs := SS.out.cost (may_ends RM.out)
  have HCS := Lib.hid hcs
  obtain ⟨sm, hsm⟩ : ∃ sm, f.sum = sm := ⟨_, rfl⟩
  have HSM := Lib.hid hsm
  clear k0 k1 m0 m1 bb B2 XI2 FI2 hfl hxl hcs hsm
  go_region_held3 (fun w' => w'.cell? ⟨w2.heap.size, 0, none⟩ = some (.slice ax n cx) ∧ w'.cell? ⟨w2.heap.size, 1, none⟩ = some (.slice af K.length cf) ∧ w'.cell? ⟨w2.heap.size, 2, none⟩ = some (.int .i64 ways))
    (first
      | go_keep
      | (go_split_ands
         refine ⟨?_, ?_, ?_⟩
         · (first | (rw [Q6.out.cell (p := ⟨w2.heap.size, 0, none⟩) zb]; exact g0) | (rw [Q5.out.cell (p := ⟨w2.heap.size, 0, none⟩) zb]; exact g0) | (rw [Q4.out.cell (p := ⟨w2.heap.size, 0, none⟩) zb]; exact g0) | (rw [Q3.out.cell (p := ⟨w2.heap.size, 0, none⟩) zb]; exact g0) | (rw [Q2.out.cell (p := ⟨w2.heap.size, 0, none⟩) zb]; exact g0) | (rw [Q1.out.cell (p := ⟨w2.heap.size, 0, none⟩) zb]; exact g0))
         · (first | (rw [Q6.out.cell (p := ⟨w2.heap.size, 1, none⟩) zb]; exact g1) | (rw [Q5.out.cell (p := ⟨w2.heap.size, 1, none⟩) zb]; exact g1) | (rw [Q4.out.cell (p := ⟨w2.heap.size, 1, none⟩) zb]; exact g1) | (rw [Q3.out.cell (p := ⟨w2.heap.size, 1, none⟩) zb]; exact g1) | (rw [Q2.out.cell (p := ⟨w2.heap.size, 1, none⟩) zb]; exact g1) | (rw [Q1.out.cell (p := ⟨w2.heap.size, 1, none⟩) zb]; exact g1))
         · (first | (rw [Q6.out.cell (p := ⟨w2.heap.size, 2, none⟩) zb]; exact g2) | (rw [Q5.out.cell (p := ⟨w2.heap.size, 2, none⟩) zb]; exact g2) | (rw [Q4.out.cell (p := ⟨w2.heap.size, 2, none⟩) zb]; exact g2) | (rw [Q3.out.cell (p := ⟨w2.heap.size, 2, none⟩) zb]; exact g2) | (rw [Q2.out.cell (p := ⟨w2.heap.size, 2, none⟩) zb]; exact g2) | (rw [Q1.out.cell (p := ⟨w2.heap.size, 2, none⟩) zb]; exact g2))))
    ((first
      | (go_at_call 10; refine (wakes5 SV.out SU.out _).mono ?_; rintro e w3 ⟨rfl, hb⟩; have Q1 : Hid (Below wb.heap.size wb w3) := Lib.hid ((Below.refl wb.heap.size wb).drew.trans hb); clear hb)
      | (go_at_call 11; refine (rightLaw n _ _ _ K x f ways _ (AK.out.below Q1.out) RM.out (XI.out.below Q1.out) (FI.out.below Q1.out) SS.out (by omega)).mono ?_; rintro e w4 ⟨rfl, hb⟩; have Q2 := Lib.hid (Q1.out.trans (hb.mono Q1.out.size)); clear hb)
      | (go_at_call 12; refine (refSum _ f _ (by have h := FI.out.below Q2.out; exact h) SS.out.right.nn (SS.out.sum_near RM.out) (by rw [FL.out]; omega)).mono ?_; rintro e w5 ⟨rfl, rfl⟩; rw [HSM.out])
      | (go_at_call 13; refine (refCost n _ _ K x _ RM.out (SS.out.coord RM.out) SS.out.fit (AK.out.below Q2.out) (XI.out.below Q2.out)).mono ?_; rintro e w5 ⟨rfl, hb⟩; rw [← HCS.out, HSM.out]; have Q3 := Lib.hid (Q2.out.trans (hb.mono Q2.out.size)); clear hb)
      | (go_at_call 15; refine (SU.out.ok n _ K _ (AK.out.below Q3.out) RM.out).mono ?_; rintro e w6 ⟨v6, rfl, ho, hb⟩; obtain ⟨a6, c6, h6⟩ := ho.form; rw [List.length_map, List.length_range] at h6; subst h6; have O6 := Lib.hid ho; have Q4 := Lib.hid (Q3.out.trans (hb.mono Q3.out.size)); clear ho hb)
      | (go_at_call 16; refine (refSupply n _ K _ (AK.out.below Q4.out) RM.out).mono ?_; rintro e w7 ⟨g7, rfl, hx⟩; have O7 := Lib.hid hx.own; have O6b := Lib.hid (O6.out.below hx.below); have Q5 := Lib.hid (Q4.out.trans (hx.below.mono Q4.out.size)); clear hx)
      | (go_at_call 14; refine (equalI _ _ ((List.range n).map fun (u : Nat) => supF K u) ((List.range n).map fun (u : Nat) => supF K u) _ O6b.out.ints (by have h := O7.out.ints; exact h) (by simp; omega) (by simp; omega)).mono ?_; rintro e w6 ⟨rfl, hb⟩; rw [show (((List.range n).map fun (u : Nat) => supF K u) == ((List.range n).map fun (u : Nat) => supF K u)) = true by simp]; have Q6 := Lib.hid (Q5.out.trans (hb.mono Q5.out.size)); clear hb)))
  all_goals
    have z6 := Q6.out.size
    have B6 := Lib.hid (BB.out.trans (Q6.out.mono BB.out.size))
    have AK6 := Lib.hid (AK.out.below Q6.out)
    have m0 := (Q6.out.cell (p := ⟨w.heap.size + 1, 0, none⟩) (show w.heap.size + 1 < wb.heap.size by omega)).trans mb0
    have m1 := (Q6.out.cell (p := ⟨w.heap.size + 1, 1, none⟩) (show w.heap.size + 1 < wb.heap.size by omega)).trans mb1
    clear mb0 mb1 g0 g1 g2 Q1 Q2 Q3 Q4 Q5 O6 O6b O7 XI FI
    go_upto_region 5 with fail
    obtain ⟨m, hm, hm2⟩ : ∃ m : Nat, (n : Int) + 1 = (m : Int) ∧ m = n + 1 := ⟨n + 1, by omega, rfl⟩
    have hm3 : ¬ m = 0 := by omega
    obtain ⟨a, ha⟩ : ∃ r : Nat, p % (m : Int) = (r : Int) := ⟨(p % (m : Int)).toNat, by have := Int.emod_nonneg p (b := (m : Int)) (by omega); omega⟩
    have ha2 : p.tmod (m : Int) = (a : Int) := by rw [Int.tmod_eq_emod_of_nonneg hp0]; exact ha
    obtain ⟨b, hb⟩ : ∃ r : Nat, q % (m : Int) = (r : Int) := ⟨(q % (m : Int)).toNat, by have := Int.emod_nonneg q (b := (m : Int)) (by omega); omega⟩
    have hb2 : q.tmod (m : Int) = (b : Int) := by rw [Int.tmod_eq_emod_of_nonneg hq0]; exact hb
    have hw1 : IntKind.i64.wrap ((n : Int) + 1) = (m : Int) := by rw [IntWalk.i64_in _ (by omega)]; exact hm
    have hm4 : ((m : Int) == 0) = false := by rw [beq_eq_false_iff_ne]; omega
    have hm5 : ¬ (m : Int) = 0 := by omega
    have ham : a < m := by have := Int.emod_lt_of_pos p (b := (m : Int)) (by omega); omega
    have hbm : b < m := by have := Int.emod_lt_of_pos q (b := (m : Int)) (by omega); omega
    have hwa : IntKind.i64.wrap (a : Int) = a := IntWalk.i64_in _ (by omega)
    have hwb : IntKind.i64.wrap (b : Int) = b := IntWalk.i64_in _ (by omega)
    have hwm : IntKind.i64.wrap (m : Int) = m := IntWalk.i64_in _ (by omega)
    have hwp : IntKind.i64.wrap p = p := IntWalk.i64_in _ (by omega)
    have hwq : IntKind.i64.wrap q = q := IntWalk.i64_in _ (by omega)
    clear hm2
    have z6w : w.heap.size + 2 ≤ w6.heap.size := by omega
    go_cut [9] from 58 to 74 (fun s9 wx => MoreAt K a b w6 w6 wx s9)
    case first =>
      go_region_held3 (fun w' => w'.cell? ⟨w.heap.size + 1, 0, none⟩ = some (.int .u8 p) ∧ w'.cell? ⟨w.heap.size + 1, 1, none⟩ = some (.int .u8 q))
        (first
          | go_keep
          | (go_split_ands
             refine ⟨?_, ?_⟩
             · (first | (rw [P1.out.cell (p := ⟨w.heap.size + 1, 0, none⟩) (by (simp <;> omega))]; assumption) | (rw [R8.out.2.cell (p := ⟨w.heap.size + 1, 0, none⟩) (show w.heap.size + 1 < w6.heap.size by omega)]; exact m0))
             · (first | (rw [P1.out.cell (p := ⟨w.heap.size + 1, 1, none⟩) (by (simp <;> omega))]; assumption) | (rw [R8.out.2.cell (p := ⟨w.heap.size + 1, 1, none⟩) (show w.heap.size + 1 < w6.heap.size by omega)]; exact m1))))
        ((first
          | (go_at_call 17; refine (cloneA _ K _ (AK6.out.below (by first | exact (Below.refl _ _).drew | exact ((Below.refl _ _).drew).alloc (by simp) _)) (by omega)).mono ?_; rintro e w7 ⟨v7, rfl, ho, hb⟩; obtain ⟨a7, c7, rfl⟩ := ho.form; have O7 := Lib.hid ho; have P1 := Lib.hid hb; have P5 : w6.heap.size ≤ w7.heap.size := (by have := hb.size; simp at this; omega); clear ho hb)
          | ((refine step_append_fresh rfl (.tmp 59) (.tmp 73) 26 rfl w6.heap.size 43 i0 (.agg #[.int .i64 0, .int .i64 0, .int .i64 0]) 3 24 Try.underlying26 hi hz0 hz1 hz2 rfl (by decide) (.slice a7 K.length c7) K.length (K.flatMap encA) (by rfl) (World.ownsRow.alloc O7.out _) ⟨w7.heap.size, 0, none⟩ 1 1 (encA ((a : Int), (b : Int), 0)) (by rfl) rfl (newsA _ _ _ _ rfl) (encA_one _) (by unfold maxLen; omega) (by omega) (by first | exact Nat.le_trans P5 (by simp) | exact P5) ?_; intro v8 w8 hown hgrow hfr; have R8 : Hid (MoreAt K a b w6 w6 w8 v8) := Lib.hid (arc_app (w0 := w6) (((Below.refl w6.heap.size w6).drew.trans P1.out).alloc P5 _) (World.ownsRow.alloc O7.out _) hown hgrow); obtain ⟨g8, c8, rfl, _, _, _⟩ := ownsRow_form hown (by omega); clear hown hgrow hfr))
          | ((refine step_append_fresh rfl (.tmp 59) (.tmp 73) 26 rfl w6.heap.size 43 i0 (.agg #[.int .i64 0, .int .i64 0, .int .i64 0]) 3 24 Try.underlying26 hi hz0 hz1 hz2 rfl (by decide) (.slice a7 K.length c7) K.length (K.flatMap encA) (by rfl) (OwnA.base O7.out (by simp)) ⟨w6.heap.size, 0, none⟩ 1 1 (encA ((a : Int), (b : Int), 0)) (by rfl) rfl (newsB (w := w6.drew) P1.out) (encA_one _) (by unfold maxLen; omega) (by omega) (by first | exact Nat.le_trans P5 (by simp) | exact P5) ?_; intro v8 w8 hown hgrow hfr; have R8 : Hid (MoreAt K a b w6 w6 w8 v8) := Lib.hid (arc_app (w0 := w6) ((((Below.refl w6.heap.size w6).drew).alloc (by simp) _).trans (P1.out.mono (by simp))) (OwnA.base O7.out (by simp)) hown hgrow); obtain ⟨g8, c8, rfl, _, _, _⟩ := ownsRow_form hown (by omega); clear hown hgrow hfr))))
      all_goals
        go_wp2_with fail
        go_meet
        exact R8.out
    case rest =>
      obtain ⟨hM1, hM2⟩ := hcut
      obtain ⟨a9, c9, rfl⟩ := hM1.form
      have AM := Lib.hid hM1.arcs
      have B9 := Lib.hid (B6.out.trans (hM2.mono B6.out.size))
      have z9 := hM2.size
      clear hM1 hM2 m0 m1 hm hm3 ha ha2 hb hb2 hw1 hm4 hm5 ham hbm hwa hwb hwm hwp hwq
      obtain ⟨M, hMd⟩ : ∃ M, M = K ++ [((a : Int), (b : Int), 0)] := ⟨_, rfl⟩
      rw [← hMd] at AM
      rw [← hMd]
      clear hMd
      have hn0 : ((n : Int) == 0) = false := by rw [beq_eq_false_iff_ne]; omega
      have hn2 : (n == 0) = false := by rw [beq_eq_false_iff_ne]; omega
      by_cases hE : ordErr n M = 0
      · have HE := Lib.hid hE
        have MM := Lib.hid (ordErr_may hE)
        clear hE
        go_wp2_with (first
          | (go_at_call 11; refine (rightLaw n _ _ _ M x2 f2 ways2 _ (AM.out.below (Q10.out.trans (((Below.refl _ _).alloc (Nat.le_refl _) _).mono Q10.out.size))) MM.out (XI3.out.below ((Below.refl _ _).alloc (Nat.le_refl _) _)) (FI3.out.below ((Below.refl _ _).alloc (Nat.le_refl _) _)) S3.out (by omega)).mono ?_; rintro e w12 ⟨rfl, hb⟩; have Q12 := Lib.hid ((Q10.out.trans (((Below.refl _ _).alloc (Nat.le_refl _) _).mono Q10.out.size)).trans (hb.mono (Nat.le_trans Q10.out.size (by simp)))); clear hb)
          | (go_at_call 9; have _hz := z10; refine (SV.out.ok n _ M _ (AM.out.below Q10a.out) HE.out).mono ?_; rintro e w11 ⟨xv2, fv2, x2, f2, ways2, rfl, hx, hf, hs, hb⟩; obtain ⟨ax2, cx2, h1⟩ := hx.form; rw [hs.len] at h1; subst h1; obtain ⟨af2, cf2, h2⟩ := hf.form; rw [hs.flen] at h2; subst h2; have S3 := Lib.hid hs; have XI3 := Lib.hid hx.ints; have FI3 := Lib.hid hf.ints; have Q10 := Lib.hid (Q10a.out.trans (hb.mono Q10a.out.size)); have z11 := hb.size; clear hx hf hs hb)
          | (go_at_call 18; refine (refOrder n _ M _ AM.out).mono ?_; rintro e w10 ⟨v10, rfl, ho, hb⟩; obtain ⟨a10, c10, rfl⟩ := ho.form; rw [HE.out]; have Q10a := Lib.hid hb; have z10 := hb.size; clear ho hb)
          | (go_at_call 15; refine (SU.out.ok n _ M _ (AM.out.below Q12.out) MM.out).mono ?_; rintro e w13 ⟨v13, rfl, ho, hb⟩; obtain ⟨a13, c13, h13⟩ := ho.form; rw [List.length_map, List.length_range] at h13; subst h13; have Q13 := Lib.hid (Q12.out.trans (hb.mono Q12.out.size)); clear ho hb))
        go_ret
        exact ⟨rfl, B1.out.trans ((B9.out.trans (Q13.out.mono B9.out.size)).mono (by omega))⟩
      · rcases ord_kinds hE with ⟨h2, hnm⟩ | ⟨h11, hm⟩
        · have HE := Lib.hid h2
          have NM := Lib.hid hnm
          clear h2 hnm hE
          go_wp2_with (first
            | (go_at_call 9; have _hz := z10; refine (SV.out.no n _ M _ (AM.out.below Q10a.out) (by rw [HE.out]; decide)).mono ?_; rintro e w11 ⟨rfl, hb⟩; rw [HE.out]; have Q10 := Lib.hid (Q10a.out.trans (hb.mono Q10a.out.size)); have z11 := hb.size; clear hb)
            | (go_at_call 18; refine (refOrder n _ M _ AM.out).mono ?_; rintro e w10 ⟨v10, rfl, ho, hb⟩; obtain ⟨a10, c10, rfl⟩ := ho.form; rw [HE.out]; have Q10a := Lib.hid hb; have z10 := hb.size; clear ho hb)
            | (go_at_call 15; refine (SU.out.no n _ M _ (AM.out.below (Q10.out.trans (((Below.refl _ _).alloc (Nat.le_refl _) _).mono Q10.out.size))) NM.out).mono ?_; rintro e w13 ⟨rfl, hb⟩; have Q13 := Lib.hid ((Q10.out.trans (((Below.refl _ _).alloc (Nat.le_refl _) _).mono Q10.out.size)).trans (hb.mono (Nat.le_trans Q10.out.size (by simp)))); clear hb))
          go_ret
          exact ⟨rfl, B1.out.trans ((B9.out.trans (Q13.out.mono B9.out.size)).mono (by omega))⟩
        · have HE := Lib.hid h11
          have MM := Lib.hid hm
          clear h11 hm hE
          go_wp2_with (first
            | (go_at_call 9; have _hz := z10; refine (SV.out.no n _ M _ (AM.out.below Q10a.out) (by rw [HE.out]; decide)).mono ?_; rintro e w11 ⟨rfl, hb⟩; rw [HE.out]; have Q10 := Lib.hid (Q10a.out.trans (hb.mono Q10a.out.size)); have z11 := hb.size; clear hb)
            | (go_at_call 18; refine (refOrder n _ M _ AM.out).mono ?_; rintro e w10 ⟨v10, rfl, ho, hb⟩; obtain ⟨a10, c10, rfl⟩ := ho.form; rw [HE.out]; have Q10a := Lib.hid hb; have z10 := hb.size; clear ho hb)
            | (go_at_call 15; refine (SU.out.ok n _ M _ (AM.out.below (Q10.out.trans (((Below.refl _ _).alloc (Nat.le_refl _) _).mono Q10.out.size))) MM.out).mono ?_; rintro e w13 ⟨v13, rfl, ho, hb⟩; obtain ⟨a13, c13, h13⟩ := ho.form; rw [List.length_map, List.length_range] at h13; subst h13; have Q13 := Lib.hid ((Q10.out.trans (((Below.refl _ _).alloc (Nat.le_refl _) _).mono Q10.out.size)).trans (hb.mono (Nat.le_trans Q10.out.size (by simp)))); clear ho hb))
          go_ret
          exact ⟨rfl, B1.out.trans ((B9.out.trans (Q13.out.mono B9.out.size)).mono (by omega))⟩
end Go.Proofs.Ytkloaekmjnbacaa

namespace Go.Proofs.Ytkloaekmjnbacaa
open Go.RowKit Go.ChangeShapes Go.WideShapes Go.Deep Go.Proofs.Ytkloaekmjnbacaa.DagM

set_option maxRecDepth 100000 in
theorem solves_arg {H : Type} {enc : TypeId × Value → H} {w : World} {v v' : Value} {d d' : DataW H} {p p' : List MemPlace} {spare spare' : Nat → Bool} {held held' : Bool} {b0 b0' : Nat} (hS : SolveSpec) (hU : SupplySpec)
    (hv : Value.okWide Try.prog w .any b0 24 v) (h : DataW.Trod enc Try.prog w 0 spare held 24 v d p)
    (hv' : Value.okWide Try.prog w .any b0' 25 v') (h' : DataW.Trod enc Try.prog w 0 spare' held' 25 v' d' p') :
    Calls Try.prog 3 #[v, v'] w fun e w' => e = .returned (.bool true) ∧ Below w.heap.size w w' := by
  obtain ⟨N, A, len, cap, D, rfl, h0, h1, hT⟩ := raw_open hv h
  obtain ⟨p, q, rfl, h2, h3, h4, h5⟩ := pair_open hv' h'
  exact solves hS hU N A len cap D p q w h0 h1 hT h2 h3 h4 h5
end Go.Proofs.Ytkloaekmjnbacaa
