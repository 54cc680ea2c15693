/-
  LayerTells: the walk. Conditions: none (numbers within their types).
-/
import Derived.Test.YtdapbhnonhamhaaLayK
import Derived.Test.YtdapbhnonhamhaaLayS
import Derived.Test.YtdapbhnonhamhaaDagMk
import Derived.Test.YtdapbhnonhamhaaDagOp
import Derived.Test.YtdapbhnonhamhaaDagV
import Derived.Deep.RegionHeld3
namespace Go.Proofs.Ytdapbhnonhamhaa
open Go.RowKit Go.Proofs.Ytdapbhnonhamhaa.DagM

/-- The graph with one arc more, in a row of the call's own. -/
def MoreAt (K : List Arc) (a b : Nat) (w0 w4 wx : World) (v : Value) : Prop := OwnA wx w0.heap.size v (K ++ [((a : Int), (b : Int), 0)]) ∧ Below w4.heap.size w4 wx

theorem newsB {w w5 : World} {T : TypeId} {a : Arc} (h : Below (w.alloc (.cells (encA a).toArray T)).heap.size (w.alloc (.cells (encA a).toArray T)) w5) : ∀ j z, (encA a)[j]? = some z → w5.cell? ((⟨w.heap.size, 0, none⟩ : Addr).add j) = some z := by
  intro j z hz
  have h1 := newsA w T a w.heap.size rfl j z hz
  rw [add_lit] at h1 ⊢
  exact (h.cell (p := ⟨w.heap.size, 0 + j, none⟩) (by simp)).trans h1

set_option maxHeartbeats 8000000 in
set_option maxRecDepth 100000 in
theorem tells (N : Int) (A : Option Addr) (len cap : Nat) (D : Nat → Int × Int × Int) (p q : Int) (w : World) (hN0 : 0 ≤ N) (hN1 : N ≤ 255) (hT : TriAt w A len D) (hp0 : 0 ≤ p) (hp1 : p ≤ 255) (hq0 : 0 ≤ q) (hq1 : q ≤ 255) :
    Calls Try.prog 4 #[.agg #[.int .u8 N, .slice A len cap], .agg #[.int .u8 p, .int .u8 q]] w fun e w' => e = .returned (.bool true) ∧ Below w.heap.size w w' := by
  have T := Lib.hid hT
  clear hT
  obtain ⟨i0, hi, hz0, hz1, hz2⟩ := info_parts infoA3c
  go_enter Try.func4, Try.ntmps4
  go_upto_region 5 with (first
    | (go_at_call 14; refine (make_ N A len cap 30 D _ hN0 hN1 (by omega) (by omega) (T.out.below (((Below.refl _ _).alloc (Nat.le_refl _) _).alloc (by simp) _))).mono ?_; rintro e w1 ⟨n, vK, K, rfl, hnm, hRi, hO, hb⟩; obtain ⟨aK, cK, rfl⟩ := hO.form; have R := Lib.hid hRi; have OK1 := Lib.hid hO.arcs; have k0 : w1.cell? ⟨w.heap.size + 1, 0, none⟩ = some (.int .u8 p) := (hb.cell (p := ⟨w.heap.size + 1, 0, none⟩) (by simp)).trans (by go_simp); have k1 : w1.cell? ⟨w.heap.size + 1, 1, none⟩ = some (.int .u8 q) := (hb.cell (p := ⟨w.heap.size + 1, 1, none⟩) (by simp)).trans (by go_simp); have B1 : Hid (Below w.heap.size w w1) := Lib.hid ((((Below.refl _ _).alloc (Nat.le_refl _) _).alloc (by simp) _).trans (hb.mono (by simp; omega))); have z1 : w.heap.size + 2 ≤ w1.heap.size := (by have := hb.size; simpa using this); have hn1 : 1 ≤ n := hRi.n1; have hKl : K.length ≤ 40 := hRi.len; have RO := Lib.hid (hRi.ord (by omega)); have RM := Lib.hid (hRi.may (by omega)); clear hRi hO hb)
    | (go_at_call 15; refine (layersOk n _ K _ OK1.out RO.out).mono ?_; rintro e w2 ⟨v2, d, rfl, ho, hd, hdn, hb⟩; obtain ⟨a2, c2, rfl⟩ := ho.form; have LD := Lib.hid hd; have DN := Lib.hid hdn; have O2 := Lib.hid ho.toI; have B2 := Lib.hid hb; clear ho hd hdn hb)
    | (go_at_call 16; refine (refLayers n _ K d _ (OK1.out.below B2.out) RM.out LD.out DN.out).mono ?_; rintro e w3 ⟨v3, rfl, ho, hb⟩; obtain ⟨a3, c3, rfl⟩ := ho.form; have O3 := Lib.hid ho.toI; have O2b := Lib.hid (O2.out.below hb); have B3 := Lib.hid (B2.out.trans (hb.mono B2.out.size)); clear ho hb)
    | (go_at_call 11; refine (equalI _ _ (castI ((List.range n).map d)) (castI ((List.range n).map d)) _ (by simpa [castI] using O2b.out.ints) (by simpa [castI] using O3.out.ints) (by simp [castI]; omega) (by simp [castI]; omega)).mono ?_; rintro e w4 ⟨rfl, hb⟩; rw [show (castI ((List.range n).map d) == castI ((List.range n).map d)) = true by simp]; have O2c := Lib.hid (O2b.out.below hb); have B4 := Lib.hid (B3.out.trans (hb.mono B3.out.size)); clear hb)
    | (go_at_call 17; refine (span _ (castI ((List.range n).map d)) _ (by simpa [castI] using O2c.out.ints) (by simp [castI]; omega) (lay_near DN.out (by omega))).mono ?_; rintro e w5 ⟨rfl, rfl⟩)
    | (go_at_call 18; refine (refSpan _ (castI ((List.range n).map d)) _ (by simpa [castI] using O2c.out.ints) (by simp [castI]; omega) (lay_near DN.out (by omega))).mono ?_; rintro e w5 ⟨rfl, rfl⟩))
  have m0 := (B4.out.cell (p := ⟨w.heap.size + 1, 0, none⟩) (show w.heap.size + 1 < w1.heap.size by omega)).trans k0
  have m1 := (B4.out.cell (p := ⟨w.heap.size + 1, 1, none⟩) (show w.heap.size + 1 < w1.heap.size by omega)).trans k1
  have AK := Lib.hid (OK1.out.below B4.out)
  have z4 : w.heap.size + 2 ≤ w4.heap.size := by have := B4.out.size; omega
  obtain ⟨m, hm, hm2⟩ : ∃ m : Nat, (n : Int) + 1 = (m : Int) ∧ m = n + 1 := ⟨n + 1, by omega, rfl⟩
  have hm3 : ¬ m = 0 := by omega
  obtain ⟨a, ha⟩ : ∃ r : Nat, p % (m : Int) = (r : Int) := ⟨(p % (m : Int)).toNat, by have := Int.emod_nonneg p (b := (m : Int)) (by omega); omega⟩
  have ha2 : p.tmod (m : Int) = (a : Int) := by rw [Int.tmod_eq_emod_of_nonneg hp0]; exact ha
  obtain ⟨b, hb⟩ : ∃ r : Nat, q % (m : Int) = (r : Int) := ⟨(q % (m : Int)).toNat, by have := Int.emod_nonneg q (b := (m : Int)) (by omega); omega⟩
  have hb2 : q.tmod (m : Int) = (b : Int) := by rw [Int.tmod_eq_emod_of_nonneg hq0]; exact hb
  have hw1 : IntKind.i64.wrap ((n : Int) + 1) = (m : Int) := by rw [IntWalk.i64_in _ (by omega)]; exact hm
  have hm4 : ((m : Int) == 0) = false := by rw [beq_eq_false_iff_ne]; omega
  have hm5 : ¬ (m : Int) = 0 := by omega
  have ham : a < m := by have := Int.emod_lt_of_pos p (b := (m : Int)) (by omega); omega
  have hbm : b < m := by have := Int.emod_lt_of_pos q (b := (m : Int)) (by omega); omega
  have hwa : IntKind.i64.wrap (a : Int) = a := IntWalk.i64_in _ (by omega)
  have hwb : IntKind.i64.wrap (b : Int) = b := IntWalk.i64_in _ (by omega)
  have hwm : IntKind.i64.wrap (m : Int) = m := IntWalk.i64_in _ (by omega)
  have hwp : IntKind.i64.wrap p = p := IntWalk.i64_in _ (by omega)
  have hwq : IntKind.i64.wrap q = q := IntWalk.i64_in _ (by omega)
  clear k0 k1 hm2
  go_cut [9] from 42 to 58 (fun s9 wx => MoreAt K a b w4 w4 wx s9)
  case first =>
    go_region_held3 (fun w' => w'.cell? ⟨w.heap.size + 1, 0, none⟩ = some (.int .u8 p) ∧ w'.cell? ⟨w.heap.size + 1, 1, none⟩ = some (.int .u8 q))
      (first
        | go_keep
        | (go_split_ands
           refine ⟨?_, ?_⟩
           · (first | (rw [Q1.out.cell (p := ⟨w.heap.size + 1, 0, none⟩) (by (simp <;> omega))]; assumption) | (rw [R6.out.2.cell (p := ⟨w.heap.size + 1, 0, none⟩) (show w.heap.size + 1 < w4.heap.size by omega)]; exact m0))
           · (first | (rw [Q1.out.cell (p := ⟨w.heap.size + 1, 1, none⟩) (by (simp <;> omega))]; assumption) | (rw [R6.out.2.cell (p := ⟨w.heap.size + 1, 1, none⟩) (show w.heap.size + 1 < w4.heap.size by omega)]; exact m1))))
      ((first
        | (go_at_call 19; refine (cloneA _ K _ (AK.out.below (by first | exact (Below.refl _ _).drew | exact ((Below.refl _ _).drew).alloc (by simp) _)) (by omega)).mono ?_; rintro e w5 ⟨v5, rfl, ho, hb⟩; obtain ⟨a5, c5, rfl⟩ := ho.form; have O5 := Lib.hid ho; have Q1 := Lib.hid hb; have Q5 : w4.heap.size ≤ w5.heap.size := (by have := hb.size; simp at this; omega); clear ho hb)
        | ((refine step_append_fresh rfl (.tmp 43) (.tmp 57) 22 rfl w4.heap.size 46 i0 (.agg #[.int .i64 0, .int .i64 0, .int .i64 0]) 3 24 Try.underlying22 hi hz0 hz1 hz2 rfl (by decide) (.slice a5 K.length c5) K.length (K.flatMap encA) (by rfl) (World.ownsRow.alloc O5.out _) ⟨w5.heap.size, 0, none⟩ 1 1 (encA ((a : Int), (b : Int), 0)) (by rfl) rfl (newsA _ _ _ _ rfl) (encA_one _) (by unfold maxLen; omega) (by omega) (by first | exact Nat.le_trans Q5 (by simp) | exact Q5) ?_; intro v6 w6 hown hgrow hfr; have R6 : Hid (MoreAt K a b w4 w4 w6 v6) := Lib.hid (arc_app (w0 := w4) (((Below.refl w4.heap.size w4).drew.trans Q1.out).alloc Q5 _) (World.ownsRow.alloc O5.out _) hown hgrow); obtain ⟨g6, c6, rfl, _, _, _⟩ := ownsRow_form hown (by omega); clear hown hgrow hfr))
        | ((refine step_append_fresh rfl (.tmp 43) (.tmp 57) 22 rfl w4.heap.size 46 i0 (.agg #[.int .i64 0, .int .i64 0, .int .i64 0]) 3 24 Try.underlying22 hi hz0 hz1 hz2 rfl (by decide) (.slice a5 K.length c5) K.length (K.flatMap encA) (by rfl) (OwnA.base O5.out (by simp)) ⟨w4.heap.size, 0, none⟩ 1 1 (encA ((a : Int), (b : Int), 0)) (by rfl) rfl (newsB (w := w4.drew) Q1.out) (encA_one _) (by unfold maxLen; omega) (by omega) (by first | exact Nat.le_trans Q5 (by simp) | exact Q5) ?_; intro v6 w6 hown hgrow hfr; have R6 : Hid (MoreAt K a b w4 w4 w6 v6) := Lib.hid (arc_app (w0 := w4) ((((Below.refl w4.heap.size w4).drew).alloc (by simp) _).trans (Q1.out.mono (by simp))) (OwnA.base O5.out (by simp)) hown hgrow); obtain ⟨g6, c6, rfl, _, _, _⟩ := ownsRow_form hown (by omega); clear hown hgrow hfr))))
    all_goals
      go_wp2_with fail
      go_meet
      exact R6.out
  case rest =>
    obtain ⟨hM1, hM2⟩ := hcut
    obtain ⟨a9, c9, rfl⟩ := hM1.form
    have AM := Lib.hid hM1.arcs
    have B5 := Lib.hid (B4.out.trans (hM2.mono B4.out.size))
    have z5 := hM2.size
    clear hM1 hM2 m0 m1 hm hm3 ha ha2 hb hb2 hw1 hm4 hm5 ham hbm hwa hwb hwm hwp hwq
    obtain ⟨M, hMd⟩ : ∃ M, M = K ++ [((a : Int), (b : Int), 0)] := ⟨_, rfl⟩
    rw [← hMd] at AM
    rw [← hMd]
    clear hMd
    have hn0 : ((n : Int) == 0) = false := by rw [beq_eq_false_iff_ne]; omega
    have hn2 : (n == 0) = false := by rw [beq_eq_false_iff_ne]; omega
    by_cases hE : ordErr n M = 0
    · have HE := Lib.hid hE
      clear hE
      go_wp2_with (first
        | (go_at_call 20; refine (wakes4 _).mono ?_; rintro e w9 ⟨rfl, hb⟩; have B8 := Lib.hid (B7.out.trans (hb.mono B7.out.size)); clear hb)
        | (go_at_call 15; refine (layersOk n _ M _ (AM.out.below Q6.out) HE.out).mono ?_; rintro e w7 ⟨v7, d7, rfl, ho, hd, hdn, hb⟩; obtain ⟨a7, c7, rfl⟩ := ho.form; rw [List.length_map, List.length_range]; have B7 := Lib.hid (B6.out.trans (hb.mono B6.out.size)); clear ho hd hdn hb)
        | (go_at_call 10; refine (refOrder n _ M _ AM.out).mono ?_; rintro e w6 ⟨v6, rfl, ho, hb⟩; obtain ⟨a6, c6, rfl⟩ := ho.form; rw [HE.out]; have Q6 := Lib.hid hb; have B6 := Lib.hid (B5.out.trans (hb.mono B5.out.size)); clear ho hb))
      go_ret
      exact ⟨rfl, B1.out.trans (B8.out.mono (by omega))⟩
    · have HE := Lib.hid hE
      have hEb : (ordErr n M == 0) = false := by simpa using hE
      have hEb2 : (ordErr n M != 0) = true := by simpa using hE
      clear hE
      go_wp2_with (first
        | (go_at_call 20; refine (wakes4 _).mono ?_; rintro e w9 ⟨rfl, hb⟩; have B8 := Lib.hid (B7.out.trans (hb.mono B7.out.size)); clear hb)
        | (go_at_call 15; refine (layersNo n _ M _ (AM.out.below Q6.out) HE.out).mono ?_; rintro e w7 ⟨rfl, hb⟩; have B7 := Lib.hid (B6.out.trans (hb.mono B6.out.size)); clear hb)
        | (go_at_call 10; refine (refOrder n _ M _ AM.out).mono ?_; rintro e w6 ⟨v6, rfl, ho, hb⟩; obtain ⟨a6, c6, rfl⟩ := ho.form; have Q6 := Lib.hid hb; have B6 := Lib.hid (B5.out.trans (hb.mono B5.out.size)); clear ho hb))
      go_ret
      exact ⟨rfl, B1.out.trans (B8.out.mono (by omega))⟩
end Go.Proofs.Ytdapbhnonhamhaa
