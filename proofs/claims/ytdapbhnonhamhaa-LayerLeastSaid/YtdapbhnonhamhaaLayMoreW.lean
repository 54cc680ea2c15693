/-
  LayerMore: the walk. Conditions: none (numbers within their types).
-/
import Derived.Test.YtdapbhnonhamhaaLayK
import Derived.Test.YtdapbhnonhamhaaLayS
import Derived.Test.YtdapbhnonhamhaaLayN
import Derived.Test.YtdapbhnonhamhaaLayP
import Derived.Test.YtdapbhnonhamhaaAppendRow
import Derived.StillTactics
namespace Go.Proofs.Ytdapbhnonhamhaa
open Go.RowKit Go.Proofs.Ytdapbhnonhamhaa.DagM

theorem rise_two {n : Nat} {K : List Arc} (h : Rise n K) (hn : n ≤ 4096) : May n (K ++ K) ∧ ordErr n (K ++ K) = 0 := by
  have hM : May n (K ++ K) := ⟨by omega, by omega, by have := h.len; simp; omega, fun a ha => by
    have : a ∈ K := by simpa using ha
    have := h.ok a this; omega⟩
  exact ⟨hM, ord_rises hM (fun i => (i : Int)) (fun a ha => by
    have : a ∈ K := by simpa using ha
    have := h.ok a this; omega)⟩
theorem rise_more {n a b : Nat} {K : List Arc} (h : Rise n K) (hn : n ≤ 4096) (hab : a < b) (hb : b < n) : May n (K ++ K ++ [((a : Int), (b : Int), 0)]) ∧ ordErr n (K ++ K ++ [((a : Int), (b : Int), 0)]) = 0 := by
  have each : ∀ c ∈ K ++ K ++ [((a : Int), (b : Int), 0)], 0 ≤ c.1 ∧ c.1 < c.2.1 ∧ c.2.1 < (n : Int) ∧ 0 ≤ c.2.2 ∧ c.2.2 ≤ 7 := by
    intro c hc
    rcases List.mem_append.1 hc with hc | hc
    · have : c ∈ K := by simpa using hc
      exact h.ok c this
    · obtain rfl := List.mem_singleton.1 hc
      simp only
      omega
  have hM : May n (K ++ K ++ [((a : Int), (b : Int), 0)]) := ⟨by omega, by omega, by have := h.len; simp; omega, fun c hc => by have := each c hc; omega⟩
  exact ⟨hM, ord_rises hM (fun i => (i : Int)) (fun c hc => by have := each c hc; omega)⟩
theorem ends_two (K : List Arc) : ∀ e, e ∈ ends K ↔ e ∈ ends (K ++ K) := fun e => by simp [ends]
theorem ends_more (K : List Arc) (a b : Nat) : ∀ e, e ∈ ends (K ++ K ++ [((a : Int), (b : Int), 0)]) ↔ e ∈ ends K ∨ e = (a, b) := fun e => by
  simp [ends]
theorem rise_lt {n : Nat} {K : List Arc} (h : Rise n K) : ∀ e ∈ ends K, e.1 < e.2 := fun e he => by
  obtain ⟨a, ha, rfl⟩ := List.mem_map.1 he
  have := h.ok a ha
  simp only
  omega
theorem OwnA.app {w : World} {B : Nat} {v : Value} {K M : List Arc} (h : w.ownsRow B 46 3 v (K.length + M.length) (K.flatMap encA ++ M.flatMap encA)) : OwnA w B v (K ++ M) := by
  unfold OwnA
  rw [List.length_append, List.flatMap_append]
  exact h
def MoRel (n : Nat) (wl wr : World) (iv : Value) : Prop := ∃ k : Nat, iv = .int .i64 k ∧ k ≤ n ∧ Below wl.heap.size wl wr
theorem lay_cell {w : World} {n : Nat} {d : Nat → Nat} {a : Option Addr} {c : Nat} (h : IntsAt w (.slice a n c) (castI ((List.range n).map d))) {u : Nat} (hu : u < n) : ∃ b o, a = some ⟨b, o, none⟩ ∧ b < w.heap.size ∧ w.cell? ⟨b, o + u, none⟩ = some (.int .i64 (d u : Int)) := by
  obtain ⟨b, o, cap, h1, h2, h3⟩ := h.nth (i := u) (by simpa [castI] using hu)
  simp only [Value.slice.injEq] at h1
  refine ⟨b, o, h1.1, h2, ?_⟩
  rw [h3]
  simp [castI]

set_option maxHeartbeats 8000000 in
set_option maxRecDepth 100000 in
theorem more (N : Int) (A : Option Addr) (len cap : Nat) (D : Nat → Int × Int × Int) (p q : Int) (w : World) (hN0 : 0 ≤ N) (hN1 : N ≤ 255) (hT : TriAt w A len D) (hp0 : 0 ≤ p) (hp1 : p ≤ 255) (hq0 : 0 ≤ q) (hq1 : q ≤ 255) :
    Calls Try.prog 7 #[.agg #[.int .u8 N, .slice A len cap], .agg #[.int .u8 p, .int .u8 q]] w fun e w' => e = .returned (.bool true) ∧ Below w.heap.size w w' := by
  have T := Lib.hid hT
  clear hT
  obtain ⟨i0, hi, hz0, hz1, hz2⟩ := info_parts infoA3c
  go_enter Try.func7, Try.ntmps7
  go_upto_region 3 with (first
    | (go_at_call 14; refine (make_ N A len cap 20 D _ hN0 hN1 (by omega) (by omega) (T.out.below (((Below.refl _ _).alloc (Nat.le_refl _) _).alloc (by simp) _))).mono ?_; rintro e w1 ⟨n, vK, K, rfl, hnm, hRi, hO, hb⟩; obtain ⟨aK, cK, rfl⟩ := hO.form; have R := Lib.hid hRi; have OA1 := Lib.hid hO; have k0 : w1.cell? ⟨w.heap.size + 1, 0, none⟩ = some (.int .u8 p) := (hb.cell (p := ⟨w.heap.size + 1, 0, none⟩) (by simp)).trans (by go_simp); have k1 : w1.cell? ⟨w.heap.size + 1, 1, none⟩ = some (.int .u8 q) := (hb.cell (p := ⟨w.heap.size + 1, 1, none⟩) (by simp)).trans (by go_simp); have B1 : Hid (Below w.heap.size w w1) := Lib.hid ((((Below.refl _ _).alloc (Nat.le_refl _) _).alloc (by simp) _).trans (hb.mono (by simp; omega))); have z1 : w.heap.size + 2 ≤ w1.heap.size := (by have := hb.size; simpa using this); have hn1 : 1 ≤ n := hRi.n1; have hKl : K.length ≤ 40 := hRi.len; have RO := Lib.hid (hRi.ord (by omega)); have RM := Lib.hid (hRi.may (by omega)); clear hRi hO hb)
    | (go_at_call 15; refine (layersOk n _ K _ OA1.out.arcs RO.out).mono ?_; rintro e w2 ⟨v2, d, rfl, ho, hd, hdn, hb⟩; obtain ⟨a2, c2, rfl⟩ := ho.form; rw [List.length_map, List.length_range]; have LD := Lib.hid hd; have DN := Lib.hid hdn; have O2 := Lib.hid (by have h := ho.toI.ints; rw [List.length_map, List.length_range] at h; exact h : IntsAt w2 (.slice a2 n c2) (castI ((List.range n).map d))); have B2 := Lib.hid hb; have z2 := hb.size; clear ho hd hdn hb))
  have m0 := (B2.out.cell (p := ⟨w.heap.size + 1, 0, none⟩) (show w.heap.size + 1 < w1.heap.size by omega)).trans k0
  have m1 := (B2.out.cell (p := ⟨w.heap.size + 1, 1, none⟩) (show w.heap.size + 1 < w1.heap.size by omega)).trans k1
  have hn3 : ¬ n = 0 := by omega
  have hn5 : ¬ (n : Int) = 0 := by omega
  obtain ⟨a, ha⟩ : ∃ r : Nat, p % (n : Int) = (r : Int) := ⟨(p % (n : Int)).toNat, by have := Int.emod_nonneg p (b := (n : Int)) (by omega); omega⟩
  have ha2 : p.tmod (n : Int) = (a : Int) := by rw [Int.tmod_eq_emod_of_nonneg hp0]; exact ha
  obtain ⟨b, hb⟩ : ∃ r : Nat, q % (n : Int) = (r : Int) := ⟨(q % (n : Int)).toNat, by have := Int.emod_nonneg q (b := (n : Int)) (by omega); omega⟩
  have hb2 : q.tmod (n : Int) = (b : Int) := by rw [Int.tmod_eq_emod_of_nonneg hq0]; exact hb
  have ham : a < n := by have := Int.emod_lt_of_pos p (b := (n : Int)) (by omega); omega
  have hbm : b < n := by have := Int.emod_lt_of_pos q (b := (n : Int)) (by omega); omega
  have hwp : IntKind.i64.wrap p = p := IntWalk.i64_in _ (by omega)
  have hwq : IntKind.i64.wrap q = q := IntWalk.i64_in _ (by omega)
  clear k0 k1
  go_quiet (fail)
  all_goals
    clear m0 m1 hn3 hn5 ha ha2 hb hb2 hwp hwq
    obtain ⟨K2, hK2⟩ : ∃ K2, K2 = K ++ K := ⟨_, rfl⟩
    obtain ⟨K3, hK3⟩ : ∃ K3, K3 = K2 ++ [((a : Int), (b : Int), 0)] := ⟨_, rfl⟩
    have h2l : K2.length ≤ 80 := by rw [hK2]; simp; omega
    have HK2 := Lib.hid hK2
    have HK3 := Lib.hid hK3
    have M2 : Hid (ordErr n K2 = 0 ∧ ∀ e, e ∈ ends K ↔ e ∈ ends K2) := Lib.hid (by rw [hK2]; exact ⟨(rise_two R.out (by omega)).2, ends_two K⟩)
    clear hK2 hK3
    go_wp2_with fail
    generalize hwq : w2.drewN _ = w3
    have b3 : Below w2.heap.size w2 w3 := by rw [← hwq]; exact belowN (Below.refl _ _) _
    have z3 := b3.size
    have B3 := Lib.hid (B2.out.trans (b3.mono B2.out.size))
    have O3 := Lib.hid (O2.out.below b3)
    have OA3 := Lib.hid (OA1.out.below B3.out)
    clear hwq b3 O2 OA1 B2
    refine (cloneA _ K _ OA3.out.arcs (by omega)).mono ?_
    rintro e w5 ⟨v5, rfl, ho, hb⟩
    obtain ⟨a5, c5, rfl⟩ := ho.form
    have O5 := Lib.hid ho
    have OA5 := Lib.hid (OA3.out.below hb)
    have O3b := Lib.hid (O3.out.below hb)
    have B5 := Lib.hid (B3.out.trans (hb.mono B3.out.size))
    have Q5 := Lib.hid hb
    have z5 := hb.size
    clear ho hb
    by_cases hab : a < b
    · have M3 : Hid (ordErr n K3 = 0 ∧ ∀ e, e ∈ ends K3 ↔ e ∈ ends K ∨ e = (a, b)) := Lib.hid (by rw [HK3.out, HK2.out]; exact ⟨(rise_more R.out (by omega) hab hbm).2, ends_more K a b⟩)
      have t1 : decide (b ≤ a) = false := by simp; omega
      have t2 : decide ((b : Int) ≤ (a : Int)) = false := by simp; omega
      go_wp2_with (first
        | (at_builtin; refine wpList_append_fresh rfl (.tmp 69) (.tmp 73) 22 rfl w3.heap.size 46 i0 (.agg #[.int .i64 0, .int .i64 0, .int .i64 0]) 3 24 Try.underlying22 hi hz0 hz1 hz2 rfl (by decide) (.slice a6 K2.length c6) K2.length (K2.flatMap encA) rfl (OA9.out.below ((Below.refl _ _).alloc (Nat.le_refl _) _)) ⟨w9.heap.size, 0, none⟩ 1 1 (encA ((a : Int), (b : Int), 0)) rfl rfl (newsA _ _ _ _ (by simp)) (encA_one _) (by unfold maxLen; omega) (by omega) (by simp; omega) ?_; intro v10 w10 hown hgrow hfr; obtain ⟨h10, b10⟩ := arc_app (w0 := w3) ((Q9.out).alloc Q9.out.size _) (OA9.out.below ((Below.refl _ _).alloc (Nat.le_refl _) _)) hown hgrow; rw [← HK3.out] at h10; obtain ⟨a10, c10, rfl⟩ := h10.form; have O10 := Lib.hid h10; have QQ10 := Lib.hid b10; have OX10 := Lib.hid (O3.out.below b10); have B10 := Lib.hid (B3.out.trans (b10.mono B3.out.size)); have z10 := b10.size; clear hown hgrow hfr h10 b10)
        | (go_at_call 15; refine (layersOk n _ K3 _ O10.out.arcs M3.out.1).mono ?_; rintro e w11 ⟨v11, d11, rfl, ho, hd, hdn, hb⟩; obtain ⟨a11, c11, rfl⟩ := ho.form; rw [List.length_map, List.length_range]; have LD11 := Lib.hid hd; have DN11 := Lib.hid hdn; have O11 := Lib.hid (by have h := ho.toI.ints; rw [List.length_map, List.length_range] at h; exact h : IntsAt w11 (.slice a11 n c11) (castI ((List.range n).map d11))); have OX11 := Lib.hid (OX10.out.below hb); have B11 := Lib.hid (B10.out.trans (hb.mono B10.out.size)); have z11 := hb.size; clear ho hd hdn hb)
        | (at_builtin; refine wpList_append_two rfl (.tmp 39) (.tmp 40) 22 rfl w3.heap.size 46 i0 (.agg #[.int .i64 0, .int .i64 0, .int .i64 0]) 3 24 Try.underlying22 hi hz0 hz1 hz2 rfl (by decide) (.slice a5 K.length c5) K.length (K.flatMap encA) rfl O5.out (.slice aK K.length cK) _ K.length (K.flatMap encA) rfl OA5.out (flat_one K) (by unfold maxLen; omega) (by omega) z5 ?_; intro v6 w6 hown hgrow hfr; have h6 := OwnA.app hown; rw [← HK2.out] at h6; have b6 : Below w3.heap.size w3 w6 := Q5.out.trans (((Out.refl _ w5).grown (S := fun b => (Value.slice a5 K.length c5).ownBlock = some b) hgrow (fun _ _ e => e)).below z5 (fun i _ e => (O5.out.lt i e).1)); obtain ⟨a6, c6, rfl⟩ := h6.form; have O6 := Lib.hid h6; have OX6 := Lib.hid (O3.out.below b6); have B6 := Lib.hid (B3.out.trans (b6.mono B3.out.size)); have Q6 := Lib.hid b6; have z6 := b6.size; clear hown hgrow hfr h6 b6)
        | (go_at_call 15; refine (layersOk n _ K2 _ O6.out.arcs M2.out.1).mono ?_; rintro e w7 ⟨v7, d7, rfl, ho, hd, hdn, hb⟩; obtain rfl := hd.uniq (LD.out.same M2.out.2); obtain ⟨a7, c7, rfl⟩ := ho.form; rw [List.length_map, List.length_range]; have O7 := Lib.hid (by have h := ho.toI.ints; rw [List.length_map, List.length_range] at h; exact h : IntsAt w7 (.slice a7 n c7) (castI ((List.range n).map d7))); have OX7 := Lib.hid (OX6.out.below hb); have OA7 := Lib.hid (O6.out.below hb); have B7 := Lib.hid (B6.out.trans (hb.mono B6.out.size)); have Q7 := Lib.hid (Q6.out.trans (hb.mono Q6.out.size)); have z7 := hb.size; clear ho hd hdn hb)
        | (go_at_call 20; refine (wakes4 _).mono ?_; rintro e w8 ⟨rfl, hb⟩; have O8 := Lib.hid (O7.out.below hb); have OX8 := Lib.hid (OX7.out.below hb); have OA8 := Lib.hid (OA7.out.below hb); have B8 := Lib.hid (B7.out.trans (hb.mono B7.out.size)); have Q8 := Lib.hid (Q7.out.trans (hb.mono Q7.out.size)); have z8 := hb.size; clear hb)
        | (go_at_call 11; go_loud (refine (equalI _ _ (castI ((List.range n).map d7)) (castI ((List.range n).map d7)) _ O8.out OX8.out (by simp [castI]; omega) (by simp [castI]; omega)).mono ?_; rintro e w9 ⟨rfl, hb⟩; rw [show (castI ((List.range n).map d7) == castI ((List.range n).map d7)) = true by simp]; have OX9 := Lib.hid (OX8.out.below hb); have OA9 := Lib.hid (OA8.out.below hb); have Q9 := Lib.hid (Q8.out.trans (hb.mono Q8.out.size)); have B9 := Lib.hid (B8.out.trans (hb.mono B8.out.size)); have z9 := hb.size; clear hb)))
      have hmore := lay_more LD.out LD11.out M3.out.2 (rise_lt R.out) hab
      have HMo := Lib.hid hmore
      have hdb := DN.out b
      have hda := DN.out a
      have BW := Lib.hid (B1.out.trans (B11.out.mono (by omega)))
      have hzw := BW.out.size
      clear hmore t1 t2 O3 OA3 O5 OA5 O3b B5 Q5 O10 QQ10 OX10 B10 B11 Q9 Q8 Q7 Q6 OX9 OA9 B9 O8 OX8 OA8 B8 O7 OX7 OA7 B7 O6 OX6 B6 M2 M3
      go_loopw [88, 16] (fun iv _ wr => MoRel n w11 wr iv) (fun iv _ _ => n - (intOf iv).toNat)
      case atStart => exact ⟨0, rfl, by omega, Below.refl _ _⟩
      case round =>
        obtain ⟨k, rfl, hk, hB⟩ := hrel
        have B := Lib.hid hB
        have hwz := hB.size
        clear hB
        obtain ⟨b1, o1, rfl, hb1, x1⟩ := lay_cell (O11.out.below B.out) hbm
        obtain ⟨b2, o2, rfl, hb2, x2⟩ := lay_cell (OX11.out.below B.out) hbm
        obtain ⟨_, _, e, _, x3⟩ := lay_cell (OX11.out.below B.out) ham
        simp only [Option.some.injEq, Addr.mk.injEq, and_true] at e
        obtain ⟨rfl, rfl⟩ := e
        by_cases hlt : k < n
        · obtain ⟨_, _, e, _, y1⟩ := lay_cell (O11.out.below B.out) hlt
          simp only [Option.some.injEq, Addr.mk.injEq, and_true] at e
          obtain ⟨rfl, rfl⟩ := e
          obtain ⟨_, _, e, _, y2⟩ := lay_cell (OX11.out.below B.out) hlt
          simp only [Option.some.injEq, Addr.mk.injEq, and_true] at e
          obtain ⟨rfl, rfl⟩ := e
          clear x1 x2 x3
          have g1 := HMo.out.1 k
          by_cases hkb : k < b
          · have g2 := HMo.out.2.1 k hkb
            rw [g2] at y1
            clear g1 g2
            have t1 : decide (k < b) = true := by simpa using hkb
            have t2 : decide ((k : Int) < (b : Int)) = true := by simpa using hkb
            go_wp2
            go_quiet (fail)
            all_goals
              go_wp2
              go_roundw
              case rel => exact ⟨k + 1, by go_num, by omega, B.out.trans ((belowN (Below.refl _ _) _).mono hwz)⟩
              case measure => simp [intOf]; omega
          · have t1 : decide (k < b) = false := by simpa using hkb
            have t2 : decide ((k : Int) < (b : Int)) = false := by simpa using hkb
            generalize d11 k = p1 at *
            generalize d7 k = p2 at *
            have t3 : decide (p1 < p2) = false := by simp; omega
            have t4 : decide ((p1 : Int) < (p2 : Int)) = false := by simp; omega
            go_wp2
            go_quiet (fail)
            all_goals
              go_wp2
              go_roundw
              case rel => exact ⟨k + 1, by go_num, by omega, B.out.trans ((belowN (Below.refl _ _) _).mono hwz)⟩
              case measure => simp [intOf]; omega
        · obtain hkn : n = k := by omega
          have g3 := HMo.out.2.2
          rw [g3] at x1
          obtain ⟨m, hm, hm2⟩ : ∃ m : Nat, max (d7 b : Int) ((d7 a : Int) + 1) = (m : Int) ∧ m = max (d7 b) (d7 a + 1) := ⟨max (d7 b) (d7 a + 1), by omega, rfl⟩
          rw [← hm2] at x1
          generalize d7 a = p1 at *
          generalize d7 b = p2 at *
          clear g3 hm2 hlt hk
          have hw1 : IntKind.i64.wrap ((p1 : Int) + 1) = (p1 : Int) + 1 := IntWalk.i64_in _ (by omega)
          go_wp2
          go_quiet (fail)
          all_goals
            go_wp2
            go_ret
            exact ⟨rfl, BW.out.trans ((B.out.trans ((belowN (Below.refl _ _) _).mono hwz)).mono hzw)⟩
    · have t1 : decide (b ≤ a) = true := by simp; omega
      have t2 : decide ((b : Int) ≤ (a : Int)) = true := by simp; omega
      go_wp2_with (first
        | (at_builtin; refine wpList_append_two rfl (.tmp 39) (.tmp 40) 22 rfl w3.heap.size 46 i0 (.agg #[.int .i64 0, .int .i64 0, .int .i64 0]) 3 24 Try.underlying22 hi hz0 hz1 hz2 rfl (by decide) (.slice a5 K.length c5) K.length (K.flatMap encA) rfl O5.out (.slice aK K.length cK) _ K.length (K.flatMap encA) rfl OA5.out (flat_one K) (by unfold maxLen; omega) (by omega) z5 ?_; intro v6 w6 hown hgrow hfr; have h6 := OwnA.app hown; rw [← HK2.out] at h6; have b6 : Below w3.heap.size w3 w6 := Q5.out.trans (((Out.refl _ w5).grown (S := fun b => (Value.slice a5 K.length c5).ownBlock = some b) hgrow (fun _ _ e => e)).below z5 (fun i _ e => (O5.out.lt i e).1)); obtain ⟨a6, c6, rfl⟩ := h6.form; have O6 := Lib.hid h6; have OX6 := Lib.hid (O3.out.below b6); have B6 := Lib.hid (B3.out.trans (b6.mono B3.out.size)); have Q6 := Lib.hid b6; have z6 := b6.size; clear hown hgrow hfr h6 b6)
        | (go_at_call 15; refine (layersOk n _ K2 _ O6.out.arcs M2.out.1).mono ?_; rintro e w7 ⟨v7, d7, rfl, ho, hd, hdn, hb⟩; obtain rfl := hd.uniq (LD.out.same M2.out.2); obtain ⟨a7, c7, rfl⟩ := ho.form; rw [List.length_map, List.length_range]; have O7 := Lib.hid (by have h := ho.toI.ints; rw [List.length_map, List.length_range] at h; exact h : IntsAt w7 (.slice a7 n c7) (castI ((List.range n).map d7))); have OX7 := Lib.hid (OX6.out.below hb); have OA7 := Lib.hid (O6.out.below hb); have B7 := Lib.hid (B6.out.trans (hb.mono B6.out.size)); have Q7 := Lib.hid (Q6.out.trans (hb.mono Q6.out.size)); have z7 := hb.size; clear ho hd hdn hb)
        | (go_at_call 20; refine (wakes4 _).mono ?_; rintro e w8 ⟨rfl, hb⟩; have O8 := Lib.hid (O7.out.below hb); have OX8 := Lib.hid (OX7.out.below hb); have OA8 := Lib.hid (OA7.out.below hb); have B8 := Lib.hid (B7.out.trans (hb.mono B7.out.size)); have Q8 := Lib.hid (Q7.out.trans (hb.mono Q7.out.size)); have z8 := hb.size; clear hb)
        | (go_at_call 11; go_loud (refine (equalI _ _ (castI ((List.range n).map d7)) (castI ((List.range n).map d7)) _ O8.out OX8.out (by simp [castI]; omega) (by simp [castI]; omega)).mono ?_; rintro e w9 ⟨rfl, hb⟩; rw [show (castI ((List.range n).map d7) == castI ((List.range n).map d7)) = true by simp]; have OX9 := Lib.hid (OX8.out.below hb); have OA9 := Lib.hid (OA8.out.below hb); have Q9 := Lib.hid (Q8.out.trans (hb.mono Q8.out.size)); have B9 := Lib.hid (B8.out.trans (hb.mono B8.out.size)); have z9 := hb.size; clear hb)))
      go_ret
      exact ⟨rfl, B1.out.trans (B9.out.mono (by omega))⟩
end Go.Proofs.Ytdapbhnonhamhaa
