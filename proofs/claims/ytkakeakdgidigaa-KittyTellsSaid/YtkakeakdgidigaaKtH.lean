/-
  kitty's Pair: the first pair of corners that look at one another. Conditions: at most a hundred thousand turns.
-/
import Derived.Test.YtkakeakdgidigaaKtE
import Derived.Test.YtkakeakdgidigaaKtG
namespace Go.Proofs.Ytkakeakdgidigaa.KtM

open Classical in
/-- The first pair, and whether there is one. -/
noncomputable def prA (T : List Int) : (Nat × Nat) × (Nat × Nat) × Bool :=
  if h : ∃ p : Nat × Nat, FstP T p.1 p.2 then (crnA T h.choose.1, crnA T h.choose.2, true) else ((0, 0), (0, 0), false)
theorem prA_of {T : List Int} {i k : Nat} (h : FstP T i k) : prA T = (crnA T i, crnA T k, true) := by
  have hx : ∃ p : Nat × Nat, FstP T p.1 p.2 := ⟨(i, k), h⟩
  unfold prA
  rw [dif_pos hx]
  obtain ⟨e1, e2⟩ := hx.choose_spec.eq h
  rw [e1, e2]
theorem NoP.none {T : List Int} (h : NoP T (crns T).length) : prA T = ((0, 0), (0, 0), false) := by
  unfold prA
  rw [dif_neg]
  rintro ⟨p, hp⟩
  exact h p.1 hp.li p.2 hp.lk hp.is
theorem prA_cases (T : List Int) : (∃ i k, FstP T i k ∧ prA T = (crnA T i, crnA T k, true)) ∨ (prA T = ((0, 0), (0, 0), false) ∧ ¬ PairE (sgs T)) := by
  by_cases h : ∃ p : Nat × Nat, FstP T p.1 p.2
  · obtain ⟨p, hp⟩ := h
    exact Or.inl ⟨p.1, p.2, hp, prA_of hp⟩
  · refine Or.inr ⟨by unfold prA; rw [dif_neg h], ?_⟩
    intro g
    have least : ∀ {p : Nat → Prop} {n : Nat}, (∃ j, j < n ∧ p j) → ∃ j, j < n ∧ p j ∧ ∀ r, r < j → ¬ p r := by
      intro p n
      induction n with
      | zero => rintro ⟨j, h, _⟩; omega
      | succ n ih =>
        intro h
        by_cases c : ∃ j, j < n ∧ p j
        · obtain ⟨j, h1, h2, h3⟩ := ih c
          exact ⟨j, by omega, h2, h3⟩
        · obtain ⟨j, h1, h2⟩ := h
          have : j = n := by
            by_cases e : j < n
            · exact absurd ⟨j, e, h2⟩ c
            · omega
          subst this
          exact ⟨j, h1, h2, fun r hr e => c ⟨r, hr, e⟩⟩
    obtain ⟨i, k, hi, hk, e⟩ := pair_iff.1 g
    obtain ⟨a, ha, ⟨r, hr, er⟩, hrow⟩ := least (p := fun i => ∃ k, k < (crns T).length ∧ rotA T i k = 2) ⟨i, hi, k, hk, e⟩
    obtain ⟨b, hb, eb, hcol⟩ := least (p := fun k => rotA T a k = 2) ⟨r, hr, er⟩
    exact h ⟨(a, b), ha, hb, eb, fun j hj r hr e => hrow j hj ⟨r, hr, e⟩, hcol⟩
theorem prA_yes {T : List Int} : (prA T).2.2 = true ↔ PairE (sgs T) := by
  rcases prA_cases T with ⟨i, k, h, e⟩ | ⟨e, h⟩
  · rw [e]; exact ⟨fun _ => h.pair, fun _ => rfl⟩
  · rw [e]; exact ⟨fun c => (by cases c), fun c => absurd c h⟩
end Go.Proofs.Ytkakeakdgidigaa.KtM
namespace Go.Proofs.Ytkakeakdgidigaa
open Go.RowKit Go.Proofs.Ytkakeakdgidigaa.KtM

theorem heap_set15 {w : World} {p : Nat} {cur : Array Value} {T : TypeId} {fz : Nat × Nat} (h : w.heap[p]? = some (.cells cur T fz)) (j : Nat) (u : Value) : (w.setCell ⟨p, j, none⟩ u).heap[p]? = some (.cells (cur.setIfInBounds j u) T fz) := by
  have hlt := (Array.getElem?_eq_some_iff.1 h).1
  have h' : w.heap[p] = .cells cur T fz := by simpa [Array.getElem?_eq_getElem hlt] using h
  show (w.heap.modify p _)[p]? = _
  rw [Array.getElem?_eq_getElem (by simpa using hlt), Array.getElem_modify_self, h']
  simp
/-- Both results' boxes. -/
def BoxS (g : Nat) (T : TypeId) (w : World) (a0 a1 b0 b1 : Int) : Prop := w.heap[g]? = some (.cells #[.int .i64 a0, .int .i64 a1] T (0, 0)) ∧ w.heap[g + 1]? = some (.cells #[.int .i64 b0, .int .i64 b1] T (0, 0))
theorem BoxS.below {g : Nat} {T : TypeId} {w w' : World} {a0 a1 b0 b1 : Int} (h : BoxS g T w a0 a1 b0 b1) (o : Below w.heap.size w w') : BoxS g T w' a0 a1 b0 b1 :=
  ⟨(o.block _ (Array.getElem?_eq_some_iff.1 h.1).1).trans h.1, (o.block _ (Array.getElem?_eq_some_iff.1 h.2).1).trans h.2⟩
theorem BoxS.cells {g : Nat} {T : TypeId} {w : World} {a0 a1 b0 b1 : Int} (h : BoxS g T w a0 a1 b0 b1) : (w.cell? ⟨g, 0, none⟩ = some (.int .i64 a0) ∧ w.cell? ⟨g, 1, none⟩ = some (.int .i64 a1) ∧ w.cell? ⟨g + 1, 0, none⟩ = some (.int .i64 b0) ∧ w.cell? ⟨g + 1, 1, none⟩ = some (.int .i64 b1)) ∧
    (w.frozen? ⟨g, 0, none⟩ = false ∧ w.frozen? ⟨g, 1, none⟩ = false ∧ w.frozen? ⟨g + 1, 0, none⟩ = false ∧ w.frozen? ⟨g + 1, 1, none⟩ = false) ∧ g + 1 < w.heap.size := by
  obtain ⟨h1, h2⟩ := h
  refine ⟨⟨?_, ?_, ?_, ?_⟩, ⟨?_, ?_, ?_, ?_⟩, (Array.getElem?_eq_some_iff.1 h2).1⟩
  all_goals first | (simp [World.cell?, h1]; done) | (simp [World.cell?, h2]; done) | (simp [World.frozen?, h1]; done) | (simp [World.frozen?, h2]; done)
theorem BoxS.set {g B : Nat} {T : TypeId} {w w0 w6 : World} {a0 a1 b0 b1 : Int} (h : BoxS g T w a0 a1 b0 b1) (c0 c1 d0 d1 : Int) (o : Below B w0 w) (hg : B ≤ g)
    (e : ((((w.setCell ⟨g, 0, none⟩ (.int .i64 c0)).setCell ⟨g, 1, none⟩ (.int .i64 c1)).setCell ⟨g + 1, 0, none⟩ (.int .i64 d0)).setCell ⟨g + 1, 1, none⟩ (.int .i64 d1)) = w6) : BoxS g T w6 c0 c1 d0 d1 ∧ Below B w0 w6 := by
  subst e
  obtain ⟨h1, h2⟩ := h
  refine ⟨⟨?_, ?_⟩, (((o.setCell (p := ⟨g, 0, none⟩) hg _).setCell (p := ⟨g, 1, none⟩) hg _).setCell (p := ⟨g + 1, 0, none⟩) (by simp only; omega) _).setCell (p := ⟨g + 1, 1, none⟩) (by simp only; omega) _⟩
  · rw [Below.heap_setCell _ _ _ _ (by simp), Below.heap_setCell _ _ _ _ (by simp)]
    exact heap_set15 (heap_set15 h1 0 _) 1 _
  · have e1 := (Below.heap_setCell (w.setCell ⟨g, 0, none⟩ (.int .i64 c0)) ⟨g, 1, none⟩ (.int .i64 c1) (g + 1) (by simp)).trans ((Below.heap_setCell w ⟨g, 0, none⟩ (.int .i64 c0) (g + 1) (by simp)).trans h2)
    exact heap_set15 (heap_set15 e1 0 _) 1 _
theorem OwnC.at_ {T : TypeId} {w : World} {B n : Nat} {ao : Option Addr} {co : Nat} {C : List (Nat × Nat)} (h : OwnC T w B (.slice ao n co) C n) (h0 : 0 < n) : ∃ b, ao = some ⟨b, 0, none⟩ ∧ B ≤ b ∧ ∀ w', Below w.heap.size w w' → b < w'.heap.size ∧ ∀ k, k < n →
    w'.cell? ⟨b, k * 2, none⟩ = some (.int .i64 ((C.getD k (0, 0)).1 : Int)) ∧ w'.cell? ⟨b, k * 2 + 1, none⟩ = some (.int .i64 ((C.getD k (0, 0)).2 : Int)) := by
  rcases h.cs.rows with e | ⟨b, o, e, hx⟩
  · omega
  · rcases h.2.2 with ⟨_, h2⟩ | ⟨g, cap, cur, hv, hB, _⟩
    · omega
    · simp only [Value.slice.injEq, true_and] at hv
      obtain ⟨hv, _⟩ := hv
      rw [e] at hv
      simp only [Option.some.injEq, Addr.mk.injEq, and_true] at hv
      obtain ⟨rfl, rfl⟩ := hv
      refine ⟨b, e, hB, fun w' o => ⟨(hx w' o).1, fun k hk => ?_⟩⟩
      have := (hx w' o).2 k hk
      rw [Nat.zero_add] at this
      exact this
theorem cell_set15 (w : World) {b g : Nat} (h : b ≠ g) (j k : Nat) (x : Value) : (w.setCell ⟨g, j, none⟩ x).cell? ⟨b, k, none⟩ = w.cell? ⟨b, k, none⟩ := World.cell?_of_block (w := w) (Below.heap_setCell w ⟨g, j, none⟩ x b h)
theorem cell_two15 (w : World) {b g : Nat} (h : b ≠ g) (k : Nat) (x y : Value) : ((w.setCell ⟨g, 0, none⟩ x).setCell ⟨g, 1, none⟩ y).drew.cell? ⟨b, k, none⟩ = w.cell? ⟨b, k, none⟩ := (cell_set15 _ h _ _ _).trans (cell_set15 _ h _ _ _)
theorem cell_toq15 (w : World) {b g : Nat} (h : b ≠ g) (k : Nat) (x y : Value) : ((w.setCell ⟨g, 0, none⟩ x).setCell ⟨g, 1, none⟩ y).cell? ⟨b, k, none⟩ = w.cell? ⟨b, k, none⟩ := (cell_set15 _ h _ _ _).trans (cell_set15 _ h _ _ _)
def crnV (c : Nat × Nat) : Value := .agg #[.int .i64 (c.1 : Int), .int .i64 (c.2 : Int)]
def prV (p : (Nat × Nat) × (Nat × Nat) × Bool) : Value := .tuple #[crnV p.1, crnV p.2.1, .bool p.2.2]
theorem ahd_small {T : List Int} (h : GoodT T) (hm : T.length ≤ 100000) : SmallZ (ahdL T) := by
  intro k
  by_cases c : k < (ahdL T).length
  · rw [List.getD_eq_getElem?_getD, List.getElem?_eq_getElem c]
    have hc : (ahdL T)[k] ∈ ahdL T := List.getElem_mem c
    revert hc
    generalize (ahdL T)[k] = x
    intro hc
    simp only [Option.getD_some]
    unfold ahdL at hc
    obtain ⟨⟨a, p⟩, hp, rfl⟩ := List.mem_map.1 hc
    obtain ⟨h1, h2⟩ := mem_prt.1 hp
    have := prt_le (T.getD a 0)
    simp only at h1 h2
    have := sum_take_range h a (by omega)
    unfold ahdC
    simp only
    omega
  · rw [List.getD_eq_getElem?_getD, List.getElem?_eq_none (by omega)]
    simp
theorem PrP.one {L : List Int} {tot : Int} {w w' : World} {e : Ending} (h : PrP L tot w e w') : (∃ (a b : Nat) (z : Bool), e = .returned (.tuple #[.int .i64 (a : Int), .int .i64 (b : Int), .bool z]) ∧ (z = true → FstZ L tot a b) ∧ (z = false → NoZ L tot L.length)) ∧ Below w.heap.size w w' := by
  obtain ⟨h, o⟩ := h
  refine ⟨?_, o⟩
  rcases h with ⟨a, b, h, rfl⟩ | ⟨h, rfl⟩
  · exact ⟨a, b, true, rfl, fun _ => h, fun c => (by cases c)⟩
  · exact ⟨0, 0, false, rfl, fun c => (by cases c), fun _ => h⟩
set_option maxHeartbeats 8000000 in
set_option maxRecDepth 100000 in
theorem Pair15 (v : Value) (T : List Int) (m : Nat) (w : World) (hZ : ZiAt w v T m) (hm : m ≤ 100000) :
    Calls Try.prog 12 #[v] w fun e w' => e = .returned (prV (if goodY T = true then prA T else ((0, 0), (0, 0), false))) ∧ Below w.heap.size w w' := by
  obtain ⟨wb, hwb⟩ : ∃ W, W = (w.alloc (.cells #[.int .i64 0, .int .i64 0] 24)).alloc (.cells #[.int .i64 0, .int .i64 0] 24) := ⟨_, rfl⟩
  have bb : Below w.heap.size w wb := by rw [hwb]; exact (below_alloc15 _ _).trans ((below_alloc15 _ _).mono (by simp))
  have S0 : BoxS w.heap.size 24 wb 0 0 0 0 := by
    rw [hwb]
    refine ⟨?_, ?_⟩
    · rw [Below.heap_alloc _ _ _ (by simp)]; exact heap_alloc_new w _
    · have := heap_alloc_new (w.alloc (.cells #[.int .i64 0, .int .i64 0] 24)) (.cells #[.int .i64 0, .int .i64 0] 24)
      simpa using this
  have BB := Lib.hid bb
  have SB := Lib.hid S0
  have HZ := Lib.hid hZ
  have MB := Lib.hid (fun wq (o : Below w.heap.size w wq) => mayBe15 v T m wq (hZ.below o (Nat.le_refl _)) (by omega))
  have CO := Lib.hid (fun wq (o : Below w.heap.size w wq) => corners15 v T m wq (hZ.below o (Nat.le_refl _)) hm)
  have HL := Lib.hid hZ.1
  obtain ⟨g, hgg⟩ : ∃ g, w.heap.size = g := ⟨_, rfl⟩
  have HGG := Lib.hid hgg
  rw [hgg] at S0
  obtain ⟨⟨x0, x1, y0, y1⟩, ⟨i0, i1, i2, i3⟩, hgb⟩ := S0.cells
  have hgb2 : g < wb.heap.size := by omega
  have RA : Hid (∃ R, (if goodY T = true then prA T else ((0, 0), (0, 0), false)) = R ∧ (goodY T = true → R = prA T) ∧ (goodY T = false → R = ((0, 0), (0, 0), false))) := Lib.hid ⟨_, rfl, fun h => by rw [if_pos h], fun h => by rw [if_neg (by rw [h]; decide)]⟩
  obtain ⟨R, hR, hRt, hRf⟩ := RA.out
  rw [hR]
  have RT := Lib.hid hRt
  have RF := Lib.hid hRf
  clear hZ bb S0 RA hR hRt hRf
  go_enter Try.func12, Try.ntmps12
  go_upto_region 1 with (fail)
  rw [← hwb]
  clear hwb
  cases hgd : goodY T with
  | false =>
    rw [hgd] at MB
    have RE : Hid (R = ((0, 0), (0, 0), false)) := Lib.hid (RF.out hgd)
    clear hgd CO RT RF
    go_upto_region 2 with (go_at_call 17; refine (MB.out _ BB.out).mono ?_; rintro e w1 ⟨rfl, b1⟩; have B1 := Lib.hid b1; have S1 := Lib.hid (SB.out.below b1); clear b1)
    have s1 := S1.out
    rw [hgg] at s1
    clear x0 x1 y0 y1 i0 i1 i2 i3 hgb hgb2
    obtain ⟨⟨x0, x1, y0, y1⟩, ⟨i0, i1, i2, i3⟩, hgb⟩ := s1.cells
    have hgb2 : g < w1.heap.size := by omega
    clear s1
    go_wp2_with fail
    generalize hw6 : World.setCell _ ⟨g + 1, 1, none⟩ _ = w6
    obtain ⟨s6, b6⟩ := S1.out.set (w6 := w6) 0 0 0 0 (BB.out.trans (B1.out.mono BB.out.size)) (Nat.le_refl _) (by rw [hgg]; exact hw6)
    rw [hgg] at s6
    obtain ⟨⟨z0, z1, z2, z3⟩, -, -⟩ := s6.cells
    refine bodyPost_ret (v := .tuple #[.agg #[.int .i64 0, .int .i64 0], .agg #[.int .i64 0, .int .i64 0], .bool false]) (by simp [results, Try.results12, go_sem, z0, z1, z2, z3]) rfl ⟨by rw [RE.out]; rfl, b6⟩
  | true =>
    have RE : Hid (R = prA T) := Lib.hid (RT.out hgd)
    have HG := Lib.hid (good_iff.1 hgd)
    rw [hgd] at MB
    clear hgd RT RF
    have SU := Lib.hid (fun wq N (o : Below w.heap.size w wq) => sums15 v T m N wq (HZ.out.below o (Nat.le_refl _)) hm HG.out)
    have RO := Lib.hid (fun wq (o : Below w.heap.size w wq) => rotation15 v T m wq (HZ.out.below o (Nat.le_refl _)) (by omega) HG.out)
    have hsr := sum_range HG.out
    rw [HL.out] at hsr
    have SM := Lib.hid (ahd_small HG.out (by rw [HL.out]; exact hm))
    obtain ⟨s, hs⟩ : ∃ s, sumI T = s := ⟨_, rfl⟩
    have HS := Lib.hid hs
    rw [hs] at RO hsr
    clear hs
    go_upto_region 3 with (go_at_call 17; refine (MB.out _ BB.out).mono ?_; rintro e w1 ⟨rfl, b1⟩; have B1 := Lib.hid (BB.out.trans (b1.mono BB.out.size)); have S1 := Lib.hid (SB.out.below b1); clear b1)
    clear x0 x1 y0 y1 i0 i1 i2 i3 hgb hgb2 MB SB
    have hg1 : g + 1 < w1.heap.size := by have := S1.out.cells.2.2; rw [hgg] at this; exact this
    go_upto_region 4 with (go_at_call 7; refine (CO.out _ B1.out).mono ?_; rintro e w2 ⟨n, lv, rfl, hn, oc, b2⟩; obtain ⟨ao, co, e, hcap⟩ := oc.form; subst e; have OC := Lib.hid oc.1; have RW := Lib.hid (fun h0 => oc.at_ h0); have B2 := Lib.hid (B1.out.trans (b2.mono B1.out.size)); have S2 := Lib.hid (S1.out.below b2); clear b2 oc)
    clear S1 CO
    go_upto_region 5 with (first
      | (go_at_call 22; have _z := B4; refine (PR.out _ (Below.refl _ _)).mono ?_; rintro e w5 hp; obtain ⟨⟨pa, pb, pz, rfl, p1, p2⟩, b5⟩ := hp.one; have P1 := Lib.hid p1; have P2 := Lib.hid p2; have B5 := Lib.hid (B4.out.trans (b5.mono B4.out.size)); have S5 := Lib.hid (S4.out.below b5); have C5 := Lib.hid (C4.out.trans (b5.mono C4.out.size)); clear hp p1 p2 b5)
      | (go_at_call 21; have _z := B4; refine (RO.out _ B4.out).mono ?_; rintro e w9 ⟨rfl, rfl⟩)
      | (go_at_call 23; refine (SU.out _ _ B2.out (by omega)).mono ?_; rintro e w4 ⟨n4, l4, rfl, hn4, o4, b4⟩; have O4 := Lib.hid o4; have B4 := Lib.hid (B2.out.trans (b4.mono B2.out.size)); have S4 := Lib.hid (S2.out.below b4); have C4 := Lib.hid b4; have PR := Lib.hid (fun wq (o : Below w4.heap.size w4 wq) => pair15 l4 (ahdL T) n4 s wq (o4.zc.below o (Nat.le_refl _)) (by omega) SM.out (by omega) (by omega)); clear o4 b4))
    have s5 := S5.out
    rw [hgg] at s5
    obtain ⟨⟨x0, x1, y0, y1⟩, ⟨i0, i1, i2, i3⟩, hgb⟩ := s5.cells
    have hgb2 : g < w5.heap.size := by omega
    clear s5 SU RO SM PR O4 B4 S4 C4 S2
    cases pz with
    | false =>
      have RZ : Hid (R = ((0, 0), (0, 0), false)) := Lib.hid (by rw [RE.out]; have := P2.out rfl; rw [← HS.out] at this; exact (NoZ.no this).none)
      clear RE P1 P2
      go_wp2_with fail
      generalize hw6 : World.setCell _ ⟨g + 1, 1, none⟩ _ = w6
      obtain ⟨s6, b6⟩ := S5.out.set (w6 := w6) 0 0 0 0 B5.out (Nat.le_refl _) (by rw [hgg]; exact hw6)
      rw [hgg] at s6
      obtain ⟨⟨z0, z1, z2, z3⟩, -, -⟩ := s6.cells
      refine bodyPost_ret (v := .tuple #[.agg #[.int .i64 0, .int .i64 0], .agg #[.int .i64 0, .int .i64 0], .bool false]) (by simp [results, Try.results12, go_sem, z0, z1, z2, z3]) rfl ⟨by rw [RZ.out]; rfl, b6⟩
    | true =>
      have FZ := P1.out rfl
      rw [← HS.out] at FZ
      have la := FZ.li
      have lb := FZ.lk
      rw [ahd_len, OC.out] at la lb
      have RZ : Hid (R = (crnA T pa, crnA T pb, true)) := Lib.hid (by rw [RE.out]; exact prA_of FZ.fst)
      obtain ⟨b, e, hbB, hx⟩ := RW.out (by omega)
      subst e
      obtain ⟨hbs, hx⟩ := hx w5 C5.out
      obtain ⟨u0, u1⟩ := hx pa la
      obtain ⟨v0, v1⟩ := hx pb lb
      have CA : Hid (crnA T pa = (crns T).getD pa (0, 0)) := Lib.hid rfl
      have CB : Hid (crnA T pb = (crns T).getD pb (0, 0)) := Lib.hid rfl
      obtain ⟨⟨a0, a1⟩, ha⟩ : ∃ p, (crns T).getD pa (0, 0) = p := ⟨_, rfl⟩
      obtain ⟨⟨b0, b1⟩, hb⟩ : ∃ p, (crns T).getD pb (0, 0) = p := ⟨_, rfl⟩
      rw [ha] at u0 u1 CA
      simp only at u0 u1
      rw [hb] at v0 v1 CB
      simp only at v0 v1
      have n1 : b ≠ g := by omega
      have n2 : b ≠ g + 1 := by omega
      clear hx FZ ha hb P1 P2 RE
      go_upto_region 7 with (fail)
      go_region_held3 (fun w' => w'.cell? ⟨b, pa * 2, none⟩ = some (.int .i64 (a0 : Int)) ∧ w'.cell? ⟨b, pa * 2 + 1, none⟩ = some (.int .i64 (a1 : Int)) ∧ w'.cell? ⟨b, pb * 2, none⟩ = some (.int .i64 (b0 : Int)) ∧ w'.cell? ⟨b, pb * 2 + 1, none⟩ = some (.int .i64 (b1 : Int))) (first
        | (with_reducible exact ⟨(cell_two15 _ n1 _ _ _).trans u0, (cell_two15 _ n1 _ _ _).trans u1, (cell_two15 _ n1 _ _ _).trans v0, (cell_two15 _ n1 _ _ _).trans v1⟩)
        | (with_reducible exact ⟨(cell_two15 _ n2 _ _ _).trans ((cell_toq15 _ n1 _ _ _).trans u0), (cell_two15 _ n2 _ _ _).trans ((cell_toq15 _ n1 _ _ _).trans u1), (cell_two15 _ n2 _ _ _).trans ((cell_toq15 _ n1 _ _ _).trans v0), (cell_two15 _ n2 _ _ _).trans ((cell_toq15 _ n1 _ _ _).trans v1)⟩)
        | go_keep) (fail)
      go_wp2
      generalize hw6 : World.setCell _ ⟨g + 1, 1, none⟩ _ = w6
      obtain ⟨s6, b6⟩ := S5.out.set (w6 := w6) (a0 : Int) (a1 : Int) (b0 : Int) (b1 : Int) B5.out (Nat.le_refl _) (by rw [hgg]; exact hw6)
      rw [hgg] at s6
      obtain ⟨⟨z0, z1, z2, z3⟩, -, -⟩ := s6.cells
      refine bodyPost_ret (v := .tuple #[.agg #[.int .i64 (a0 : Int), .int .i64 (a1 : Int)], .agg #[.int .i64 (b0 : Int), .int .i64 (b1 : Int)], .bool true]) (by simp [results, Try.results12, go_sem, z0, z1, z2, z3]) rfl ⟨by rw [RZ.out, CA.out, CB.out]; rfl, b6.drew⟩
end Go.Proofs.Ytkakeakdgidigaa
