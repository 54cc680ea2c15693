/-
  The document's rotation between two corners (reference), of any turns. Conditions: at most a thousand turns, each small.
-/
import Derived.Test.YtkakeakdgidigaaKtR
namespace Go.Proofs.Ytkakeakdgidigaa
open Go.RowKit Go.Proofs.Ytkakeakdgidigaa.KtM

def SmallT (T : List Int) : Prop := ∀ t ∈ T, -200 ≤ t ∧ t ≤ 200
theorem sgs_sized {T : List Int} (h : SmallT T) : ∀ s ∈ sgs T, -200 ≤ s ∧ s ≤ 200 := by
  intro s hs
  unfold sgs at hs
  obtain ⟨t, ht, h2⟩ := List.mem_flatMap.1 hs
  have := h t ht
  unfold sgl at h2
  split at h2
  · simp only [List.mem_cons, List.not_mem_nil, or_false] at h2
    rcases h2 with rfl | rfl <;> omega
  · obtain rfl := List.mem_singleton.1 h2
    exact this
theorem getD_sized {S : List Int} (h : ∀ s ∈ S, -200 ≤ s ∧ s ≤ 200) (k : Nat) : -200 ≤ S.getD k 0 ∧ S.getD k 0 ≤ 200 := by
  by_cases c : k < S.length
  · rw [List.getD_eq_getElem?_getD, List.getElem?_eq_getElem c]
    exact h _ (List.getElem_mem c)
  · rw [List.getD_eq_getElem?_getD, List.getElem?_eq_none (by omega)]
    simp
theorem wlk_sized {S : List Int} (h : ∀ s ∈ S, -200 ≤ s ∧ s ≤ 200) (p : Nat) : ∀ j : Nat, -(200 * (j : Int)) ≤ wlkS S p j ∧ wlkS S p j ≤ 200 * (j : Int)
  | 0 => by simp [wlkS]
  | j + 1 => by
    have h1 := wlk_sized h p j
    have h2 := getD_sized h ((p + j) % S.length)
    rw [wlkS]
    omega
theorem posO_at {T : List Int} {k : Nat} : posO T k = (sgs (T.take k)).length := rfl
theorem sgs_next {T : List Int} {k : Nat} (h : k < T.length) : sgs (T.take (k + 1)) = sgs (T.take k) ++ sgl (T.getD k 0) := sgs_take h
/-- Where a corner stands, once its turn was met. -/
def fromK (T : List Int) (c : Nat × Nat) (k : Nat) : Nat := if c.1 < k then posC T c else 0
theorem from_here {T : List Int} {a p k : Nat} (h : k = a) : fromK T (a, p) (k + 1) = (sgs (T.take k)).length + p := by subst h; unfold fromK; rw [if_pos (by simp)]; rfl
theorem from_not {T : List Int} {a p k : Nat} (h : k ≠ a) : fromK T (a, p) (k + 1) = fromK T (a, p) k := by
  unfold fromK
  simp only
  by_cases c : a < k
  · rw [if_pos c, if_pos (by omega)]
  · rw [if_neg c, if_neg (by omega)]
def RoO (T : List Int) (m : Nat) (a b : Nat × Nat) (w0 wb wr : World) (sv fv tv iv : Value) : Prop := ∃ k n : Nat, iv = .int .i64 k ∧ k ≤ m ∧ n ≤ 2 * k ∧ OwnJ wr w0.heap.size sv (sgs (T.take k)) n ∧ fv = .int .i64 (fromK T a k : Int) ∧ tv = .int .i64 (fromK T b k : Int) ∧ Below wb.heap.size wb wr
def RoW (S : List Int) (N p q : Nat) (sv kv : Value) : Prop := ∃ j : Nat, j ≤ dstN N p q ∧ kv = .int .i64 (((p + j) % N : Nat) : Int) ∧ sv = .int .i64 (wlkS S p j)
noncomputable def RoM (N p q : Nat) (kv : Value) : Nat := dstN N p q - Classical.epsilon fun j : Nat => j ≤ dstN N p q ∧ kv = .int .i64 (((p + j) % N : Nat) : Int)
theorem mod_two {N x : Nat} (h : x < 2 * N) : x % N = if x < N then x else x - N := by
  split
  · exact Nat.mod_eq_of_lt (by assumption)
  · rw [Nat.mod_eq_sub_mod (by omega), Nat.mod_eq_of_lt (by omega)]
theorem roM_is {N p q j : Nat} (hp : p < N) (hq : q < N) (hj : j ≤ dstN N p q) : RoM N p q (.int .i64 (((p + j) % N : Nat) : Int)) = dstN N p q - j := by
  have h : ∃ i : Nat, i ≤ dstN N p q ∧ (Value.int .i64 (((p + j) % N : Nat) : Int)) = .int .i64 (((p + i) % N : Nat) : Int) := ⟨j, hj, rfl⟩
  have hs := Classical.epsilon_spec h
  unfold RoM
  obtain ⟨i, hi⟩ : ∃ i, (Classical.epsilon fun i : Nat => i ≤ dstN N p q ∧ (Value.int .i64 (((p + j) % N : Nat) : Int)) = .int .i64 (((p + i) % N : Nat) : Int)) = i := ⟨_, rfl⟩
  rw [hi] at hs ⊢
  obtain ⟨h1, h2⟩ := hs
  simp only [Value.int.injEq, true_and] at h2
  have h3 : (p + j) % N = (p + i) % N := by omega
  have hd := dst_lt hp hq
  have : i = j := by
    rw [mod_two (by omega), mod_two (by omega)] at h3
    split at h3 <;> split at h3 <;> omega
  omega
set_option maxHeartbeats 16000000 in
set_option maxRecDepth 100000 in
theorem refRot15 (v : Value) (T : List Int) (m a p b q : Nat) (w : World) (hZ : ZiAt w v T m) (hm : m ≤ 1000) (hsm : SmallT T) (ha : (a, p) ∈ crns T) (hb : (b, q) ∈ crns T) :
    Calls Try.prog 11 #[v, .agg #[.int .i64 (a : Int), .int .i64 (p : Int)], .agg #[.int .i64 (b : Int), .int .i64 (q : Int)]] w fun e w' =>
      e = .returned (.int .i64 (rotC T (a, p) (b, q))) ∧ Below w.heap.size w w' := by
  obtain ⟨i0, hi, hz0, hz1, hz2⟩ := info_parts infoI15
  obtain ⟨wb, hwb⟩ : ∃ W, W = (w.alloc (.cells #[.int .i64 (a : Int), .int .i64 (p : Int)] 33)).alloc (.cells #[.int .i64 (b : Int), .int .i64 (q : Int)] 33) := ⟨_, rfl⟩
  have bb : Below w.heap.size w wb := by rw [hwb]; exact (below_alloc15 _ _).trans ((below_alloc15 _ _).mono (by simp))
  have BB := Lib.hid bb
  have HL := Lib.hid hZ.1
  obtain ⟨A, c, e⟩ := hZ.form
  subst e
  have HR := Lib.hid (hZ.below bb (Nat.le_refl _)).rows
  have ca := corner_at ha
  have cb := corner_at hb
  have hpa : p ≤ 1 := by
    obtain ⟨_, h2⟩ := mem_prt.1 ha
    have : prtN (T.getD a 0) ≤ 2 := by unfold prtN; split; omega; split <;> omega
    simp only at h2; omega
  have hpb : q ≤ 1 := by
    obtain ⟨_, h2⟩ := mem_prt.1 hb
    have : prtN (T.getD b 0) ≤ 2 := by unfold prtN; split; omega; split <;> omega
    simp only at h2; omega
  have FA : Hid (fromK T (a, p) T.length = posC T (a, p) ∧ fromK T (b, q) T.length = posC T (b, q)) := Lib.hid ⟨if_pos (mem_crns.1 ha).1, if_pos (mem_crns.1 hb).1⟩
  have CP := Lib.hid (And.intro ca.1 cb.1)
  have RE : Hid (rotC T (a, p) (b, q) = wlkS (sgs T) (posC T (a, p)) (dstN (sgs T).length (posC T (a, p)) (posC T (b, q)))) := Lib.hid (rot_walk ca.1 cb.1)
  have SS := Lib.hid (sgs_sized hsm)
  have SL := Lib.hid (fun k => sgs_len (T.take k))
  obtain ⟨r, hr⟩ : ∃ x, rotC T (a, p) (b, q) = x := ⟨_, rfl⟩
  rw [hr] at RE
  rw [hr]
  have x0 : wb.cell? ⟨w.heap.size, 0, none⟩ = some (.int .i64 (a : Int)) := by rw [hwb]; go_simp
  have x1 : wb.cell? ⟨w.heap.size, 1, none⟩ = some (.int .i64 (p : Int)) := by rw [hwb]; go_simp
  have y0 : wb.cell? ⟨w.heap.size + 1, 0, none⟩ = some (.int .i64 (b : Int)) := by rw [hwb]; go_simp
  have y1 : wb.cell? ⟨w.heap.size + 1, 1, none⟩ = some (.int .i64 (q : Int)) := by rw [hwb]; go_simp
  have hgb : w.heap.size + 1 < wb.heap.size := by rw [hwb]; simp
  obtain ⟨g, hgg⟩ : ∃ g, w.heap.size = g := ⟨_, rfl⟩
  have XC : Hid (∀ wq, Below wb.heap.size wb wq → (wq.cell? ⟨g, 0, none⟩ = some (.int .i64 (a : Int)) ∧ wq.cell? ⟨g, 1, none⟩ = some (.int .i64 (p : Int)) ∧ wq.cell? ⟨g + 1, 0, none⟩ = some (.int .i64 (b : Int)) ∧ wq.cell? ⟨g + 1, 1, none⟩ = some (.int .i64 (q : Int))) ∧ g + 1 < wq.heap.size ∧ g < wq.heap.size ∧ Below w.heap.size w wq) := Lib.hid (fun wq o => by
    rw [hgg] at x0 x1 y0 y1 hgb
    have hs := o.size
    exact ⟨⟨(o.cell (p := ⟨g, 0, none⟩) (by simp only; omega)).trans x0, (o.cell (p := ⟨g, 1, none⟩) (by simp only; omega)).trans x1, (o.cell (p := ⟨g + 1, 0, none⟩) (by simp only; omega)).trans y0, (o.cell (p := ⟨g + 1, 1, none⟩) (by simp only; omega)).trans y1⟩, by omega, by omega, bb.trans (o.mono bb.size)⟩)
  have HGG := Lib.hid hgg
  clear hZ hr bb ca cb hgg x0 x1 y0 y1 ha hb
  go_enter Try.func11, Try.ntmps11
  go_upto_region 1 with (fail)
  rw [← hwb]
  clear hwb
  rw [HGG.out]
  rw [HGG.out] at hgb
  go_wp2_with fail
  go_loopw [7, 8, 9, 10] (fun sv fv tv iv wr => RoO T m (a, p) (b, q) wb wb wr sv fv tv iv) (fun _ _ _ iv _ => m - (intOf iv).toNat)
  case atStart => exact ⟨0, 0, rfl, Nat.zero_le _, Nat.zero_le _, OwnJ.nil _ _, rfl, rfl, Below.refl _ _⟩
  case round =>
    obtain ⟨k, n, rfl, hk, hn, hO, rfl, rfl, hB⟩ := hrel
    obtain ⟨ao, co, e, -⟩ := row_form15 hO
    subst e
    have O := Lib.hid hO
    have B := Lib.hid hB
    by_cases hlt : k < m
    · have q0 : decide (k < m) = true := decide_eq_true hlt
      rcases HR.out with h | ⟨b9, o9, rfl, hx⟩
      · exact absurd hlt (by omega)
      · obtain ⟨t, ht⟩ : ∃ t, T.getD k 0 = t := ⟨_, rfl⟩
        obtain ⟨hb9, fx⟩ := hx wr hB
        have f0 := fx k hlt
        have NX := Lib.hid (sgs_next (T := T) (k := k) (by rw [HL.out]; exact hlt))
        rw [ht] at f0 NX
        obtain ⟨⟨k0, k1, k2, k3⟩, kg, kh, -⟩ := XC.out wr hB
        have hwr := hB.size
        have OR : Hid (∀ o, (wr.alloc o).ownsRow wb.heap.size 3 1 (.slice ao n co) n ((sgs (T.take k)).map (Value.int .i64))) := Lib.hid (fun o => row_below15 hO (below_alloc15 wr o) (Nat.le_refl _))
        have NL := Lib.hid hO.len
        obtain ⟨fa, hfa⟩ : ∃ x, fromK T (a, p) k = x := ⟨_, rfl⟩
        obtain ⟨fb, hfb⟩ : ∃ x, fromK T (b, q) k = x := ⟨_, rfl⟩
        have HFA := Lib.hid hfa
        have HFB := Lib.hid hfb
        rw [hfa, hfb]
        clear hx fx ht hO hB hfa hfb hgb
        by_cases h1 : k = a
        · have q1 : ((k : Int) == (a : Int)) = true := by rw [beq_iff_eq]; omega
          have EA := Lib.hid (from_here (T := T) (p := p) h1)
          by_cases h3 : k = b
          · have q2 : ((k : Int) == (b : Int)) = true := by rw [beq_iff_eq]; omega
            have EB := Lib.hid (from_here (T := T) (p := q) h3)
            clear h1 h3
            by_cases h2 : t = -2
            · subst h2
              go_wp2_with (at_builtin; refine wpList_append_fresh rfl (.tmp 42) (.tmp 43) 25 rfl wb.heap.size 3 i0 (.int .i64 0) 1 8 Try.underlying25 hi hz0 hz1 hz2 rfl (by decide) (.slice ao n co) n ((sgs (T.take k)).map (Value.int .i64)) rfl (OR.out _) ⟨wr.heap.size, 0, none⟩ 2 2 [.int .i64 (-1), .int .i64 (-1)] rfl rfl (pair_news15 _ _ _ _ 3 (heap_alloc_new wr _)) (pair_one15 _ _) (by unfold maxLen; omega) (by omega) (by simp; omega) ?_; intro v5 w5 hown hgrow hfr; have O5 : Hid (OwnJ w5 wb.heap.size v5 (sgs (T.take (k + 1))) (n + 2)) := Lib.hid (by rw [NX.out]; exact OwnJ.two hown); have B5 : Hid (Below wb.heap.size wb w5) := Lib.hid ((B.out.trans ((below_alloc15 _ _).mono hwr)).grown hgrow (by simp; omega) (fun q hq => (World.ownsRow.lt O.out q hq).1)); clear hown hgrow hfr)
              go_roundw
              case rel => exact ⟨k + 1, n + 2, by go_num, by omega, by omega, O5.out, (by rw [EA.out, NL.out]; first | go_num | rfl | (congr 1)), (by rw [EB.out, NL.out]; first | go_num | rfl | (congr 1)), B5.out⟩
              case measure => (simp [intOf] <;> omega)
            · have q3 : (t == -2) = false := by rw [beq_eq_false_iff_ne]; exact h2
              have SG : Hid (sgl t = [t]) := Lib.hid (if_neg h2)
              clear h2
              go_wp2_with (at_builtin; refine wpList_append_fresh rfl (.tmp 45) (.tmp 50) 25 rfl wb.heap.size 3 i0 (.int .i64 0) 1 8 Try.underlying25 hi hz0 hz1 hz2 rfl (by decide) (.slice ao n co) n ((sgs (T.take k)).map (Value.int .i64)) rfl (OR.out _) ⟨wr.heap.size, 0, none⟩ 1 1 [.int .i64 t] rfl rfl (int_news15 _ _ _ 3 (heap_alloc_new wr _)) (int_one15 _) (by unfold maxLen; omega) (by omega) (by simp; omega) ?_; intro v5 w5 hown hgrow hfr; have O5 : Hid (OwnJ w5 wb.heap.size v5 (sgs (T.take (k + 1))) (n + 1)) := Lib.hid (by rw [NX.out, SG.out]; exact OwnJ.more hown); have B5 : Hid (Below wb.heap.size wb w5) := Lib.hid ((B.out.trans ((below_alloc15 _ _).mono hwr)).grown hgrow (by simp; omega) (fun q hq => (World.ownsRow.lt O.out q hq).1)); clear hown hgrow hfr)
              go_roundw
              case rel => exact ⟨k + 1, n + 1, by go_num, by omega, by omega, O5.out, (by rw [EA.out, NL.out]; first | go_num | rfl | (congr 1)), (by rw [EB.out, NL.out]; first | go_num | rfl | (congr 1)), B5.out⟩
              case measure => (simp [intOf] <;> omega)
          · have q2 : ((k : Int) == (b : Int)) = false := by rw [beq_eq_false_iff_ne]; omega
            have EB := Lib.hid (from_not (T := T) (p := q) h3)
            clear h1 h3
            by_cases h2 : t = -2
            · subst h2
              go_wp2_with (at_builtin; refine wpList_append_fresh rfl (.tmp 42) (.tmp 43) 25 rfl wb.heap.size 3 i0 (.int .i64 0) 1 8 Try.underlying25 hi hz0 hz1 hz2 rfl (by decide) (.slice ao n co) n ((sgs (T.take k)).map (Value.int .i64)) rfl (OR.out _) ⟨wr.heap.size, 0, none⟩ 2 2 [.int .i64 (-1), .int .i64 (-1)] rfl rfl (pair_news15 _ _ _ _ 3 (heap_alloc_new wr _)) (pair_one15 _ _) (by unfold maxLen; omega) (by omega) (by simp; omega) ?_; intro v5 w5 hown hgrow hfr; have O5 : Hid (OwnJ w5 wb.heap.size v5 (sgs (T.take (k + 1))) (n + 2)) := Lib.hid (by rw [NX.out]; exact OwnJ.two hown); have B5 : Hid (Below wb.heap.size wb w5) := Lib.hid ((B.out.trans ((below_alloc15 _ _).mono hwr)).grown hgrow (by simp; omega) (fun q hq => (World.ownsRow.lt O.out q hq).1)); clear hown hgrow hfr)
              go_roundw
              case rel => exact ⟨k + 1, n + 2, by go_num, by omega, by omega, O5.out, (by rw [EA.out, NL.out]; first | go_num | rfl | (congr 1)), (by rw [EB.out, HFB.out]), B5.out⟩
              case measure => (simp [intOf] <;> omega)
            · have q3 : (t == -2) = false := by rw [beq_eq_false_iff_ne]; exact h2
              have SG : Hid (sgl t = [t]) := Lib.hid (if_neg h2)
              clear h2
              go_wp2_with (at_builtin; refine wpList_append_fresh rfl (.tmp 45) (.tmp 50) 25 rfl wb.heap.size 3 i0 (.int .i64 0) 1 8 Try.underlying25 hi hz0 hz1 hz2 rfl (by decide) (.slice ao n co) n ((sgs (T.take k)).map (Value.int .i64)) rfl (OR.out _) ⟨wr.heap.size, 0, none⟩ 1 1 [.int .i64 t] rfl rfl (int_news15 _ _ _ 3 (heap_alloc_new wr _)) (int_one15 _) (by unfold maxLen; omega) (by omega) (by simp; omega) ?_; intro v5 w5 hown hgrow hfr; have O5 : Hid (OwnJ w5 wb.heap.size v5 (sgs (T.take (k + 1))) (n + 1)) := Lib.hid (by rw [NX.out, SG.out]; exact OwnJ.more hown); have B5 : Hid (Below wb.heap.size wb w5) := Lib.hid ((B.out.trans ((below_alloc15 _ _).mono hwr)).grown hgrow (by simp; omega) (fun q hq => (World.ownsRow.lt O.out q hq).1)); clear hown hgrow hfr)
              go_roundw
              case rel => exact ⟨k + 1, n + 1, by go_num, by omega, by omega, O5.out, (by rw [EA.out, NL.out]; first | go_num | rfl | (congr 1)), (by rw [EB.out, HFB.out]), B5.out⟩
              case measure => (simp [intOf] <;> omega)
        · have q1 : ((k : Int) == (a : Int)) = false := by rw [beq_eq_false_iff_ne]; omega
          have EA := Lib.hid (from_not (T := T) (p := p) h1)
          by_cases h3 : k = b
          · have q2 : ((k : Int) == (b : Int)) = true := by rw [beq_iff_eq]; omega
            have EB := Lib.hid (from_here (T := T) (p := q) h3)
            clear h1 h3
            by_cases h2 : t = -2
            · subst h2
              go_wp2_with (at_builtin; refine wpList_append_fresh rfl (.tmp 42) (.tmp 43) 25 rfl wb.heap.size 3 i0 (.int .i64 0) 1 8 Try.underlying25 hi hz0 hz1 hz2 rfl (by decide) (.slice ao n co) n ((sgs (T.take k)).map (Value.int .i64)) rfl (OR.out _) ⟨wr.heap.size, 0, none⟩ 2 2 [.int .i64 (-1), .int .i64 (-1)] rfl rfl (pair_news15 _ _ _ _ 3 (heap_alloc_new wr _)) (pair_one15 _ _) (by unfold maxLen; omega) (by omega) (by simp; omega) ?_; intro v5 w5 hown hgrow hfr; have O5 : Hid (OwnJ w5 wb.heap.size v5 (sgs (T.take (k + 1))) (n + 2)) := Lib.hid (by rw [NX.out]; exact OwnJ.two hown); have B5 : Hid (Below wb.heap.size wb w5) := Lib.hid ((B.out.trans ((below_alloc15 _ _).mono hwr)).grown hgrow (by simp; omega) (fun q hq => (World.ownsRow.lt O.out q hq).1)); clear hown hgrow hfr)
              go_roundw
              case rel => exact ⟨k + 1, n + 2, by go_num, by omega, by omega, O5.out, (by rw [EA.out, HFA.out]), (by rw [EB.out, NL.out]; first | go_num | rfl | (congr 1)), B5.out⟩
              case measure => (simp [intOf] <;> omega)
            · have q3 : (t == -2) = false := by rw [beq_eq_false_iff_ne]; exact h2
              have SG : Hid (sgl t = [t]) := Lib.hid (if_neg h2)
              clear h2
              go_wp2_with (at_builtin; refine wpList_append_fresh rfl (.tmp 45) (.tmp 50) 25 rfl wb.heap.size 3 i0 (.int .i64 0) 1 8 Try.underlying25 hi hz0 hz1 hz2 rfl (by decide) (.slice ao n co) n ((sgs (T.take k)).map (Value.int .i64)) rfl (OR.out _) ⟨wr.heap.size, 0, none⟩ 1 1 [.int .i64 t] rfl rfl (int_news15 _ _ _ 3 (heap_alloc_new wr _)) (int_one15 _) (by unfold maxLen; omega) (by omega) (by simp; omega) ?_; intro v5 w5 hown hgrow hfr; have O5 : Hid (OwnJ w5 wb.heap.size v5 (sgs (T.take (k + 1))) (n + 1)) := Lib.hid (by rw [NX.out, SG.out]; exact OwnJ.more hown); have B5 : Hid (Below wb.heap.size wb w5) := Lib.hid ((B.out.trans ((below_alloc15 _ _).mono hwr)).grown hgrow (by simp; omega) (fun q hq => (World.ownsRow.lt O.out q hq).1)); clear hown hgrow hfr)
              go_roundw
              case rel => exact ⟨k + 1, n + 1, by go_num, by omega, by omega, O5.out, (by rw [EA.out, HFA.out]), (by rw [EB.out, NL.out]; first | go_num | rfl | (congr 1)), B5.out⟩
              case measure => (simp [intOf] <;> omega)
          · have q2 : ((k : Int) == (b : Int)) = false := by rw [beq_eq_false_iff_ne]; omega
            have EB := Lib.hid (from_not (T := T) (p := q) h3)
            clear h1 h3
            by_cases h2 : t = -2
            · subst h2
              go_wp2_with (at_builtin; refine wpList_append_fresh rfl (.tmp 42) (.tmp 43) 25 rfl wb.heap.size 3 i0 (.int .i64 0) 1 8 Try.underlying25 hi hz0 hz1 hz2 rfl (by decide) (.slice ao n co) n ((sgs (T.take k)).map (Value.int .i64)) rfl (OR.out _) ⟨wr.heap.size, 0, none⟩ 2 2 [.int .i64 (-1), .int .i64 (-1)] rfl rfl (pair_news15 _ _ _ _ 3 (heap_alloc_new wr _)) (pair_one15 _ _) (by unfold maxLen; omega) (by omega) (by simp; omega) ?_; intro v5 w5 hown hgrow hfr; have O5 : Hid (OwnJ w5 wb.heap.size v5 (sgs (T.take (k + 1))) (n + 2)) := Lib.hid (by rw [NX.out]; exact OwnJ.two hown); have B5 : Hid (Below wb.heap.size wb w5) := Lib.hid ((B.out.trans ((below_alloc15 _ _).mono hwr)).grown hgrow (by simp; omega) (fun q hq => (World.ownsRow.lt O.out q hq).1)); clear hown hgrow hfr)
              go_roundw
              case rel => exact ⟨k + 1, n + 2, by go_num, by omega, by omega, O5.out, (by rw [EA.out, HFA.out]), (by rw [EB.out, HFB.out]), B5.out⟩
              case measure => (simp [intOf] <;> omega)
            · have q3 : (t == -2) = false := by rw [beq_eq_false_iff_ne]; exact h2
              have SG : Hid (sgl t = [t]) := Lib.hid (if_neg h2)
              clear h2
              go_wp2_with (at_builtin; refine wpList_append_fresh rfl (.tmp 45) (.tmp 50) 25 rfl wb.heap.size 3 i0 (.int .i64 0) 1 8 Try.underlying25 hi hz0 hz1 hz2 rfl (by decide) (.slice ao n co) n ((sgs (T.take k)).map (Value.int .i64)) rfl (OR.out _) ⟨wr.heap.size, 0, none⟩ 1 1 [.int .i64 t] rfl rfl (int_news15 _ _ _ 3 (heap_alloc_new wr _)) (int_one15 _) (by unfold maxLen; omega) (by omega) (by simp; omega) ?_; intro v5 w5 hown hgrow hfr; have O5 : Hid (OwnJ w5 wb.heap.size v5 (sgs (T.take (k + 1))) (n + 1)) := Lib.hid (by rw [NX.out, SG.out]; exact OwnJ.more hown); have B5 : Hid (Below wb.heap.size wb w5) := Lib.hid ((B.out.trans ((below_alloc15 _ _).mono hwr)).grown hgrow (by simp; omega) (fun q hq => (World.ownsRow.lt O.out q hq).1)); clear hown hgrow hfr)
              go_roundw
              case rel => exact ⟨k + 1, n + 1, by go_num, by omega, by omega, O5.out, (by rw [EA.out, HFA.out]), (by rw [EB.out, HFB.out]), B5.out⟩
              case measure => (simp [intOf] <;> omega)
    · have q0 : decide (k < m) = false := decide_eq_false hlt
      obtain rfl : k = m := by omega
      have TK : T.take k = T := List.take_of_length_le (by rw [HL.out]; exact Nat.le_refl _)
      have fa := FA.out
      rw [HL.out] at fa
      obtain ⟨pp, hpp⟩ : ∃ x, posC T (a, p) = x := ⟨_, rfl⟩
      obtain ⟨qq, hqq⟩ : ∃ x, posC T (b, q) = x := ⟨_, rfl⟩
      have cp := CP.out
      have re := RE.out
      have hlen := hO.len
      have hzz := hO.zs
      have ss := SS.out
      rw [TK] at hlen hzz
      obtain ⟨S, hS⟩ : ∃ x, sgs T = x := ⟨_, rfl⟩
      rw [hpp, hqq] at fa cp re
      rw [hS] at cp re hlen hzz ss
      rw [hlen] at cp re
      obtain ⟨hpn, hqn⟩ := cp
      have RE2 := Lib.hid re
      have SS2 := Lib.hid ss
      have LN := Lib.hid hlen
      rcases hzz.rows with h0 | ⟨b9, o9, rfl, hx⟩
      · exact absurd hpn (by omega)
      · have HX := Lib.hid (hx wr (Below.refl _ _))
        rw [fa.1, fa.2]
        have hn2 : n ≤ 2000 := by omega
        clear hO hB TK fa re hlen hzz ss hx hpp hqq hS RE SS FA CP
        go_wp2_with fail
        go_loop [11, 12] (fun sv kv => RoW S n pp qq sv kv) (fun _ kv => RoM n pp qq kv)
        case atStart => exact ⟨0, Nat.zero_le _, by rw [Nat.add_zero, Nat.mod_eq_of_lt hpn], rfl⟩
        case round =>
          obtain ⟨j, hj, rfl, rfl⟩ := hrel
          have ws := wlk_sized SS2.out pp j
          have hdl := dst_lt hpn hqn
          have DA := Lib.hid (dst_at hpn hqn hj)
          have MJ := Lib.hid (roM_is hpn hqn hj)
          have SM := Lib.hid (step_mod (N := n) (p := pp) (j := j))
          have WS : Hid (wlkS S pp (j + 1) = wlkS S pp j + S.getD ((pp + j) % n) 0) := Lib.hid (by rw [wlkS, LN.out])
          have hkn : (pp + j) % n < n := Nat.mod_lt _ (by omega)
          obtain ⟨kk, hkk⟩ : ∃ x, (pp + j) % n = x := ⟨_, rfl⟩
          obtain ⟨s, hs⟩ : ∃ x, wlkS S pp j = x := ⟨_, rfl⟩
          rw [hkk] at DA MJ SM WS hkn
          rw [hs] at WS ws
          rw [hkk, hs]
          by_cases hc : kk = qq
          · have hjd := DA.out.1 hc
            have RR : Hid (r = s) := Lib.hid (by rw [RE2.out, ← hjd]; exact hs)
            subst hc
            have q1 : ((kk : Int) == (kk : Int)) = true := by rw [beq_iff_eq]
            clear hjd hkk hs
            go_wp2_with fail
            go_ret
            exact ⟨by rw [RR.out]; rfl, (XC.out _ B.out).2.2.2⟩
          · have q1 : ((kk : Int) == (qq : Int)) = false := by rw [beq_eq_false_iff_ne]; omega
            have q2 : ((kk : Int) != (qq : Int)) = true := by rw [bne, q1]; rfl
            have hjl : j < dstN n pp qq := by
              have : j ≠ dstN n pp qq := fun e => hc (DA.out.2 e)
              omega
            have HJ := Lib.hid hjl
            have MK := Lib.hid (roM_is hpn hqn (show j + 1 ≤ dstN n pp qq from hjl))
            obtain ⟨hb9, hx⟩ := HX.out
            have f0 := hx kk hkn
            have sg := getD_sized SS2.out kk
            obtain ⟨t, ht⟩ : ∃ t, S.getD kk 0 = t := ⟨_, rfl⟩
            rw [ht] at f0 WS sg
            obtain ⟨k2, hk2⟩ : ∃ x, (kk + 1) % n = x := ⟨_, rfl⟩
            have hk2n : k2 < n := by rw [← hk2]; exact Nat.mod_lt _ (by omega)
            have HREM : Hid (((kk : Int) + 1) % (n : Int) = (k2 : Int)) := Lib.hid (by rw [← hk2]; first | rfl | (push_cast; rfl) | simp)
            have K2 : Hid ((pp + (j + 1)) % n = k2) := Lib.hid (by rw [← SM.out]; exact hk2)
            have hsb : -400000 ≤ s ∧ s ≤ 400000 := by omega
            have htb : -200 ≤ t ∧ t ≤ 200 := sg
            clear hx hkk hs hc hjl ht hk2 DA SM ws sg hdl hj
            go_wp2_with fail
            go_round
            case rel => exact ⟨j + 1, HJ.out, by rw [K2.out, HREM.out], by rw [WS.out]⟩
            case measure =>
              have m1 := MJ.out
              have m2 := MK.out
              rw [K2.out] at m2
              have h3 := HJ.out
              rw [HREM.out, m1, m2]
              omega
end Go.Proofs.Ytkakeakdgidigaa
