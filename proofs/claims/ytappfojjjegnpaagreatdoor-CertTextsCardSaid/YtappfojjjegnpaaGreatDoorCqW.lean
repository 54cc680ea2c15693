/-
  links: the walk. Conditions: the graph may be.
-/
import Derived.Test.YtappfojjjegnpaaGreatDoorCqA
import Derived.Deep.CutRange
import Derived.Deep.DeepCutAuto
namespace Go.Proofs.YtappfojjjegnpaaGreatDoor
open Go.RowKit Go.Proofs.YtappfojjjegnpaaGreatDoor.DagM

/-- What links leaves. -/
def Linked (N : Nat) (L : List Arc) (w : World) (e : Ending) (w' : World) : Prop :=
  ∃ g m V, e = .returned (.tuple #[.slice (some ⟨g, 0, none⟩) N N, .slice (some ⟨m, 0, none⟩) N N]) ∧ LkAt w w' g m N V (miss (ends L) []) (outs (ends L))
def LkRel (N : Nat) (L : List Arc) (g m : Nat) (w wr : World) (iv : Value) : Prop :=
  ∃ (k : Nat) (V : Nat → Value), iv = .int .i64 k ∧ k ≤ L.length ∧ LkAt w wr g m N V (miss (ends (L.take k)) []) (outs (ends (L.take k)))
/-- Where links stands between its two stores: the row of u is longer by t, the arc lies at p. -/
def MidL (w wx : World) (p g m N u t : Nat) (f : Nat → Nat) (R : Nat → List Nat) : Prop :=
  ∃ V, LkAt w wx g m N V f (fun v => if v = u then R u ++ [t] else R v) ∧ wx.cell? ⟨p, 1, none⟩ = some (.int .i64 (t : Int))
theorem lk_start (w w1 : World) (g m N : Nat) (L : List Arc) (hb : Below w.heap.size w w1) (hg : w.heap.size ≤ g) (hm : w.heap.size ≤ m) (hne : g ≠ m)
    (h1 : w1.heap[g]? = some (.cells (madeCells #[.slice none 0 0] N) 22 (0, 0))) (h2 : w1.heap[m]? = some (.cells (madeCells #[.int .i64 0] N) 3 (0, 0))) (hN : N ≤ 4096) :
    LkAt w w1 g m N (fun _ => .slice none 0 0) (miss (ends (L.take 0)) []) (outs (ends (L.take 0))) := by
  have row : ∀ (z : Value) (p : Nat) (t : TypeId), w.heap.size ≤ p → w1.heap[p]? = some (.cells (madeCells #[z] N) t (0, 0)) → w1.ownsRow w.heap.size t 1 (.slice (some ⟨p, 0, none⟩) N N) N ((List.range N).map fun _ => z) := by
    intro z p t hp h
    refine ⟨by simp, Or.inr ⟨p, N, _, rfl, hp, h, Nat.le_refl _, by unfold maxLen; omega, by simp [size_madeCells], ?_⟩⟩
    rw [toList_madeCells_one, made_map, List.take_of_length_le (by simp)]
  refine ⟨hb, hg, hm, hne, row _ g _ hg h1, row _ m _ hm h2, fun v hv => ?_, fun u v _ _ _ b hb2 => by simp [Value.ownBlock] at hb2, fun v _ => by simp [Value.ownBlock], fun v _ => by simp [Value.ownBlock]⟩
  exact World.ownsRow_nil _ _ _ _
theorem ends_snoc (L : List Arc) (k : Nat) (h : k < L.length) : ends (L.take (k + 1)) = ends (L.take k) ++ [(L[k].1.toNat, L[k].2.1.toNat)] := by
  unfold ends
  rw [List.take_succ_eq_append_getElem h, List.map_append]
  rfl
theorem ends_len (L : List Arc) (k : Nat) : (ends (L.take k)).length ≤ L.length := by unfold ends; simp; omega
theorem outs_len (K : EndL) (v : Nat) : (outs K v).length ≤ K.length := by unfold outs; rw [List.length_map]; exact List.length_filter_le _ _

set_option maxHeartbeats 4000000 in
set_option maxRecDepth 100000 in
theorem links (N : Nat) (v : Value) (L : List Arc) (w : World) (hA : ArcsAt w v L) (hM : May N L) :
    Calls Tryz.prog 83 #[.int .i64 N, v] w (Linked N L w) := by
  have HA := Lib.hid hA
  have HM := Lib.hid hM
  have hN : N ≤ 4096 := by have := hM.n1; omega
  have hL := hM.len
  obtain ⟨A, cap, rfl, hcap, -⟩ := hA
  obtain ⟨i0, hi, hz0, hz1, hz2⟩ := info_parts infoI
  have hmk1 := mkInts N hN
  have hmk2 := mkRows N hN
  clear hM
  go_enter Tryz.func83, Tryz.ntmps83
  go_wp2
  go_region
  -- WAYS
  · clear hmk1 hmk2
    go_wp2
    go_loopw [14] (fun iv wr => LkRel N L (w.heap.size) (w.heap.size + 1) w wr iv) (fun iv _ => L.length - (intOf iv).toNat)
    case atStart => exact ⟨0, _, rfl, by omega, lk_start w _ _ _ N L ((((Below.refl _ _).alloc (Nat.le_refl _) _).alloc (by simp) _).drew) (by omega) (by omega) (by omega) ((Below.heap_alloc _ _ _ (by simp)).trans (heap_alloc_new w _)) (by show ((w.alloc _).alloc _).heap[w.heap.size + 1]? = _; simpa using heap_alloc_new (w.alloc _) _) hN⟩
    case round =>
      obtain ⟨k, V, rfl, hk, hI⟩ := hrel
      have I := Lib.hid hI
      have hgl := hI.gl
      have hml := hI.ml
      have hbs := hI.below.size
      clear hI
      by_cases hlt : k < L.length
      · obtain ⟨A', cap', e, _, hA⟩ := HA.out
        simp only [Value.slice.injEq, true_and] at e
        obtain ⟨rfl, rfl⟩ := e
        obtain ⟨b, o, rfl, hb, hcell⟩ := hA (by omega)
        obtain ⟨c0, c1, c2⟩ := hcell k hlt
        have d0 := (I.out.below.cell (p := ⟨b, o + k * 3, none⟩) hb).trans c0
        have d1 := (I.out.below.cell (p := ⟨b, o + k * 3 + 1, none⟩) hb).trans c1
        have d2 := (I.out.below.cell (p := ⟨b, o + k * 3 + 2, none⟩) hb).trans c2
        have ok := HM.out.ok L[k] (List.getElem_mem hlt)
        have he := ends_snoc L k hlt
        have HE := Lib.hid he
        clear he hA hcell c0 c1 c2
        generalize L[k] = a at *
        obtain ⟨x, y, z⟩ := a
        obtain ⟨u, rfl⟩ : ∃ u : Nat, x = (u : Int) := ⟨x.toNat, by simp only at ok; omega⟩
        obtain ⟨t, rfl⟩ : ∃ t : Nat, y = (t : Int) := ⟨y.toNat, by simp only at ok; omega⟩
        simp only at ok d0 d1 d2
        have hu : u < N := by omega
        have ht : t < N := by omega
        clear ok
        have hr1 := outs_len (ends (L.take k)) u
        have hr2 := ends_len L k
        have hr3 : miss (ends (L.take k)) [] t ≤ _ := miss_le t
        have hRu : (outs (ends (L.take k)) u).length ≤ 16384 := by omega
        have hft : miss (ends (L.take k)) [] t ≤ 16384 := by omega
        clear hr1 hr2 hr3
        have g0 := I.out.cellG hu
        have g1 := I.out.frG u
        have g2 := I.out.cellM ht
        have g3 := I.out.frM t
        generalize hfv : miss (ends (L.take k)) [] t = q at *
        have HF := Lib.hid hfv
        clear hfv
        go_upto_region 5 with fail
        go_cut [14] from 14 to 38 (fun s14 wx => s14 = .int .i64 (k : Int) ∧ MidL w wx wr.heap.size (w.heap.size) (w.heap.size + 1) N u t (miss (ends (L.take k)) []) (outs (ends (L.take k))))
        case first =>
          go_region_law (refine step_row rfl (.tmp 25) (.tmp 28) 22 rfl i0 8 Tryz.underlying22 hi hz0 hz1 hz2 I.out ((((Below.refl _ _).alloc (Nat.le_refl _) _).alloc (by simp) _).drew) u t hu (by simp [Act.eval]) ⟨wr.heap.size + 1, 0, none⟩ 1 (by simp [Act.eval]) (by intro j z hz; have hj : j = 0 := (by have := List.getElem?_eq_some_iff.1 hz; simp at this; omega); subst hj; simp at hz; subst hz; go_simp; rfl) (by unfold maxLen; omega) (by omega) ?_; intro gv cv w1 hJ ho hH hown; have J := Lib.hid hJ; have e0 := (ho.cell u hH.gl (fun e => hH.offG u hu e)).trans (hH.cellG hu); have e1 := (ho.frz u hH.gl (fun e => hH.offG u hu e)).trans (hH.frG u); have e2 := (ho.cell t hH.ml (fun e => hH.offM u hu e)).trans (hH.cellM ht); have e3 := (ho.frz t hH.ml (fun e => hH.offM u hu e)).trans (hH.frM t); rw [HF.out] at e2; have p1 : w1.cell? ⟨wr.heap.size, 1, none⟩ = some (.int .i64 (t : Int)) := (ho.cell 1 (by (simp <;> omega)) (fun e => absurd (hown _ e) (Nat.lt_irrefl _))).trans (by go_simp); have p0 : w1.cell? ⟨wr.heap.size, 0, none⟩ = some (.int .i64 (u : Int)) := (ho.cell 0 (by (simp <;> omega)) (fun e => absurd (hown _ e) (Nat.lt_irrefl _))).trans (by go_simp); clear hJ ho hH hown)
          all_goals
            go_wp2_with fail
            go_meet
            have n1 : wr.heap.size ≠ w.heap.size := by omega
            exact ⟨rfl, _, (by first | exact J.out | exact J.out.quiet (Below.refl _ _).drew), by go_simp⟩
        case rest =>
          obtain ⟨rfl, V', hI', p1⟩ := hcut
          have J := Lib.hid hI'
          have e2 := hI'.cellM ht
          have e3 := hI'.frM t
          rw [HF.out] at e2
          clear hI'
          have n2 : wr.heap.size ≠ w.heap.size + 1 := by omega
          go_wp2
          go_roundw
          case rel =>
            have J2 := J.out.inc t (q + 1)
            refine ⟨k + 1, V', by go_num, by omega, ?_⟩
            have e1 : (fun v => if v = t then q + 1 else miss (ends (L.take k)) [] v) = miss (ends (L.take (k + 1))) [] := by
              funext v
              rw [HE.out, miss_snocE]
              by_cases e : v = t
              · subst e; simp [HF.out]
              · simp [e, Ne.symm e]
            have e2 : (fun v => if v = u then outs (ends (L.take k)) u ++ [t] else outs (ends (L.take k)) v) = outs (ends (L.take (k + 1))) := by
              funext v
              rw [HE.out, outs_snoc]
              by_cases e : v = u
              · subst e; simp
              · simp [e, Ne.symm e]
            rw [e1, e2] at J2
            exact J2
          case measure => simp [intOf]; omega
      · obtain rfl : k = L.length := by omega
        go_wp2
        go_ret2
        have h := I.out
        rw [List.take_length] at h
        exact ⟨_, _, V, rfl, h⟩
  · clear hmk1 hmk2
    go_wp2
    go_loopw [14] (fun iv wr => LkRel N L (w.heap.size + 1) (w.heap.size) w wr iv) (fun iv _ => L.length - (intOf iv).toNat)
    case atStart => exact ⟨0, _, rfl, by omega, lk_start w _ _ _ N L ((((Below.refl _ _).alloc (Nat.le_refl _) _).alloc (by simp) _).drew) (by omega) (by omega) (by omega) (by show ((w.alloc _).alloc _).heap[w.heap.size + 1]? = _; simpa using heap_alloc_new (w.alloc _) _) ((Below.heap_alloc _ _ _ (by simp)).trans (heap_alloc_new w _)) hN⟩
    case round =>
      obtain ⟨k, V, rfl, hk, hI⟩ := hrel
      have I := Lib.hid hI
      have hgl := hI.gl
      have hml := hI.ml
      have hbs := hI.below.size
      clear hI
      by_cases hlt : k < L.length
      · obtain ⟨A', cap', e, _, hA⟩ := HA.out
        simp only [Value.slice.injEq, true_and] at e
        obtain ⟨rfl, rfl⟩ := e
        obtain ⟨b, o, rfl, hb, hcell⟩ := hA (by omega)
        obtain ⟨c0, c1, c2⟩ := hcell k hlt
        have d0 := (I.out.below.cell (p := ⟨b, o + k * 3, none⟩) hb).trans c0
        have d1 := (I.out.below.cell (p := ⟨b, o + k * 3 + 1, none⟩) hb).trans c1
        have d2 := (I.out.below.cell (p := ⟨b, o + k * 3 + 2, none⟩) hb).trans c2
        have ok := HM.out.ok L[k] (List.getElem_mem hlt)
        have he := ends_snoc L k hlt
        have HE := Lib.hid he
        clear he hA hcell c0 c1 c2
        generalize L[k] = a at *
        obtain ⟨x, y, z⟩ := a
        obtain ⟨u, rfl⟩ : ∃ u : Nat, x = (u : Int) := ⟨x.toNat, by simp only at ok; omega⟩
        obtain ⟨t, rfl⟩ : ∃ t : Nat, y = (t : Int) := ⟨y.toNat, by simp only at ok; omega⟩
        simp only at ok d0 d1 d2
        have hu : u < N := by omega
        have ht : t < N := by omega
        clear ok
        have hr1 := outs_len (ends (L.take k)) u
        have hr2 := ends_len L k
        have hr3 : miss (ends (L.take k)) [] t ≤ _ := miss_le t
        have hRu : (outs (ends (L.take k)) u).length ≤ 16384 := by omega
        have hft : miss (ends (L.take k)) [] t ≤ 16384 := by omega
        clear hr1 hr2 hr3
        have g0 := I.out.cellG hu
        have g1 := I.out.frG u
        have g2 := I.out.cellM ht
        have g3 := I.out.frM t
        generalize hfv : miss (ends (L.take k)) [] t = q at *
        have HF := Lib.hid hfv
        clear hfv
        go_upto_region 5 with fail
        go_cut [14] from 14 to 38 (fun s14 wx => s14 = .int .i64 (k : Int) ∧ MidL w wx wr.heap.size (w.heap.size + 1) (w.heap.size) N u t (miss (ends (L.take k)) []) (outs (ends (L.take k))))
        case first =>
          go_region_law (refine step_row rfl (.tmp 25) (.tmp 28) 22 rfl i0 8 Tryz.underlying22 hi hz0 hz1 hz2 I.out ((((Below.refl _ _).alloc (Nat.le_refl _) _).alloc (by simp) _).drew) u t hu (by simp [Act.eval]) ⟨wr.heap.size + 1, 0, none⟩ 1 (by simp [Act.eval]) (by intro j z hz; have hj : j = 0 := (by have := List.getElem?_eq_some_iff.1 hz; simp at this; omega); subst hj; simp at hz; subst hz; go_simp; rfl) (by unfold maxLen; omega) (by omega) ?_; intro gv cv w1 hJ ho hH hown; have J := Lib.hid hJ; have e0 := (ho.cell u hH.gl (fun e => hH.offG u hu e)).trans (hH.cellG hu); have e1 := (ho.frz u hH.gl (fun e => hH.offG u hu e)).trans (hH.frG u); have e2 := (ho.cell t hH.ml (fun e => hH.offM u hu e)).trans (hH.cellM ht); have e3 := (ho.frz t hH.ml (fun e => hH.offM u hu e)).trans (hH.frM t); rw [HF.out] at e2; have p1 : w1.cell? ⟨wr.heap.size, 1, none⟩ = some (.int .i64 (t : Int)) := (ho.cell 1 (by (simp <;> omega)) (fun e => absurd (hown _ e) (Nat.lt_irrefl _))).trans (by go_simp); have p0 : w1.cell? ⟨wr.heap.size, 0, none⟩ = some (.int .i64 (u : Int)) := (ho.cell 0 (by (simp <;> omega)) (fun e => absurd (hown _ e) (Nat.lt_irrefl _))).trans (by go_simp); clear hJ ho hH hown)
          all_goals
            go_wp2_with fail
            go_meet
            have n1 : wr.heap.size ≠ w.heap.size + 1 := by omega
            exact ⟨rfl, _, (by first | exact J.out | exact J.out.quiet (Below.refl _ _).drew), by go_simp⟩
        case rest =>
          obtain ⟨rfl, V', hI', p1⟩ := hcut
          have J := Lib.hid hI'
          have e2 := hI'.cellM ht
          have e3 := hI'.frM t
          rw [HF.out] at e2
          clear hI'
          have n2 : wr.heap.size ≠ w.heap.size := by omega
          go_wp2
          go_roundw
          case rel =>
            have J2 := J.out.inc t (q + 1)
            refine ⟨k + 1, V', by go_num, by omega, ?_⟩
            have e1 : (fun v => if v = t then q + 1 else miss (ends (L.take k)) [] v) = miss (ends (L.take (k + 1))) [] := by
              funext v
              rw [HE.out, miss_snocE]
              by_cases e : v = t
              · subst e; simp [HF.out]
              · simp [e, Ne.symm e]
            have e2 : (fun v => if v = u then outs (ends (L.take k)) u ++ [t] else outs (ends (L.take k)) v) = outs (ends (L.take (k + 1))) := by
              funext v
              rw [HE.out, outs_snoc]
              by_cases e : v = u
              · subst e; simp
              · simp [e, Ne.symm e]
            rw [e1, e2] at J2
            exact J2
          case measure => simp [intOf]; omega
      · obtain rfl : k = L.length := by omega
        go_wp2
        go_ret2
        have h := I.out
        rw [List.take_length] at h
        exact ⟨_, _, V, rfl, h⟩
end Go.Proofs.YtappfojjjegnpaaGreatDoor
