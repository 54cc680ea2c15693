/-
  What the code's Back answers. Conditions: bends of at most 2000000 letters.
-/
import Derived.Test.YtgedcalplfnjmaaDoorTxtB
import Derived.Deep.RegionHeld3
import Derived.Deep.CutRange
namespace Go.Proofs.YtgedcalplfnjmaaDoor
open Go.RowKit Go.Proofs.YtgedcalplfnjmaaDoor.LexM Go.Proofs.YtgedcalplfnjmaaDoor.ParM

/-- The edge's box, and the result's that is still empty. -/
structure BkSt (w wk : World) (y1 y2 y3 : Int) (sb : ByteArray) : Prop where
  below : Below w.heap.size w wk
  arg : wk.heap[w.heap.size]? = some (.cells #[.int .i64 y1, .int .i64 y2, .int .i64 y3, .string sb] 23 (0, 0))
  res : wk.heap[w.heap.size + 1]? = some (.cells #[.int .i64 0, .int .i64 0, .int .i64 0, .string ByteArray.empty] 23 (0, 0))
section
variable {w wk wl : World} {y1 y2 y3 : Int} {sb : ByteArray}
theorem BkSt.step (h : BkSt w wk y1 y2 y3 sb) (b : Below wk.heap.size wk wl) : BkSt w wl y1 y2 y3 sb :=
  ⟨h.below.trans (b.mono h.below.size), by rw [b.block _ (Array.getElem?_eq_some_iff.1 h.arg).1]; exact h.arg, by rw [b.block _ (Array.getElem?_eq_some_iff.1 h.res).1]; exact h.res⟩
theorem BkSt.cs (h : BkSt w wk y1 y2 y3 sb) : wk.cell? ⟨w.heap.size, 0, none⟩ = some (.int .i64 y1) ∧ wk.cell? ⟨w.heap.size, 1, none⟩ = some (.int .i64 y2) ∧ wk.cell? ⟨w.heap.size, 2, none⟩ = some (.int .i64 y3) ∧ wk.cell? ⟨w.heap.size, 3, none⟩ = some (.string sb) ∧ w.heap.size < wk.heap.size := by
  have h1 := h.arg
  exact ⟨by simp [World.cell?, h1], by simp [World.cell?, h1], by simp [World.cell?, h1], by simp [World.cell?, h1], (Array.getElem?_eq_some_iff.1 h1).1⟩
theorem BkSt.rs (h : BkSt w wk y1 y2 y3 sb) : wk.cell? ⟨w.heap.size + 1, 0, none⟩ = some (.int .i64 0) ∧ wk.cell? ⟨w.heap.size + 1, 1, none⟩ = some (.int .i64 0) ∧ wk.cell? ⟨w.heap.size + 1, 2, none⟩ = some (.int .i64 0) ∧ wk.cell? ⟨w.heap.size + 1, 3, none⟩ = some (.string ByteArray.empty) ∧ w.heap.size + 1 < wk.heap.size := by
  have h1 := h.res
  exact ⟨by simp [World.cell?, h1], by simp [World.cell?, h1], by simp [World.cell?, h1], by simp [World.cell?, h1], (Array.getElem?_eq_some_iff.1 h1).1⟩
theorem BkSt.fr (h : BkSt w wk y1 y2 y3 sb) (j : Nat) : wk.frozen? ⟨w.heap.size + 1, j, none⟩ = false := by
  have h := h.res
  simp only [World.frozen?, h]; simp
theorem BkSt.filled (h : BkSt w wk y1 y2 y3 sb) (v0 v1 v2 v3 : Value) {w6 : World}
    (e : ((((wk.setCell ⟨w.heap.size + 1, 0, none⟩ v0).setCell ⟨w.heap.size + 1, 1, none⟩ v1).setCell ⟨w.heap.size + 1, 2, none⟩ v2).setCell ⟨w.heap.size + 1, 3, none⟩ v3) = w6) :
    w6.cell? ⟨w.heap.size + 1, 0, none⟩ = some v0 ∧ w6.cell? ⟨w.heap.size + 1, 1, none⟩ = some v1 ∧ w6.cell? ⟨w.heap.size + 1, 2, none⟩ = some v2 ∧ w6.cell? ⟨w.heap.size + 1, 3, none⟩ = some v3 ∧ Below w.heap.size w w6 := by
  subst e
  have hc := heap_setCell_at (heap_setCell_at (heap_setCell_at (heap_setCell_at h.res 0 v0) 1 v1) 2 v2) 3 v3
  have ho : Out (fun x => x = w.heap.size + 1) wk ((((wk.setCell ⟨w.heap.size + 1, 0, none⟩ v0).setCell ⟨w.heap.size + 1, 1, none⟩ v1).setCell ⟨w.heap.size + 1, 2, none⟩ v2).setCell ⟨w.heap.size + 1, 3, none⟩ v3) := ((((Out.refl _ wk).setIn _ _).setIn _ _).setIn _ _).setIn _ _
  have hx : ∀ j v, ((((#[Value.int .i64 0, .int .i64 0, .int .i64 0, .string ByteArray.empty].setIfInBounds 0 v0).setIfInBounds 1 v1).setIfInBounds 2 v2).setIfInBounds 3 v3)[j]? = some v → ((((wk.setCell ⟨w.heap.size + 1, 0, none⟩ v0).setCell ⟨w.heap.size + 1, 1, none⟩ v1).setCell ⟨w.heap.size + 1, 2, none⟩ v2).setCell ⟨w.heap.size + 1, 3, none⟩ v3).cell? ⟨w.heap.size + 1, j, none⟩ = some v := fun j v hv => by
    simp only [World.cell?, hc]
    exact hv
  exact ⟨hx 0 v0 rfl, hx 1 v1 rfl, hx 2 v2 rfl, hx 3 v3 rfl, h.below.trans (ho.below h.below.size (fun i _ e => by omega))⟩
end
theorem BkSt.start (w : World) (y1 y2 y3 : Int) (sb : ByteArray) : BkSt w ((w.alloc (.cells #[.int .i64 y1, .int .i64 y2, .int .i64 y3, .string sb] 23)).alloc (.cells #[.int .i64 0, .int .i64 0, .int .i64 0, .string ByteArray.empty] 23)) y1 y2 y3 sb :=
  ⟨((Below.refl _ _).alloc (Nat.le_refl _) _).alloc (by simp) _, by rw [Below.heap_alloc _ _ _ (by simp)]; exact heap_alloc_new w _, heap_second w _ _⟩
set_option maxHeartbeats 4000000 in
set_option maxRecDepth 100000 in
theorem backNo (e : Edg) (w : World) (hz : e.2.2.2.length ≤ 2000000) (h : goodB e.2.2.1 = false ∨ isTurns e.2.2.2 = false) :
    Calls Tryd.prog 5 #[valE e] w fun r w' => r = .returned (.tuple #[.agg #[.int .i64 0, .int .i64 0, .int .i64 0, .string ⟨#[]⟩], .int .i64 2]) ∧ Below w.heap.size w w' := by
  obtain ⟨y1, y2, y3, y4⟩ := e
  show Calls Tryd.prog 5 #[.agg #[.int .i64 y1, .int .i64 y2, .int .i64 y3, .string (bs y4)]] w _
  simp only at h hz
  have G0 : ∀ w, Calls Tryd.prog 12 #[.int .i64 y3] w fun e w' => e = .returned (.bool (goodB y3)) ∧ w = w' := fun w => kept (good_any y3 w)
  have T0 := fun w => areBendsT (bs y4) w (by rw [bs_size]; exact hz)
  rw [bs_data] at T0
  generalize bs y4 = sb at *
  have S0 := Lib.hid (BkSt.start w y1 y2 y3 sb)
  cases hg : goodB y3 with
  | false =>
    rw [hg] at G0
    have G := Lib.hid G0
    clear G0 T0 h hz hg
    go_enter Tryd.func5, Tryd.ntmps5
    go_upto_region 1 with (fail)
    generalize hwb : World.alloc (World.alloc w _) _ = wb
    have S1 : Hid (BkSt w wb y1 y2 y3 sb) := Lib.hid (by rw [← hwb]; exact S0.out)
    obtain ⟨x0, x1, x2, x3, xl⟩ := S1.out.cs
    obtain ⟨r0, r1, r2, r3, rl⟩ := S1.out.rs
    have j0 := S1.out.fr 0
    have j1 := S1.out.fr 1
    have j2 := S1.out.fr 2
    have j3 := S1.out.fr 3
    clear hwb S0
    go_wp2_with (go_at_call 12; refine (G.out _).mono ?_; rintro e w1 ⟨rfl, rfl⟩)
    generalize hw6 : World.setCell _ ⟨w.heap.size + 1, 3, none⟩ _ = w6
    obtain ⟨u0, u1, u2, u3, hb⟩ := S1.out.filled _ _ _ _ hw6
    clear hw6
    refine bodyPost_ret (v := .tuple #[.agg #[.int .i64 0, .int .i64 0, .int .i64 0, .string ⟨#[]⟩], .int .i64 2]) (by simp [results, Tryd.results5, go_sem, u0, u1, u2, u3]) rfl ⟨rfl, hb⟩
  | true =>
    rw [hg] at G0
    have ht : isTurns y4 = false := h.resolve_left (by rw [hg]; simp)
    rw [ht] at T0
    have G := Lib.hid G0
    have T := Lib.hid T0
    clear G0 T0 h hz hg ht
    go_enter Tryd.func5, Tryd.ntmps5
    go_upto_region 1 with (fail)
    generalize hwb : World.alloc (World.alloc w _) _ = wb
    have S1 : Hid (BkSt w wb y1 y2 y3 sb) := Lib.hid (by rw [← hwb]; exact S0.out)
    obtain ⟨x0, x1, x2, x3, xl⟩ := S1.out.cs
    obtain ⟨r0, r1, r2, r3, rl⟩ := S1.out.rs
    have j0 := S1.out.fr 0
    have j1 := S1.out.fr 1
    have j2 := S1.out.fr 2
    have j3 := S1.out.fr 3
    clear hwb S0
    go_wp2_with (first
      | (go_at_call 12; refine (G.out _).mono ?_; rintro e w1 ⟨rfl, rfl⟩)
      | (go_at_call 13; refine (T.out _).mono ?_; rintro e w1 ⟨rfl, rfl⟩))
    generalize hw6 : World.setCell _ ⟨w.heap.size + 1, 3, none⟩ _ = w6
    obtain ⟨u0, u1, u2, u3, hb⟩ := S1.out.filled _ _ _ _ hw6
    clear hw6
    refine bodyPost_ret (v := .tuple #[.agg #[.int .i64 0, .int .i64 0, .int .i64 0, .string ⟨#[]⟩], .int .i64 2]) (by simp [results, Tryd.results5, go_sem, u0, u1, u2, u3]) rfl ⟨rfl, hb⟩
set_option maxHeartbeats 8000000 in
set_option maxRecDepth 100000 in
theorem backYes (e : Edg) (w : World) (hz : e.2.2.2.length ≤ 2000000) (h0 : 0 ≤ e.2.2.1) (h3 : e.2.2.1 ≤ 3) (ht : isTurns e.2.2.2 = true) :
    Calls Tryd.prog 5 #[valE e] w fun r w' => r = .returned (.tuple #[valE (backE e), .int .i64 0]) ∧ Below w.heap.size w w' := by
  obtain ⟨y1, y2, y3, y4⟩ := e
  show Calls Tryd.prog 5 #[.agg #[.int .i64 y1, .int .i64 y2, .int .i64 y3, .string (bs y4)]] w fun r w' => r = .returned (.tuple #[.agg #[.int .i64 y2, .int .i64 y1, .int .i64 ((lastT y3 y4 + 2) % 4), .string (bs (backT y4))], .int .i64 0]) ∧ Below w.heap.size w w'
  simp only at h0 h3 hz ht
  have hzb : (bs y4).size ≤ 2000000 := by rw [bs_size]; exact hz
  have G0 : ∀ w, Calls Tryd.prog 12 #[.int .i64 y3] w fun e w' => e = .returned (.bool (goodB y3)) ∧ w = w' := fun w => kept (good_any y3 w)
  rw [goodB_t h0 (by omega)] at G0
  have T0 := fun w => areBendsT (bs y4) w hzb
  have F0 := fun w => leftsT (bs y4) w hzb
  have K0 := fun w => backBendsT (bs y4) w hzb
  rw [bs_data] at T0 F0 K0
  rw [ht] at T0
  have L0 : ∀ w, Calls Tryd.prog 14 #[.int .i64 y3, .int .i64 (sumC y4)] w fun e w' => e = .returned (.int .i64 (lastT y3 y4)) ∧ w = w' := fun w => by
    have := kept (left_any y3 (sumC y4) w)
    rw [leftI_t h0 (by omega), lastC] at this
    exact this
  have M0 : ∀ w, Calls Tryd.prog 14 #[.int .i64 (lastT y3 y4), .int .i64 2] w fun e w' => e = .returned (.int .i64 ((lastT y3 y4 + 2) % 4)) ∧ w = w' := fun w => by
    have hr := lastT_range y3 y4
    have := kept (left_any (lastT y3 y4) 2 w)
    rw [leftI_t hr.1 (by omega)] at this
    exact this
  generalize (lastT y3 y4 + 2) % 4 = d2 at *
  generalize lastT y3 y4 = c at *
  generalize sumC y4 = sc at *
  generalize bs (backT y4) = s2 at *
  generalize bs y4 = sb at *
  have S0 := Lib.hid (BkSt.start w y1 y2 y3 sb)
  have G := Lib.hid G0
  have T := Lib.hid T0
  have F := Lib.hid F0
  have K := Lib.hid K0
  have L := Lib.hid L0
  have M := Lib.hid M0
  clear G0 T0 F0 K0 L0 M0 h0 h3 hz ht hzb
  go_enter Tryd.func5, Tryd.ntmps5
  go_upto_region 1 with (fail)
  generalize hwb : World.alloc (World.alloc w _) _ = wb
  have S1 : Hid (BkSt w wb y1 y2 y3 sb) := Lib.hid (by rw [← hwb]; exact S0.out)
  obtain ⟨x0, x1, x2, x3, xl⟩ := S1.out.cs
  clear hwb S0
  go_upto_region 3 with (first
    | (go_at_call 12; refine (G.out _).mono ?_; rintro e w1 ⟨rfl, rfl⟩)
    | (go_at_call 13; refine (T.out _).mono ?_; rintro e w1 ⟨rfl, rfl⟩))
  go_region_held3 (fun w' => w'.cell? ⟨w.heap.size, 2, none⟩ = some (.int .i64 y3) ∧ w'.cell? ⟨w.heap.size, 3, none⟩ = some (.string sb)) (go_keep)
    ((first
      | (go_at_call 15; refine (F.out _).mono ?_; rintro e w1 ⟨rfl, rfl⟩)
      | (go_at_call 14; refine (L.out _).mono ?_; rintro e w1 ⟨rfl, rfl⟩)))
  have S2 := Lib.hid (S1.out.step ((Below.refl wb.heap.size wb).drew))
  clear x0 x1 x2 x3 xl
  generalize World.drew wb = wd at *
  obtain ⟨x0, x1, x2, x3, xl⟩ := S2.out.cs
  go_upto_region 4 with (fail)
  go_region_held3 (fun w' => w'.cell? ⟨w.heap.size, 0, none⟩ = some (.int .i64 y1) ∧ w'.cell? ⟨w.heap.size, 1, none⟩ = some (.int .i64 y2) ∧ w'.cell? ⟨w.heap.size, 3, none⟩ = some (.string sb))
    (first
      | go_keep
      | (go_split_ands
         refine ⟨?_, ?_, ?_⟩
         · (rw [Q1.out.cell (p := ⟨w.heap.size, 0, none⟩) xl]; exact x0)
         · (rw [Q1.out.cell (p := ⟨w.heap.size, 1, none⟩) xl]; exact x1)
         · (rw [Q1.out.cell (p := ⟨w.heap.size, 3, none⟩) xl]; exact x3)))
    ((first
      | (go_at_call 14; refine (M.out _).mono ?_; rintro e w1 ⟨rfl, rfl⟩)
      | (go_at_call 16; refine (K.out _).mono ?_; rintro e w2 ⟨rfl, hb⟩; have Q1 : Hid (Below wd.heap.size wd w2) := Lib.hid ((Below.refl wd.heap.size wd).drew.trans hb); have S3 := Lib.hid (S2.out.step Q1.out); obtain ⟨r0, r1, r2, r3, rl⟩ := S3.out.rs; have j0 := S3.out.fr 0; have j1 := S3.out.fr 1; have j2 := S3.out.fr 2; have j3 := S3.out.fr 3; clear hb)))
  all_goals
    clear x0 x1 x2 x3 xl
    go_wp2
    generalize hw6 : World.setCell _ ⟨w.heap.size + 1, 3, none⟩ _ = w6
    obtain ⟨u0, u1, u2, u3, hb⟩ := S3.out.filled _ _ _ _ hw6
    clear hw6
    refine bodyPost_ret (v := .tuple #[.agg #[.int .i64 y2, .int .i64 y1, .int .i64 d2, .string s2], .int .i64 0]) (by simp [results, Tryd.results5, go_sem, u0, u1, u2, u3]) rfl ⟨rfl, hb⟩
end Go.Proofs.YtgedcalplfnjmaaDoor
