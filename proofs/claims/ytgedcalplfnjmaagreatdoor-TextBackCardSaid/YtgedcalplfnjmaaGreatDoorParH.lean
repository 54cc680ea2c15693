/-
  Parse: what it answers. Conditions: the library's tables are laid.
-/
import Derived.Test.YtgedcalplfnjmaaGreatDoorParG
namespace Go.Proofs.YtgedcalplfnjmaaGreatDoor
open Go.RowKit Go.Proofs.YtgedcalplfnjmaaGreatDoor.LexM Go.Proofs.YtgedcalplfnjmaaGreatDoor.ParM

/-- What Parse leaves. -/
def ParP (l : List UInt8) (w : World) (e : Ending) (w' : World) : Prop := ∃ bv ev, e = .returned (.tuple #[.agg #[bv, ev], .int .i64 (par l).2.1, .int .i64 (par l).1]) ∧ BlsAt w' bv (par l).2.2.1 ∧ EdsAt w' ev (par l).2.2.2 ∧ Below w.heap.size w w'
/-- A shape's box filled. -/
theorem shape_set {w wk : World} {b : Nat} {T : TypeId} {c0 c1 : Value} (h : wk.heap[b]? = some (.cells #[c0, c1] T (0, 0))) (hb : w.heap.size ≤ b) (hw : Below w.heap.size w wk) (v0 v1 : Value) {w6 : World}
    (e : ((wk.setCell ⟨b, 0, none⟩ v0).setCell ⟨b, 1, none⟩ v1) = w6) :
    w6.cell? ⟨b, 0, none⟩ = some v0 ∧ w6.cell? ⟨b, 1, none⟩ = some v1 ∧ Below w.heap.size w w6 ∧ Out (fun x => x = b) wk w6 := by
  subst e
  have hc := heap_setCell_at (heap_setCell_at h 0 v0) 1 v1
  have ho : Out (fun x => x = b) wk ((wk.setCell ⟨b, 0, none⟩ v0).setCell ⟨b, 1, none⟩ v1) := ((Out.refl _ wk).setIn _ _).setIn _ _
  have hx : ∀ j v, ((#[c0, c1].setIfInBounds 0 v0).setIfInBounds 1 v1)[j]? = some v → ((wk.setCell ⟨b, 0, none⟩ v0).setCell ⟨b, 1, none⟩ v1).cell? ⟨b, j, none⟩ = some v := fun j v hv => by
    simp only [World.cell?, hc]
    exact hv
  exact ⟨hx 0 v0 rfl, hx 1 v1 rfl, hw.trans (ho.below hw.size (fun i _ e => by omega)), ho⟩
/-- The result's box is still empty. -/
structure RcAt (w wk : World) : Prop where
  below : Below w.heap.size w wk
  blk : wk.heap[w.heap.size]? = some (.cells #[.slice none 0 0, .slice none 0 0] 25 (0, 0))
theorem RcAt.step {w wk wl : World} (h : RcAt w wk) (b : Below wk.heap.size wk wl) : RcAt w wl := by
  have hlt : w.heap.size < wk.heap.size := (Array.getElem?_eq_some_iff.1 h.blk).1
  exact ⟨h.below.trans (b.mono h.below.size), by rw [b.block _ hlt]; exact h.blk⟩
theorem RcAt.c {w wk : World} (h : RcAt w wk) : wk.cell? ⟨w.heap.size, 0, none⟩ = some (.slice none 0 0) ∧ wk.cell? ⟨w.heap.size, 1, none⟩ = some (.slice none 0 0) ∧ wk.frozen? ⟨w.heap.size, 0, none⟩ = false ∧ wk.frozen? ⟨w.heap.size, 1, none⟩ = false ∧ w.heap.size < wk.heap.size := by
  have h1 := h.blk
  refine ⟨by simp [World.cell?, h1], by simp [World.cell?, h1], ?_, ?_, (Array.getElem?_eq_some_iff.1 h1).1⟩
  · simp only [World.frozen?, h1]; simp
  · simp only [World.frozen?, h1]; simp
theorem par_long {s : List UInt8} (h : lnE s ≠ 0) : par s = (lnE s, 0, [], []) := by unfold par; rw [if_pos h]
theorem lnL_short {l : List UInt8} : ∀ p ∈ lnL l, p.length ≤ l.length := by
  intro p hp
  unfold lnL at hp
  split at hp
  · obtain ⟨a, b, e⟩ := List.append_of_mem hp
    have h := congrArg List.length (glue_ps 10 l)
    rw [e, glue_append] at h
    simp [glue] at h
    omega
  · simp at hp
theorem lnE_zero {l : List UInt8} (h : lnE l = 0) : l.length ≤ 1048576 := by
  unfold lnE at h
  split at h
  · cases h
  · omega
theorem StrsAt.nth8 {w : World} {v : Value} {L : List (List UInt8)} (h : StrsAt w v L) {i : Nat} (hi : i < L.length) : ∃ b o cap, v = .slice (some ⟨b, o, none⟩) L.length cap ∧ b < w.heap.size ∧ w.cell? ⟨b, o + i, none⟩ = some (.string (bs L[i])) := by
  obtain ⟨A, cap, rfl, _, hA⟩ := h
  obtain ⟨b, o, rfl, hb, hc⟩ := hA (by omega)
  exact ⟨b, o, cap, rfl, hb, hc i hi⟩
/-- Where Parse stands: behind k lines. -/
def PsRel (L : List (List UInt8)) (R : Int × Int × List Bool × List Edg) (p : Nat) (w1 wr : World) (iv : Value) : Prop := ∃ (k : Nat) (st : Stt), iv = .int .i64 k ∧ k ≤ L.length ∧ okS st ∧ RdS w1 wr p st ∧ go3 st (L.drop k) k = R
set_option maxHeartbeats 8000000 in
set_option maxRecDepth 100000 in
theorem parse (s : ByteArray) (w : World) (hT : TabL w) : Calls Tryz.prog 4 #[.string s] w (ParP s.data.toList w) := by
  have HT := Lib.hid hT
  have C := Lib.hid (lines s)
  clear hT
  by_cases h0 : lnE s.data.toList = 0
  · have PE := Lib.hid (par_go3 h0)
    have hlen := lnE_zero h0
    obtain ⟨L, hL⟩ : ∃ L, lnL s.data.toList = L := ⟨_, rfl⟩
    have hll : L.length ≤ 1048576 := by
      have h1 := lnL_count s.data.toList
      have h2 := List.count_le_length (a := (10 : UInt8)) (l := s.data.toList)
      rw [hL] at h1; omega
    have LS : Hid (∀ q ∈ L, q.length ≤ 1048576) := Lib.hid (fun q hq => by
      have := lnL_short (l := s.data.toList) q (by rw [hL]; exact hq); omega)
    obtain ⟨n, hn⟩ : ∃ n, L.length = n := ⟨_, rfl⟩
    have C2 : Hid (∀ w, TabL w → Calls Tryz.prog 7 #[.string s] w fun e w' => ∃ A c, e = .returned (.tuple #[.slice A n c, .int .i64 0]) ∧ StrsAt w' (.slice A n c) L ∧ Below w.heap.size w w') := Lib.hid (fun w hT => by
      refine (C.out w hT).mono ?_
      rintro e w' ⟨v, rfl, hv, hb⟩
      rw [hL] at hv
      rw [h0]
      obtain ⟨A, c, rfl, hr⟩ := hv
      rw [hn]
      exact ⟨A, c, rfl, ⟨A, c, by rw [hn], hr⟩, hb⟩)
    have pe := PE.out
    rw [hL] at pe
    obtain ⟨R, hR⟩ : ∃ R, go3 (false, false, [], [], 0) L 0 = R := ⟨_, rfl⟩
    rw [hR] at pe
    have PR := Lib.hid pe
    have R0 := Lib.hid hR
    have LN := Lib.hid hn
    rw [hn] at hll
    clear h0 hlen hL C PE pe hR hn
    go_enter Tryz.func4, Tryz.ntmps4
    go_wp2_with (fail)
    generalize hwb : World.alloc w _ = wb
    have RB : Hid (RcAt w wb) := Lib.hid (by rw [← hwb]; exact ⟨(Below.refl _ _).alloc (Nat.le_refl _) _, heap_alloc_new w _⟩)
    clear hwb
    refine (C2.out wb (HT.out.below RB.out.below (Nat.le_refl _))).mono ?_
    rintro e w1 ⟨A, c, rfl, hv, b1⟩
    have V := Lib.hid hv
    have R1 := Lib.hid (RB.out.step b1)
    have T1 := Lib.hid (HT.out.below R1.out.below (Nat.le_refl _))
    clear b1 hv
    go_wp2
    go_loopw [22] (fun iv wr => PsRel L R w1.heap.size w1 wr iv) (fun iv _ => n - (intOf iv).toNat)
    case atStart =>
      refine ⟨0, (false, false, [], [], 0), rfl, Nat.zero_le _, ⟨by simp, by simp⟩, ⟨_, _, heap_alloc_new w1 _, World.ownsRow_nil _ _ _ _, World.ownsRow_nil _ _ _ _, Nat.le_refl _, (Below.refl _ _).alloc (Nat.le_refl _) _⟩, ?_⟩
      rw [List.drop_zero]; exact R0.out
    case round =>
      obtain ⟨k, st, rfl, hk, ho, hS, hg⟩ := hrel
      rw [LN.out] at hk
      have O := Lib.hid ho
      have S := Lib.hid hS
      have G := Lib.hid hg
      have RK := Lib.hid (R1.out.step hS.below)
      clear ho hS hg
      by_cases hlt : k < n
      · have hkL : k < L.length := by rw [LN.out]; exact hlt
        obtain ⟨b, o, cap', e, hb, hc⟩ := V.out.nth8 hkL
        rw [LN.out] at e
        simp only [Value.slice.injEq, true_and] at e
        obtain ⟨rfl, rfl⟩ := e
        have d0 := (S.out.below.cell (p := ⟨b, o + k, none⟩) hb).trans hc
        have hls := LS.out L[k] (List.getElem_mem hkL)
        have hgd := G.out
        rw [List.drop_eq_getElem_cons hkL, go3] at hgd
        have CA := Lib.hid (add w1 wr w1.heap.size st (bs L[k]) S.out O.out T1.out (by rw [bs_size]; omega))
        obtain ⟨q, hq⟩ : ∃ q, L[k] = q := ⟨_, rfl⟩
        rw [hq] at hgd d0 CA
        have GD := Lib.hid hgd
        clear hc hls hgd hq
        by_cases hz : adC st q = 0
        · have CB : Hid (Calls Tryz.prog 8 #[.pointer (some ⟨w1.heap.size, 0, none⟩), .string (bs q)] wr fun e w' => e = .returned (.int .i64 0) ∧ RdS w1 w' w1.heap.size (nxS st q)) := Lib.hid (by
            refine CA.out.mono ?_
            rintro e w' ⟨rfl, _, hr⟩
            rw [bs_data, hz]
            rw [bs_data] at hr
            exact ⟨rfl, hr hz⟩)
          have gd := GD.out
          rw [if_neg (by simpa using hz)] at gd
          have G2 := Lib.hid gd
          have ON := Lib.hid (okS_next O.out hz)
          clear hz gd CA
          go_wp2_with (go_at_call 8; refine CB.out.mono ?_; rintro e w2 ⟨rfl, hr⟩; have S2 := Lib.hid hr; clear hr)
          go_roundw
          case rel => exact ⟨k + 1, _, by go_num, by rw [LN.out]; omega, ON.out, S2.out, G2.out⟩
          case measure => (simp [intOf] <;> omega)
        · have gd := GD.out
          rw [if_pos hz] at gd
          have CB : Hid (Calls Tryz.prog 8 #[.pointer (some ⟨w1.heap.size, 0, none⟩), .string (bs q)] wr fun e w' => e = .returned (.int .i64 (adC st q)) ∧ Below w1.heap.size w1 w') := Lib.hid (by
            refine CA.out.mono ?_
            rintro e w' ⟨rfl, hb, _⟩
            rw [bs_data]
            exact ⟨rfl, hb⟩)
          have q1 : (adC st q == 0) = false := by simpa using hz
          have q2 : (adC st q != 0) = true := by simpa using hz
          have PX : Hid (par s.data.toList = (adC st q, (k : Int) + 1, [], [])) := Lib.hid (PR.out.trans gd.symm)
          generalize adC st q = z at *
          clear hz gd CA
          go_wp2_with (go_at_call 8; refine CB.out.mono ?_; rintro e w2 ⟨rfl, b2⟩; have R2 := Lib.hid (R1.out.step b2); obtain ⟨y0, y1, yf0, yf1, yl⟩ := R2.out.c; clear b2)
          generalize hw6 : World.setCell _ ⟨w.heap.size, 1, none⟩ _ = w6
          obtain ⟨u0, u1, hb6, _⟩ := shape_set R2.out.blk (Nat.le_refl _) R2.out.below _ _ hw6
          clear hw6
          refine bodyPost_ret (v := .tuple #[.agg #[.slice none 0 0, .slice none 0 0], .int .i64 ((k : Int) + 1), .int .i64 z]) (by simp [results, Tryz.results4, go_sem, u0, u1]) rfl ⟨.slice none 0 0, .slice none 0 0, ?_, ?_, ?_, hb6⟩
          · rw [PX.out]
          · rw [PX.out]; exact BlsAt.nil _
          · rw [PX.out]; exact EdsAt.nil _
      · obtain rfl : k = n := by omega
        have hgd := G.out
        rw [List.drop_eq_nil_of_le (by rw [LN.out]; exact Nat.le_refl _), go3] at hgd
        have GD := Lib.hid hgd
        obtain ⟨bg, en, B, E, b⟩ := st
        obtain ⟨bv, ev, hM⟩ := S.out
        simp only at hM
        obtain ⟨Ab, cb, eb⟩ := hM.rb.form
        obtain ⟨Ae, ce, ee⟩ := hM.re.form
        subst eb
        subst ee
        have M := Lib.hid hM
        obtain ⟨x0, x1, x2, x3, x4⟩ := hM.c
        have pl := hM.lt
        obtain ⟨y0, y1, yf0, yf1, yl⟩ := RK.out.c
        clear hM hgd
        cases en with
        | false =>
          have PX : Hid (par s.data.toList = (4, (k : Int) + 1, [], [])) := Lib.hid (PR.out.trans (GD.out.symm.trans (if_neg (by simp))))
          go_wp2
          generalize hw6 : World.setCell _ ⟨w.heap.size, 1, none⟩ _ = w6
          obtain ⟨u0, u1, hb6, _⟩ := shape_set RK.out.blk (Nat.le_refl _) RK.out.below _ _ hw6
          clear hw6
          refine bodyPost_ret (v := .tuple #[.agg #[.slice none 0 0, .slice none 0 0], .int .i64 ((k : Int) + 1), .int .i64 4]) (by simp [results, Tryz.results4, go_sem, u0, u1]) rfl ⟨.slice none 0 0, .slice none 0 0, ?_, ?_, ?_, hb6⟩
          · rw [PX.out]
          · rw [PX.out]; exact BlsAt.nil _
          · rw [PX.out]; exact EdsAt.nil _
        | true =>
          have PX : Hid (par s.data.toList = (0, 0, B, E)) := Lib.hid (PR.out.trans (GD.out.symm.trans (if_pos rfl)))
          have hne : ¬ w.heap.size = w1.heap.size := by have := R1.out.c.2.2.2.2; omega
          go_wp2
          generalize hw6 : World.setCell _ ⟨w.heap.size, 1, none⟩ _ = w6
          obtain ⟨u0, u1, hb6, ho6⟩ := shape_set RK.out.blk (Nat.le_refl _) RK.out.below _ _ hw6
          have hB6 : BlsAt w6 (.slice Ab B.length cb) B := OwnB.bls (B := w1.heap.size) (ownsRow_out M.out.rb ho6 (fun q hq e => by have := (World.ownsRow.lt M.out.rb q hq).1; have := R1.out.c.2.2.2.2; omega))
          have hE6 : EdsAt w6 (.slice Ae E.length ce) E := OwnE.eds (B := w1.heap.size) (ownsRow_out M.out.re ho6 (fun q hq e => by have := (World.ownsRow.lt M.out.re q hq).1; have := R1.out.c.2.2.2.2; omega))
          clear hw6
          refine bodyPost_ret (v := .tuple #[.agg #[.slice Ab B.length cb, .slice Ae E.length ce], .int .i64 0, .int .i64 0]) (by simp [results, Tryz.results4, go_sem, u0, u1]) rfl ⟨.slice Ab B.length cb, .slice Ae E.length ce, ?_, ?_, ?_, hb6⟩
          · rw [PX.out]
          · rw [PX.out]; exact hB6
          · rw [PX.out]; exact hE6
  · have PX := Lib.hid (par_long h0)
    have C2 : Hid (∀ w, TabL w → Calls Tryz.prog 7 #[.string s] w fun e w' => (∃ A n c, e = .returned (.tuple #[.slice A n c, .int .i64 (lnE s.data.toList)])) ∧ Below w.heap.size w w') := Lib.hid (fun w hT => by
      refine (C.out w hT).mono ?_
      rintro e w' ⟨v, rfl, hv, hb⟩
      obtain ⟨A, c, rfl, hr⟩ := hv
      exact ⟨⟨A, _, c, rfl⟩, hb⟩)
    have q1 : (lnE s.data.toList == 0) = false := by simpa using h0
    have q2 : (lnE s.data.toList != 0) = true := by simpa using h0
    generalize lnE s.data.toList = z at *
    clear h0 C
    go_enter Tryz.func4, Tryz.ntmps4
    go_wp2_with (fail)
    generalize hwb : World.alloc w _ = wb
    have RB : Hid (RcAt w wb) := Lib.hid (by rw [← hwb]; exact ⟨(Below.refl _ _).alloc (Nat.le_refl _) _, heap_alloc_new w _⟩)
    clear hwb
    refine (C2.out wb (HT.out.below RB.out.below (Nat.le_refl _))).mono ?_
    rintro e w1 ⟨⟨A, n, c, rfl⟩, b1⟩
    have R2 := Lib.hid (RB.out.step b1)
    obtain ⟨y0, y1, yf0, yf1, yl⟩ := R2.out.c
    clear b1
    go_wp2
    generalize hw6 : World.setCell _ ⟨w.heap.size, 1, none⟩ _ = w6
    obtain ⟨u0, u1, hb6, _⟩ := shape_set R2.out.blk (Nat.le_refl _) R2.out.below _ _ hw6
    clear hw6
    refine bodyPost_ret (v := .tuple #[.agg #[.slice none 0 0, .slice none 0 0], .int .i64 0, .int .i64 z]) (by simp [results, Tryz.results4, go_sem, u0, u1]) rfl ⟨.slice none 0 0, .slice none 0 0, ?_, ?_, ?_, hb6⟩
    · rw [PX.out]
    · rw [PX.out]; exact BlsAt.nil _
    · rw [PX.out]; exact EdsAt.nil _
end Go.Proofs.YtgedcalplfnjmaaGreatDoor
