/-
  The ends of a shape's vertices, side by side: what endsOf answers. Conditions: a shape that may be written.
-/
import Derived.Test.YtecifgaekefkpaaDoorNcB
import Derived.StillTailTactics
import Derived.Test.YtecifgaekefkpaaDoorNzPa
namespace Go.Proofs.YtecifgaekefkpaaDoor
open Go.RowKit Go.Proofs.YtecifgaekefkpaaDoor.LexM Go.Proofs.YtecifgaekefkpaaDoor.ParM Go.Proofs.YtecifgaekefkpaaDoor.GrM Go.Proofs.YtecifgaekefkpaaDoor.NmM

/-- An end's edge, its place in the edge's way. -/
def endP (E : List Edg) (t : Int) : Int × Int := (t / 2, if t % 2 = 0 then 0 else ((E.getD (t / 2).toNat noE).2.2.2.length : Int) + 1)
/-- The rows of ends, of the first so many edges. -/
def enR (E : List Edg) (k : Nat) (p : Nat) : List (Int × Int) := (onK E ((p / 4 : Nat) : Int) ((p % 4 : Nat) : Int) k).map (endP E)
theorem enR_zero (E : List Edg) : enR E 0 = fun _ => [] := rfl
theorem enR_len (E : List Edg) (k p : Nat) : (enR E k p).length ≤ 2 * k := by unfold enR; rw [List.length_map]; exact onK_len _ _ _ _
theorem enR_step {E : List Edg} {k a b d s : Nat} (he : (E.getD k noE).1 = (a : Int)) (he2 : (E.getD k noE).2.1 = (b : Int)) (hd : (E.getD k noE).2.2.1 = (d : Int)) (hs : sideT (E.getD k noE) = (s : Int)) (hd4 : d < 4) (hs4 : s < 4) :
    enR E (k + 1) = fun p => if p = b * 4 + s then (if b * 4 + s = a * 4 + d then enR E k (a * 4 + d) ++ [((k : Int), 0)] else enR E k (b * 4 + s)) ++ [((k : Int), ((E.getD k noE).2.2.2.length : Int) + 1)]
      else if p = a * 4 + d then enR E k (a * 4 + d) ++ [((k : Int), 0)] else enR E k p := by
  funext p
  have e0 : endP E (2 * (k : Int)) = ((k : Int), 0) := by
    unfold endP
    rw [if_pos (by omega), show 2 * (k : Int) / 2 = k by omega]
  have e1 : endP E (2 * (k : Int) + 1) = ((k : Int), ((E.getD k noE).2.2.2.length : Int) + 1) := by
    unfold endP
    rw [if_neg (by omega), show (2 * (k : Int) + 1) / 2 = k by omega, Int.toNat_natCast]
  have key : enR E (k + 1) p = enR E k p ++ (if p = a * 4 + d then [((k : Int), (0 : Int))] else []) ++ (if p = b * 4 + s then [((k : Int), ((E.getD k noE).2.2.2.length : Int) + 1)] else []) := by
    unfold enR
    rw [onK, List.map_append, List.append_assoc]
    congr 1
    unfold on1
    rw [List.map_append, he, he2, hd, hs]
    congr 1
    · by_cases h : p = a * 4 + d
      · rw [if_pos h, if_pos ⟨by omega, by omega⟩]
        simp [e0]
      · rw [if_neg h, if_neg (by omega)]; rfl
    · by_cases h : p = b * 4 + s
      · rw [if_pos h, if_pos ⟨by omega, by omega⟩]
        simp [e1]
      · rw [if_neg h, if_neg (by omega)]; rfl
  rw [key]
  by_cases h : p = b * 4 + s
  · subst h
    rw [if_pos rfl, if_pos rfl]
    by_cases h2 : b * 4 + s = a * 4 + d
    · rw [if_pos h2, if_pos h2, h2]
    · rw [if_neg h2, if_neg h2, List.append_nil]
  · rw [if_neg h, if_neg h, List.append_nil]
    by_cases h2 : p = a * 4 + d
    · subst h2; rw [if_pos rfl, if_pos rfl]
    · rw [if_neg h2, if_neg h2, List.append_nil]
theorem info_r : ∃ i, Tryd.prog.info? 79 = some i ∧ i.zero = some (.agg #[.slice none 0 0, .slice none 0 0, .slice none 0 0, .slice none 0 0]) ∧ i.size = 4 ∧ i.bytes = 96 := by
  have h : (Tryd.prog.info? 79).map (fun i => (i.zero, i.size, i.bytes)) = some (some (.agg #[.slice none 0 0, .slice none 0 0, .slice none 0 0, .slice none 0 0]), 4, 96) := by kernel_rfl
  cases e : Tryd.prog.info? 79 with
  | none => rw [e] at h; cases h
  | some i =>
    rw [e] at h
    simp only [Option.map_some, Option.some.injEq, Prod.mk.injEq] at h
    exact ⟨i, rfl, h.1, h.2.1, h.2.2⟩
theorem mkEn (N : Nat) (hN : N ≤ 4096) (w : World) : (Instr.makeSlice 60 (.int .i64 (N : Int)) (.int .i64 (N : Int))).run Tryd.prog w = .ok (.slice (some ⟨w.heap.size, 0, none⟩) N N) (w.alloc (.cells (madeCells #[.slice none 0 0, .slice none 0 0, .slice none 0 0, .slice none 0 0] (N * 4)) 79)) := by
  obtain ⟨i, hi, h0, h1, h2⟩ := info_r
  have h := run_make (P := Tryd.prog) w 60 79 i _ Tryd.underlying60 hi h0 .i64 .i64 N N (by omega) (by omega) (by rw [h2]; omega) (by omega)
  rw [h1] at h
  simpa [Value.cells] using h
theorem made_four (N : Nat) (z : Value) : (madeCells #[z, z, z, z] (N * 4)).toList = (List.range (N * 4)).map fun _ => z := by
  apply List.ext_getElem?
  intro i
  by_cases h : i < N * 4
  · have hm : i % 4 = 0 ∨ i % 4 = 1 ∨ i % 4 = 2 ∨ i % 4 = 3 := by omega
    rcases hm with e | e | e | e <;> simp [madeCells, h, e]
  · simp [madeCells, h]
theorem en_start (w w1 : World) (g N : Nat) (hg : w.heap.size ≤ g)
    (h1 : w1.heap[g]? = some (.cells (madeCells #[.slice none 0 0, .slice none 0 0, .slice none 0 0, .slice none 0 0] (N * 4)) 79 (0, 0))) (hN : N ≤ 4096) :
    EnAt w.heap.size w1 g N (fun _ => .slice none 0 0) (fun _ => []) := by
  refine ⟨hg, ⟨by simp, Or.inr ⟨g, N, _, rfl, hg, h1, Nat.le_refl _, by unfold maxLen; omega, by simp [size_madeCells], ?_⟩⟩, fun v hv => World.ownsRow_nil _ _ _ _, fun u v _ _ _ b hb2 => by simp [Value.ownBlock] at hb2, fun v _ => by simp [Value.ownBlock]⟩
  rw [made_four, List.take_of_length_le (by simp)]
theorem bend_mem : ∀ {E : List Edg} {e : Edg}, e ∈ E → e.2.2.2.length ≤ bendsOf E
  | [], e, h => by cases h
  | x :: E, e, h => by
    have e1 : bendsOf (x :: E) = x.2.2.2.length + bendsOf E := by simp [bendsOf]
    rcases List.mem_cons.1 h with rfl | h
    · omega
    · have := bend_mem h; omega
theorem bend_le {E : List Edg} {e : Edg} (h : bendsOf E ≤ 4096) (he : e ∈ E) : e.2.2.2.length ≤ 4096 := Nat.le_trans (bend_mem he) h
theorem asc_turns {l : List UInt8} (h : isTurns l = true) : Asc l := fun b hb => by
  have h1 := List.all_eq_true.1 h b hb
  simp only [Bool.or_eq_true, decide_eq_true_eq] at h1
  rcases h1 with rfl | rfl <;> decide
theorem edgT_s : 54 ≠ 79 := by decide
theorem edgT_n : 54 ≠ 82 := by decide
def EnL (E : List Edg) (g N n : Nat) (w wr : World) (iv : Value) : Prop := ∃ (k : Nat) (V : Nat → Value), iv = .int .i64 k ∧ k ≤ n ∧ EnAt w.heap.size wr g N V (enR E k) ∧ Below w.heap.size w wr
set_option maxHeartbeats 8000000 in
set_option maxRecDepth 100000 in
theorem endsOfY (bv ev : Value) (B : List Bool) (E : List Edg) (w : World) (hB : ∃ A c, bv = .slice A B.length c) (hE : EdsAt w ev E) (hM : May B E) :
    Calls Tryd.prog 18 #[.agg #[bv, ev]] w fun e w' => ∃ g V, e = .returned (.slice (some ⟨g, 0, none⟩) B.length B.length) ∧ EnAt w.heap.size w' g B.length V (enR E E.length) ∧ Below w.heap.size w w' := by
  obtain ⟨AB, cB, rfl⟩ := hB
  obtain ⟨AE, cE, e⟩ := hE.form
  subst e
  have HE := Lib.hid hE
  have HM := Lib.hid hM
  obtain ⟨nB, hnB⟩ : ∃ n, B.length = n := ⟨_, rfl⟩
  obtain ⟨nE, hnE⟩ : ∃ n, E.length = n := ⟨_, rfl⟩
  have hbl := hM.vs
  have hel := hM.es
  rw [hnB] at hbl ⊢
  rw [hnE] at HE hel ⊢
  have NB := Lib.hid hnB
  have NE := Lib.hid hnE
  have hmk := mkEn nB hbl
  clear hE hM hnB hnE
  go_enter Tryd.func18, Tryd.ntmps18
  go_upto_region 1 with (fail)
  obtain ⟨w1, hw1⟩ : ∃ W, W = (w.alloc (.cells #[.slice AB nB cB, .slice AE nE cE] 29)) := ⟨_, rfl⟩
  have SB : Hid (ShB w1 w.heap.size (.slice AB nB cB) (.slice AE nE cE)) := Lib.hid (by rw [hw1]; exact heap_alloc_new w _)
  have B1 : Hid (Below w.heap.size w w1) := Lib.hid (by rw [hw1]; exact (Below.refl _ _).alloc (Nat.le_refl _) _)
  rw [← hw1]
  clear hw1
  obtain ⟨x0, x1⟩ := SB.out.at_
  have xl := SB.out.lt
  go_upto_region 2 with (fail)
  clear hmk
  obtain ⟨w2, hw2⟩ : ∃ W, W = (w1.alloc (.cells (madeCells #[.slice none 0 0, .slice none 0 0, .slice none 0 0, .slice none 0 0] (nB * 4)) 79)) := ⟨_, rfl⟩
  have b2 : Below w1.heap.size w1 w2 := by rw [hw2]; exact (Below.refl _ _).alloc (Nat.le_refl _) _
  have S2 := Lib.hid (SB.out.below b2 (Nat.le_refl _))
  have B2 := Lib.hid (B1.out.trans (b2.mono B1.out.size))
  have G2 : Hid (EnAt w.heap.size w2 w1.heap.size nB (fun _ => .slice none 0 0) (fun _ => [])) := Lib.hid (en_start w w2 w1.heap.size nB B1.out.size (by rw [hw2]; exact heap_alloc_new w1 _) hbl)
  rw [← hw2]
  obtain ⟨g, hg⟩ : ∃ g, g = w1.heap.size := ⟨_, rfl⟩
  rw [← hg] at G2 ⊢
  clear hw2 b2 x0 x1 xl SB hg
  obtain ⟨x0, x1⟩ := S2.out.at_
  have xl := S2.out.lt
  go_wp2_with fail
  go_loopw [13] (fun iv wr => EnL E g nB nE w wr iv) (fun iv _ => nE - (intOf iv).toNat)
  case atStart => exact ⟨0, _, rfl, Nat.zero_le _, G2.out, B2.out⟩
  case round =>
    clear x0 x1 xl
    obtain ⟨k, V, rfl, hk, hG, hW⟩ := hrel
    have G := Lib.hid hG
    have BW := Lib.hid hW
    clear hG hW
    by_cases hlt : k < nE
    · have q0 : decide (k < nE) = true := decide_eq_true hlt
      have hkE : k < E.length := by have := NE.out; omega
      obtain ⟨be, oe, rfl, hbe, y0, y1, y2, y3⟩ := HE.out.one hkE
      have GE : Hid (E.getD k noE = E[k]) := Lib.hid (by rw [List.getD_eq_getElem?_getD, List.getElem?_eq_getElem hkE]; rfl)
      have f0 := (BW.out.cell (p := ⟨be, oe + k * 4, none⟩) hbe).trans y0
      have f1 := (BW.out.cell (p := ⟨be, oe + k * 4 + 1, none⟩) hbe).trans y1
      have f2 := (BW.out.cell (p := ⟨be, oe + k * 4 + 2, none⟩) hbe).trans y2
      have f3 := (BW.out.cell (p := ⟨be, oe + k * 4 + 3, none⟩) hbe).trans y3
      have hbw := Nat.lt_of_lt_of_le hbe BW.out.size
      clear y0 y1 y2 y3
      have hok := HM.out.ok E[k] (List.getElem_mem hkE)
      have hle := bend_le HM.out.bs (List.getElem_mem hkE)
      obtain ⟨a, ha⟩ : ∃ a : Nat, E[k].1 = (a : Int) := ⟨E[k].1.toNat, by have := hok.1; omega⟩
      obtain ⟨b, hb⟩ : ∃ b : Nat, E[k].2.1 = (b : Int) := ⟨E[k].2.1.toNat, by have := hok.2.2.1; omega⟩
      obtain ⟨d, hd⟩ : ∃ d : Nat, E[k].2.2.1 = (d : Int) := ⟨E[k].2.2.1.toNat, by have := hok.2.2.2.2.1; omega⟩
      have hsr := lastT_range E[k].2.2.1 E[k].2.2.2
      obtain ⟨z, hz⟩ : ∃ z : Nat, lastT E[k].2.2.1 E[k].2.2.2 = (z : Int) := ⟨(lastT E[k].2.2.1 E[k].2.2.2).toNat, by omega⟩
      obtain ⟨s, hs⟩ : ∃ s : Nat, ((z : Int) + 2) % 4 = (s : Int) := ⟨(((z : Int) + 2) % 4).toNat, by omega⟩
      have hst : sideT E[k] = (s : Int) := by unfold sideT; rw [hz, hs]
      have hz4 : z < 4 := by omega
      have hs4 : s < 4 := by omega
      have hd4 : d < 4 := by have := hok.2.2.2.2.2.1; omega
      have haB : a < nB := by have := hok.2.1; have := NB.out; omega
      have hbB : b < nB := by have := hok.2.2.2.1; have := NB.out; omega
      have ST := Lib.hid (enR_step (E := E) (k := k) (a := a) (b := b) (d := d) (s := s) (by rw [GE.out]; exact ha) (by rw [GE.out]; exact hb) (by rw [GE.out]; exact hd) (by rw [GE.out]; exact hst) hd4 hs4)
      rw [GE.out] at ST
      have CM := Lib.hid (fun w => comesY E[k].1 E[k].2.1 E[k].2.2.1 E[k].2.2.2 w (asc_turns hok.2.2.2.2.2.2) (by omega) hok.2.2.2.2.1 hok.2.2.2.2.2.1)
      have CT := Lib.hid (fun w => contraryN z w hz4)
      have hsz : ((bs E[k].2.2.2).size : Int) = (E[k].2.2.2.length : Int) := by rw [bs_size]
      rw [ha, hb, hd] at CM
      rw [hd] at hz
      rw [hz] at CM
      rw [hs] at CT
      rw [ha] at f0
      rw [hb] at f1
      rw [hd] at f2
      have hsl : (bs E[k].2.2.2).size ≤ 4096 := by rw [bs_size]; exact hle
      rw [← hsz] at ST
      clear hok hle ha hb hd hsr hz hs hst hsz
      generalize bs E[k].2.2.2 = sk at *
      have cw : IntKind.i64.wrap ((sk.size : Int) + 1) = (sk.size : Int) + 1 := IntWalk.i64_in _ (by omega)
      go_upto_region 5 with (fail)
      obtain ⟨wx, hwx⟩ : ∃ W, W = (wr.alloc (.cells #[.int .i64 (a : Int), .int .i64 (b : Int), .int .i64 (d : Int), .string sk] 54)) := ⟨_, rfl⟩
      have bx : Below wr.heap.size wr wx := by rw [hwx]; exact (Below.refl _ _).alloc (Nat.le_refl _) _
      have EX := Lib.hid (show EdB wx wr.heap.size a b d sk from by rw [hwx]; exact heap_alloc_new wr _)
      have GX := Lib.hid (G.out.below bx (Nat.le_refl _))
      have BX := Lib.hid (BW.out.trans (bx.mono BW.out.size))
      have NG : Hid (∀ q, (q = g ∨ (V (a * 4 + d)).ownBlock = some q) → q ≠ wr.heap.size) := Lib.hid (fun q hq e => by
        rcases hq with rfl | hq
        · have := G.out.gl; omega
        · have := ((G.out.rows (a * 4 + d) (by omega)).lt q hq).2; omega)
      rw [← hwx]
      generalize wr.heap.size = xb at *
      clear hwx bx f0 f1 f2 f3 hbw hbe
      obtain ⟨g0, g1, g2, g3⟩ := EX.out.at_
      have hxb := EX.out.lt
      go_still_tail 8, (by kernel_rfl)
      change wpList _ _ _ _ _ wx.drew
      go_wp2_with (go_at_call 32; refine (addT_ (GX.out.below (Below.refl _ _).drew (Nat.le_refl _)) BX.out.size a d k 0 haB hd4 (by have := enR_len E k (a * 4 + d); omega)).mono ?_; rintro e w5 ⟨rfl, V5, en5, b5, o5⟩; have G5 := Lib.hid en5; have BW5 := Lib.hid (BX.out.trans ((Below.refl wx.heap.size wx).drew.mono BX.out.size |>.trans b5)); have E5 := Lib.hid (EX.out.out ((Out.refl _ wx).drew.trans o5 (fun _ _ e => e)) (fun e => NG.out _ e rfl)); clear en5 b5 o5)
      clear g0 g1 g2 g3 hxb EX GX BX NG
      obtain ⟨g0, g1, g2, g3⟩ := E5.out.at_
      have hxb := E5.out.lt
      have hB5 : w.heap.size ≤ w5.heap.size := BW5.out.size
      go_region_held3 (fun w' => w'.cell? ⟨xb, 0, none⟩ = some (.int .i64 (a : Int)) ∧ w'.cell? ⟨xb, 1, none⟩ = some (.int .i64 (b : Int)) ∧ w'.cell? ⟨xb, 2, none⟩ = some (.int .i64 (d : Int)) ∧ w'.cell? ⟨xb, 3, none⟩ = some (.string sk))
        (first | exact E7.out.at_ | exact E6.out.at_ | go_keep)
        ((first
          | (go_at_call 33; refine (CT.out _).mono ?_; rintro e w' ⟨rfl, rfl⟩)
          | (go_at_call 34; refine (CM.out _).mono ?_; rintro e w6 ⟨rfl, hb6⟩; have Q1 : Hid (Below w5.heap.size w5 w6) := Lib.hid ((Below.refl w5.heap.size w5).drew.trans hb6); have E6 := Lib.hid (E5.out.out (Out.ofBelow (S := fun _ => False) Q1.out) (fun e => e)); clear hb6)
          | (go_at_call 32; have G6 := G5.out.below Q1.out (Nat.le_refl _); refine (addT_ G6 (Nat.le_trans hB5 Q1.out.size) b s k ((sk.size : Int) + 1) hbB hs4 (by have h1 := enR_len E k (b * 4 + s); have h2 := enR_len E k (a * 4 + d); (try dsimp only); split <;> (try rw [List.length_append, List.length_singleton]) <;> omega)).mono ?_; rintro e w7 ⟨rfl, V7, en7, b7, o7⟩; have G7 := Lib.hid en7; have BW7 := Lib.hid ((BW5.out.trans (Q1.out.mono hB5)).trans b7); have E7 := Lib.hid (E6.out.out o7 (fun e => by rcases e with e | e; exact own_kind G6.outer E6.out edgT_s (by subst e; rfl); exact own_kind (G6.rows (b * 4 + s) (by omega)) E6.out edgT_n e)); clear en7 b7 o7 G6)))
      all_goals
        go_wp2_with fail
        go_roundw
        case rel => exact ⟨k + 1, V7, by go_num, by omega, by rw [ST.out]; exact G7.out, BW7.out⟩
        case measure => (simp [intOf] <;> omega)
    · have hkn : k = nE := by omega
      have q0 : decide (k < nE) = false := decide_eq_false hlt
      have GF : Hid (EnAt w.heap.size wr g nB V (enR E nE)) := Lib.hid (by rw [← hkn]; exact G.out)
      go_wp2_with fail
      go_ret
      exact ⟨g, V, rfl, GF.out, BW.out⟩
end Go.Proofs.YtecifgaekefkpaaDoor
