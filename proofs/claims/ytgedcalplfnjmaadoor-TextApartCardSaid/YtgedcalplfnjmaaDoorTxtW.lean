/-
  What the code's Print answers. Conditions: at most 1000000 vertices, edges, bends of an edge.
-/
import Derived.Test.YtgedcalplfnjmaaDoorTxtP
namespace Go.Proofs.YtgedcalplfnjmaaDoor
open Go.RowKit Go.Proofs.YtgedcalplfnjmaaDoor.LexM Go.Proofs.YtgedcalplfnjmaaDoor.ParM

theorem join_glue (c : UInt8) : ∀ L : List (List UInt8), L ≠ [] → Lib.join L [c] ++ [c] = glue c L
  | [], h => absurd rfl h
  | [p], _ => by simp [Lib.join, List.intercalate, glue]
  | p :: q :: r, _ => by
    have ih := join_glue c (q :: r) (by simp)
    have e : Lib.join (p :: q :: r) [c] = p ++ [c] ++ Lib.join (q :: r) [c] := by simp [Lib.join, List.intercalate]
    rw [e, glue, ← ih]; simp
theorem linL_take (B : List Bool) (E : List Edg) : linL B E = (fstL B :: (E.take E.length).map edgL) ++ [endW] := by
  rw [List.take_length]; rfl
theorem lin_next {B : List Bool} {E : List Edg} {k : Nat} (h : k < E.length) : (fstL B :: (E.take (k + 1)).map edgL) = (fstL B :: (E.take k).map edgL) ++ [edgL E[k]] := by
  rw [List.take_succ_eq_append_getElem h, List.map_append]; rfl
theorem joinLines (L : List (List UInt8)) (w : World) (base n c : Nat) (ao : Option Addr) (h : OwnS w base (.slice ao n c) L) (hn : L.length = n) (h0 : 0 < n) (hl : n ≤ 10000) (hs : (Lib.join L [10]).length ≤ 100000) :
    Calls Tryd.prog 22 #[.slice ao n c, .string ⟨#[10]⟩] w fun e w' => e = .returned (.string (bs (Lib.join L [10]))) ∧ Below w.heap.size w w' := by
  rcases h.2 with ⟨h1, h2⟩ | ⟨g, cap, cur, h1, _, hg, hc, hr⟩
  · omega
  · simp only [Value.slice.injEq] at h1
    obtain ⟨rfl, h1, rfl⟩ := h1
    have e : (L.map bs).map (·.data.toList) = L := by
      rw [List.map_map]
      conv => rhs; rw [← List.map_id L]
      exact List.map_congr_left fun x _ => rfl
    have hj : Lib.join ((L.map bs).map (·.data.toList)) (⟨#[10]⟩ : ByteArray).data.toList = Lib.join L [10] := by rw [e]
    have h' : w.ownsRow base 9 1 (.slice (some ⟨g, 0, none⟩) n c) n (L.map encT7) := by
      have h9 := h
      unfold OwnS at h9
      rw [hn] at h9
      exact h9
    have C := Go.Proofs.Tryd.strings_Join g 0 c (L.map bs) ⟨#[10]⟩ w (fun j x hx => by
      rw [List.getElem?_map] at hx
      obtain ⟨p, hp, rfl⟩ := Option.map_eq_some_iff.1 hx
      have hjl : j < L.length := (List.getElem?_eq_some_iff.1 hp).1
      rw [Nat.zero_add, World.ownsRow.cellAt h' j (by omega), List.getElem?_map, hp]; rfl) ((Array.getElem?_eq_some_iff.1 hg).1) (by rw [List.length_map]; omega) (by rw [List.length_map]; omega) (by rw [hj]; omega)
    rw [hj, List.length_map, hn] at C
    exact C
theorem mkStr (N : Nat) (hN : N ≤ 4000000) (w : World) : (Instr.makeSlice 52 (.int .i64 0) (.int .i64 (N : Int))).run Tryd.prog w = .ok (.slice (some ⟨w.heap.size, 0, none⟩) 0 N) (w.alloc (.cells (madeCells #[.string ByteArray.empty] N) 9)) := by
  obtain ⟨i, hi, hz, hs, hb⟩ := info_of infoT7
  have h := run_make (P := Tryd.prog) w 52 9 i (.string ByteArray.empty) Tryd.underlying52 hi hz .i64 .i64 0 (N : Int) (by decide) (by omega) (by rw [hb]; omega) (by omega)
  rw [hs, Nat.mul_one] at h
  simp only [Int.toNat_zero, Int.toNat_natCast] at h
  exact h
theorem ownS_made (w : World) (N : Nat) (hN : N ≤ 4000000) : OwnS (w.alloc (.cells (madeCells #[.string ByteArray.empty] N) 9)) w.heap.size (.slice (some ⟨w.heap.size, 0, none⟩) 0 N) [] :=
  World.ownsRow_made (base := w.heap.size) (e := 9) (size := 1) w (madeCells #[.string ByteArray.empty] N) N (Nat.le_refl _) (by unfold maxLen; omega) (by rw [Nat.mul_one]; exact size_madeCells _ _)
theorem OwnS.at_ {w : World} {B n : Nat} {v : Value} {l : List (List UInt8)} (h : OwnS w B v l) (e : l.length = n) : w.ownsRow B 9 1 v n (l.map encT7) := by subst e; exact h
theorem str_appN {w0 w w' : World} {B n : Nat} {v v' : Value} {K : List (List UInt8)} {a : List UInt8} {x : ByteArray} (hx : x = bs a) (hn : K.length = n) (hB : Below B w0 w) (hB0 : B ≤ w0.heap.size) (hO : OwnS w B v K) (hown : w'.ownsRow B 9 1 v' (n + 1) (K.map encT7 ++ [.string x])) (hgrow : w.grownBy w' v.ownBlock) :
    OwnS w' B v' (K ++ [a]) ∧ Below B w0 w' := by
  subst hn
  exact str_app hx hB hB0 hO hown hgrow
set_option maxHeartbeats 4000000 in
set_option maxRecDepth 100000 in
theorem printNo (bv ev : Value) (B : List Bool) (E : List Edg) (z : Int) (w : World) (hB : BlsAt w bv B) (hE : EdsAt w ev E) (hl : E.length ≤ 1000000) (hBl : B.length ≤ 1000000) (hz : ∀ e ∈ E, e.2.2.2.length ≤ 1000000) (hc : chkS B E = z) (h0 : z ≠ 0) :
    Calls Tryd.prog 10 #[.agg #[bv, ev]] w fun r w' => r = .returned (.tuple #[.string ⟨#[]⟩, .int .i64 z]) ∧ Below w.heap.size w w' := by
  have HB := Lib.hid hB
  have HE := Lib.hid hE
  have CS := Lib.hid (fun w h1 h2 => checkS bv ev B E w h1 h2 hl hBl hz)
  rw [hc] at CS
  obtain ⟨nB, hnB⟩ : ∃ n, B.length = n := ⟨_, rfl⟩
  obtain ⟨nE, hnE⟩ : ∃ n, E.length = n := ⟨_, rfl⟩
  obtain ⟨A1, c1, e⟩ := hB.form
  rw [hnB] at e
  subst e
  obtain ⟨A2, c2, e⟩ := hE.form
  rw [hnE] at e
  subst e
  have q1 : (z == 0) = false := by simpa using h0
  have q2 : (z != 0) = true := by simpa using h0
  clear hB hE hl hBl hz hc h0 hnB hnE
  go_enter Tryd.func10, Tryd.ntmps10
  go_wp2_with (go_at_call 19; refine (CS.out _ (HB.out.below ((Below.refl _ _).alloc (Nat.le_refl _) _) (Nat.le_refl _)) (HE.out.below ((Below.refl _ _).alloc (Nat.le_refl _) _) (Nat.le_refl _))).mono ?_; rintro e w1 ⟨rfl, b1⟩; have B1 : Hid (Below w.heap.size w w1) := Lib.hid (((Below.refl _ _).alloc (Nat.le_refl _) _).trans (b1.mono (by simp))); clear b1)
  go_ret2
  exact ⟨rfl, B1.out⟩
def PtRel (B : List Bool) (E : List Edg) (wb wr : World) (lv iv : Value) : Prop := ∃ k : Nat, iv = .int .i64 k ∧ k ≤ E.length ∧ OwnS wr wb.heap.size lv (fstL B :: (E.take k).map edgL) ∧ Below wb.heap.size wb wr
set_option maxHeartbeats 16000000 in
set_option maxRecDepth 100000 in
theorem printT (bv ev : Value) (B : List Bool) (E : List Edg) (w : World) (hB : BlsAt w bv B) (hE : EdsAt w ev E) (hM : May B E) (hT : TabL w) :
    Calls Tryd.prog 10 #[.agg #[bv, ev]] w fun r w' => r = .returned (.tuple #[.string (bs (printS B E)), .int .i64 0]) ∧ Below w.heap.size w w' := by
  have HB := Lib.hid hB
  have HE := Lib.hid hE
  have HT := Lib.hid hT
  have MM := Lib.hid hM
  have h1 := hM.vs
  have h2 := hM.es
  have CS0 : ∀ w, BlsAt w bv B → EdsAt w ev E → Calls Tryd.prog 19 #[.agg #[bv, ev]] w fun r w' => r = .returned (.int .i64 0) ∧ Below w.heap.size w w' := fun w h1 h2 => by
    have h3 := hM.vs
    have h4 := hM.es
    rw [← chk_ok hM]; exact checkS bv ev B E w h1 h2 (by omega) (by omega) (fun e he => by have := bends_mem he; have := hM.bs; omega)
  have VW0 : ∀ w, BlsAt w bv B → Calls Tryd.prog 20 #[bv] w fun e w' => e = .returned (.string (bs (vtxL B))) ∧ Below w.heap.size w w' := fun w h => vertexWordT bv B w h (by have := hM.vs; omega)
  obtain ⟨nB, hnB⟩ : ∃ n, B.length = n := ⟨_, rfl⟩
  obtain ⟨nE, hnE⟩ : ∃ n, E.length = n := ⟨_, rfl⟩
  obtain ⟨A1, c1, e⟩ := hB.form
  rw [hnB] at e h1
  subst e
  obtain ⟨A2, c2, e⟩ := hE.form
  rw [hnE] at e h2
  subst e
  have LB := Lib.hid hnB
  have LE := Lib.hid hnE
  have CS := Lib.hid CS0
  have hvz : (bs (vtxL B)).size ≤ 4100 := by
    rw [bs_size]
    have := fstL_len B
    rw [hnB] at this
    unfold fstL spc spc at this
    simp only [List.length_append, List.length_cons, shapeW, List.length_nil] at this
    omega
  obtain ⟨sv, hsv⟩ : ∃ s, bs (vtxL B) = s := ⟨_, rfl⟩
  rw [hsv] at VW0 hvz
  have VW := Lib.hid VW0
  have FS : Hid ((⟨#[115, 104, 97, 112, 101, 32]⟩ : ByteArray) ++ sv = bs (fstL B)) := Lib.hid (by
    rw [← hsv, ← bs_list (_ ++ _), cat_list]
    rfl)
  have hmk : ∀ w : World, (Instr.makeSlice 52 (.int .i64 0) (.int .i64 ((nE : Int) + 2))).run Tryd.prog w = .ok (.slice (some ⟨w.heap.size, 0, none⟩) 0 (nE + 2)) (w.alloc (.cells (madeCells #[.string ByteArray.empty] (nE + 2)) 9)) := fun w => mkStr (nE + 2) (by omega) w
  obtain ⟨i0, hi, hz0, hz1, hz2⟩ := info_partsS
  have hfz : ((⟨#[115, 104, 97, 112, 101, 32]⟩ : ByteArray) ++ sv).size ≤ 5000 := by rw [ByteArray.size_append]; show 6 + sv.size ≤ 5000; omega
  clear hB hE hM hT hnB hnE CS0 VW0 hsv
  go_enter Tryd.func10, Tryd.ntmps10
  go_upto_region 1 with (fail)
  generalize hwb : World.alloc w _ = wb
  have b0 : Below w.heap.size w wb := by rw [← hwb]; exact (Below.refl _ _).alloc (Nat.le_refl _) _
  have hk0 : wb.heap[w.heap.size]? = some (.cells #[.slice A1 nB c1, .slice A2 nE c2] 31 (0, 0)) := by rw [← hwb]; exact heap_alloc_new w _
  have B0 := Lib.hid b0
  have hlt0 : w.heap.size < wb.heap.size := (Array.getElem?_eq_some_iff.1 hk0).1
  have xx : ∀ wr, Below wb.heap.size wb wr → wr.cell? ⟨w.heap.size, 0, none⟩ = some (.slice A1 nB c1) ∧ wr.cell? ⟨w.heap.size, 1, none⟩ = some (.slice A2 nE c2) ∧ w.heap.size < wr.heap.size := by
    intro wr b
    have h1 := b.block _ hlt0
    rw [hk0] at h1
    exact ⟨by simp [World.cell?, h1], by simp [World.cell?, h1], Nat.lt_of_lt_of_le hlt0 b.size⟩
  have XX := Lib.hid xx
  have EB := Lib.hid (HE.out.below b0 (Nat.le_refl _))
  have BB := Lib.hid (HB.out.below b0 (Nat.le_refl _))
  have TB := Lib.hid (HT.out.below b0 (Nat.le_refl _))
  obtain ⟨x0, x1, xl⟩ := xx wb (Below.refl _ _)
  clear hwb b0 hk0 xx
  go_upto_region 4 with (go_at_call 19; refine (CS.out _ BB.out EB.out).mono ?_; rintro e w1 ⟨rfl, b1⟩; have B1 : Hid (Below wb.heap.size wb w1) := Lib.hid b1; clear b1 x0 x1 xl; obtain ⟨x0, x1, xl⟩ := XX.out w1 B1.out)
  go_upto_region 5 with (fail)
  clear hmk
  have hw1s := B1.out.size
  have O1 := Lib.hid (ownS_made w1 (nE + 2) (by omega))
  generalize hwm : World.alloc w1 _ = wm at *
  have BM : Hid (Below wb.heap.size wb wm) := Lib.hid (by rw [← hwm]; exact B1.out.alloc hw1s _)
  obtain ⟨g, hg⟩ : ∃ g, w1.heap.size = g := ⟨_, rfl⟩
  rw [hg] at O1 hw1s ⊢
  have O2 : Hid (OwnS wm wb.heap.size (.slice (some ⟨g, 0, none⟩) 0 (nE + 2)) []) := Lib.hid (own_base O1.out hw1s)
  clear x0 x1 xl hwm hg O1 B1
  obtain ⟨x0, x1, xl⟩ := XX.out wm BM.out
  have hwm2 := BM.out.size
  go_upto_region 6 with (first
    | (go_at_call 20; refine (VW.out _ (BB.out.below BM.out (Nat.le_refl _))).mono ?_; rintro e w2 ⟨rfl, b2⟩; have B2 : Hid (Below wb.heap.size wb w2) := Lib.hid (BM.out.trans (b2.mono BM.out.size)); have O3 := Lib.hid (O2.out.below b2 (Nat.le_refl _)); have hw2s := B2.out.size; clear b2)
    | (at_builtin; refine wpList_append_fresh rfl (.tmp 18) (.tmp 23) 52 rfl wb.heap.size 9 i0 (.string ByteArray.empty) 1 16 Tryd.underlying52 hi hz0 hz1 hz2 rfl (by decide) (.slice (some ⟨g, 0, none⟩) 0 (nE + 2)) 0 [] rfl ((O3.out.below ((Below.refl _ _).alloc (Nat.le_refl _) _) (Nat.le_refl _)).at_ rfl) ⟨w2.heap.size, 0, none⟩ 1 1 [.string _] rfl rfl (newsT7 _ _ _ _ (by simp)) (oneT7 _) (by unfold maxLen; omega) (by omega) (by simp; omega) ?_; intro v5 w5 hown hgrow hfr; obtain ⟨o5, b5⟩ := str_appN (n := 0) FS.out rfl (B2.out.trans (((Below.refl _ _).alloc (Nat.le_refl _) _).mono hw2s)) (Nat.le_refl _) (O3.out.below ((Below.refl _ _).alloc (Nat.le_refl _) _) (Nat.le_refl _)) hown hgrow; have O5 := Lib.hid o5; have B5 := Lib.hid b5; clear hown hgrow hfr o5 b5))
  clear x0 x1 xl
  obtain ⟨x0, x1, xl⟩ := XX.out w5 B5.out
  clear hvz hfz hw2s hwm2
  go_wp2
  go_loopw [5, 28] (fun lv iv wr => PtRel B E wb wr lv iv) (fun _ iv _ => nE - (intOf iv).toNat)
  case atStart => exact ⟨0, rfl, Nat.zero_le _, O5.out, B5.out⟩
  case round =>
    clear x0 x1 xl
    obtain ⟨k, rfl, hk, hO, hBW⟩ := hrel
    rw [LE.out] at hk
    have BW := Lib.hid hBW
    have hwr := hBW.size
    obtain ⟨K, hK⟩ : ∃ K, fstL B :: (E.take k).map edgL = K := ⟨_, rfl⟩
    have hkl : K.length = k + 1 := by rw [← hK, List.length_cons, List.length_map, List.length_take, LE.out]; omega
    rw [hK] at hO
    obtain ⟨ao, co, e⟩ := hO.form
    rw [hkl] at e
    subst e
    have O := Lib.hid hO
    have KL := Lib.hid hkl
    clear hO hBW hkl
    by_cases hlt : k < nE
    · have hkE : k < E.length := by rw [LE.out]; exact hlt
      obtain ⟨b, o, c', e, hb, d0, d1, d2, d3⟩ := EB.out.nth hkE
      rw [LE.out] at e
      simp only [Value.slice.injEq, true_and] at e
      obtain ⟨rfl, rfl⟩ := e
      have f0 := (BW.out.cell (p := ⟨b, o + k * 4, none⟩) hb).trans d0
      have f1 := (BW.out.cell (p := ⟨b, o + k * 4 + 1, none⟩) hb).trans d1
      have f2 := (BW.out.cell (p := ⟨b, o + k * 4 + 2, none⟩) hb).trans d2
      have f3 := (BW.out.cell (p := ⟨b, o + k * 4 + 3, none⟩) hb).trans d3
      have z1 := Nat.lt_of_lt_of_le hb BW.out.size
      have NX := lin_next (B := B) hkE
      rw [hK] at NX
      have hok := MM.out.ok E[k] (List.getElem_mem hkE)
      have hxm := List.getElem_mem hkE
      obtain ⟨x, hx⟩ : ∃ x, E[k] = x := ⟨_, rfl⟩
      rw [hx] at f0 f1 f2 f3 NX hok hxm
      have hbl := MM.out.bs
      have hxl := bends_mem hxm
      have hes := edgL_short hok MM.out.vs (by omega)
      have EL0 := Lib.hid (fun w hT => edgeLineT B.length x w hT hok MM.out.vs (by omega))
      clear d0 d1 d2 d3 hx hxm hok hbl hxl
      obtain ⟨sl, hsl⟩ : ∃ s, bs (edgL x) = s := ⟨_, rfl⟩
      rw [hsl] at EL0
      have N : Hid ((fstL B :: (E.take (k + 1)).map edgL) = K ++ [edgL x]) := Lib.hid NX
      have SL := Lib.hid hsl.symm
      have hsz : sl.size ≤ 4200 := by rw [← hsl, bs_size]; exact hes
      clear NX hes hsl hK
      obtain ⟨y1, y2, y3, y4⟩ := x
      simp only at f0 f1 f2 f3
      have EL : Hid (∀ w, TabL w → Calls Tryd.prog 21 #[.agg #[.int .i64 y1, .int .i64 y2, .int .i64 y3, .string (bs y4)]] w fun r w' => r = .returned (.string sl) ∧ Below w.heap.size w w') := Lib.hid EL0.out
      clear EL0
      generalize bs y4 = sb at *
      go_upto_region 9 with (fail)
      generalize hwa : World.alloc wr _ = wa
      have ba : Below wr.heap.size wr wa := by rw [← hwa]; exact (Below.refl _ _).alloc (Nat.le_refl _) _
      have hka : wa.heap[wr.heap.size]? = some (.cells #[.int .i64 y1, .int .i64 y2, .int .i64 y3, .string sb] 23 (0, 0)) := by rw [← hwa]; exact heap_alloc_new wr _
      have BA : Hid (Below wb.heap.size wb wa) := Lib.hid (BW.out.trans (ba.mono BW.out.size))
      have OA := Lib.hid (O.out.below ba (Nat.le_refl _))
      have a0 : wa.cell? ⟨wr.heap.size, 0, none⟩ = some (.int .i64 y1) := by simp [World.cell?, hka]
      have a1 : wa.cell? ⟨wr.heap.size, 1, none⟩ = some (.int .i64 y2) := by simp [World.cell?, hka]
      have a2 : wa.cell? ⟨wr.heap.size, 2, none⟩ = some (.int .i64 y3) := by simp [World.cell?, hka]
      have a3 : wa.cell? ⟨wr.heap.size, 3, none⟩ = some (.string sb) := by simp [World.cell?, hka]
      have al : wr.heap.size < wa.heap.size := (Array.getElem?_eq_some_iff.1 hka).1
      clear hwa ba hka f0 f1 f2 f3 z1
      go_wp2_with (first
        | (go_at_call 21; refine (EL.out _ (TB.out.below BA.out (Nat.le_refl _))).mono ?_; rintro e w6 ⟨rfl, b6⟩; have B6 : Hid (Below wb.heap.size wb w6) := Lib.hid (BA.out.trans (b6.mono BA.out.size)); have O6 := Lib.hid (OA.out.below b6 (Nat.le_refl _)); have hw6s := B6.out.size; clear b6)
        | (at_builtin; refine wpList_append_fresh rfl (.tmp 32) (.tmp 35) 52 rfl wb.heap.size 9 i0 (.string ByteArray.empty) 1 16 Tryd.underlying52 hi hz0 hz1 hz2 rfl (by decide) (.slice ao (k + 1) co) (k + 1) (K.map encT7) rfl ((O6.out.below ((Below.refl _ _).alloc (Nat.le_refl _) _) (Nat.le_refl _)).at_ KL.out) ⟨w6.heap.size, 0, none⟩ 1 1 [.string sl] rfl rfl (newsT7 _ _ _ _ (by simp)) (oneT7 _) (by unfold maxLen; omega) (by omega) (by simp; omega) ?_; intro v7 w7 hown hgrow hfr; obtain ⟨o7, b7⟩ := str_appN (n := k + 1) SL.out KL.out (B6.out.trans (((Below.refl _ _).alloc (Nat.le_refl _) _).mono hw6s)) (Nat.le_refl _) (O6.out.below ((Below.refl _ _).alloc (Nat.le_refl _) _) (Nat.le_refl _)) hown hgrow; have O7 := Lib.hid o7; have B7 := Lib.hid b7; clear hown hgrow hfr o7 b7))
      go_roundw
      case rel => exact ⟨k + 1, by go_num, by rw [LE.out]; omega, by rw [N.out]; exact O7.out, B7.out⟩
      case measure => (simp [intOf] <;> omega)
    · obtain rfl : k = nE := by omega
      have NL : Hid (linL B E = K ++ [endW]) := Lib.hid (by rw [linL_take, LE.out, hK])
      have JG := join_glue 10 (linL B E) (by unfold linL; simp)
      have hpl := print_len MM.out
      have hjl : (Lib.join (linL B E) [10]).length ≤ 90000 := by
        have := congrArg List.length JG
        rw [List.length_append] at this
        unfold printS at hpl
        omega
      obtain ⟨sj, hsj⟩ : ∃ s, bs (Lib.join (linL B E) [10]) = s := ⟨_, rfl⟩
      have hsz : sj.size ≤ 90000 := by rw [← hsj, bs_size]; exact hjl
      have PR : Hid (sj ++ ⟨#[10]⟩ = bs (printS B E)) := Lib.hid (by
        rw [← hsj, ← bs_list (_ ++ _), cat_list, bs_data]
        show bs (Lib.join (linL B E) [10] ++ [10]) = _
        rw [JG]; rfl)
      have JL : Hid (∀ w ao c, OwnS w wb.heap.size (.slice ao (k + 1 + 1) c) (linL B E) → Calls Tryd.prog 22 #[.slice ao (k + 1 + 1) c, .string ⟨#[10]⟩] w fun e w' => e = .returned (.string sj) ∧ Below w.heap.size w w') := Lib.hid (fun w ao c h => by
        rw [← hsj]
        exact joinLines (linL B E) w wb.heap.size (k + 1 + 1) c ao h (by rw [NL.out, List.length_append, KL.out]; rfl) (by omega) (by omega) (by omega))
      have EW : Hid ((⟨#[101, 110, 100]⟩ : ByteArray) = bs endW) := Lib.hid rfl
      clear hK JG hpl hjl hsj hlt
      go_wp2_with (first
        | (at_builtin; refine wpList_append_fresh rfl (.tmp 38) (.tmp 39) 52 rfl wb.heap.size 9 i0 (.string ByteArray.empty) 1 16 Tryd.underlying52 hi hz0 hz1 hz2 rfl (by decide) (.slice ao (k + 1) co) (k + 1) (K.map encT7) rfl ((O.out.below ((Below.refl _ _).alloc (Nat.le_refl _) _) (Nat.le_refl _)).at_ KL.out) ⟨wr.heap.size, 0, none⟩ 1 1 [.string ⟨#[101, 110, 100]⟩] rfl rfl (newsT7 _ _ _ _ (by simp)) (oneT7 _) (by unfold maxLen; omega) (by omega) (by simp; omega) ?_; intro v7 w7 hown hgrow hfr; obtain ⟨o7, b7⟩ := str_appN (n := k + 1) EW.out KL.out (BW.out.trans (((Below.refl _ _).alloc (Nat.le_refl _) _).mono hwr)) (Nat.le_refl _) (O.out.below ((Below.refl _ _).alloc (Nat.le_refl _) _) (Nat.le_refl _)) hown hgrow; rw [← NL.out] at o7; obtain ⟨a7, c7, e7⟩ := o7.form; rw [NL.out, List.length_append, KL.out] at e7; simp only [List.length_singleton] at e7; subst e7; have O7 := Lib.hid o7; have B7 := Lib.hid b7; clear hown hgrow hfr o7 b7)
        | (go_at_call 22; refine (JL.out _ _ _ O7.out).mono ?_; rintro e w8 ⟨rfl, b8⟩; have B8 : Hid (Below wb.heap.size wb w8) := Lib.hid (B7.out.trans (b8.mono B7.out.size)); clear b8))
      go_ret2
      exact ⟨by rw [PR.out]; rfl, B0.out.trans (B8.out.mono B0.out.size)⟩
end Go.Proofs.YtgedcalplfnjmaaDoor
