/-
  The reference's Print. Conditions: shapes that may be written.
-/
import Derived.Test.YtgchmoabhblmcaaGreatDoorParX
import Derived.Test.YtgchmoabhblmcaaGreatDoorParO
import Derived.Test.YtgchmoabhblmcaaGreatDoorCompassC
import Derived.Test.YtgchmoabhblmcaaGreatDoorLexU
namespace Go.Proofs.YtgchmoabhblmcaaGreatDoor
open Go.RowKit Go.Proofs.YtgchmoabhblmcaaGreatDoor.LexM Go.Proofs.YtgchmoabhblmcaaGreatDoor.ParM

theorem letterS_list (d : Int) : (letterS d).data.toList = letD d := by
  unfold letterS letD
  repeat' split
  all_goals rfl
def bxC (b : Bool) : UInt8 := if b = true then 98 else 112
theorem fst_len (B : List Bool) : fstL B = [115, 104, 97, 112, 101, 32] ++ (if B.length = 0 then [45] else B.map bxC) := by
  unfold fstL spc spc vtxL
  cases B with
  | nil => rfl
  | cons b B => rfl
theorem map_take (B : List Bool) (k : Nat) (h : k < B.length) : (B.take (k + 1)).map bxC = (B.take k).map bxC ++ [bxC B[k]] := by
  rw [List.take_succ_eq_append_getElem h, List.map_append]; rfl
/-- The text ahead of the k-th edge's line. -/
def prT (B : List Bool) (E : List Edg) (k : Nat) : List UInt8 := glue 10 (fstL B :: (E.take k).map edgL)
theorem prT_zero (B : List Bool) (E : List Edg) : prT B E 0 = fstL B ++ [10] := by simp [prT, glue]
theorem prT_next {B : List Bool} {E : List Edg} {k : Nat} (h : k < E.length) : prT B E (k + 1) = prT B E k ++ (edgL E[k] ++ [10]) := by
  unfold prT
  rw [List.take_succ_eq_append_getElem h, List.map_append, ← List.cons_append]
  exact glue_snoc 10 _ _
theorem prT_last (B : List Bool) (E : List Edg) : prT B E E.length ++ [101, 110, 100, 10] = printS B E := by
  unfold prT printS linL
  rw [List.take_length]
  exact (glue_snoc 10 _ endW).symm
theorem prT_len {B : List Bool} {E : List Edg} (hM : May B E) {k : Nat} (hk : k ≤ E.length) : (prT B E k).length ≤ 90000 := by
  have h : ∀ j, k + j ≤ E.length → (prT B E k).length ≤ (prT B E (k + j)).length := by
    intro j
    induction j with
    | zero => intro _; exact Nat.le_refl _
    | succ j ih =>
      intro hj
      have h1 := ih (by omega)
      rw [← Nat.add_assoc, prT_next (by omega), List.length_append]
      omega
  have h1 := h (E.length - k) (by omega)
  have h3 := congrArg List.length (prT_last B E)
  have h4 := print_len hM
  rw [List.length_append] at h3
  rw [show k + (E.length - k) = E.length by omega] at h1
  omega
theorem bends_mem : ∀ {E : List Edg} {e : Edg}, e ∈ E → e.2.2.2.length ≤ bendsOf E
  | x :: E, e, h => by
    have hbe : bendsOf (x :: E) = x.2.2.2.length + bendsOf E := by simp [bendsOf]
    rcases List.mem_cons.1 h with rfl | h
    · omega
    · have := bends_mem h; omega
def PrA (B : List Bool) (wb wr : World) (tv iv : Value) : Prop := ∃ (k : Nat) (t : ByteArray), iv = .int .i64 k ∧ tv = .string t ∧ k ≤ B.length ∧ t.data.toList = [115, 104, 97, 112, 101, 32] ++ (B.take k).map bxC ∧ Below wb.heap.size wb wr
def PrB (B : List Bool) (E : List Edg) (wb wr : World) (tv iv : Value) : Prop := ∃ (k : Nat) (t : ByteArray), iv = .int .i64 k ∧ tv = .string t ∧ k ≤ E.length ∧ t.data.toList = prT B E k ∧ Below wb.heap.size wb wr
set_option maxHeartbeats 16000000 in
set_option maxRecDepth 100000 in
theorem refPrint (bv ev : Value) (B : List Bool) (E : List Edg) (w : World) (hB : BlsAt w bv B) (hE : EdsAt w ev E) (hM : May B E) :
    Calls Tryz.prog 11 #[.agg #[bv, ev]] w fun r w' => r = .returned (.string (bs (printS B E))) ∧ Below w.heap.size w w' := by
  have HB := Lib.hid hB
  have HE := Lib.hid hE
  have MM := Lib.hid hM
  have h1 := hM.vs
  have h2 := hM.es
  obtain ⟨nB, hnB⟩ : ∃ n, B.length = n := ⟨_, rfl⟩
  obtain ⟨nE, hnE⟩ : ∃ n, E.length = n := ⟨_, rfl⟩
  obtain ⟨A1, c1, e⟩ := hB.form
  rw [hnB] at e h1
  subst e
  obtain ⟨A2, c2, e⟩ := hE.form
  rw [hnE] at e h2
  subst e
  have LB := Lib.hid hnB
  have LE := Lib.hid hnE
  clear hB hE hnB hnE hM
  go_enter Tryz.func11, Tryz.ntmps11
  go_upto_region 2 with (fail)
  generalize hwb : World.alloc w _ = wb
  have b0 : Below w.heap.size w wb := by rw [← hwb]; exact (Below.refl _ _).alloc (Nat.le_refl _) _
  have hk0 : wb.heap[w.heap.size]? = some (.cells #[.slice A1 nB c1, .slice A2 nE c2] 26 (0, 0)) := by rw [← hwb]; exact heap_alloc_new w _
  have B0 := Lib.hid b0
  have hlt0 : w.heap.size < wb.heap.size := (Array.getElem?_eq_some_iff.1 hk0).1
  have xx : ∀ wr, Below wb.heap.size wb wr → wr.cell? ⟨w.heap.size, 0, none⟩ = some (.slice A1 nB c1) ∧ wr.cell? ⟨w.heap.size, 1, none⟩ = some (.slice A2 nE c2) ∧ w.heap.size < wr.heap.size := by
    intro wr b
    have h1 := b.block _ hlt0
    rw [hk0] at h1
    exact ⟨by simp [World.cell?, h1], by simp [World.cell?, h1], Nat.lt_of_lt_of_le hlt0 b.size⟩
  have XX := Lib.hid xx
  have EB := Lib.hid (HE.out.below b0 (Nat.le_refl _))
  have BB := Lib.hid (HB.out.below b0 (Nat.le_refl _))
  clear hwb b0 hk0 xx
  go_wp2
  go_loopw [3, 4] (fun tv iv wr => PrA B wb wr tv iv) (fun _ iv _ => nB - (intOf iv).toNat)
  case atStart => exact ⟨0, _, rfl, rfl, Nat.zero_le _, rfl, Below.refl _ _⟩
  case round =>
    obtain ⟨k, t, rfl, rfl, hk, ht, hBW⟩ := hrel
    rw [LB.out] at hk
    have BW := Lib.hid hBW
    have TT := Lib.hid ht
    have hts : t.size ≤ 10000 := by rw [size_list, ht, List.length_append, List.length_map, List.length_take]; simp; omega
    obtain ⟨x0, x1, xl⟩ := XX.out wr hBW
    clear hBW ht
    by_cases hlt : k < nB
    · have hkE : k < B.length := by rw [LB.out]; exact hlt
      obtain ⟨b, o, c', e, hb, d0⟩ := BB.out.nth hkE
      rw [LB.out] at e
      simp only [Value.slice.injEq, true_and] at e
      obtain ⟨rfl, rfl⟩ := e
      have d1 := (BW.out.cell (p := ⟨b, o + k, none⟩) hb).trans d0
      have z1 := Nat.lt_of_lt_of_le hb BW.out.size
      have MT := Lib.hid (map_take B k hkE)
      obtain ⟨x, hx⟩ : ∃ x, B[k] = x := ⟨_, rfl⟩
      rw [hx] at d1 MT
      clear d0 hx
      cases x
      all_goals
        go_wp2
        go_roundw
        case rel => exact ⟨k + 1, _, by go_num, rfl, by rw [LB.out]; omega, by rw [cat_list, TT.out, MT.out, List.append_assoc]; rfl, BW.out⟩
        case measure => (simp [intOf] <;> omega)
    · obtain rfl : k = nB := by omega
      have FT : Hid (fstL B = [115, 104, 97, 112, 101, 32] ++ (if k = 0 then [45] else B.map bxC)) := Lib.hid (by rw [fst_len, LB.out])
      have T2 : Hid (t.data.toList = [115, 104, 97, 112, 101, 32] ++ B.map bxC) := Lib.hid (by rw [TT.out, List.take_of_length_le (by rw [LB.out]; exact Nat.le_refl _)])
      obtain ⟨wo, hwo⟩ : ∃ W, W = wr := ⟨_, rfl⟩
      subst hwo
      clear TT
      go_upto_if 29 with (fail)
      go_cut [3] from 29 to 31 (fun s3 wx => ∃ u : ByteArray, s3 = .string u ∧ u.data.toList = fstL B ∧ wx = wo)
      case first =>
        by_cases h0 : k = 0
        · have q1 : ((k : Int) == 0) = true := by rw [beq_iff_eq]; omega
          have f := FT.out
          have t2 := T2.out
          have hb0 : B = [] := List.eq_nil_of_length_eq_zero (LB.out.trans h0)
          rw [if_pos h0] at f
          rw [hb0] at t2
          have PT : Hid ((t ++ ⟨#[45]⟩).data.toList = fstL B) := Lib.hid (by rw [f, cat_list, t2]; rfl)
          clear h0 f t2 hb0 FT T2
          go_wp2
          go_meet
          exact ⟨_, rfl, PT.out, rfl⟩
        · have q1 : ((k : Int) == 0) = false := by rw [beq_eq_false_iff_ne]; omega
          have f := FT.out
          rw [if_neg h0] at f
          have PT : Hid (t.data.toList = fstL B) := Lib.hid (by rw [f, T2.out])
          clear h0 f FT T2
          go_wp2
          go_meet
          exact ⟨_, rfl, PT.out, rfl⟩
      case rest =>
        obtain ⟨u, rfl, hu, rfl⟩ := hcut
        have U : Hid ((u ++ ⟨#[10]⟩).data.toList = prT B E 0) := Lib.hid (by rw [prT_zero, cat_list, hu])
        have hus : u.size ≤ 10000 := by
          have h := fstL_len B
          rw [LB.out] at h
          rw [size_list, hu]; omega
        clear hu x0 x1 xl
        go_wp2
        go_loopw [3, 5] (fun tv iv wr => PrB B E wb wr tv iv) (fun _ iv _ => nE - (intOf iv).toNat)
        case atStart => exact ⟨0, _, rfl, rfl, Nat.zero_le _, U.out, BW.out⟩
        case round =>
          obtain ⟨j, t2, rfl, rfl, hj, ht, hBW⟩ := hrel
          have hts2 : t2.size ≤ 90000 := by rw [size_list, ht]; exact prT_len MM.out hj
          rw [LE.out] at hj
          have BV := Lib.hid hBW
          have TT := Lib.hid ht
          obtain ⟨x0, x1, xl⟩ := XX.out wr hBW
          clear hBW ht
          by_cases hlt2 : j < nE
          · have hkE : j < E.length := by rw [LE.out]; exact hlt2
            obtain ⟨b, o, c', e, hb, d0, d1, d2, d3⟩ := EB.out.nth hkE
            rw [LE.out] at e
            simp only [Value.slice.injEq, true_and] at e
            obtain ⟨rfl, rfl⟩ := e
            have f0 := (BV.out.cell (p := ⟨b, o + j * 4, none⟩) hb).trans d0
            have f1 := (BV.out.cell (p := ⟨b, o + j * 4 + 1, none⟩) hb).trans d1
            have f2 := (BV.out.cell (p := ⟨b, o + j * 4 + 2, none⟩) hb).trans d2
            have f3 := (BV.out.cell (p := ⟨b, o + j * 4 + 3, none⟩) hb).trans d3
            have z1 := Nat.lt_of_lt_of_le hb BV.out.size
            have NX := prT_next (B := B) hkE
            have hok := MM.out.ok E[j] (List.getElem_mem hkE)
            have hxm := List.getElem_mem hkE
            obtain ⟨x, hx⟩ : ∃ x, E[j] = x := ⟨_, rfl⟩
            rw [hx] at f0 f1 f2 f3 NX hok hxm
            clear d0 d1 d2 d3 hx
            obtain ⟨y1, y2, y3, y4⟩ := x
            simp only at f0 f1 f2 f3
            obtain ⟨o1, o2, o3, o4, o5, o6, o7⟩ := hok
            simp only at o1 o2 o3 o4 o5 o6 o7
            have hbl := MM.out.vs
            obtain ⟨sf, hsf⟩ : ∃ s, bs (Lib.itoa y1) = s := ⟨_, rfl⟩
            obtain ⟨st, hst⟩ : ∃ s, bs (Lib.itoa y2) = s := ⟨_, rfl⟩
            obtain ⟨sd, hsd⟩ : ∃ s, letterS y3 = s := ⟨_, rfl⟩
            obtain ⟨sb, hsb⟩ : ∃ s, bs y4 = s := ⟨_, rfl⟩
            rw [hsb] at f3
            have DF : Hid (∀ w, Calls Tryz.prog 28 #[.int .i64 y1] w fun e w' => e = .returned (.string sf) ∧ Below w.heap.size w w') := Lib.hid (fun w => by rw [← hsf]; exact refDigits y1 w (by omega) (by omega))
            have DT : Hid (∀ w, Calls Tryz.prog 28 #[.int .i64 y2] w fun e w' => e = .returned (.string st) ∧ Below w.heap.size w w') := Lib.hid (fun w => by rw [← hst]; exact refDigits y2 w (by omega) (by omega))
            have DL : Hid (∀ w, Calls Tryz.prog 29 #[.int .i64 y3] w fun e w' => e = .returned (.string sd) ∧ Below w.heap.size w w') := Lib.hid (fun w => by rw [← hsd]; exact rletter_any y3 w)
            have l1 : sf.data.toList = Lib.itoa y1 := by rw [← hsf, bs_data]
            have l2 : st.data.toList = Lib.itoa y2 := by rw [← hst, bs_data]
            have l3 : sd.data.toList = letD y3 := by rw [← hsd, letterS_list]
            have l4 : sb.data.toList = y4 := by rw [← hsb, bs_data]
            have g1 : (t2 ++ sf ++ ⟨#[32]⟩ ++ sd ++ ⟨#[32]⟩ ++ st ++ ⟨#[10]⟩).data.toList = prT B E j ++ (Lib.itoa y1 ++ [32] ++ letD y3 ++ [32] ++ Lib.itoa y2 ++ [10]) := by
              simp only [cat_list, TT.out, l1, l2, l3, List.append_assoc]
            have g2 : (t2 ++ sf ++ ⟨#[32]⟩ ++ sd ++ ⟨#[32]⟩ ++ st ++ ⟨#[32]⟩ ++ sb ++ ⟨#[10]⟩).data.toList = prT B E j ++ (Lib.itoa y1 ++ [32] ++ letD y3 ++ [32] ++ Lib.itoa y2 ++ 32 :: y4 ++ [10]) := by
              simp only [cat_list, TT.out, l1, l2, l3, l4, List.append_assoc]; rfl
            have LT : Hid (sb.data.toList = y4) := Lib.hid l4
            have hzf : sf.size ≤ 7 := by rw [size_list, l1]; exact itoa_short o1 (by omega)
            have hzt : st.size ≤ 7 := by rw [size_list, l2]; exact itoa_short o3 (by omega)
            have hzd : sd.size ≤ 1 := by rw [size_list, l3, (dir_letD o5 o6).2.2.2.2]; exact Nat.le_refl _
            have hzb : sb.size ≤ 4096 := by rw [size_list, l4]; exact Nat.le_trans (bends_mem hxm) MM.out.bs
            have p1 : (t2 ++ sf).size ≤ 90100 := by rw [ByteArray.size_append]; omega
            have p2 : (t2 ++ sf ++ ⟨#[32]⟩).size ≤ 90101 := by rw [ByteArray.size_append]; show _ + 1 ≤ 90101; omega
            have p3 : (t2 ++ sf ++ ⟨#[32]⟩ ++ sd).size ≤ 90102 := by rw [ByteArray.size_append]; omega
            have p4 : (t2 ++ sf ++ ⟨#[32]⟩ ++ sd ++ ⟨#[32]⟩).size ≤ 90103 := by rw [ByteArray.size_append]; show _ + 1 ≤ 90103; omega
            have p5 : (t2 ++ sf ++ ⟨#[32]⟩ ++ sd ++ ⟨#[32]⟩ ++ st).size ≤ 90110 := by rw [ByteArray.size_append]; omega
            have p6 : (t2 ++ sf ++ ⟨#[32]⟩ ++ sd ++ ⟨#[32]⟩ ++ st ++ ⟨#[32]⟩).size ≤ 90111 := by rw [ByteArray.size_append]; show _ + 1 ≤ 90111; omega
            have p7 : (t2 ++ sf ++ ⟨#[32]⟩ ++ sd ++ ⟨#[32]⟩ ++ st ++ ⟨#[32]⟩ ++ sb).size ≤ 100000 := by rw [ByteArray.size_append]; omega
            have NX2 : Hid (prT B E (j + 1) = prT B E j ++ (edgL (y1, y2, y3, y4) ++ [10])) := Lib.hid NX
            have G1 := Lib.hid g1
            have G2 := Lib.hid g2
            clear hxm hbl hsf hst hsd hsb l1 l2 l3 l4 NX o1 o2 o3 o4 o5 o6 o7 g1 g2
            go_upto_region 15 with (fail)
            generalize hwa : World.alloc wr _ = wa
            have ba : Below wr.heap.size wr wa := by rw [← hwa]; exact (Below.refl _ _).alloc (Nat.le_refl _) _
            have hka : wa.heap[wr.heap.size]? = some (.cells #[.int .i64 y1, .int .i64 y2, .int .i64 y3, .string sb] 29 (0, 0)) := by rw [← hwa]; exact heap_alloc_new wr _
            have cc : ∀ wx, Below wa.heap.size wa wx → wx.cell? ⟨wr.heap.size, 0, none⟩ = some (.int .i64 y1) ∧ wx.cell? ⟨wr.heap.size, 1, none⟩ = some (.int .i64 y2) ∧ wx.cell? ⟨wr.heap.size, 2, none⟩ = some (.int .i64 y3) ∧ wx.cell? ⟨wr.heap.size, 3, none⟩ = some (.string sb) ∧ wr.heap.size < wx.heap.size := by
              intro wx b
              have hla : wr.heap.size < wa.heap.size := (Array.getElem?_eq_some_iff.1 hka).1
              have h1 := b.block _ hla
              rw [hka] at h1
              exact ⟨by simp [World.cell?, h1], by simp [World.cell?, h1], by simp [World.cell?, h1], by simp [World.cell?, h1], Nat.lt_of_lt_of_le hla b.size⟩
            have CC := Lib.hid cc
            obtain ⟨a0, a1, a2, a3, al⟩ := cc wa (Below.refl _ _)
            have BA : Hid (Below wb.heap.size wb wa) := Lib.hid (BV.out.trans (ba.mono BV.out.size))
            clear hwa ba hka cc f0 f1 f2 f3 z1 x0 x1 xl
            by_cases hy : y4 = []
            · have q5 : (sb.toList == []) = true := by rw [toList_data, LT.out, hy]; rfl
              have q6 : (sb.toList != []) = false := by rw [bne, q5]; rfl
              have GF : Hid ((t2 ++ sf ++ ⟨#[32]⟩ ++ sd ++ ⟨#[32]⟩ ++ st ++ ⟨#[10]⟩).data.toList = prT B E (j + 1)) := Lib.hid (by rw [G1.out, NX2.out, edgL_eq, if_pos hy]; simp)
              clear hy G1 G2 NX2
              go_wp2_with (first
                | (go_at_call 29; refine (DL.out _).mono ?_; rintro e w3 ⟨rfl, b3⟩; have B3 := Lib.hid (B2.out.trans (b3.mono B2.out.size)); obtain ⟨s0, s1, s2, s3, sl⟩ := CC.out _ B3.out; clear b3)
                | (go_at_call 28; have _hz := B1; refine (DT.out _).mono ?_; rintro e w2 ⟨rfl, b2⟩; have B2 := Lib.hid (B1.out.trans (b2.mono B1.out.size)); obtain ⟨r0, r1, r2, r3, rl⟩ := CC.out _ B2.out; clear b2)
                | (go_at_call 28; refine (DF.out _).mono ?_; rintro e w1 ⟨rfl, b1⟩; have B1 : Hid (Below wa.heap.size wa w1) := Lib.hid b1; obtain ⟨p0, p1, p2, p3, pl⟩ := CC.out _ b1; clear b1))
              go_roundw
              case rel => exact ⟨j + 1, _, by go_num, rfl, by rw [LE.out]; omega, GF.out, BA.out.trans (B3.out.mono BA.out.size)⟩
              case measure => (simp [intOf] <;> omega)
            · have q5 : (sb.toList == []) = false := by rw [toList_data, LT.out]; simpa using hy
              have q6 : (sb.toList != []) = true := by rw [bne, q5]; rfl
              have GF : Hid ((t2 ++ sf ++ ⟨#[32]⟩ ++ sd ++ ⟨#[32]⟩ ++ st ++ ⟨#[32]⟩ ++ sb ++ ⟨#[10]⟩).data.toList = prT B E (j + 1)) := Lib.hid (by rw [G2.out, NX2.out, edgL_eq, if_neg hy])
              clear hy G1 G2 NX2
              go_wp2_with (first
                | (go_at_call 29; refine (DL.out _).mono ?_; rintro e w3 ⟨rfl, b3⟩; have B3 := Lib.hid (B2.out.trans (b3.mono B2.out.size)); obtain ⟨s0, s1, s2, s3, sl⟩ := CC.out _ B3.out; clear b3)
                | (go_at_call 28; have _hz := B1; refine (DT.out _).mono ?_; rintro e w2 ⟨rfl, b2⟩; have B2 := Lib.hid (B1.out.trans (b2.mono B1.out.size)); obtain ⟨r0, r1, r2, r3, rl⟩ := CC.out _ B2.out; clear b2)
                | (go_at_call 28; refine (DF.out _).mono ?_; rintro e w1 ⟨rfl, b1⟩; have B1 : Hid (Below wa.heap.size wa w1) := Lib.hid b1; obtain ⟨p0, p1, p2, p3, pl⟩ := CC.out _ b1; clear b1))
              go_roundw
              case rel => exact ⟨j + 1, _, by go_num, rfl, by rw [LE.out]; omega, GF.out, BA.out.trans (B3.out.mono BA.out.size)⟩
              case measure => (simp [intOf] <;> omega)
          · have hje : j = nE := by omega
            subst hje
            have PL : Hid (bs (printS B E) = t2 ++ ⟨#[101, 110, 100, 10]⟩) := Lib.hid (by
              have h := prT_last B E
              rw [LE.out, ← TT.out] at h
              rw [← bs_list (t2 ++ ⟨#[101, 110, 100, 10]⟩), cat_list, ← h])
            go_wp2
            go_ret
            exact ⟨ret_string (by rw [PL.out]), B0.out.trans (BV.out.mono B0.out.size)⟩
end Go.Proofs.YtgchmoabhblmcaaGreatDoor
