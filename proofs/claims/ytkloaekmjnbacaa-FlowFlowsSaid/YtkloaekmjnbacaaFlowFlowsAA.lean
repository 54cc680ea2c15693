/-
  FlowFlows: the walk. Conditions: what Solve and Supply are asked to leave.
  FlowFlows: its arguments opened. Conditions: what Solve and Supply are asked to leave.
-/
import Derived.Test.YtkloaekmjnbacaaFlowLa
import Derived.Test.YtkloaekmjnbacaaNetF
import Derived.Test.YtkloaekmjnbacaaFlowLb
import Derived.Test.YtkloaekmjnbacaaFlowLc
import Derived.Deep.RegionHeld3
import Derived.IntWalk
namespace Go.Proofs.Ytkloaekmjnbacaa
open Go.RowKit Go.Proofs.Ytkloaekmjnbacaa.DagM

theorem flL_wts (K : List Arc) : flL K (wtL K) = wts K := by
  unfold flL wts wtL
  refine List.ext_getElem (by simp) fun i h1 h2 => ?_
  have : i < K.length := by simpa using h1
  simp [List.getD_eq_getElem?_getD, this]
def Fl1 (K : List Arc) (w0 : World) (g : Nat) (wr : World) (iv : Value) : Prop := ∃ k : Nat, iv = .int .i64 k ∧ k ≤ K.length ∧ XiAt w0 wr g K.length (fun u => if u < k then wtL K u else 0)
def Fl2 (n : Nat) (K : List Arc) (L2 : Nat) (w0 : World) (g : Nat) (wr : World) (iv : Value) : Prop := ∃ (k : Nat) (s : Nat → Int), iv = .int .i64 k ∧ k ≤ L2 ∧ XiAt w0 wr g K.length s ∧ RightF n K (flL K s)
def Fl3 (n : Nat) (K : List Arc) (w0 : World) (g : Nat) (wr : World) (iv : Value) : Prop := ∃ (j : Nat) (s : Nat → Int), iv = .int .i64 j ∧ j ≤ K.length ∧ XiAt w0 wr g K.length s ∧ RightF n K (flL K s)

set_option maxHeartbeats 8000000 in
set_option maxRecDepth 100000 in
theorem flowsLaw (hS : SolveSpec) (hU : SupplySpec) (N : Int) (A : Option Addr) (len cap : Nat) (D : Nat → Int × Int × Int) (B : Option Addr) (bn bc : Nat) (DD : Nat → Int × Int) (w : World) (hN0 : 0 ≤ N) (hN1 : N ≤ 255) (hT : TriAt w A len D) (hD : 0 < bn → DuoAt w B bn bc DD) :
    Calls Try.prog 5 #[.agg #[.int .u8 N, .slice A len cap], .slice B bn bc] w fun e w' => e = .returned (.bool true) ∧ Below w.heap.size w w' := by
  have T := Lib.hid hT
  have DU := Lib.hid hD
  have SV := Lib.hid hS
  have SU := Lib.hid hU
  clear hT hS hU hD
  go_enter Try.func5, Try.ntmps5
  go_upto_region 6 with (first
    | (go_at_call 8; refine (make_ N A len cap 14 D _ hN0 hN1 (by omega) (by omega) (T.out.below ((Below.refl _ _).alloc (Nat.le_refl _) _))).mono ?_; rintro e w1 ⟨n, vK, K, rfl, hnm, hRi, hO, hb⟩; obtain ⟨aK, cK, rfl⟩ := hO.form; have OK1 := Lib.hid hO.arcs; have B1 : Hid (Below w.heap.size w w1) := Lib.hid (((Below.refl _ _).alloc (Nat.le_refl _) _).trans (hb.mono (by simp))); have z1 : w.heap.size + 1 ≤ w1.heap.size := (by have := hb.size; simpa using this); have hn1 : 1 ≤ n := hRi.n1; have hKl : K.length ≤ 40 := hRi.len; have RI := Lib.hid hRi; have RO := Lib.hid (hRi.ord (by omega)); have RM := Lib.hid (hRi.may (by omega)); clear hRi hO hb)
    | (go_at_call 9; refine (SV.out.ok n _ K _ OK1.out RO.out).mono ?_; rintro e w2 ⟨xv, fv, x, f, ways, rfl, hx, hf, hs, hb⟩; obtain ⟨ax, cx, h1⟩ := hx.form; rw [hs.len] at h1; subst h1; obtain ⟨af, cf, h2⟩ := hf.form; rw [hs.flen] at h2; subst h2; have SS := Lib.hid hs; have FI2 := Lib.hid hf.ints; have B2 := Lib.hid hb; have z2 := hb.size; obtain ⟨bs, hbs⟩ : ∃ bs, f.sum = bs := ⟨_, rfl⟩; have HB := Lib.hid hbs; clear hx hf hs hb hbs)
    | (go_at_call 10; refine (wakes5 SV.out SU.out _).mono ?_; rintro e w3 ⟨rfl, hb⟩; have c3 : w3.cell? ⟨w2.heap.size, 1, none⟩ = some (.slice af K.length cf) := (hb.cell (p := ⟨w2.heap.size, 1, none⟩) (by simp)).trans (by go_simp); have Q3 : Hid (Below w2.heap.size w2 w3) := Lib.hid (((Below.refl _ _).alloc (Nat.le_refl _) _).trans (hb.mono (by simp))); have z3 : w2.heap.size + 1 ≤ w3.heap.size := (by have := hb.size; simpa using this); clear hb)
    | (go_at_call 21; have _hz := z3; refine (refRightF n _ _ K f _ ((OK1.out.below B2.out).below Q3.out) RM.out (FI2.out.below Q3.out) SS.out.right (SS.out.sum_near RM.out)).mono ?_; rintro e w4 ⟨rfl, hb⟩; have c4 := (hb.cell (p := ⟨w2.heap.size, 1, none⟩) (show w2.heap.size < w3.heap.size by omega)).trans c3; have Q4 := Lib.hid (Q3.out.trans (hb.mono Q3.out.size)); have z4 : w2.heap.size + 1 ≤ w4.heap.size := (by have := hb.size; omega); clear hb c3)
    | (go_at_call 12; have _hz := z4; refine (refSum _ f _ (FI2.out.below Q4.out) SS.out.right.nn (SS.out.sum_near RM.out) (by rw [SS.out.flen]; omega)).mono ?_; rintro e w5 ⟨rfl, hb⟩; rw [HB.out]; have Q5 := Lib.hid (by first | (subst hb; exact Q4.out) | exact Q4.out.trans (hb.mono Q4.out.size) : Below w2.heap.size w2 w5); clear hb c4))
  have hmk := mkAny K.length (by omega)
  have AK := Lib.hid ((OK1.out.below B2.out).below Q5.out)
  have BZ := Lib.hid (B1.out.trans ((B2.out.trans (Q5.out.mono z2)).mono (by omega)))
  have X0 : Hid (XiAt w5 (w5.alloc (.cells (madeCells #[.int .i64 0] K.length) 3)) w5.heap.size K.length (fun _ => 0)) := Lib.hid (xi_start ((Below.refl _ _).alloc (Nat.le_refl _) _) (Nat.le_refl _) (heap_alloc_new w5 _) (by omega))
  clear OK1 FI2 Q3 Q4 Q5 B1 B2
  go_wp2
  clear hmk
  obtain ⟨g, hg⟩ : ∃ g, w5.heap.size = g := ⟨_, rfl⟩
  have HG := Lib.hid hg
  rw [hg] at X0 ⊢
  clear hg
  go_loopw [52, 11, 12] (fun iv _ _ wr => Fl1 K w5 g wr iv) (fun iv _ _ _ => K.length - (intOf iv).toNat)
  case atStart => exact ⟨0, rfl, by omega, X0.out.turn (fun v _ => by simp)⟩
  case round =>
    clear X0
    obtain ⟨k, rfl, hk, hX⟩ := hrel
    have X := Lib.hid hX
    have hgl := hX.gl
    have hbs := hX.below.size
    clear hX
    obtain ⟨A', cap', e, _, hA⟩ := AK.out
    simp only [Value.slice.injEq, true_and] at e
    obtain ⟨rfl, rfl⟩ := e
    by_cases hlt : k < K.length
    · obtain ⟨b, o, rfl, hb, hcell⟩ := hA (by omega)
      obtain ⟨c0, c1, c2⟩ := hcell k hlt
      have d0 := (X.out.below.cell (p := ⟨b, o + k * 3, none⟩) hb).trans c0
      have d1 := (X.out.below.cell (p := ⟨b, o + k * 3 + 1, none⟩) hb).trans c1
      have d2 := (X.out.below.cell (p := ⟨b, o + k * 3 + 2, none⟩) hb).trans c2
      have hbw := Nat.lt_of_lt_of_le hb hbs
      have hwt : wtL K k = K[k].2.2 := by simp [wtL, List.getD_eq_getElem?_getD, hlt]
      have l0 := X.out.cell hlt
      have l1 := X.out.fr k
      simp only [Nat.lt_irrefl, if_false] at l0
      generalize K[k] = a at *
      obtain ⟨f1, u, z⟩ := a
      simp only at d0 d1 d2 hwt
      have HW := Lib.hid hwt
      have X2 : Hid (XiAt w5 ((wr.setCell ⟨g, k, none⟩ (.int .i64 z)).alloc (.cells #[.int .i64 f1, .int .i64 u, .int .i64 z] 43)) g K.length (fun u => if u < k + 1 then wtL K u else 0)) := Lib.hid (((X.out.set k z).quiet ((Below.refl _ _).alloc (Nat.le_refl _) _)).turn (fun v _ => by
        by_cases e : v = k
        · subst e; simp [HW.out]
        · have : v < k + 1 ↔ v < k := by omega
          simp [e, this]))
      clear hA hcell c0 c1 c2 hwt
      go_wp2
      go_roundw
      case rel => exact ⟨k + 1, by go_num, by omega, X2.out⟩
      case measure => simp [intOf]; omega
    · have hkl : k = K.length := by omega
      have t0 : decide (k < K.length) = false := by simpa using hlt
      have X2 : Hid (XiAt w5 wr g K.length (wtL K)) := Lib.hid (X.out.turn (fun v hv => by rw [if_pos (by omega)]))
      have R0 : Hid (RightF n K (flL K (wtL K))) := Lib.hid (wts_right RM.out _ (flL_wts K))
      have ABz : Hid (∀ k' (h : k' < K.length), ∃ b o, aK = some ⟨b, o, none⟩ ∧ b < w5.heap.size ∧ w5.cell? ⟨b, o + k' * 3, none⟩ = some (.int .i64 K[k'].1) ∧ w5.cell? ⟨b, o + k' * 3 + 1, none⟩ = some (.int .i64 K[k'].2.1) ∧ w5.cell? ⟨b, o + k' * 3 + 2, none⟩ = some (.int .i64 K[k'].2.2)) := Lib.hid (fun k' h => by
        obtain ⟨b, o, rfl, hb, hc⟩ := hA (by omega)
        exact ⟨b, o, rfl, hb, hc k' h⟩)
      obtain ⟨L2, hL2, hL3⟩ : ∃ L2 : Nat, min (bn : Int) 30 = (L2 : Int) ∧ L2 ≤ bn := ⟨min bn 30, by omega, by omega⟩
      clear hlt hkl hk hA X
      have AR : Hid (L2 = 0 ∨ DuoAt w B bn bc DD) := Lib.hid (by
        by_cases h : 0 < bn
        · exact Or.inr (DU.out h)
        · exact Or.inl (by omega))
      have e2 : (0 : Int) ≤ (L2 : Int) := by omega
      have hcap : ∃ A'' cap'', B = A'' ∧ bc = cap'' := ⟨_, _, rfl, rfl⟩
      clear hcap
      have hcn := cost_near RM.out SS.out.val_near
      have HCB : Hid (costSum x K ≤ 200000000000) := Lib.hid (by omega)
      clear hcn
      by_cases hb0 : L2 = 0
      · have hbn : bn = 0 := by omega
        subst hb0 hbn
        clear AR DU
        cases B with
        | none =>
          go_wp2
          go_loopw [69] (fun iv wx => iv = .int .i64 0 ∧ wx = wr) (fun _ _ => 0)
          case atStart => exact ⟨rfl, rfl⟩
          case round =>
            obtain ⟨rfl, rfl⟩ := hrel
            go_wp2
            go_ret
            exact ⟨rfl, BZ.out.trans (X2.out.below.mono BZ.out.size)⟩
        | some ad =>
          go_wp2
          go_loopw [69] (fun iv wx => iv = .int .i64 0 ∧ wx = wr) (fun _ _ => 0)
          case atStart => exact ⟨rfl, rfl⟩
          case round =>
            obtain ⟨rfl, rfl⟩ := hrel
            go_wp2
            go_ret
            exact ⟨rfl, BZ.out.trans (X2.out.below.mono BZ.out.size)⟩
      · have DA : Hid (DuoAt w B bn bc DD) := Lib.hid (by
          rcases AR.out with h | h
          · exact absurd h hb0
          · exact h)
        obtain ⟨bb, bo, rfl, hbb, -⟩ := DA.out.at_ (by omega)
        have e3 : (L2 : Int) ≤ (bc : Int) := by have := DA.out.le; omega
        have e4 : L2 ≤ bc := by have := DA.out.le; omega
        clear AR DU
        go_wp2
        go_loopw [69] (fun iv wx => Fl2 n K L2 w5 g wx iv) (fun iv _ => L2 - (intOf iv).toNat)
        case atStart => exact ⟨0, _, rfl, by omega, X2.out, R0.out⟩
        case round =>
          clear X2 R0
          obtain ⟨k, s, rfl, hk, hX, hR⟩ := hrel
          have X := Lib.hid hX
          have R := Lib.hid hR
          have hgl := hX.gl
          have hbs := hX.below.size
          have BR := Lib.hid (BZ.out.trans (hX.below.mono BZ.out.size))
          have hbr := BR.out.size
          clear hX hR
          by_cases hlt : k < L2
          · obtain ⟨b', o', e, _, hc⟩ := DA.out.at_ (by omega)
            simp only [Option.some.injEq, Addr.mk.injEq, and_true] at e
            obtain ⟨rfl, rfl⟩ := e
            obtain ⟨c0, c1⟩ := hc k (by omega)
            have y0 := (BR.out.cell (p := ⟨bb, bo + k * 2, none⟩) hbb).trans c0
            have y1 := (BR.out.cell (p := ⟨bb, bo + k * 2 + 1, none⟩) hbb).trans c1
            obtain ⟨⟨r0, r1⟩, r2, r3⟩ := DA.out.r k (by omega)
            have hbw : bb < wr.heap.size := by omega
            generalize DD k = pq at *
            obtain ⟨p, q⟩ := pq
            simp only at y0 y1 r0 r1 r2 r3
            clear hc c0 c1
            by_cases hm2 : K.length < 2
            · have t2 : decide (K.length < 2) = true := by simpa using hm2
              have t3 : decide ((K.length : Int) < 2) = true := by simp; omega
              clear hm2
              go_wp2
              go_ret
              exact ⟨rfl, BR.out.alloc hbr _⟩
            · have t2 : decide (K.length < 2) = false := by simpa using hm2
              have t3 : decide ((K.length : Int) < 2) = false := by simp; omega
              have hm3 : ¬ K.length = 0 := by omega
              have hm5 : ¬ (K.length : Int) = 0 := by omega
              obtain ⟨i, hi1⟩ : ∃ r : Nat, p % (K.length : Int) = (r : Int) := ⟨(p % (K.length : Int)).toNat, by have := Int.emod_nonneg p (b := (K.length : Int)) (by omega); omega⟩
              have hi2 : p.tmod (K.length : Int) = (i : Int) := by rw [Int.tmod_eq_emod_of_nonneg r0]; exact hi1
              obtain ⟨kk, hk1⟩ : ∃ r : Nat, q % (K.length : Int) = (r : Int) := ⟨(q % (K.length : Int)).toNat, by have := Int.emod_nonneg q (b := (K.length : Int)) (by omega); omega⟩
              have hk2 : q.tmod (K.length : Int) = (kk : Int) := by rw [Int.tmod_eq_emod_of_nonneg r2]; exact hk1
              have him : i < K.length := by have := Int.emod_lt_of_pos p (b := (K.length : Int)) (by omega); omega
              have hkm : kk < K.length := by have := Int.emod_lt_of_pos q (b := (K.length : Int)) (by omega); omega
              have hwp : IntKind.i64.wrap p = p := IntWalk.i64_in _ (by omega)
              have hwq : IntKind.i64.wrap q = q := IntWalk.i64_in _ (by omega)
              go_upto_region 16 with (fail)
              generalize hwa : World.alloc wr _ = wa
              have ba : Below wr.heap.size wr wa := by rw [← hwa]; exact (Below.refl _ _).alloc (Nat.le_refl _) _
              have v0 : wa.cell? ⟨wr.heap.size, 0, none⟩ = some (.int .u8 p) := by rw [← hwa]; clear hwa; go_simp
              have v1 : wa.cell? ⟨wr.heap.size, 1, none⟩ = some (.int .u8 q) := by rw [← hwa]; clear hwa; go_simp
              have X3 := Lib.hid (X.out.quiet ba)
              clear hwa y0 y1 hm2 t2 t3 ba
              go_quiet (fail)
              clear hm3 hm5 hi1 hi2 hk1 hk2 hwp hwq v0 v1 r0 r1 r2 r3
              go_wp2
              generalize hwb : wa.drewN _ = wb
              have X4 : Hid (XiAt w5 wb g K.length s) := Lib.hid (by rw [← hwb]; exact X3.out.quiet (belowN (Below.refl _ _) _))
              clear hwb X3 X hgl hbs BR hbr hbw
              go_loopw [90] (fun iv wx => Fl3 n K w5 g wx iv) (fun iv _ => K.length - (intOf iv).toNat)
              case atStart => exact ⟨0, s, rfl, by omega, X4.out, R.out⟩
              case round =>
                clear X4 R
                obtain ⟨j, s, rfl, hj, hX, hR⟩ := hrel
                have X := Lib.hid hX
                have R := Lib.hid hR
                have hgl := hX.gl
                have hbs := hX.below.size
                have BR := Lib.hid (BZ.out.trans (hX.below.mono BZ.out.size))
                have hbr := BR.out.size
                clear hX hR
                by_cases hlt3 : j < K.length
                · have bnd := fun u (h : u < K.length) => right_near (may_ends RM.out) R.out SS.out.fit h
                  have hcb := HCB.out
                  have bj := bnd j hlt3
                  have bi := bnd i him
                  have bk := bnd kk hkm
                  obtain ⟨b, o, rfl, hb, c0, c1, c2⟩ := ABz.out j hlt3
                  obtain ⟨_, _, e, _, i0, i1, _⟩ := ABz.out i him
                  simp only [Option.some.injEq, Addr.mk.injEq, and_true] at e
                  obtain ⟨rfl, rfl⟩ := e
                  obtain ⟨_, _, e, _, k0, k1, _⟩ := ABz.out kk hkm
                  simp only [Option.some.injEq, Addr.mk.injEq, and_true] at e
                  obtain ⟨rfl, rfl⟩ := e
                  have d0 := (X.out.below.cell (p := ⟨b, o + j * 3, none⟩) hb).trans c0
                  have d1 := (X.out.below.cell (p := ⟨b, o + j * 3 + 1, none⟩) hb).trans c1
                  have d2 := (X.out.below.cell (p := ⟨b, o + j * 3 + 2, none⟩) hb).trans c2
                  have x0 := (X.out.below.cell (p := ⟨b, o + i * 3, none⟩) hb).trans i0
                  have x1 := (X.out.below.cell (p := ⟨b, o + i * 3 + 1, none⟩) hb).trans i1
                  have y0 := (X.out.below.cell (p := ⟨b, o + kk * 3, none⟩) hb).trans k0
                  have y1 := (X.out.below.cell (p := ⟨b, o + kk * 3 + 1, none⟩) hb).trans k1
                  have hbw := Nat.lt_of_lt_of_le hb hbs
                  have hup := (RI.out.ok K[i] (List.getElem_mem him)).2.1
                  have SR := Lib.hid (fun h0 h1 h2 h3 h4 h5 => sent_right (n := n) R.out hlt3 him hkm h0 h1 h2 h3 h4 h5)
                  obtain ⟨fj, hfj⟩ : ∃ z, K[j].1 = z := ⟨_, rfl⟩
                  obtain ⟨tj, htj⟩ : ∃ z, K[j].2.1 = z := ⟨_, rfl⟩
                  obtain ⟨zj, hzj⟩ : ∃ z, K[j].2.2 = z := ⟨_, rfl⟩
                  obtain ⟨fi, hfi⟩ : ∃ z, K[i].1 = z := ⟨_, rfl⟩
                  obtain ⟨ti, hti⟩ : ∃ z, K[i].2.1 = z := ⟨_, rfl⟩
                  obtain ⟨fk, hfk⟩ : ∃ z, K[kk].1 = z := ⟨_, rfl⟩
                  obtain ⟨tk, htk⟩ : ∃ z, K[kk].2.1 = z := ⟨_, rfl⟩
                  rw [hfj] at d0
                  rw [htj] at d1
                  rw [hzj] at d2
                  rw [hfi] at x0 hup
                  rw [hti] at x1 hup
                  rw [hfk] at y0
                  rw [htk] at y1
                  have G1 : Hid (K[i].1 = fi ∧ K[j].1 = fj ∧ K[kk].2.1 = tk ∧ K[j].2.1 = tj ∧ K[i].2.1 = ti ∧ K[kk].1 = fk) := Lib.hid ⟨hfi, hfj, htk, htj, hti, hfk⟩
                  have l0 := X.out.cell hlt3
                  obtain ⟨sj, hsj⟩ : ∃ z, s j = z := ⟨_, rfl⟩
                  obtain ⟨si, hsi⟩ : ∃ z, s i = z := ⟨_, rfl⟩
                  obtain ⟨sk, hsk⟩ : ∃ z, s kk = z := ⟨_, rfl⟩
                  rw [hsj] at l0 bj
                  rw [hsi] at bi
                  rw [hsk] at bk
                  have G2 : Hid (s j = sj ∧ s i = si ∧ s kk = sk) := Lib.hid ⟨hsj, hsi, hsk⟩
                  obtain ⟨bj1, bj2⟩ := bj
                  obtain ⟨bi1, bi2⟩ := bi
                  obtain ⟨bk1, bk2⟩ := bk
                  have bj3 : sj ≤ 200000000000 := by omega
                  have bi3 : si ≤ 200000000000 := by omega
                  have bk3 : sk ≤ 200000000000 := by omega
                  clear c0 c1 c2 i0 i1 k0 k1 hfj htj hzj hfi hti hfk htk hsj hsi hsk bnd hcb bj2 bi2 bk2
                  go_upto_region 20 with (fail)
                  generalize hwa : World.alloc wr _ = wa
                  have ba : Below wr.heap.size wr wa := by rw [← hwa]; exact (Below.refl _ _).alloc (Nat.le_refl _) _
                  have u0 : wa.cell? ⟨wr.heap.size, 0, none⟩ = some (.int .i64 fj) := by rw [← hwa]; clear hwa; go_simp
                  have u1 : wa.cell? ⟨wr.heap.size, 1, none⟩ = some (.int .i64 tj) := by rw [← hwa]; clear hwa; go_simp
                  have u2 : wr.heap.size < wa.heap.size := by rw [← hwa]; simp
                  have m0 := (ba.cell (p := ⟨b, o + i * 3, none⟩) hbw).trans x0
                  have m1 := (ba.cell (p := ⟨b, o + i * 3 + 1, none⟩) hbw).trans x1
                  have m2 := (ba.cell (p := ⟨b, o + kk * 3, none⟩) hbw).trans y0
                  have m3 := (ba.cell (p := ⟨b, o + kk * 3 + 1, none⟩) hbw).trans y1
                  have m4 := (ba.cell (p := ⟨g, j, none⟩) hgl).trans l0
                  have hba : b < wa.heap.size := by omega
                  have hga : g < wa.heap.size := by omega
                  have X5 := Lib.hid (X.out.quiet ba)
                  obtain ⟨cb, hcb⟩ : ∃ cb : Bool, (decide (0 < sj) && (fi == fj) && (tk == tj) && (ti == fk) && !(j == i) && !(j == kk)) = cb := ⟨_, rfl⟩
                  have HC := Lib.hid hcb
                  clear hwa d0 d1 d2 x0 x1 y0 y1 l0 ba hcb
                  go_cut [142] from 95 to 142 (fun pv wx => pv = .bool cb ∧ Below wa.heap.size wa wx)
                  case first =>
                    by_cases h1 : 0 < sj
                    · have t1 : decide (0 < sj) = true := by simpa using h1
                      by_cases h2 : fi = fj
                      · have t2 : (fi == fj) = true := by simpa using h2
                        by_cases h3 : tk = tj
                        · have t3 : (tk == tj) = true := by simpa using h3
                          by_cases h4 : ti = fk
                          · have t4 : (ti == fk) = true := by simpa using h4
                            by_cases h5 : ¬ j = i
                            · have t5 : (j != i) = true := by simpa using h5
                              have t5b : (j == i) = false := by simpa using h5
                              have t5c : ((j : Int) != (i : Int)) = true := by simp; omega
                              have t5d : ((j : Int) == (i : Int)) = false := by simp; omega
                              by_cases h6 : ¬ j = kk
                              · have t6 : (j != kk) = true := by simpa using h6
                                have t6b : (j == kk) = false := by simpa using h6
                                have t6c : ((j : Int) != (kk : Int)) = true := by simp; omega
                                have t6d : ((j : Int) == (kk : Int)) = false := by simp; omega
                                have E : Hid (cb = true) := Lib.hid (by rw [← HC.out]; simp [h1, h2, h3, h4, h5, h6])
                                clear h1 h2 h3 h4 h5 h6
                                go_quiet (fail)
                                all_goals
                                  go_wp2_with fail
                                  go_meet
                                  exact ⟨by rw [E.out], belowN (Below.refl _ _) _⟩
                              · have E : Hid (cb = false) := Lib.hid (by rw [← HC.out]; simp [show j = kk by omega])
                                have t6 : (j != kk) = false := by simpa using h6
                                have t6b : (j == kk) = true := by simpa using h6
                                have t6c : ((j : Int) != (kk : Int)) = false := by simp; omega
                                have t6d : ((j : Int) == (kk : Int)) = true := by simp; omega
                                clear h1 h2 h3 h4 h5 h6
                                go_quiet (fail)
                                all_goals
                                  go_wp2_with fail
                                  go_meet
                                  exact ⟨by rw [E.out], belowN (Below.refl _ _) _⟩
                            · have E : Hid (cb = false) := Lib.hid (by rw [← HC.out]; simp [show j = i by omega])
                              have t5 : (j != i) = false := by simpa using h5
                              have t5b : (j == i) = true := by simpa using h5
                              have t5c : ((j : Int) != (i : Int)) = false := by simp; omega
                              have t5d : ((j : Int) == (i : Int)) = true := by simp; omega
                              clear h1 h2 h3 h4 h5
                              go_quiet (fail)
                              all_goals
                                go_wp2_with fail
                                go_meet
                                exact ⟨by rw [E.out], belowN (Below.refl _ _) _⟩
                          · have E : Hid (cb = false) := Lib.hid (by rw [← HC.out]; simp [h4])
                            have t4 : (ti == fk) = false := by simpa using h4
                            clear h1 h2 h3 h4
                            go_quiet (fail)
                            all_goals
                              go_wp2_with fail
                              go_meet
                              exact ⟨by rw [E.out], belowN (Below.refl _ _) _⟩
                        · have E : Hid (cb = false) := Lib.hid (by rw [← HC.out]; simp [h3])
                          have t3 : (tk == tj) = false := by simpa using h3
                          clear h1 h2 h3
                          go_quiet (fail)
                          all_goals
                            go_wp2_with fail
                            go_meet
                            exact ⟨by rw [E.out], belowN (Below.refl _ _) _⟩
                      · have E : Hid (cb = false) := Lib.hid (by rw [← HC.out]; simp [h2])
                        have t2 : (fi == fj) = false := by simpa using h2
                        clear h1 h2
                        go_quiet (fail)
                        all_goals
                          go_wp2_with fail
                          go_meet
                          exact ⟨by rw [E.out], belowN (Below.refl _ _) _⟩
                    · have E : Hid (cb = false) := Lib.hid (by rw [← HC.out]; simp [h1])
                      have t1 : decide (0 < sj) = false := by simpa using h1
                      clear h1
                      go_quiet (fail)
                      all_goals
                        go_wp2_with fail
                        go_meet
                        exact ⟨by rw [E.out], belowN (Below.refl _ _) _⟩
                  case rest =>
                    obtain ⟨rfl, hbc⟩ := hcut
                    clear m0 m1 m2 m3 m4 u0 u1
                    obtain ⟨w7, hw7⟩ : ∃ W, W = wc := ⟨_, rfl⟩
                    subst hw7
                    have X7 := Lib.hid (X5.out.quiet hbc)
                    clear hbc
                    cases hb : cb with
                    | false =>
                      clear hb
                      go_wp2
                      go_roundw
                      case rel => exact ⟨j + 1, s, by go_num, by omega, X7.out, R.out⟩
                      case measure => simp [intOf]; omega
                    | true =>
                      have h := HC.out
                      rw [hb] at h
                      simp only [Bool.and_eq_true, decide_eq_true_eq, beq_iff_eq, Bool.not_eq_true', beq_eq_false_iff_ne] at h
                      obtain ⟨⟨⟨⟨⟨h1, h2⟩, h3⟩, h4⟩, h5⟩, h6⟩ := h
                      obtain ⟨g1, g2, g3, g4, g5, g6⟩ := G1.out
                      have hik : i ≠ kk := fun e => by
                        subst e
                        rw [g1] at g6
                        omega
                      have RS := Lib.hid (SR.out (by rw [G2.out.1]; exact h1) h5 h6 (by rw [g1, g2]; exact h2) (by rw [g3, g4]; exact h3) (by rw [g5, g6]; exact h4))
                      have n1 := X7.out.cell hlt3
                      have n2 := X7.out.cell him
                      have n3 := X7.out.cell hkm
                      have n4 := X7.out.fr j
                      have n5 := X7.out.fr i
                      have n6 := X7.out.fr kk
                      have n7 := X7.out.gl
                      rw [G2.out.1] at n1
                      rw [G2.out.2.1] at n2
                      rw [G2.out.2.2] at n3
                      have X8 : Hid (XiAt w5 (((w7.setCell ⟨g, j, none⟩ (.int .i64 (sj - 1))).setCell ⟨g, i, none⟩ (.int .i64 (si + 1))).setCell ⟨g, kk, none⟩ (.int .i64 (sk + 1))) g K.length (sent s j i kk)) := Lib.hid ((((X7.out.set j (sj - 1)).set i (si + 1)).set kk (sk + 1)).turn (fun v _ => by
                        have e1 := G2.out.1
                        have e2 := G2.out.2.1
                        have e3 := G2.out.2.2
                        unfold sent
                        simp only
                        have q1 : ¬ i = j := fun e => h5 e.symm
                        have q2 : ¬ kk = i := fun e => hik e.symm
                        have q3 : ¬ kk = j := fun e => h6 e.symm
                        simp only [q1, q2, q3, if_false]
                        by_cases a1 : v = kk
                        · simp [a1, e3]
                        · by_cases a2 : v = i
                          · subst a2; simp [a1, e2]
                          · by_cases a3 : v = j
                            · subst a3; simp [a1, a2, e1]; omega
                            · simp [a1, a2, a3]))
                      have o1 : ¬ j = i := h5
                      have o2 : ¬ j = kk := h6
                      have o3 : ¬ i = kk := hik
                      have o4 : ¬ i = j := fun e => h5 e.symm
                      have o5 : ¬ kk = j := fun e => h6 e.symm
                      have o6 : ¬ kk = i := fun e => hik e.symm
                      clear h1 h2 h3 h4 h5 h6 g1 g2 g3 g4 g5 g6 hik hup hb
                      go_wp2
                      go_roundw
                      case rel => exact ⟨j + 1, _, by go_num, by omega, X8.out, RS.out⟩
                      case measure => simp [intOf]; omega
                · have t0 : decide (j < K.length) = false := by simpa using hlt3
                  have hw := weak (may_ends RM.out) R.out SS.out.fit
                  have hmost := SS.out.most (may_ends RM.out) R.out
                  rw [HB.out] at hmost
                  have hcb := HCB.out
                  obtain ⟨sm, hsm⟩ : ∃ sm, (flL K s).sum = sm := ⟨_, rfl⟩
                  have SM := Lib.hid hsm
                  have hs1 : (flL K s).sum ≤ 1000000000000000 := by omega
                  have HS1 := Lib.hid hs1
                  rw [hsm] at hmost
                  have t1 : decide (bs < sm) = false := by simp; omega
                  have FI : Hid (IntsAt wr (.slice (some ⟨g, 0, none⟩) K.length K.length) (flL K s)) := Lib.hid X.out.own.ints
                  have AW := Lib.hid (AK.out.below X.out.below)
                  clear hlt3 hj hw hmost hcb hsm hs1
                  go_wp2_with (first
                    | (go_at_call 12; have _hz := z8; refine (refSum _ (flL K s) _ (FI.out.below Q8.out) R.out.nn HS1.out (by rw [flL_len]; omega)).mono ?_; rintro e w9 ⟨rfl, hb⟩; rw [SM.out]; subst hb)
                    | (go_at_call 21; refine (refRightF n _ _ K (flL K s) _ AW.out RM.out FI.out R.out HS1.out).mono ?_; rintro e w8 ⟨rfl, hb⟩; have Q8 := Lib.hid hb; have z8 := hb.size; clear hb))
                  go_roundw
                  case rel => exact ⟨k + 1, s, by go_num, by omega, X.out.quiet Q8.out, R.out⟩
                  case measure => simp [intOf]; omega
          · have t0 : decide (k < L2) = false := by simpa using hlt
            clear hlt hk
            go_wp2
            go_ret
            exact ⟨rfl, BR.out⟩
end Go.Proofs.Ytkloaekmjnbacaa

namespace Go.Proofs.Ytkloaekmjnbacaa
open Go.RowKit Go.ChangeShapes Go.WideShapes Go.Deep Go.Proofs.Ytkloaekmjnbacaa.DagM

set_option maxRecDepth 100000 in
theorem flows_arg {H : Type} {enc : TypeId × Value → H} {w : World} {v v' : Value} {d d' : DataW H} {p p' : List MemPlace} {spare spare' : Nat → Bool} {held held' : Bool} {b0 b0' : Nat} (hS : SolveSpec) (hU : SupplySpec)
    (hv : Value.okWide Try.prog w .any b0 24 v) (h : DataW.Trod enc Try.prog w 0 spare held 24 v d p)
    (hv' : Value.okWide Try.prog w .any b0' 50 v') (h' : DataW.Trod enc Try.prog w 0 spare' held' 50 v' d' p') :
    Calls Try.prog 5 #[v, v'] w fun e w' => e = .returned (.bool true) ∧ Below w.heap.size w w' := by
  obtain ⟨N, A, len, cap, D, rfl, h0, h1, hT⟩ := raw_open hv h
  obtain ⟨B, n, c, DD, rfl, hD⟩ := duos_open hv' h'
  exact flowsLaw hS hU N A len cap D B n c DD w h0 h1 hT hD
end Go.Proofs.Ytkloaekmjnbacaa
