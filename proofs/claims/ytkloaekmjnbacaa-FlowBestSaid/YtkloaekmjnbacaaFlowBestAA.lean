/-
  FlowBest: the walk. Conditions: what Solve and Supply are asked to leave.
  FlowBest: its arguments opened. Conditions: what Solve and Supply are asked to leave.
-/
import Derived.Test.YtkloaekmjnbacaaFlowLc
namespace Go.Proofs.Ytkloaekmjnbacaa
open Go.RowKit Go.Proofs.Ytkloaekmjnbacaa.DagM

def FbRel (n g cap : Nat) (w0 wr : World) (iv : Value) : Prop := ∃ (k : Nat) (s : Nat → Int), iv = .int .i64 k ∧ k ≤ n ∧ XzAt w0 wr g cap n s ∧ (∀ u, k ≤ u → 0 ≤ s u ∧ s u ≤ 14) ∧ (∀ u, -6 ≤ s u ∧ s u ≤ 20)
def FoRel (E : EndL) (n g cap : Nat) (w0 wr : World) (iv : Value) : Prop := ∃ (r : Nat) (x : Nat → Int), iv = .int .i64 r ∧ r ≤ n ∧ XzAt w0 wr g cap n x ∧ RaisZ E x r []
def FiRel (L : List Arc) (n r g cap : Nat) (w0 wr : World) (iv : Value) : Prop := ∃ (i : Nat) (x : Nat → Int), iv = .int .i64 i ∧ i ≤ L.length ∧ XzAt w0 wr g cap n x ∧ RaisZ (ends L) x r (ends (L.take i))
theorem ends_mem5 (L : List Arc) (k : Nat) (h : k < L.length) : (L[k].1.toNat, L[k].2.1.toNat) ∈ ends L := List.mem_map.2 ⟨L[k], List.getElem_mem h, rfl⟩

set_option maxHeartbeats 8000000 in
set_option maxRecDepth 100000 in
theorem best (hS : SolveSpec) (hU : SupplySpec) (N : Int) (A : Option Addr) (len cap : Nat) (D : Nat → Int × Int × Int) (yv : Value) (ys : List Int) (w : World) (hN0 : 0 ≤ N) (hN1 : N ≤ 255) (hT : TriAt w A len D) (hY : IntsAt w yv ys) :
    Calls Try.prog 4 #[.agg #[.int .u8 N, .slice A len cap], yv] w fun e w' => e = .returned (.bool true) ∧ Below w.heap.size w w' := by
  have T := Lib.hid hT
  have Y := Lib.hid hY
  have SV := Lib.hid hS
  have SU := Lib.hid hU
  obtain ⟨Ay, cy, rfl, hyc, -⟩ := hY
  clear hT hS hU
  go_enter Try.func4, Try.ntmps4
  go_wp2_with (first
    | (go_at_call 8; refine (make_ N A len cap 14 D _ hN0 hN1 (by omega) (by omega) (T.out.below ((Below.refl _ _).alloc (Nat.le_refl _) _))).mono ?_; rintro e w1 ⟨n, vK, K, rfl, hnm, hRi, hO, hb⟩; obtain ⟨aK, cK, rfl⟩ := hO.form; have OK1 := Lib.hid hO.arcs; have B1 : Hid (Below w.heap.size w w1) := Lib.hid (((Below.refl _ _).alloc (Nat.le_refl _) _).trans (hb.mono (by simp))); have z1 : w.heap.size + 1 ≤ w1.heap.size := (by have := hb.size; simpa using this); have hn1 : 1 ≤ n := hRi.n1; have hKl : K.length ≤ 40 := hRi.len; have RL : Hid (∀ e ∈ ends K, e.1 < e.2) := Lib.hid (fun e he => by obtain ⟨a, ha, rfl⟩ := List.mem_map.1 he; have := hRi.ok a ha; simp only; omega); have RO := Lib.hid (hRi.ord (by omega)); have RM := Lib.hid (hRi.may (by omega)); clear hRi hO hb)
    | (go_at_call 9; refine (SV.out.ok n _ K _ OK1.out RO.out).mono ?_; rintro e w2 ⟨xv, fv, x, f, ways, rfl, hx, hf, hs, hb⟩; obtain ⟨ax, cx, h1⟩ := hx.form; rw [hs.len] at h1; subst h1; obtain ⟨af, cf, h2⟩ := hf.form; rw [hs.flen] at h2; subst h2; have SS := Lib.hid hs; have XI2 := Lib.hid hx.ints; have B2 := Lib.hid hb; have z2 := hb.size; obtain ⟨bs, hbs⟩ : ∃ bs, costSum x K = bs := ⟨_, rfl⟩; have HB := Lib.hid hbs; clear hx hf hs hb hbs)
    | (go_at_call 10; refine (wakes5 SV.out SU.out _).mono ?_; rintro e w3 ⟨rfl, hb⟩; have c3 : w3.cell? ⟨w2.heap.size, 0, none⟩ = some (.slice ax n cx) := (hb.cell (p := ⟨w2.heap.size, 0, none⟩) (by simp)).trans (by go_simp); have Q3 : Hid (Below w2.heap.size w2 w3) := Lib.hid (((Below.refl _ _).alloc (Nat.le_refl _) _).trans (hb.mono (by simp))); have z3 : w2.heap.size + 1 ≤ w3.heap.size := (by have := hb.size; simpa using this); clear hb)
    | (go_at_call 19; have _hz := z3; refine (refFit n _ _ K x _ RM.out (by rw [SS.out.len]) ((OK1.out.below B2.out).below Q3.out) (XI2.out.below Q3.out)).mono ?_; rintro e w4 ⟨rfl, hb⟩; rw [SS.out.fit]; have c4 := (hb.cell (p := ⟨w2.heap.size, 0, none⟩) (show w2.heap.size < w3.heap.size by omega)).trans c3; have Q4 := Lib.hid (Q3.out.trans (hb.mono Q3.out.size)); have z4 : w2.heap.size + 1 ≤ w4.heap.size := (by have := hb.size; omega); clear hb c3)
    | (go_at_call 13; have _hz := z4; refine (refCost n _ _ K x _ RM.out (SS.out.coord RM.out) SS.out.fit ((OK1.out.below B2.out).below Q4.out) (XI2.out.below Q4.out)).mono ?_; rintro e w5 ⟨rfl, hb⟩; rw [HB.out]; have c5 := (hb.cell (p := ⟨w2.heap.size, 0, none⟩) (show w2.heap.size < w4.heap.size by omega)).trans c4; have Q5 := Lib.hid (Q4.out.trans (hb.mono Q4.out.size)); have z5 : w2.heap.size + 1 ≤ w5.heap.size := (by have := hb.size; omega); clear hb c4)
    | (go_at_call 20; have _hz := z5; refine (cloneI _ x _ (XI2.out.below Q5.out) (by rw [SS.out.len]; omega)).mono ?_; rintro e w6 ⟨v6, rfl, ho, hb⟩; obtain ⟨g, cp, h6, hx6⟩ := ho.xz hb (by rw [SS.out.len]; omega); rw [SS.out.len] at h6 hx6; subst h6; have X6 := Lib.hid hx6; have z6 := hb.size; clear ho hb hx6 c5))
  have NX := Lib.hid SS.out.near
  have BZ := Lib.hid (B1.out.trans ((B2.out.trans (Q5.out.mono z2)).mono (by omega)))
  have Y5 := Lib.hid (Y.out.below BZ.out)
  have AK := Lib.hid ((OK1.out.below B2.out).below Q5.out)
  clear XI2 Q3 Q4 Q5 OK1 B1 B2
  go_loopw [54, 11] (fun iv _ wr => FbRel n g cp w5 wr iv) (fun iv _ _ => n - (intOf iv).toNat)
  case atStart =>
    have nx : ∀ u, 0 ≤ x.getD u 0 ∧ x.getD u 0 ≤ 14 := fun u => by
      by_cases hu : u < x.length
      · have := NX.out x[u] (List.getElem_mem hu)
        simp [List.getD_eq_getElem?_getD, hu]
        omega
      · simp [List.getD_eq_getElem?_getD, hu]
    exact ⟨0, _, rfl, by omega, X6.out, fun u _ => nx u, fun u => by have := nx u; omega⟩
  case round =>
    clear X6
    obtain ⟨k, s, rfl, hk, hX, h0, h1⟩ := hrel
    have X := Lib.hid hX
    have H0 := Lib.hid h0
    have H1 := Lib.hid h1
    have hgl := hX.gl
    have hbs := hX.below.size
    clear hX h0 h1
    by_cases hlt : k < n
    · by_cases hy : k < ys.length
      · obtain ⟨bx, ox, cx2, e, hbx, x0⟩ := Y5.out.nth hy
        simp only [Value.slice.injEq, true_and] at e
        obtain ⟨rfl, rfl⟩ := e
        have y0 := (X.out.below.cell (p := ⟨bx, ox + k, none⟩) hbx).trans x0
        clear x0
        generalize ys[k] = u at *
        obtain ⟨z, hz⟩ : ∃ z : Int, u.tmod 7 = z := ⟨_, rfl⟩
        have hza : -6 ≤ z ∧ z ≤ 6 := by have h1 := Int.lt_tmod_of_pos u (b := 7) (by omega); have h2 := Int.tmod_lt_of_pos u (b := 7) (by omega); omega
        obtain ⟨hza1, hza2⟩ := hza
        have l0 := X.out.cell hlt
        have l1 := X.out.fr k
        have hsk := H0.out k (Nat.le_refl _)
        obtain ⟨p, hp⟩ : ∃ p, s k = p := ⟨_, rfl⟩
        rw [hp] at l0 hsk
        have HP := Lib.hid hp
        obtain ⟨hp1, hp2⟩ := hsk
        clear hp
        go_wp2
        go_still_tail 11, (by kernel_rfl)
        change wpList _ _ _ _ _ wr.drew
        go_wp2
        go_roundw
        case rel =>
          refine ⟨k + 1, _, by go_num, by omega, (X.out.set k (p + z)).quiet (Below.refl _ _).drew, fun v hv => ?_, fun v => ?_⟩
          · have : ¬ v = k := by omega
            rw [if_neg this]
            exact H0.out v (by omega)
          · by_cases e : v = k
            · rw [if_pos e]; omega
            · rw [if_neg e]; exact H1.out v
        case measure => simp [intOf]; omega
      · go_wp2
        go_roundw
        case rel => exact ⟨k + 1, s, by go_num, by omega, X.out, fun v hv => H0.out v (by omega), H1.out⟩
        case measure => simp [intOf]; omega
    · have t0 : decide (k < n) = false := by simpa using hlt
      clear hlt hk H0
      have XL : Hid (IntsAt wr (.slice (some ⟨g, 0, none⟩) n cp) ((List.range n).map s)) := Lib.hid X.out.own.ints
      have AW := Lib.hid (AK.out.below X.out.below)
      have hcm : coordB n ((List.range n).map s) = true := coord_map (fun u _ => by have := H1.out u; omega)
      have HC := Lib.hid hcm
      clear hcm
      go_upto_region 13 with fail
      go_cut [82] from 73 to 82 (fun s82 wx => s82 = .bool false ∧ Below wr.heap.size wr wx)
      case first =>
        cases hf : fitB ((List.range n).map s) K with
        | false =>
          have HF := Lib.hid hf
          clear hf
          go_wp2_with (go_at_call 19; refine (refFit n _ _ K ((List.range n).map s) _ RM.out (by simp) AW.out XL.out).mono ?_; rintro e w7 ⟨rfl, hb⟩; rw [HF.out]; have Q7 := Lib.hid hb; clear hb)
          go_meet
          exact ⟨rfl, Q7.out⟩
        | true =>
          have hbest := SS.out.best (may_ends RM.out) hf
          rw [HB.out] at hbest
          have HF := Lib.hid hf
          obtain ⟨c2, hc2⟩ : ∃ c2, costSum ((List.range n).map s) K = c2 := ⟨_, rfl⟩
          rw [hc2] at hbest
          have HC2 := Lib.hid hc2
          have t1 : decide (c2 < bs) = false := by simp; omega
          clear hf hc2
          go_wp2_with (first
            | (go_at_call 19; refine (refFit n _ _ K ((List.range n).map s) _ RM.out (by simp) AW.out XL.out).mono ?_; rintro e w7 ⟨rfl, hb⟩; rw [HF.out]; have Q7 := Lib.hid hb; clear hb)
            | (go_at_call 13; refine (refCost n _ _ K ((List.range n).map s) _ RM.out HC.out HF.out (AW.out.below Q7.out) (XL.out.below Q7.out)).mono ?_; rintro e w8 ⟨rfl, hb⟩; rw [HC2.out]; have Q8 := Lib.hid (Q7.out.trans (hb.mono Q7.out.size)); clear hb))
          go_meet
          exact ⟨rfl, Q8.out⟩
      case rest =>
        obtain ⟨rfl, hbx⟩ := hcut
        have X2 := Lib.hid (X.out.quiet hbx)
        have RZ : Hid (RaisZ (ends K) s 0 []) := Lib.hid (raisZ_nil RL.out (fun u => by have := H1.out u; omega) (fun u => by have := H1.out u; omega))
        clear X XL AW HC H1 hbx hgl hbs
        go_wp2
        go_loopw [84, 13] (fun iv _ wr2 => FoRel (ends K) n g cp w5 wr2 iv) (fun iv _ _ => n - (intOf iv).toNat)
        case atStart => exact ⟨0, _, rfl, by omega, X2.out, RZ.out⟩
        case round =>
          clear X2 RZ
          obtain ⟨r, s, rfl, hr, hX, hS⟩ := hrel
          have X := Lib.hid hX
          have S := Lib.hid hS
          have hgl := hX.gl
          have hbs := hX.below.size
          clear hX hS
          by_cases hlt : r < n
          · go_wp2
            go_loopw [88, 13] (fun iv _ wr2 => FiRel K n r g cp w5 wr2 iv) (fun iv _ _ => K.length - (intOf iv).toNat)
            case atStart => exact ⟨0, s, rfl, by omega, X.out, S.out⟩
            case round =>
              clear X S
              obtain ⟨i, s, rfl, hi4, hX, hS⟩ := hrel
              have X := Lib.hid hX
              have S := Lib.hid hS
              have hgl := hX.gl
              have hbs := hX.below.size
              clear hX hS
              by_cases hil : i < K.length
              · obtain ⟨A', cap', e, _, hA⟩ := AK.out
                simp only [Value.slice.injEq, true_and] at e
                obtain ⟨rfl, rfl⟩ := e
                obtain ⟨b, o, rfl, hb, hcell⟩ := hA (by omega)
                obtain ⟨c0, c1, c2⟩ := hcell i hil
                have d0 := (X.out.below.cell (p := ⟨b, o + i * 3, none⟩) hb).trans c0
                have d1 := (X.out.below.cell (p := ⟨b, o + i * 3 + 1, none⟩) hb).trans c1
                have d2 := (X.out.below.cell (p := ⟨b, o + i * 3 + 2, none⟩) hb).trans c2
                have ok := RM.out.ok K[i] (List.getElem_mem hil)
                have hme := ends_mem5 K i hil
                have he := ends_snoc K i hil
                have HE := Lib.hid he
                have ME := Lib.hid hme
                clear he hme hA hcell c0 c1 c2
                generalize K[i] = a at *
                obtain ⟨f1, u, z⟩ := a
                obtain ⟨f1, rfl⟩ : ∃ m : Nat, f1 = (m : Int) := ⟨f1.toNat, by simp only at ok; omega⟩
                obtain ⟨t, rfl⟩ : ∃ m : Nat, u = (m : Int) := ⟨u.toNat, by simp only at ok; omega⟩
                simp only [Int.toNat_natCast] at ok d0 d1 d2 HE ME
                have hf : f1 < n := by omega
                have ht : t < n := by omega
                clear ok
                have x0 := X.out.cell hf
                have x1 := X.out.cell ht
                have x2 := X.out.fr t
                have hxf := S.out.hi f1
                have hxf2 := S.out.lo f1
                have hxt := S.out.hi t
                have hxt2 := S.out.lo t
                have S2 := Lib.hid (S.out.step RL.out (fun e he => by
                  obtain ⟨a, ha, rfl⟩ := List.mem_map.1 he
                  exact List.mem_map.2 ⟨a, List.mem_of_mem_take ha, rfl⟩) ME.out)
                obtain ⟨m, hm⟩ : ∃ m : Int, max (s t) (s f1 + 1) = m := ⟨_, rfl⟩
                have M := Lib.hid hm
                obtain ⟨p1, hp1⟩ : ∃ p1, s f1 = p1 := ⟨_, rfl⟩
                obtain ⟨p2, hp2⟩ : ∃ p2, s t = p2 := ⟨_, rfl⟩
                rw [hp1] at x0 hxf hxf2 hm
                rw [hp2] at x1 hxt hxt2 hm
                have hq1 : p1 ≤ 200 := by omega
                have hq2 : p2 ≤ 200 := by omega
                clear hxf hxt hp1 hp2
                go_wp2
                refine wp_region_still_tail 16 (by kernel_rfl) (by kernel_rfl) ?_
                simp only [List.take_succ_cons, List.take_zero, List.drop_succ_cons, List.drop_zero]
                change wpStill _ _ (World.drew _) (fun a' => wpList _ _ _ _ a' (World.drew _)) _ _
                repeat still_step
                refine wpStill_nil ?_
                go_wp2
                go_roundw
                case rel =>
                  have X3 := (X.out.set t m).quiet (((Below.refl _ _).alloc (Nat.le_refl _) (.cells #[.int .i64 (f1 : Int), .int .i64 (t : Int), .int .i64 z] 43)).drew)
                  have S3 := S2.out
                  rw [M.out, ← HE.out] at S3
                  exact ⟨i + 1, _, by go_num, by omega, X3, S3⟩
                case measure => simp [intOf]; omega
              · obtain hik : i = K.length := by omega
                subst hik
                have h := S.out
                rw [List.take_length] at h
                have S2 := Lib.hid h.round
                clear h
                go_wp2
                go_roundw
                case rel => exact ⟨r + 1, s, by go_num, by omega, X.out, S2.out⟩
                case measure => simp [intOf]; omega
          · obtain hrn : r = n := by omega
            have hfit := raised_fit RM.out (fun e he => S.out.sat e he (by have := (ends_lt RM.out e he).2; simp at this; omega))
            have hbest := SS.out.best (may_ends RM.out) hfit
            rw [HB.out] at hbest
            have HF := Lib.hid hfit
            have hcm : coordB n ((List.range n).map s) = true := coord_map (fun u hu => by have := S.out.hi u; have := S.out.lo u; omega)
            have HC := Lib.hid hcm
            obtain ⟨c2, hc2⟩ : ∃ c2, costSum ((List.range n).map s) K = c2 := ⟨_, rfl⟩
            rw [hc2] at hbest
            have HC2 := Lib.hid hc2
            have t1 : decide (bs ≤ c2) = true := by simpa using hbest
            have t2 : decide (r < n) = false := by simpa using hlt
            have XL : Hid (IntsAt wr (.slice (some ⟨g, 0, none⟩) n cp) ((List.range n).map s)) := Lib.hid X.out.own.ints
            have AW := Lib.hid (AK.out.below X.out.below)
            clear hfit hcm hc2 hlt hrn hr S
            go_wp2_with (go_at_call 13; refine (refCost n _ _ K ((List.range n).map s) _ RM.out HC.out HF.out AW.out XL.out).mono ?_; rintro e w8 ⟨rfl, hb⟩; rw [HC2.out]; have Q8 := Lib.hid hb; clear hb)
            go_ret
            exact ⟨rfl, BZ.out.trans ((X.out.below.trans (Q8.out.mono hbs)).mono (by omega))⟩
end Go.Proofs.Ytkloaekmjnbacaa

namespace Go.Proofs.Ytkloaekmjnbacaa
open Go.RowKit Go.ChangeShapes Go.WideShapes Go.Deep Go.Proofs.Ytkloaekmjnbacaa.DagM

set_option maxRecDepth 100000 in
theorem best_arg {H : Type} {enc : TypeId × Value → H} {w : World} {v v' : Value} {d d' : DataW H} {p p' : List MemPlace} {spare spare' : Nat → Bool} {held held' : Bool} {b0 b0' : Nat} (hS : SolveSpec) (hU : SupplySpec)
    (hv : Value.okWide Try.prog w .any b0 24 v) (h : DataW.Trod enc Try.prog w 0 spare held 24 v d p)
    (hv' : Value.okWide Try.prog w .any b0' 29 v') (h' : DataW.Trod enc Try.prog w 0 spare' held' 29 v' d' p') :
    Calls Try.prog 4 #[v, v'] w fun e w' => e = .returned (.bool true) ∧ Below w.heap.size w w' := by
  obtain ⟨N, A, len, cap, D, rfl, h0, h1, hT⟩ := raw_open hv h
  obtain ⟨y, hy⟩ := ints_open hv' h'
  exact best hS hU N A len cap D v' y w h0 h1 hT hy
end Go.Proofs.Ytkloaekmjnbacaa
