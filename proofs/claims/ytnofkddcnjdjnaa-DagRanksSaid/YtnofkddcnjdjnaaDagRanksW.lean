/-
  DagRanks: the walk; its arguments opened. Conditions: none (numbers within their types).
-/
import Derived.Test.YtnofkddcnjdjnaaDagY
namespace Go.Proofs.Ytnofkddcnjdjnaa
open Go.RowKit Go.Proofs.Ytnofkddcnjdjnaa.DagM Go.ChangeShapes Go.WideShapes Go.Deep

theorem IntsAt.take {w : World} {A : Option Addr} {n cap : Nat} {L : List Int} (h : IntsAt w (.slice A n cap) L) {m : Nat} (hm : m ≤ L.length) : IntsAt w (.slice A m cap) (L.take m) := by
  obtain ⟨A', cap', e, hc, hA⟩ := h
  simp only [Value.slice.injEq] at e
  obtain ⟨rfl, rfl, rfl⟩ := e
  refine ⟨A, cap, by rw [List.length_take, Nat.min_eq_left hm], by rw [List.length_take, Nat.min_eq_left hm]; omega, fun h0 => ?_⟩
  obtain ⟨b, o, rfl, hb, hcell⟩ := hA (by rw [List.length_take, Nat.min_eq_left hm] at h0; omega)
  refine ⟨b, o, rfl, hb, fun k hk => ?_⟩
  have hk2 : k < L.length := by rw [List.length_take] at hk; omega
  rw [List.getElem_take]
  exact hcell k hk2
def RkL (n : Nat) (wb wr : World) (lv iv : Value) : Prop := ∃ (k : Nat) (X : List Int), iv = .int .i64 k ∧ k ≤ n ∧ X.length = k ∧ (∀ v ∈ X, -1000 ≤ v ∧ v ≤ 1000) ∧ Below wb.heap.size wb wr ∧ OwnI wr wb.heap.size lv X

set_option maxHeartbeats 16000000 in
set_option maxRecDepth 100000 in
theorem ranksLaw (N : Int) (A : Option Addr) (len cap : Nat) (D : Nat → Int × Int × Int) (xv : Value) (xs : List Int) (w : World) (hN0 : 0 ≤ N) (hN1 : N ≤ 255) (hT : TriAt w A len D) (hX : IntsAt w xv xs) :
    Calls Try.prog 6 #[.agg #[.int .u8 N, .slice A len cap], xv] w fun e w' => e = .returned (.bool true) ∧ Below w.heap.size w w' := by
  have T := Lib.hid hT
  clear hT
  obtain ⟨i0, hi, hz0, hz1, hz2⟩ := info_parts infoI
  have hX2 := hX
  obtain ⟨Ax, cx, rfl, hcx, -⟩ := hX
  obtain ⟨m, hm⟩ : ∃ m : Nat, min (xs.length : Int) 40 = (m : Int) := ⟨min xs.length 40, by omega⟩
  have hm1 : m ≤ xs.length := by omega
  have hm2 : m ≤ 40 := by omega
  have hmc : m ≤ cx := by omega
  have hX3 := hX2.take hm1
  have hxl : (xs.take m).length = m := by rw [List.length_take, Nat.min_eq_left hm1]
  generalize xs.take m = x at *
  have XS := Lib.hid hX3
  have HXL := Lib.hid hxl
  clear hX2 hX3 hxl
  have hxl40 : x.length ≤ 40 := by rw [HXL.out]; exact hm2
  go_enter Try.func6, Try.ntmps6
  go_wp2_with (first
    | (go_at_call 37; refine (ranks _ x _ (XS.out.below ((Below.refl _ _).alloc (Nat.le_refl _) _)) (by omega)).mono ?_; rintro e w1 ⟨v1, rfl, ho, hb⟩; have O1 := Lib.hid ho; have B1 : Hid (Below w.heap.size w w1) := Lib.hid (((Below.refl _ _).alloc (Nat.le_refl _) _).trans (hb.mono (by simp))); have z1 : w.heap.size + 1 ≤ w1.heap.size := (by have := hb.size; simpa using this); have box1 : w1.cell? ⟨w.heap.size, 0, none⟩ = some (.int .u8 N) := (by rw [hb.cell (p := ⟨w.heap.size, 0, none⟩) (by simp)]; simp); have box2 : w1.cell? ⟨w.heap.size, 1, none⟩ = some (.slice A len cap) := (by rw [hb.cell (p := ⟨w.heap.size, 1, none⟩) (by simp)]; simp); have X1 := Lib.hid box1; have X2 := Lib.hid box2; clear ho hb box1 box2)
    | (go_at_call 38; refine (refRanks _ x _ (XS.out.below B1.out) (by omega)).mono ?_; rintro e w2 ⟨v2, rfl, ho, hb⟩; have O2 := Lib.hid ho; have O1' := Lib.hid (O1.out.below hb); have B2 : Hid (Below w.heap.size w w2) := Lib.hid (B1.out.trans (hb.mono (by omega))); have z2 : w.heap.size + 1 ≤ w2.heap.size := (by have := hb.size; omega); have X3 := Lib.hid ((hb.cell (p := ⟨w.heap.size, 0, none⟩) (by simp; omega)).trans X1.out); have X4 := Lib.hid ((hb.cell (p := ⟨w.heap.size, 1, none⟩) (by simp; omega)).trans X2.out); clear ho hb)
    | (go_at_call 28; refine (equalI _ _ (castI (rkL x)) (castI (rkL x)) _ O1'.out.ints O2.out.ints (by simp [castI, rkL]; omega) (by simp [castI, rkL]; omega)).mono ?_; rintro e w3 ⟨rfl, hb⟩; rw [show (castI (rkL x) == castI (rkL x)) = true by simp]; have B3 : Hid (Below w.heap.size w w3) := Lib.hid (B2.out.trans (hb.mono (by omega))); have z3 : w.heap.size + 1 ≤ w3.heap.size := (by have := hb.size; omega); have q0 := (hb.cell (p := ⟨w.heap.size, 0, none⟩) (by simp; omega)).trans X3.out; have q1 := (hb.cell (p := ⟨w.heap.size, 1, none⟩) (by simp; omega)).trans X4.out; clear hb)
    | (go_at_call 31; refine (make_ N A len cap 10 D _ hN0 hN1 (by decide) (by decide) (T.out.below B3.out)).mono ?_; rintro e w4 ⟨n, vK, K, rfl, hn10, hRi, hO, hb⟩; obtain ⟨aK, cK, rfl⟩ := hO.form; have R := Lib.hid hRi; have hn1 : 1 ≤ n := hRi.n1; have AK := Lib.hid hO.arcs; have B4 : Hid (Below w.heap.size w w4) := Lib.hid (B3.out.trans (hb.mono (by omega))); have z4 : w.heap.size + 1 ≤ w4.heap.size := (by have := hb.size; omega); clear hRi hO hb))
  clear hm
  obtain ⟨wb, hwb⟩ : ∃ W, W = w4 := ⟨_, rfl⟩
  subst hwb
  go_loopw [7, 28] (fun lv iv wr => RkL n wb wr lv iv) (fun _ iv _ => n - (intOf iv).toNat)
  case atStart => exact ⟨0, [], rfl, by omega, rfl, fun v hv => by simp at hv, Below.refl _ _, World.ownsRow_nil _ _ _ _⟩
  case round =>
    obtain ⟨k, X, rfl, hk, hXl, hXb, hB, hO⟩ := hrel
    have B := Lib.hid hB
    have O := Lib.hid hO
    have XL := Lib.hid hXl
    have XB := Lib.hid hXb
    have hwz := hB.size
    have hX10 : X.length ≤ 10 := by omega
    obtain ⟨ao, cp, e⟩ := hO.form
    subst e
    clear hB hO hXl hXb
    by_cases hlt : k < n
    · by_cases hx : k < m
      · obtain ⟨bx, ox, cx', e, hbx, x0⟩ := XS.out.at_ (by rw [HXL.out]; exact hx)
        simp only [Value.slice.injEq] at e
        obtain ⟨rfl, -, rfl⟩ := e
        have x1 := ((B4.out.trans (B.out.mono (by omega))).cell (p := ⟨bx, ox + k, none⟩) hbx).trans x0
        clear x0
        generalize val x k = u at *
        obtain ⟨z, hz⟩ : ∃ z : Int, u.tmod 10 = z := ⟨_, rfl⟩
        have hza : -9 ≤ z ∧ z ≤ 9 := by have h1 := Int.lt_tmod_of_pos u (b := 10) (by omega); have h2 := Int.tmod_lt_of_pos u (b := 10) (by omega); omega
        obtain ⟨hza1, hza2⟩ := hza
        go_wp2_with (at_builtin; refine wpList_append_fresh rfl (.tmp 44) (.tmp 46) 51 rfl wb.heap.size 3 i0 (.int .i64 0) 1 8 Try.underlying51 hi hz0 hz1 hz2 rfl (by decide) (.slice ao X.length cp) X.length (X.map (Value.int .i64)) rfl (O.out.below ((Below.refl _ _).alloc (Nat.le_refl _) _)) ⟨wr.heap.size, 0, none⟩ 1 1 [.int .i64 (10 * (k : Int) + z)] rfl rfl (newsI _ _ _ _ (by simp)) (oneI _) (by unfold maxLen; omega) (by omega) (by simp; omega) ?_; intro v5 w5 hown hgrow hfr; obtain ⟨o5, b5⟩ := int_app (B.out.trans (((Below.refl _ _).alloc (Nat.le_refl _) _).mono hwz)) (O.out.below ((Below.refl _ _).alloc (Nat.le_refl _) _)) hown hgrow; have O5 := Lib.hid o5; have B5 := Lib.hid b5; obtain ⟨g5, c5, rfl, _, _, _⟩ := ownsRow_form hown (by omega); clear hown hgrow hfr o5 b5)
        go_roundw
        case rel =>
          refine ⟨k + 1, X ++ [10 * (k : Int) + z], by go_num, by omega, by simp [XL.out], fun v hv => ?_, B5.out, O5.out⟩
          rcases List.mem_append.1 hv with hv | hv
          · exact XB.out v hv
          · obtain rfl := List.mem_singleton.1 hv
            omega
        case measure => simp [intOf]; omega
      · skip
        go_wp2_with (at_builtin; refine wpList_append_fresh rfl (.tmp 44) (.tmp 46) 51 rfl wb.heap.size 3 i0 (.int .i64 0) 1 8 Try.underlying51 hi hz0 hz1 hz2 rfl (by decide) (.slice ao X.length cp) X.length (X.map (Value.int .i64)) rfl (O.out.below ((Below.refl _ _).alloc (Nat.le_refl _) _)) ⟨wr.heap.size, 0, none⟩ 1 1 [.int .i64 (10 * (k : Int))] rfl rfl (newsI _ _ _ _ (by simp)) (oneI _) (by unfold maxLen; omega) (by omega) (by simp; omega) ?_; intro v5 w5 hown hgrow hfr; obtain ⟨o5, b5⟩ := int_app (B.out.trans (((Below.refl _ _).alloc (Nat.le_refl _) _).mono hwz)) (O.out.below ((Below.refl _ _).alloc (Nat.le_refl _) _)) hown hgrow; have O5 := Lib.hid o5; have B5 := Lib.hid b5; obtain ⟨g5, c5, rfl, _, _, _⟩ := ownsRow_form hown (by omega); clear hown hgrow hfr o5 b5)
        go_roundw
        case rel =>
          refine ⟨k + 1, X ++ [10 * (k : Int)], by go_num, by omega, by simp [XL.out], fun v hv => ?_, B5.out, O5.out⟩
          rcases List.mem_append.1 hv with hv | hv
          · exact XB.out v hv
          · obtain rfl := List.mem_singleton.1 hv
            omega
        case measure => simp [intOf]; omega
    · obtain hkn : n = k := by omega
      subst hkn
      clear hlt hk
      have MY := Lib.hid (R.out.may (by omega))
      have hco : coordB n X = true := coord_of XL.out (fun v hv => by have := XB.out v hv; omega)
      have HCO := Lib.hid hco
      have AW := Lib.hid (AK.out.below B.out)
      have IW := Lib.hid O.out.ints
      have BZ := Lib.hid (B4.out.trans (B.out.mono (by omega)))
      have hbz := BZ.out.size
      clear hco
      cases hf : fitB X K with
      | false =>
        have HF := Lib.hid hf
        clear hf
        go_wp2_with (first
          | (go_at_call 35; refine (refFit n _ _ K X _ MY.out (by rw [XL.out]) AW.out IW.out).mono ?_; rintro e w6 ⟨rfl, hb⟩; rw [HF.out]; have Q1 := Lib.hid hb; clear hb)
          | (go_at_call 30; refine (wakes _).mono ?_; rintro e w9 ⟨rfl, hb⟩; have Q2 := Lib.hid (Q1.out.trans (hb.mono Q1.out.size)); clear hb))
        go_ret
        exact ⟨rfl, BZ.out.trans (Q2.out.mono hbz)⟩
      | true =>
        have HF := Lib.hid hf
        obtain ⟨r1, r2, r3⟩ := ranks_fit MY.out (by rw [XL.out]) hf
        have R1 := Lib.hid r1
        have hrl : (castI (rkL X)).length = n := by simp only [castI, rkL, List.length_map]; exact XL.out
        have hrc : coordB n (castI (rkL X)) = true := coord_of hrl (fun v hv => by
          simp only [castI, rkL, List.mem_map] at hv
          obtain ⟨u, ⟨y, _, rfl⟩, rfl⟩ := hv
          have := rk_le X y
          omega)
        have HRL := Lib.hid hrl
        have HRC := Lib.hid hrc
        clear hf r1 hrl hrc r3
        generalize hS1 : costSum (castI (rkL X)) K = s1 at *
        generalize hS2 : costSum X K = s2 at *
        have S1 := Lib.hid hS1
        have S2 := Lib.hid hS2
        clear hS1 hS2
        go_wp2_with (first
          | (go_at_call 35; refine (refFit n _ _ K (castI (rkL X)) _ MY.out (by rw [HRL.out]) (AW.out.below Q3.out) (O3.out.ints.below Q3b.out)).mono ?_; rintro e w8 ⟨rfl, hb⟩; rw [R1.out]; have Q4 := Lib.hid (Q3.out.trans (hb.mono Q3.out.size)); have Q4b := Lib.hid (Q3b.out.trans (hb.mono Q3b.out.size)); clear hb)
          | (go_at_call 35; refine (refFit n _ _ K X _ MY.out (by rw [XL.out]) AW.out IW.out).mono ?_; rintro e w6 ⟨rfl, hb⟩; rw [HF.out]; have Q1 := Lib.hid hb; clear hb)
          | (go_at_call 37; refine (ranks _ X _ (IW.out.below Q1.out) (by omega)).mono ?_; rintro e w7 ⟨v7, rfl, ho, hb⟩; obtain ⟨a7, c7, h7⟩ := ho.form; rw [HRL.out] at h7; subst h7; have O3 := Lib.hid ho; have Q2 := Lib.hid (Q1.out.trans (hb.mono Q1.out.size)); clear ho hb)
          | (go_at_call 30; refine (wakes _).mono ?_; rintro e w9 ⟨rfl, hb⟩; have Q3 := Lib.hid (Q2.out.trans (hb.mono Q2.out.size)); have Q3b := Lib.hid hb; clear hb)
          | (go_at_call 36; refine (refCost n _ _ K X _ MY.out HCO.out HF.out (AW.out.below Q5.out) (IW.out.below Q5.out)).mono ?_; rintro e w11 ⟨rfl, hb⟩; rw [S2.out]; have Q6 := Lib.hid (Q5.out.trans (hb.mono Q5.out.size)); clear hb)
          | (go_at_call 36; refine (refCost n _ _ K (castI (rkL X)) _ MY.out HRC.out R1.out (AW.out.below Q4.out) (O3.out.ints.below Q4b.out)).mono ?_; rintro e w10 ⟨rfl, hb⟩; rw [S1.out]; have Q5 := Lib.hid (Q4.out.trans (hb.mono Q4.out.size)); clear hb))
        go_ret
        exact ⟨rfl, BZ.out.trans (Q6.out.mono hbz)⟩

set_option maxRecDepth 100000 in
theorem ranks_arg {H : Type} {enc : TypeId × Value → H} {w : World} {v v' : Value} {d d' : DataW H} {p p' : List MemPlace} {spare spare' : Nat → Bool} {held held' : Bool} {b0 b0' : Nat}
    (hv : Value.okWide Try.prog w .any b0 62 v) (h : DataW.Trod enc Try.prog w 0 spare held 62 v d p)
    (hv' : Value.okWide Try.prog w .any b0' 51 v') (h' : DataW.Trod enc Try.prog w 0 spare' held' 51 v' d' p') :
    Calls Try.prog 6 #[v, v'] w fun e w' => e = .returned (.bool true) ∧ Below w.heap.size w w' := by
  obtain ⟨N, A, len, cap, D, rfl, h0, h1, hT⟩ := raw_open hv h
  obtain ⟨x, hx⟩ := ints_open hv' h'
  exact ranksLaw N A len cap D v' x w h0 h1 hT hx
end Go.Proofs.Ytnofkddcnjdjnaa
