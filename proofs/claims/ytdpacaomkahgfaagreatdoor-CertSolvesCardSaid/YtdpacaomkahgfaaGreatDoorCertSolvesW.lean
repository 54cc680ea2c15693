/-
  CertSolves: the walk. Conditions: what Solve is asked to leave; the library's table and errors are laid.
-/
import Derived.Test.YtdpacaomkahgfaaGreatDoorCtK
import Derived.Test.YtdpacaomkahgfaaGreatDoorCtM
import Derived.Test.YtdpacaomkahgfaaGreatDoorCrLb
import Derived.Test.YtdpacaomkahgfaaGreatDoorCrLc
namespace Go.Proofs.YtdpacaomkahgfaaGreatDoor
open Go.RowKit Go.Proofs.YtdpacaomkahgfaaGreatDoor.DagM

def SvRel (x : List Int) (d : Int) (w0 wr : World) (lv iv : Value) : Prop := ∃ (j : Nat) (TL : List Int), iv = .int .i64 j ∧ j ≤ x.length ∧ TL = (x.take j).map (fun c => c + d) ∧ Below w0.heap.size w0 wr ∧ OwnI wr w0.heap.size lv TL
theorem mv_snoc (x : List Int) (d : Int) (j : Nat) (h : j < x.length) : (x.take (j + 1)).map (fun c => c + d) = (x.take j).map (fun c => c + d) ++ [x[j] + d] := by
  rw [List.take_succ_eq_append_getElem h, List.map_append]
  rfl
theorem set_range (f : List Int) (r : Nat) (c : Int) : (List.range f.length).map (fun v => if v = r then c else f.getD v 0) = f.set r c := by
  apply List.ext_getElem
  · simp
  · intro i h1 h2
    simp at h1
    simp only [List.getElem_map, List.getElem_range, List.getElem_set]
    by_cases e : i = r
    · rw [if_pos e, if_pos e.symm]
    · rw [if_neg e, if_neg (fun h => e h.symm)]
      simp [List.getD_eq_getElem?_getD, h1]

theorem cert_flowB {n : Nat} {L : List Arc} {x f : List Int} (h : certErr n L x f = 0) : ∀ c ∈ f, 0 ≤ c ∧ c ≤ 1099511627776 := by
  have hne : flowB L f = true := by
    unfold certErr at h
    by_cases h1 : costErr n L x = 0
    · rw [if_pos h1] at h
      by_cases h2 : flowB L f = true
      · exact h2
      · rw [if_neg h2] at h; exact absurd h (by decide)
    · rw [if_neg h1] at h; exact absurd h h1
  exact ((flowB_iff L f).1 hne).2
set_option maxHeartbeats 8000000 in
set_option maxRecDepth 100000 in
theorem solvesLaw (hS : SolveSpec) (N : Int) (A : Option Addr) (len cap : Nat) (D : Nat → Int × Int × Int) (d k : Int) (w : World) (hTb : TabE w) (hN0 : 0 ≤ N) (hN1 : N ≤ 255) (hT : TriAt w A len D) (hd0 : -32768 ≤ d) (hd1 : d ≤ 32767) (hk0 : 0 ≤ k) (hk1 : k ≤ 255) :
    Calls Tryz.prog 5 #[.agg #[.int .u8 N, .slice A len cap], .int .i16 d, .int .u8 k] w fun e w' => e = .returned (.bool true) ∧ Below w.heap.size w w' := by
  have T := Lib.hid hT
  have HT := Lib.hid hTb
  have SV := Lib.hid hS
  clear hT hS hTb
  obtain ⟨i0, hi, hz0, hz1, hz2⟩ := info_parts infoI
  go_enter Tryz.func5, Tryz.ntmps5
  go_wp2_with (first
    | (go_at_call 8; go_loud (refine (make_ N A len cap 30 D _ hN0 hN1 (by omega) (by omega) (T.out.below ((Below.refl _ _).alloc (Nat.le_refl _) _))).mono ?_; rintro e w1 ⟨n, vK, K, rfl, hnm, hRi, hO, hb⟩; obtain ⟨aK, cK, rfl⟩ := hO.form; have OK1 := Lib.hid hO.arcs; have B1 : Hid (Below w.heap.size w w1) := Lib.hid (((Below.refl _ _).alloc (Nat.le_refl _) _).trans (hb.mono (by simp))); have z1 : w.heap.size + 1 ≤ w1.heap.size := (by have := hb.size; simpa using this); have hn1 : 1 ≤ n := hRi.n1; have hKl : K.length ≤ 40 := hRi.len; have RI := Lib.hid hRi; have RO := Lib.hid (hRi.ord (by omega)); clear hRi hO hb))
    | (go_at_call 9; go_loud (refine (SV.out.ok n _ K _ OK1.out RO.out).mono ?_; rintro e w2 ⟨xv, fv, x, f, ways, rfl, hx, hf, hs, hb⟩; obtain ⟨ax, cx, h1⟩ := hx.form; rw [hs.len] at h1; subst h1; obtain ⟨af, cf, h2⟩ := hf.form; rw [hs.flen] at h2; subst h2; have SS := Lib.hid hs; have XI2 := Lib.hid hx.ints; have FI2 := Lib.hid hf.ints; have B2 := Lib.hid (B1.out.trans (hb.mono (by omega))); have z2 : w.heap.size + 1 ≤ w2.heap.size := (by have := hb.size; omega); have AK2 := Lib.hid (OK1.out.below hb); clear hx hf hs hb))
    | (go_at_call 12; go_loud (refine (wakes6 _ (HT.out.below (B2.out.trans ((one_up w2 _).mono (by omega))) (Nat.le_refl _))).mono ?_; rintro e w3 ⟨rfl, hb⟩; have c30 : w3.cell? ⟨w2.heap.size, 0, none⟩ = some (.slice ax n cx) := (hb.cell (p := ⟨w2.heap.size, 0, none⟩) (by simp)).trans (by go_simp); have c31 : w3.cell? ⟨w2.heap.size, 1, none⟩ = some (.slice af K.length cf) := (hb.cell (p := ⟨w2.heap.size, 1, none⟩) (by simp)).trans (by go_simp); have q3 := one_below hb; have B3 := Lib.hid (B2.out.trans (q3.mono (by omega))); have z3 : w2.heap.size + 1 ≤ w3.heap.size := (by have := hb.size; simpa using this); have X3 := Lib.hid (XI2.out.below q3); have F3 := Lib.hid (FI2.out.below q3); have AK3 := Lib.hid (AK2.out.below q3); clear hb q3))
    | (go_at_call 13; have _hz := z3; go_loud (refine (checkC n _ _ _ K x f _ AK3.out X3.out F3.out (by omega)).mono ?_; rintro e w4 ⟨rfl, hb⟩; rw [solved_cert RO.out (by omega) SS.out]; have c40 := (hb.cell (p := ⟨w2.heap.size, 0, none⟩) (show w2.heap.size < w3.heap.size by omega)).trans c30; have c41 := (hb.cell (p := ⟨w2.heap.size, 1, none⟩) (show w2.heap.size < w3.heap.size by omega)).trans c31; have B4 := Lib.hid (B3.out.trans (hb.mono (by omega))); have z4 : w2.heap.size + 1 ≤ w4.heap.size := (by have := hb.size; omega); have X4 := Lib.hid (X3.out.below hb); have F4 := Lib.hid (F3.out.below hb); have AK4 := Lib.hid (AK3.out.below hb); clear hb c30 c31)))
  have hxn := SS.out.len
  have XL := Lib.hid hxn
  have FL := Lib.hid SS.out.flen
  have NX := Lib.hid SS.out.near
  clear hxn T OK1 B1 B2 B3 XI2 FI2 X3 F3 AK2 AK3
  go_loopw [11, 53, 13] (fun lv iv _ wr => SvRel x d w4 wr lv iv) (fun _ iv _ _ => n - (intOf iv).toNat)
  case atStart => exact ⟨0, [], rfl, by omega, rfl, Below.refl _ _, World.ownsRow_nil _ _ _ _⟩
  case round =>
    obtain ⟨j, TL, rfl, hj, hTL, hB, hO⟩ := hrel
    rw [XL.out] at hj
    have B := Lib.hid hB
    have O := Lib.hid hO
    have HTL := Lib.hid hTL
    have hbz := hB.size
    have hll : TL.length ≤ 30 := by rw [hTL]; simp; omega
    obtain ⟨ao, cp, rfl⟩ := hO.form
    clear hB hO hTL
    by_cases hlt : j < n
    · have hltx : j < x.length := by rw [XL.out]; exact hlt
      obtain ⟨bx, ox, cx2, e, hbx, x0⟩ := X4.out.nth hltx
      simp only [Value.slice.injEq] at e
      obtain ⟨rfl, -, rfl⟩ := e
      have d0 := (B.out.cell (p := ⟨bx, ox + j, none⟩) hbx).trans x0
      have hn := NX.out x[j] (List.getElem_mem hltx)
      have RS := Lib.hid (mv_snoc x d j hltx)
      clear x0
      generalize x[j] = u at *
      clear hltx
      obtain ⟨hu0, hu1⟩ := hn
      go_wp2_with (at_builtin; refine wpList_append_fresh rfl (.tmp 57) (.tmp 62) 25 rfl w4.heap.size 3 i0 (.int .i64 0) 1 8 Tryz.underlying25 hi hz0 hz1 hz2 rfl (by decide) (.slice ao TL.length cp) TL.length (TL.map (Value.int .i64)) rfl (O.out.below ((Below.refl _ _).alloc (Nat.le_refl _) _)) ⟨wr.heap.size, 0, none⟩ 1 1 [.int .i64 (u + d)] rfl rfl (newsI _ _ _ _ (by simp)) (oneI _) (by unfold maxLen; omega) (by omega) (by simp; omega) ?_; intro v5 w5 hown hgrow hfr; obtain ⟨o5, b5⟩ := int_app (B.out.trans (((Below.refl _ _).alloc (Nat.le_refl _) _).mono hbz)) (O.out.below ((Below.refl _ _).alloc (Nat.le_refl _) _)) hown hgrow; have O5 := Lib.hid o5; have B5 := Lib.hid b5; clear hown hgrow hfr o5 b5)
      go_roundw
      case rel => exact ⟨j + 1, _, by go_num, by rw [XL.out]; omega, by rw [RS.out, ← HTL.out], B5.out, O5.out⟩
      case measure => simp [intOf]; omega
    · obtain hjk : j = n := by omega
      have htk : TL = x.map (fun c => c + d) := by rw [HTL.out, hjk, ← XL.out, List.take_length]
      have HTK := Lib.hid htk
      have t0 : decide (j < n) = false := by simpa using hlt
      have hc1 : certErr n K TL f = 0 := by rw [htk]; exact moved_cert RO.out (by omega) SS.out ⟨hd0, hd1⟩
      have C1 := Lib.hid hc1
      have d40 := (B.out.cell (p := ⟨w2.heap.size, 0, none⟩) (show w2.heap.size < w4.heap.size by omega)).trans c40
      have d41 := (B.out.cell (p := ⟨w2.heap.size, 1, none⟩) (show w2.heap.size < w4.heap.size by omega)).trans c41
      have AKr := Lib.hid (AK4.out.below B.out)
      have Fr := Lib.hid (F4.out.below B.out)
      have Yr := Lib.hid O.out.ints
      have BR := Lib.hid (B4.out.trans (B.out.mono (by omega)))
      clear htk hlt hjk hj hc1 HTL O B c40 c41 X4 F4 AK4
      by_cases hK : K.length = 0
      · have t1 : ((K.length : Int) == 0) = true := by rw [hK]; rfl
        have t2 : (K.length == 0) = true := by rw [hK]; rfl
        clear hK
        go_wp2_with (go_at_call 13; go_loud (refine (checkC n _ _ _ K TL f _ AKr.out Yr.out Fr.out (by omega)).mono ?_; rintro e w5 ⟨rfl, hb⟩; rw [C1.out]; have B5 := Lib.hid (BR.out.trans (hb.mono (by omega))); clear hb))
        go_ret
        exact ⟨rfl, B5.out⟩
      · have t1 : ((K.length : Int) == 0) = false := by rw [beq_eq_false_iff_ne]; omega
        have t2 : (K.length == 0) = false := by rw [beq_eq_false_iff_ne]; omega
        obtain ⟨r, hr⟩ : ∃ r : Nat, k % (K.length : Int) = (r : Int) := ⟨(k % (K.length : Int)).toNat, by have := Int.emod_nonneg k (b := (K.length : Int)) (by omega); omega⟩
        have hr2 : k.tmod (K.length : Int) = (r : Int) := by rw [Int.tmod_eq_emod_of_nonneg hk0]; exact hr
        have hrm : r < K.length := by have := Int.emod_lt_of_pos k (b := (K.length : Int)) (by omega); omega
        have hrf : r < f.length := by rw [FL.out]; exact hrm
        have hgd : f.getD r 0 = f[r] := by simp [List.getD_eq_getElem?_getD, hrf]
        have ce : certErr n K TL (f.set r (f.getD r 0 - 1)) = 12 ∨ certErr n K TL (f.set r (f.getD r 0 - 1)) = 2 := by
          rw [hgd]
          obtain ⟨_, h2, h3, h4, _⟩ := cert_ok C1.out
          exact less_cert RO.out h2 h3 h4 hrf (fun a ha => by have := RI.out.ok a ha; omega)
        have hpb := cert_flowB C1.out (f.getD r 0) (by rw [hgd]; exact List.getElem_mem hrf)
        obtain ⟨hp0, hp1⟩ := hpb
        have SR := Lib.hid (set_range f r (f.getD r 0 - 1))
        rw [FL.out] at SR
        have HG := Lib.hid (fun (w6 w7 : World) g c (h : XzAt w6 w7 g c K.length (fun u => f.getD u 0)) => h.cell hrm)
        have h40 : ¬ K.length = 0 := hK
        clear hK hgd hrf
        rcases ce with hE | hE
        all_goals
          have E := Lib.hid hE
          clear hE
          generalize hgp : f.getD r 0 = p at *
          clear hgp
          go_upto_region 16 with (first
            | (go_at_call 13; go_loud (refine (checkC n _ _ _ K TL f _ AKr.out Yr.out Fr.out (by omega)).mono ?_; rintro e w5 ⟨rfl, hb⟩; rw [C1.out]; have e41 := (hb.cell (p := ⟨w2.heap.size, 1, none⟩) (show w2.heap.size < wr.heap.size by omega)).trans d41; have B5 := Lib.hid hb; have z5 := hb.size; have F5 := Lib.hid (Fr.out.below hb); clear hb))
            | (go_at_call 10; go_loud (refine (cloneI _ f _ F5.out (by rw [FL.out]; omega)).mono ?_; rintro e w6 ⟨v6, rfl, ho, hb⟩; obtain ⟨g, cp6, h6, hx6⟩ := ho.xz hb (by rw [FL.out]; omega); rw [FL.out] at h6 hx6; subst h6; have X6 := Lib.hid hx6; have l0 := HG.out _ _ _ _ hx6; have l1 := hx6.fr r; have hgl := hx6.gl; clear ho hb hx6)))
          clear e41 F5
          have x7 := X6.out.set r (p - 1)
          have i7 := x7.own.ints
          rw [SR.out] at i7
          have b7 := B5.out.trans (x7.below.mono z5)
          have I7 := Lib.hid i7
          have B7 := Lib.hid b7
          clear x7 i7 b7
          go_wp2_with (go_at_call 13; go_loud (refine (checkC n _ _ _ K TL (f.set r (p - 1)) _ (AKr.out.below B7.out) (Yr.out.below B7.out) I7.out (by omega)).mono ?_; rintro e w8 ⟨rfl, hb⟩; rw [E.out]; have B8 := Lib.hid (BR.out.trans ((B7.out.trans (hb.mono B7.out.size)).mono (by omega))); clear hb))
          go_ret
          exact ⟨rfl, B8.out⟩
end Go.Proofs.YtdpacaomkahgfaaGreatDoor
