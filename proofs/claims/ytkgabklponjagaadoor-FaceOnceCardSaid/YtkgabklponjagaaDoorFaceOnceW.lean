/-
  FaceOnce: the walk: at all places the call answers true and turns nothing that was there. Conditions: the ways read as the program lays them.
-/
import Derived.Test.YtkgabklponjagaaDoorFaceSumsW
import Derived.Test.YtkgabklponjagaaDoorFcN
import Derived.Test.YtkgabklponjagaaDoorFcV
import Derived.BigRegion
namespace Go.Proofs.YtkgabklponjagaaDoor
open Go.RowKit Go.Proofs.YtkgabklponjagaaDoor.GrM Go.Proofs.YtkgabklponjagaaDoor.FcM

theorem not_before {M x : List Nat} (h : (M ++ x).Nodup) {j : Nat} (hj : j < x.length) : x.getD j 0 ∉ M ++ x.take j := by
  have e : M ++ x = (M ++ x.take j) ++ (x.getD j 0 :: x.drop (j + 1)) := by
    rw [List.append_assoc, List.getD_eq_getElem?_getD, List.getElem?_eq_getElem hj]
    simp only [Option.getD_some]
    rw [List.getElem_cons_drop, List.take_append_drop]
  rw [e, List.nodup_append] at h
  intro hin
  exact absurd rfl (h.2.2 _ hin _ (by simp))
def OnA (F : List (List Nat)) (m mb : Nat) (w0 wr : World) (iv : Value) : Prop := ∃ i : Nat, iv = .int .i64 i ∧ i ≤ m ∧ CntAt wr mb ((F.take i).flatten.map pairK) ∧ Below w0.heap.size w0 wr
def OnC (L : List Int) (n : Nat) (w0 wr : World) (cv iv : Value) : Prop := ∃ v : Nat, iv = .int .i64 v ∧ v ≤ n ∧ cv = .int .i64 ((dartsT L (4 * v)).length : Nat) ∧ Below w0.heap.size w0 wr
def OnD (L : List Int) (v : Nat) (w0 wr : World) (cv iv : Value) : Prop := ∃ d : Nat, iv = .int .i64 d ∧ d ≤ 4 ∧ cv = .int .i64 ((dartsT L (4 * v + d)).length : Nat) ∧ Below w0.heap.size w0 wr
def OnB (M x : List Nat) (n mb : Nat) (w0 wr : World) (jv : Value) : Prop := ∃ j : Nat, jv = .int .i64 j ∧ j ≤ n ∧ CntAt wr mb ((M ++ x.take j).map pairK) ∧ Below w0.heap.size w0 wr
set_option maxHeartbeats 16000000 in
set_option maxRecDepth 100000 in
theorem once12 {A1 A2 A3 : Option Addr} {n1 n2 n3 : Nat} (c1 c2 c3 : Nat) {D1 D2 D3 : Nat → Int} (w : World) (h : Plane w A1 A2 A3 n1 n2 n3 D1 D2 D3) (hT : WayT w) :
    Calls Tryd.prog 4 #[.agg #[.slice A1 n1 c1, .slice A2 n2 c2, .slice A3 n3 c3]] w fun e w' => e = .returned (.bool true) ∧ Below w.heap.size w w' := by
  have HP := Lib.hid h
  have HT := Lib.hid hT
  have WK := Lib.hid (fun w hT => wakes12 w hT)
  have hmm := @run_makeMap Tryd.prog
  clear h hT
  go_enter Tryd.func4, Tryd.ntmps4
  go_upto_region 1 with (fail)
  obtain ⟨wb, hwb⟩ : ∃ W, W = (w.alloc (.cells #[.slice A1 n1 c1, .slice A2 n2 c2, .slice A3 n3 c3] 25)) := ⟨_, rfl⟩
  have BB : Hid (Below w.heap.size w wb) := Lib.hid (by rw [hwb]; exact (Below.refl _ _).alloc (Nat.le_refl _) _)
  have x0 : wb.cell? ⟨w.heap.size, 0, none⟩ = some (.slice A1 n1 c1) := by rw [hwb]; go_simp
  have x1 : wb.cell? ⟨w.heap.size, 1, none⟩ = some (.slice A2 n2 c2) := by rw [hwb]; go_simp
  have x2 : wb.cell? ⟨w.heap.size, 2, none⟩ = some (.slice A3 n3 c3) := by rw [hwb]; go_simp
  have hgb : w.heap.size < wb.heap.size := by rw [hwb]; simp
  have MK := Lib.hid (makeN 20 (by decide) c1 c2 c3 (HP.out.below BB.out))
  rw [← hwb]
  clear hwb
  go_upto_region 2 with (go_at_call 8; refine MK.out.mono ?_; rintro e w1 ⟨N, L, A, c, pv, rfl, o1, hg, hN, b1⟩; have O1 := Lib.hid (OwnG.cel o1); have HG := Lib.hid hg; have B1 := Lib.hid (BB.out.trans (b1.mono BB.out.size)); clear o1 hg b1)
  have H0 : Hid (chkG L N = 0) := Lib.hid (good_chk HG.out (by omega))
  clear x0 x1 x2 hgb MK HP
  obtain ⟨F, hF⟩ : ∃ F, facesK L N = F := ⟨_, rfl⟩
  have HF := Lib.hid hF
  have FG := facesGood (.slice A N c) L N w1 O1.out (by omega) (HT.out.below B1.out (Nat.le_refl _)) H0.out
  unfold FacesP at FG
  rw [hF] at FG
  obtain ⟨m, hm⟩ : ∃ m, F.length = m := ⟨_, rfl⟩
  have HM := Lib.hid hm
  rw [hm] at FG
  have HFG := Lib.hid FG
  have FI := faces_is HG.out
  rw [hF] at FI
  have hfl : F.flatten.length ≤ 80 := by have := FI.met.len; omega
  have HFL := Lib.hid hfl
  have HFI := Lib.hid FI
  have hml : m ≤ 80 := by
    have := facs_len L N (4 * N)
    rw [show facS L N (4 * N) = F from hF, hm] at this
    omega
  clear hF FG hm FI hfl
  go_upto_region 5 with (first
    | (go_at_call 11; refine (WK.out _ (HT.out.below B2.out (Nat.le_refl _))).mono ?_; rintro e w3 ⟨rfl, b3⟩; have B3 := Lib.hid (B2.out.trans (b3.mono B2.out.size)); have O3 := Lib.hid (O2.out.below b3 (Nat.le_refl _)); have L3 := Lib.hid (L2.out.below b3 (Nat.le_refl _)); clear b3)
    | (go_at_call 9; refine HFG.out.mono ?_; rintro e w2 ⟨A2, c2, rfl, o2, b2⟩; have O2 := Lib.hid o2.fcs; have B2 := Lib.hid (B1.out.trans (b2.mono B1.out.size)); have L2 := Lib.hid (O1.out.below b2 (Nat.le_refl _)); clear o2 b2))
  go_wp2_with fail
  clear hmm
  obtain ⟨mb, hmb⟩ : ∃ x, w3.heap.size = x := ⟨_, rfl⟩
  have HMB := Lib.hid hmb
  have S0 : Hid (CntAt (w3.alloc (.map #[] 0)) mb []) := Lib.hid (by rw [← hmb]; exact CntAt.made w3)
  rw [hmb]
  clear hmb
  go_loopw [38] (fun iv wr => OnA F m mb w3 wr iv) (fun iv _ => m - (intOf iv).toNat)
  case atStart => exact ⟨0, rfl, Nat.zero_le _, S0.out, (Below.refl _ _).alloc (Nat.le_refl _) _⟩
  case round =>
    clear S0
    obtain ⟨i, rfl, hi, hC, hB⟩ := hrel
    have C := Lib.hid hC
    have B := Lib.hid hB
    have BW := Lib.hid (B3.out.trans (hB.mono B3.out.size))
    obtain ⟨wo, hwo⟩ : ∃ W, W = wr := ⟨_, rfl⟩
    subst hwo
    by_cases hlt : i < m
    · have q0 : decide (i < m) = true := decide_eq_true hlt
      obtain ⟨b, o, c9, s, e, hb3, hs3, hp⟩ := O3.out.nth hlt
      have hs := (hB.cell (p := ⟨b, o + i, none⟩) hb3).trans hs3
      have hb := Nat.lt_of_lt_of_le hb3 hB.size
      simp only [Value.slice.injEq, true_and] at e
      obtain ⟨rfl, rfl⟩ := e
      have hil : i < F.length := by rw [HM.out]; exact hlt
      rw [pairF_at hil] at hp
      have hxF : F.getD i [] ∈ F := by rw [List.getD_eq_getElem?_getD, List.getElem?_eq_getElem hil]; exact List.getElem_mem hil
      have hxd : ∀ k ∈ F.getD i [], isK L N k := fun k hk => HFI.out.met.2 k (List.mem_flatten.2 ⟨_, hxF, hk⟩)
      have hcyc := HFI.out.cyc _ hxF
      have hlst := HFI.out.least _ hxF
      have TF := take_flat hil
      have fl1 := flat_le (F := F) (i + 1)
      rw [TF, List.length_append] at fl1
      have hfl := HFL.out
      have hnd : ((F.take (i + 1)).flatten).Nodup := by
        have h1 : (F.take (i + 1)).flatten.Sublist F.flatten := by
          conv => rhs; rw [← List.take_append_drop (i + 1) F]
          rw [List.flatten_append]
          exact List.sublist_append_left _ _
        exact HFI.out.met.1.sublist h1
      rw [TF] at hnd
      obtain ⟨M, hM⟩ : ∃ M, (F.take i).flatten = M := ⟨_, rfl⟩
      obtain ⟨x, hx⟩ : ∃ x, F.getD i [] = x := ⟨_, rfl⟩
      rw [hx] at hp hxd hcyc hlst TF fl1 hnd
      rw [hM] at TF fl1 hnd C
      obtain ⟨AG, cg, e, h2⟩ := hp
      have hp : PtsAt w3 s (x.map pairK) := ⟨AG, cg, e, h2⟩
      rw [List.length_map] at e
      subst e
      obtain ⟨nx, hnx⟩ : ∃ k, x.length = k := ⟨_, rfl⟩
      have HK := Lib.hid hnx
      rw [hnx] at hs hp fl1
      clear hs3 hb3
      have hnx0 : 0 < nx := by rw [← hnx]; exact List.length_pos_iff.2 hcyc.1
      have HTF := Lib.hid TF
      have HXD := Lib.hid hxd
      have HCY := Lib.hid hcyc
      have HLS := Lib.hid hlst
      have HND := Lib.hid hnd
      have XP := Lib.hid hp
      clear hx hM hxd hcyc hlst TF hnd h2 hp hnx hil hxF hC hB
      go_wp2_with fail
      clear hs hb
      go_loopw [44] (fun jv wr => OnB M x nx mb w3 wr jv) (fun jv _ => nx - (intOf jv).toNat)
      case atStart => exact ⟨0, rfl, Nat.zero_le _, by rw [List.take_zero, List.append_nil]; exact C.out, B.out⟩
      case round =>
        clear C
        obtain ⟨j, rfl, hj, hC, hD⟩ := hrel
        have C := Lib.hid hC
        have D := Lib.hid hD
        by_cases hjt : j < nx
        · have q1 : decide (j < nx) = true := decide_eq_true hjt
          obtain ⟨A9, k9, e, -, hA⟩ := XP.out.below D.out (Nat.le_refl _)
          rw [List.length_map, HK.out] at e
          simp only [Value.slice.injEq, true_and] at e
          obtain ⟨rfl, rfl⟩ := e
          obtain ⟨p, u, rfl, hp, hx⟩ := hA (by rw [List.length_map, HK.out]; omega)
          have hjx : j < x.length := by rw [HK.out]; exact hjt
          obtain ⟨f0, f1⟩ := hx j (by rw [List.length_map]; exact hjx)
          rw [map_pair_at hjx] at f0 f1
          have hkd := HXD.out _ (getD_mem hjx)
          have hnotin : x.getD j 0 ∉ M ++ x.take j := not_before HND.out hjx
          obtain ⟨k, hk⟩ : ∃ k, x.getD j 0 = k := ⟨_, rfl⟩
          have HXJ := Lib.hid hk
          rw [hk] at f0 f1 hkd hnotin
          have WF := Lib.hid (wfPair (n := N) (by omega) hkd.1)
          obtain ⟨P, hP⟩ : ∃ P, pairK k = P := ⟨_, rfl⟩
          rw [hP] at f0 f1 WF
          obtain ⟨p0, hp0⟩ : ∃ z, P.1 = z := ⟨_, rfl⟩
          obtain ⟨p1, hp1⟩ : ∃ z, P.2 = z := ⟨_, rfl⟩
          rw [hp0] at f0
          rw [hp1] at f1
          have PE := Lib.hid (And.intro hp0 hp1)
          have HP := Lib.hid hP
          clear hP hp0 hp1 hk hA hx hjx
          go_upto_region 12 with fail
          obtain ⟨wa, hwa⟩ : ∃ X, X = (wr.alloc (.cells #[.int .i64 p0, .int .i64 p1] 28)) := ⟨_, rfl⟩
          have ba : Below wr.heap.size wr wa := by rw [hwa]; exact (Below.refl _ _).alloc (Nat.le_refl _) _
          have BA : Hid (Below wr.heap.size wr wa.drew) := Lib.hid ba.drew
          have g0 : wa.cell? ⟨wr.heap.size, 0, none⟩ = some (.int .i64 p0) := by rw [hwa]; go_simp
          have g1 : wa.cell? ⟨wr.heap.size, 1, none⟩ = some (.int .i64 p1) := by rw [hwa]; go_simp
          have hza : wr.heap.size < wa.heap.size := by rw [hwa]; simp
          have CA : Hid (CntAt wa mb ((M ++ x.take j).map pairK)) := Lib.hid (C.out.below ba (Nat.le_refl _))
          rw [← hwa]
          clear hwa ba f0 f1
          have hpin : P ∉ (M ++ x.take j).map pairK := fun h => by
            obtain ⟨q, hq, he⟩ := List.mem_map.1 h
            rw [← HP.out] at he
            have := congrArg dkN he
            rw [dk_pair, dk_pair] at this
            exact hnotin (this ▸ hq)
          have hlen : ((M ++ x.take j).map pairK).length < 1000000 := by
            rw [List.length_map, List.length_append, List.length_take]; omega
          have CD : CntAt wa.drew mb ((M ++ x.take j).map pairK) := CA.out.below ((Below.refl _ _).drew) (Nat.le_refl _)
          obtain ⟨st, wc, wd, r1, r2, r3, c3, gd, gc⟩ := CD.incr WF.out hpin hlen
          have r0 := CD.look WF.out
          rw [if_neg hpin] at r0
          rw [PE.out.1, PE.out.2] at r0 r1 r2
          have s1 : (Instr.mapEntry 54 (.map (some mb)) (.agg #[.int .i64 p0, .int .i64 p1])).run Tryd.prog wa.drew = .ok (.tuple #[.int .i64 0, .int .i64 st]) wc := r1
          have s3 : (Instr.entryStore 54 (.map (some mb)) (.int .i64 st) (.int .i64 1)).run Tryd.prog wc = .ok () wd := r3
          have C3 := Lib.hid c3
          have GD := Lib.hid gd
          have GC := Lib.hid gc
          clear hpin hlen CD c3 gd gc hnotin r1 r3
          go_region
          have hmbr : mb < wr.heap.size := C.out.lt
          have od : Out (fun b => b = mb) wa.drew wd := (Out.refl _ _).grown GD.out (fun _ _ e => by cases e; rfl)
          have hza' : wr.heap.size < wa.drew.heap.size := hza
          have h0 : wd.cell? ⟨wr.heap.size, 0, none⟩ = some (.int .i64 p0) := (od.cell (b := wr.heap.size) 0 hza' (by omega)).trans g0
          have h1 : wd.cell? ⟨wr.heap.size, 1, none⟩ = some (.int .i64 p1) := (od.cell (b := wr.heap.size) 1 hza' (by omega)).trans g1
          have hz := Nat.lt_of_lt_of_le hza' od.size
          have BD : Hid (Below w3.heap.size w3 wd) := Lib.hid (by
            refine (D.out.trans ?_).trans (od.below ?_ ?_)
            · exact BA.out.mono D.out.size
            · exact Nat.le_trans D.out.size (Nat.le_of_lt hza')
            · intro i _ e; subst e; rw [HMB.out]; exact Nat.le_refl _)
          have hok := okQ_dart H0.out hkd
          have NX := nextAny (.slice A N c) L N P wd (L3.out.below BD.out (Nat.le_refl _)) (by omega) (HT.out.below (B3.out.trans (BD.out.mono B3.out.size)) (Nat.le_refl _))
          have hbh : bhQ L N P = pairK (behK L k) := by rw [← HP.out]; unfold bhQ; rw [if_pos hok, dk_pair]
          rw [HP.out] at hok
          rw [hok, hbh, PE.out.1, PE.out.2] at NX
          have HNX := Lib.hid NX
          obtain ⟨tq, htq⟩ : ∃ z, trQ L N P = z := ⟨_, rfl⟩
          rw [htq] at HNX
          clear NX hok hbh htq g0 g1 hza od hza' r0 r2 s1 s3
          go_upto_region 14 with (go_at_call 18; refine HNX.out.mono ?_; rintro e w5 ⟨rfl, b5⟩; have B5 := Lib.hid b5; clear b5)
          obtain ⟨j1, hj1⟩ : ∃ j1 : Nat, (j : Int) + 1 = (j1 : Int) := ⟨j + 1, by omega⟩
          have hj1' : j1 = j + 1 := by omega
          obtain ⟨jn, hjn⟩ : ∃ jn : Nat, j1 % nx = jn := ⟨_, rfl⟩
          have hjnl : jn < nx := by rw [← hjn]; exact Nat.mod_lt _ hnx0
          have hjnI : (j1 : Int) % (nx : Int) = (jn : Int) := by rw [← hjn]; omega
          have hjnT : (j1 : Int).tmod (nx : Int) = (jn : Int) := by rw [Int.tmod_eq_emod_of_nonneg (by omega)]; exact hjnI
          have cx1 : IntKind.i64.wrap ((j : Int) + 1) = (j1 : Int) := by rw [hj1]; exact IntWalk.i64_in _ (by omega)
          have cx2 : IntKind.i64.wrap (j1 : Int) = (j1 : Int) := IntWalk.i64_in _ (by omega)
          have cx3 : IntKind.i64.wrap (jn : Int) = (jn : Int) := IntWalk.i64_in _ (by omega)
          have hcy : behK L k = x.getD jn 0 := by
            have h := HCY.out.2 j (by rw [HK.out]; exact hjt)
            rw [HK.out, ← hj1', hjn] at h
            rw [HXJ.out] at h
            exact h
          obtain ⟨q0, hq0⟩ : ∃ z, (pairK (behK L k)).1 = z := ⟨_, rfl⟩
          obtain ⟨q1', hq1⟩ : ∃ z, (pairK (behK L k)).2 = z := ⟨_, rfl⟩
          rw [hq0, hq1]
          obtain ⟨wn, hwn⟩ : ∃ X, X = (w5.alloc (.cells #[.int .i64 q0, .int .i64 q1'] 28)) := ⟨_, rfl⟩
          have bn : Below wd.heap.size wd wn := by rw [hwn]; exact B5.out.alloc B5.out.size _
          have r0 : wn.cell? ⟨w5.heap.size, 0, none⟩ = some (.int .i64 q0) := by rw [hwn]; go_simp
          have r1 : wn.cell? ⟨w5.heap.size, 1, none⟩ = some (.int .i64 q1') := by rw [hwn]; go_simp
          have hzn : w5.heap.size < wn.heap.size := by rw [hwn]; simp
          have e0 := (bn.cell (p := ⟨wr.heap.size, 0, none⟩) hz).trans h0
          have e1 := (bn.cell (p := ⟨wr.heap.size, 1, none⟩) hz).trans h1
          have ez := Nat.lt_of_lt_of_le hz bn.size
          have BN : Hid (Below w3.heap.size w3 wn) := Lib.hid (BD.out.trans (bn.mono BD.out.size))
          have CN : Hid (CntAt wn mb ((M ++ x.take j).map pairK ++ [P])) := Lib.hid (C3.out.below bn (Nat.le_refl _))
          rw [← hwn]
          obtain ⟨A8, k8, e, -, hA⟩ := XP.out.below BN.out (Nat.le_refl _)
          simp only [Value.slice.injEq] at e
          obtain ⟨eA, -, -⟩ := e
          obtain ⟨p', u', e8, hpz, hx⟩ := hA (by rw [List.length_map, HK.out]; omega)
          rw [← eA] at e8
          simp only [Option.some.injEq, Addr.mk.injEq, and_true] at e8
          obtain ⟨rfl, rfl⟩ := e8
          obtain ⟨a0, a1⟩ := hx 0 (by rw [List.length_map, HK.out]; omega)
          obtain ⟨b0, b1⟩ := hx jn (by rw [List.length_map, HK.out]; exact hjnl)
          rw [map_pair_at (by rw [HK.out]; omega)] at a0 a1
          rw [map_pair_at (by rw [HK.out]; exact hjnl), ← hcy] at b0 b1
          rw [hq0] at b0
          rw [hq1] at b1
          have hle : x.getD 0 0 ≤ k := by rw [← HXJ.out]; exact HLS.out _ (getD_mem (by rw [HK.out]; exact hjt))
          obtain ⟨y, hy⟩ : ∃ y, x.getD 0 0 = y := ⟨_, rfl⟩
          rw [hy] at hle a0 a1
          have hpk0 : p0 = ((k / 4 : Nat) : Int) := by rw [← PE.out.1, ← HP.out]; rfl
          have hpk1 : p1 = ((k % 4 : Nat) : Int) := by rw [← PE.out.2, ← HP.out]; rfl
          have hy0 : (pairK y).1 = ((y / 4 : Nat) : Int) := rfl
          have hy1 : (pairK y).2 = ((y % 4 : Nat) : Int) := rfl
          have t0 : decide (p0 < (pairK y).1) = false := decide_eq_false (by rw [hpk0, hy0]; omega)
          have t1 : (p0 == (pairK y).1) = true → decide (p1 < (pairK y).2) = false := fun h => by
            rw [beq_iff_eq, hpk0, hy0] at h
            exact decide_eq_false (by rw [hpk1, hy1]; omega)
          have a0' : wn.cell? ⟨p, u, none⟩ = some (.int .i64 (pairK y).1) := by simpa using a0
          have a1' : wn.cell? ⟨p, u + 1, none⟩ = some (.int .i64 (pairK y).2) := by simpa using a1
          clear a0 a1
          obtain ⟨z0, hz0⟩ : ∃ z, (pairK y).1 = z := ⟨_, rfl⟩
          obtain ⟨z1, hz1⟩ : ∃ z, (pairK y).2 = z := ⟨_, rfl⟩
          rw [hz0] at a0' t0 t1
          rw [hz1] at a1' t1
          have v0 : (q0 == q0) = true := by simp
          have v1 : (q1' == q1') = true := by simp
          have hnq := neqD
          obtain ⟨tt, htt⟩ : ∃ tt, (p0 == z0) = tt := ⟨_, rfl⟩
          rw [htt] at t1
          have hjI : (jn : Int) < (nx : Int) := by omega
          have hnxn : ((nx : Int) == 0) = false := by rw [beq_eq_false_iff_ne]; omega
          have hm3 : ¬ nx = 0 := by omega
          have hm5 : ¬ (nx : Int) = 0 := by omega
          clear hwn bn hy hy0 hy1 hpk0 hpk1 hz0 hz1 hq0 hq1 hcy hjn hj1' hx hA eA hle h0 h1 hz hkd
          cases tt
          · go_quiet (fail)
            go_wp2_with fail
            go_roundw
            case rel =>
              refine ⟨j + 1, by go_num, by omega, ?_, drewN_below BN.out _⟩
              have e : (M ++ x.take (j + 1)).map pairK = (M ++ x.take j).map pairK ++ [P] := by
                rw [List.take_succ_eq_append_getElem (by rw [HK.out]; exact hjt), ← List.append_assoc, List.map_append]
                have h := HXJ.out
                rw [List.getD_eq_getElem?_getD, List.getElem?_eq_getElem (by rw [HK.out]; exact hjt)] at h
                simp only [Option.getD_some] at h
                rw [h, List.map_cons, List.map_nil, HP.out]
              rw [e]
              exact CN.out.below (drewN_below (Below.refl _ _) _) (Nat.le_refl _)
            case measure => (simp [intOf] <;> omega)
          · have t2 := t1 rfl
            clear t1
            go_quiet (fail)
            go_wp2_with fail
            go_roundw
            case rel =>
              refine ⟨j + 1, by go_num, by omega, ?_, drewN_below BN.out _⟩
              have e : (M ++ x.take (j + 1)).map pairK = (M ++ x.take j).map pairK ++ [P] := by
                rw [List.take_succ_eq_append_getElem (by rw [HK.out]; exact hjt), ← List.append_assoc, List.map_append]
                have h := HXJ.out
                rw [List.getD_eq_getElem?_getD, List.getElem?_eq_getElem (by rw [HK.out]; exact hjt)] at h
                simp only [Option.getD_some] at h
                rw [h, List.map_cons, List.map_nil, HP.out]
              rw [e]
              exact CN.out.below (drewN_below (Below.refl _ _) _) (Nat.le_refl _)
            case measure => (simp [intOf] <;> omega)
        · have hjn : j = nx := by omega
          subst hjn
          have q1 : decide (j < j) = false := decide_eq_false hjt
          clear hC hD
          go_wp2_with fail
          go_roundw
          case rel => exact ⟨i + 1, by go_num, by omega, by have h := C.out; rw [List.take_of_length_le (by have := HK.out; omega)] at h; rw [HTF.out]; exact h, D.out⟩
          case measure => (simp [intOf] <;> omega)
    · have him : i = m := by omega
      subst him
      have q0 : decide (i < i) = false := decide_eq_false hlt
      have TA : F.take i = F := List.take_of_length_le (by rw [HM.out]; exact Nat.le_refl _)
      rw [TA] at C
      clear TA hB hC
      go_wp2_with fail
      go_loopw [15, 107] (fun cv iv wr => OnC L N wo wr cv iv) (fun _ iv _ => N - (intOf iv).toNat)
      case atStart => exact ⟨0, rfl, Nat.zero_le _, rfl, Below.refl _ _⟩
      case round =>
        obtain ⟨v, rfl, hv, rfl, hD⟩ := hrel
        have D := Lib.hid hD
        have DW := Lib.hid (B.out.trans (hD.mono B.out.size))
        obtain ⟨wv, hwv⟩ : ∃ W, W = wr := ⟨_, rfl⟩
        subst hwv
        by_cases hvt : v < N
        · have q1 : decide (v < N) = true := decide_eq_true hvt
          obtain ⟨b, o9, c', e, hb, hx, hy⟩ := (L3.out.below DW.out (Nat.le_refl _)).nth hvt
          simp only [Value.slice.injEq, true_and] at e
          obtain ⟨rfl, rfl⟩ := e
          have f0 : wv.cell? ⟨b, o9 + v * 8, none⟩ = some (.int .i64 (nxG L v 0)) := hx 0 (by decide)
          have f1 := hx 1 (by decide)
          have f2 := hx 2 (by decide)
          have f3 := hx 3 (by decide)
          have f4 : wv.cell? ⟨b, o9 + v * 8 + 4, none⟩ = some (.int .i64 (owG L v 0)) := hy 0 (by decide)
          have f5 : wv.cell? ⟨b, o9 + v * 8 + 5, none⟩ = some (.int .i64 (owG L v 1)) := hy 1 (by decide)
          have f6 : wv.cell? ⟨b, o9 + v * 8 + 6, none⟩ = some (.int .i64 (owG L v 2)) := hy 2 (by decide)
          have f7 : wv.cell? ⟨b, o9 + v * 8 + 7, none⟩ = some (.int .i64 (owG L v 3)) := hy 3 (by decide)
          obtain ⟨y0, hy0⟩ : ∃ y, nxG L v 0 = y := ⟨_, rfl⟩
          obtain ⟨y1, hy1⟩ : ∃ y, nxG L v 1 = y := ⟨_, rfl⟩
          obtain ⟨y2, hy2⟩ : ∃ y, nxG L v 2 = y := ⟨_, rfl⟩
          obtain ⟨y3, hy3⟩ : ∃ y, nxG L v 3 = y := ⟨_, rfl⟩
          rw [hy0] at f0
          rw [hy1] at f1
          rw [hy2] at f2
          rw [hy3] at f3
          generalize owG L v 0 = y4 at *
          generalize owG L v 1 = y5 at *
          generalize owG L v 2 = y6 at *
          generalize owG L v 3 = y7 at *
          have YD : Hid (∀ d, d < 4 → nxG L v d = if d = 0 then y0 else if d = 1 then y1 else if d = 2 then y2 else y3) := Lib.hid (fun d hd => by
            have hc : d = 0 ∨ d = 1 ∨ d = 2 ∨ d = 3 := by omega
            rcases hc with rfl | rfl | rfl | rfl
            · exact hy0
            · exact hy1
            · exact hy2
            · exact hy3)
          obtain ⟨g, hg⟩ : ∃ g, wv.heap.size = g := ⟨_, rfl⟩
          have HGZ := Lib.hid hg
          obtain ⟨wx, hwx⟩ : ∃ W, W = wv.alloc (.cells #[.int .i64 y0, .int .i64 y1, .int .i64 y2, .int .i64 y3, .int .i64 y4, .int .i64 y5, .int .i64 y6, .int .i64 y7] 57) := ⟨_, rfl⟩
          have bx : Below wv.heap.size wv wx := by rw [hwx]; exact (Below.refl _ _).alloc (Nat.le_refl _) _
          have GB : Hid (wx.heap[g]? = some (.cells #[.int .i64 y0, .int .i64 y1, .int .i64 y2, .int .i64 y3, .int .i64 y4, .int .i64 y5, .int .i64 y6, .int .i64 y7] 57 (0, 0))) := Lib.hid (by rw [hwx, ← hg]; exact heap_alloc_new wv _)
          have BX := Lib.hid bx
          clear hx hy hy0 hy1 hy2 hy3 bx hD
          go_wp2_with fail
          rw [← hwx]
          clear f0 f1 f2 f3 f4 f5 f6 f7 hwx hg
          go_loopw [15, 112] (fun cv iv wr => OnD L v wx wr cv iv) (fun _ iv _ => 4 - (intOf iv).toNat)
          case atStart => exact ⟨0, rfl, Nat.zero_le _, rfl, Below.refl _ _⟩
          case round =>
            obtain ⟨d, rfl, hd, rfl, hE⟩ := hrel
            have E := Lib.hid hE
            by_cases hd4 : d < 4
            · have q2 : decide (d < 4) = true := decide_eq_true hd4
              have q2' : decide ((d : Int) < 4) = true := decide_eq_true (by omega)
              have hdI : (d : Int) < 4 := by omega
              have hgx : g < wx.heap.size := (Array.getElem?_eq_some_iff.1 GB.out).1
              have hgr : g < wr.heap.size := Nat.lt_of_lt_of_le hgx hE.size
              have f0 : wr.cell? ⟨g, d, none⟩ = some (.int .i64 (nxG L v d)) := by
                rw [hE.cell (p := ⟨g, d, none⟩) hgx, YD.out d hd4]
                have hc : d = 0 ∨ d = 1 ∨ d = 2 ∨ d = 3 := by omega
                rcases hc with rfl | rfl | rfl | rfl <;> (have h := GB.out; simp [World.cell?, h])
              have nxr := nx_ge HG.out hvt hd4
              obtain ⟨k, hk⟩ : ∃ k, 4 * v + d = k := ⟨_, rfl⟩
              have hkd : k / 4 = v ∧ k % 4 = d := by omega
              have nk : nxG L v d = nxK L k := by unfold nxK; rw [hkd.1, hkd.2]
              have HKN : Hid (4 * v + (d + 1) = k + 1) := Lib.hid (by omega)
              have DM := Lib.hid (darts_more L k)
              have hlk : (dartsT L k).length ≤ k := by unfold dartsT; exact Nat.le_trans (List.length_filter_le _ _) (by simp)
              have hk80 : k < 80 := by omega
              have hpk : pairK k = ((v : Int), (d : Int)) := by unfold pairK; rw [hkd.1, hkd.2]
              have hk4n : k < 4 * N := by omega
              rw [hk]
              rw [nk] at f0 nxr
              obtain ⟨y, hy⟩ : ∃ y, nxK L k = y := ⟨_, rfl⟩
              rw [hy] at f0 nxr
              obtain ⟨n0, hn0⟩ : ∃ n0, (dartsT L k).length = n0 := ⟨_, rfl⟩
              rw [hn0] at hlk ⊢
              by_cases h1 : y = -1
              · have p0 : decide (0 ≤ y) = false := decide_eq_false (by omega)
                have A1 : Hid ((dartsT L (k + 1)).length = n0) := Lib.hid (by rw [DM.out, if_neg (by unfold isB; rw [hy, h1]; decide)]; exact hn0)
                subst h1
                clear nxr hy hn0 nk hk hE hkd hpk DM p0
                go_wp2_with fail
                go_roundw
                case rel => exact ⟨d + 1, by go_num, by omega, by rw [HKN.out, A1.out], E.out⟩
                case measure => (simp [intOf] <;> omega)
              · have p0 : decide (0 ≤ y) = true := decide_eq_true (nxr.1.2 h1)
                have A1 : Hid ((dartsT L (k + 1)).length = n0 + 1) := Lib.hid (by rw [DM.out, if_pos (by unfold isB; rw [hy]; exact decide_eq_true h1), List.length_append, hn0]; rfl)
                have CR := C.out.below (D.out.trans ((BX.out.trans (hE.mono BX.out.size)).mono D.out.size)) (Nat.le_refl _)
                have lk := CR.look (wfPair (n := N) (by omega) hk4n)
                rw [if_pos (List.mem_map.2 ⟨k, HFI.out.all k hk4n (by rw [hy]; exact h1), rfl⟩), hpk] at lk
                have hz1 := (nxr.1.2 h1)
                clear nxr hy hn0 nk hk hE hkd hpk DM h1 CR
                go_wp2_with fail
                go_roundw
                case rel => exact ⟨d + 1, by go_num, by omega, by rw [HKN.out, A1.out]; go_num, E.out⟩
                case measure => (simp [intOf] <;> omega)
            · have hd5 : d = 4 := by omega
              subst hd5
              have q2 : decide (4 < 4) = false := by decide
              go_wp2_with fail
              go_roundw
              case rel => exact ⟨v + 1, by go_num, by omega, by rw [show 4 * (v + 1) = 4 * v + 4 by omega], D.out.trans ((BX.out.trans (E.out.mono BX.out.size)).mono D.out.size)⟩
              case measure => (simp [intOf] <;> omega)
        · have hvn : v = N := by omega
          subst hvn
          have q1 : decide (v < v) = false := decide_eq_false hvt
          have hnd : (F.flatten.map pairK).Nodup := by
            rw [List.nodup_iff_pairwise_ne, List.pairwise_map]
            refine HFI.out.met.1.imp fun {a b} hne e => hne ?_
            have := congrArg dkN e
            rw [dk_pair, dk_pair] at this
            exact this
          have ln := fun ty => (C.out.below D.out (Nat.le_refl _)).len hnd ty
          have hpl := (faces_perm HG.out).length_eq
          rw [HF.out] at hpl
          rw [List.length_map, hpl] at ln
          obtain ⟨n0, hn0⟩ : ∃ n0, (dartsT L (4 * v)).length = n0 := ⟨_, rfl⟩
          rw [hn0] at ln ⊢
          have he : ((n0 : Int) == (n0 : Int)) = true := by simp
          clear hnd hpl hn0 hD
          go_wp2_with fail
          go_ret
          exact ⟨rfl, B3.out.trans (DW.out.mono B3.out.size)⟩
end Go.Proofs.YtkgabklponjagaaDoor
