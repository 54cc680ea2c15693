/-
  longestWays: by an order in which all comes ahead of what it leads to, of each node how many arcs the longest way to it has. Conditions: that order.
-/
import Derived.Test.YtdapbhnonhamhaaLayC
import Derived.Test.YtdapbhnonhamhaaDagD
import Derived.StillTailTactics
namespace Go.Proofs.Ytdapbhnonhamhaa
open Go.RowKit Go.Proofs.Ytdapbhnonhamhaa.DagM

/-- An order of all N nodes: all that leads to a node comes ahead of it. -/
structure Ahead (E : EndL) (N : Nat) (P : List Nat) : Prop where
  len : P.length = N
  lt : ∀ v ∈ P, v < N
  fresh : ∀ k (h : k < P.length) w, (P[k], w) ∈ E → w < N ∧ w ∉ P.take k ++ [P[k]]
def Longest (E : EndL) (N : Nat) (P : List Nat) (w : World) (e : Ending) (w' : World) : Prop := ∃ g x, e = .returned (.slice (some ⟨g, 0, none⟩) N N) ∧ XsAt w w' g N x ∧ LaySt E P x
def LwRel (E : EndL) (N : Nat) (P : List Nat) (w wr : World) (iv : Value) : Prop := ∃ (k : Nat) (x : Nat → Nat), iv = .int .i64 k ∧ k ≤ P.length ∧ XsAt w wr w.heap.size N x ∧ LaySt E (P.take k) x
def LvRel (E : EndL) (N : Nat) (Q : List Nat) (v : Nat) (B : List Nat) (w wr : World) (iv : Value) : Prop := ∃ (j : Nat) (x : Nat → Nat), iv = .int .i64 j ∧ j ≤ B.length ∧ XsAt w wr w.heap.size N x ∧ LayIn E Q v (B.take j) x

set_option maxHeartbeats 4000000 in
set_option maxRecDepth 100000 in
theorem longestWays (E : EndL) (N g : Nat) (ov : Value) (P : List Nat) (V : Nat → Value) (w : World) (hN : N ≤ 4096) (hP : Ahead E N P) (hO : IntsAt w ov (castI P)) (hR : RowsAt w g N V (outs E)) (hB : ∀ v, (outs E v).length ≤ 16384) :
    Calls Try.prog 30 #[ov, .slice (some ⟨g, 0, none⟩) N N] w (Longest E N P w) := by
  have HP := Lib.hid hP
  have HO := Lib.hid hO
  have HR := Lib.hid hR
  have HB := Lib.hid hB
  obtain ⟨ao, co, rfl⟩ := hO.form
  have hl : (castI P).length = N := by rw [castI_len]; exact hP.len
  have HL := Lib.hid hl
  have hmk := mkInts N hN
  rw [hl]
  clear hP hO hR hB hl
  go_enter Try.func30, Try.ntmps30
  go_wp2
  clear hmk
  go_loopw [15, 7, 22, 23, 24, 9] (fun iv _ _ _ _ _ wr => LwRel E N P w wr iv) (fun iv _ _ _ _ _ _ => P.length - (intOf iv).toNat)
  case atStart => exact ⟨0, _, rfl, by omega, xs_start ((Below.refl _ _).alloc (Nat.le_refl _) _) (Nat.le_refl _) (heap_alloc_new w _) (by omega), by rw [List.take_zero]; exact laySt_nil⟩
  case round =>
    obtain ⟨k, x, rfl, hk, hX, hS⟩ := hrel
    have X := Lib.hid hX
    have S := Lib.hid hS
    have hgl := hX.gl
    have hbs := hX.below.size
    clear hX hS
    have hlen := HP.out.len
    by_cases hlt : k < N
    · have hkP : k < P.length := by omega
      obtain ⟨b, o, c2, e, hb, hcell⟩ := HO.out.nth (i := k) (by rw [castI_len]; omega)
      simp only [Value.slice.injEq] at e
      obtain ⟨rfl, _, rfl⟩ := e
      rw [castI_get P k hkP] at hcell
      have hv := HP.out.lt P[k] (List.getElem_mem hkP)
      have d0 := (X.out.below.cell (p := ⟨b, o + k, none⟩) hb).trans hcell
      have hfr := HP.out.fresh k hkP
      have HF := Lib.hid hfr
      have hts : P.take (k + 1) = P.take k ++ [P[k]] := List.take_succ_eq_append_getElem hkP
      have TS := Lib.hid hts
      clear hcell hfr hts hlen
      generalize P[k] = v at *
      have g0 := (X.out.below.cell (p := ⟨g, v, none⟩) HR.out.gl).trans (HR.out.cell v hv)
      have RV := Lib.hid (HR.out.rows v hv)
      obtain ⟨ar, cr, hVv⟩ := RV.out.form
      rw [castI_len] at hVv
      rw [hVv] at g0
      have HV := Lib.hid hVv
      have hBl := HB.out v
      clear hVv
      go_wp2
      obtain ⟨Bl, hBe⟩ : ∃ Bl, Bl = outs E v := ⟨_, rfl⟩
      have BE := Lib.hid hBe
      rw [← hBe] at hBl
      rw [← hBe]
      clear hBe g0 d0
      go_loopw [24, 9] (fun iv _ wr2 => LvRel E N (P.take k) v Bl w wr2 iv) (fun iv _ _ => Bl.length - (intOf iv).toNat)
      case atStart => exact ⟨0, x, rfl, by omega, X.out, by rw [List.take_zero]; exact S.out.begin v⟩
      case round =>
        clear X S
        obtain ⟨j, x, rfl, hj, hX, hI⟩ := hrel
        have X := Lib.hid hX
        have I := Lib.hid hI
        have hgl := hX.gl
        have hbs := hX.below.size
        clear hX
        by_cases hjl : j < Bl.length
        · have hjo : j < (outs E v).length := by rw [← BE.out]; exact hjl
          obtain ⟨b2, o2, c3, e, hb2, hcell⟩ := RV.out.nth (i := j) (by rw [castI_len]; exact hjo)
          rw [castI_get _ j hjo] at hcell
          rw [HV.out] at e
          simp only [Value.slice.injEq] at e
          obtain ⟨rfl, _, rfl⟩ := e
          have hmem : (v, (outs E v)[j]) ∈ E := outs_mem (List.getElem_mem hjo)
          have hts : Bl.take (j + 1) = Bl.take j ++ [(outs E v)[j]] := by
            rw [List.take_succ_eq_append_getElem hjl]
            congr 2
            simp [BE.out]
          have TB := Lib.hid hts
          have ME := Lib.hid hmem
          obtain ⟨ht, hno⟩ := HF.out _ hmem
          have NO := Lib.hid hno
          have d1 := (X.out.below.cell (p := ⟨b2, o2 + j, none⟩) hb2).trans hcell
          clear hcell hmem hts hno
          generalize (outs E v)[j] = t at *
          have x0 := X.out.cell ht
          have x1 := X.out.cell hv
          have x2 := X.out.fr t
          have hx1 := hI.bv
          have hx0 := hI.bd t
          have hk2 : (P.take k).length ≤ 4096 := by rw [List.length_take]; omega
          clear hI
          obtain ⟨m, hm, hm2⟩ : ∃ m : Nat, max (x t : Int) ((x v : Int) + 1) = (m : Int) ∧ m = max (x t) (x v + 1) := ⟨max (x t) (x v + 1), by omega, rfl⟩
          have M := Lib.hid hm2
          have hxv : x v ≤ 4096 := by omega
          have hxt : x t ≤ 4097 := by omega
          clear hm2 hx0 hx1 hk2
          go_wp2
          go_still_tail 13, (by kernel_rfl)
          change wpList _ _ _ _ _ wr.drew
          go_wp2
          go_roundw
          case rel =>
            have X2 := X.out.set t m
            have I2 := I.out.step ME.out NO.out
            rw [← TB.out, ← M.out] at I2
            exact ⟨j + 1, _, by go_num, by omega, X2.quiet (Below.refl _ _).drew, I2⟩
          case measure => simp [intOf]; omega
        · obtain hjb : j = Bl.length := by omega
          subst hjb
          have I2 := I.out
          rw [List.take_length, BE.out] at I2
          have S2 := I2.done
          rw [← TS.out] at S2
          have S := Lib.hid S2
          clear I2 S2 hI
          go_wp2
          go_roundw
          case rel => exact ⟨k + 1, x, by go_num, by omega, X.out, S.out⟩
          case measure => simp [intOf]; omega
    · obtain hkP : k = P.length := by omega
      have h := S.out
      rw [hkP, List.take_length] at h
      have S2 := Lib.hid h
      clear h hkP hlen
      go_wp2
      go_ret
      exact ⟨_, x, rfl, X.out, S2.out⟩
end Go.Proofs.Ytdapbhnonhamhaa
