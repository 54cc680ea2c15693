/-
  What the document fixes of what hangs together is so: the law's 'wakes' answers true. Conditions: none.
-/
import Derived.Test.YtieffijdhcbcfaaJnC
import Derived.Test.YtieffijdhcbcfaaNzRb
import Derived.Deep.RegionHeld3
namespace Go.Proofs.Ytieffijdhcbcfaa.JoM
open Go.Proofs.Ytieffijdhcbcfaa.GrM

/-- Three cells, of which the second one lies to the right of the first. -/
def wkJ : List Int := joinG (newG 3) 0 0 1 0
theorem goodJ : chkG wkJ 3 = 0 := by decide
theorem good1J : chkG (wkJ.drop 16) 1 = 0 := by decide
theorem stay {L : List Int} {T : Nat → Prop} (h : ∀ u d w : Nat, T u → d < 4 → nxG L u d = (w : Int) → T w) {v w : Nat} (hv : T v) (hc : Con L v w) : T w := by
  obtain ⟨k, hk⟩ := hc
  induction hk with
  | here => exact hv
  | step h1 hd hx ih => exact h _ _ _ (ih hv) hd hx
theorem con01 : Con wkJ 0 1 := Con.one (d := 0) (by decide) (by decide)
theorem con10 : Con wkJ 1 0 := Con.one (d := 2) (by decide) (by decide)
theorem con02 : ∀ {v w : Nat}, v < 2 → Con wkJ v w → w < 2 := by
  intro v w hv hc
  refine stay (T := fun u => u < 2) (fun u d w hu hd hx => ?_) hv hc
  have key : ∀ u, u < 2 → ∀ d, d < 4 → nxG wkJ u d < 2 := by decide
  have := key u hu d hd
  omega
theorem partsJ : partsK wkJ 3 3 = [[0, 1], [2]] := by
  have o0 : ¬ oldB wkJ 0 = true := fun h => by obtain ⟨a, h, _⟩ := oldB_iff.1 h; omega
  have o1 : oldB wkJ 1 = true := oldB_iff.2 ⟨0, by omega, con01⟩
  have o2 : ¬ oldB wkJ 2 = true := fun h => by
    obtain ⟨a, ha, hc⟩ := oldB_iff.1 h
    have := con02 ha hc
    omega
  have c00 : conB wkJ 0 0 = true := conB_iff.2 (Con.refl _)
  have c01 : conB wkJ 0 1 = true := conB_iff.2 con01
  have c02 : ¬ conB wkJ 0 2 = true := fun h => by have := con02 (v := 0) (by omega) (conB_iff.1 h); omega
  have g : GoodG wkJ 3 := (chk_good.1 goodJ).2
  have c20 : ¬ conB wkJ 2 0 = true := fun h => by have := con02 (v := 0) (by omega) ((conB_iff.1 h).symm g (by omega)); omega
  have c21 : ¬ conB wkJ 2 1 = true := fun h => by have := con02 (v := 1) (by omega) ((conB_iff.1 h).symm g (by omega)); omega
  have c22 : conB wkJ 2 2 = true := conB_iff.2 (Con.refl _)
  have p0 : partL wkJ 3 0 = [0, 1] := by
    unfold partL
    rw [show List.range 3 = [0, 1, 2] from rfl, List.filter_cons_of_pos c00, List.filter_cons_of_pos c01, List.filter_cons_of_neg c02, List.filter_nil]
  have p2 : partL wkJ 3 2 = [2] := by
    unfold partL
    rw [show List.range 3 = [0, 1, 2] from rfl, List.filter_cons_of_neg c20, List.filter_cons_of_neg c21, List.filter_cons_of_pos c22, List.filter_nil]
  rw [parts_more o2, parts_skip o1, parts_more o0, p0, p2]
  rfl
theorem parts1J (L : List Int) : (partsK L 1 1).length = 1 := by
  have o0 : ¬ oldB L 0 = true := fun h => by obtain ⟨a, h, _⟩ := oldB_iff.1 h; omega
  rw [parts_more o0]
  rfl
theorem far10 : farI wkJ 1 0 = 1 := by
  refine far_is (Or.inr ⟨1, rfl, (Wy.here 1).step (d := 2) (by decide) (by decide), fun k hk => ?_⟩)
  cases k with
  | zero => have := hk.none; omega
  | succ k => omega
theorem path10 {P : List Nat} (h : Pth wkJ 1 P 0) (hl : P.length = 1) : P = [2] := by
  match P, hl with
  | [d], _ =>
    obtain ⟨hd, u, hx, hu⟩ := h
    have e : u = 0 := hu
    subst e
    have key : ∀ d, d < 4 → nxG wkJ 1 d = 0 → d = 2 := by decide
    rw [key d hd hx]
end Go.Proofs.Ytieffijdhcbcfaa.JoM
namespace Go.Proofs.Ytieffijdhcbcfaa
open Go.RowKit Go.Proofs.Ytieffijdhcbcfaa.GrM Go.Proofs.Ytieffijdhcbcfaa.JoM
theorem wholeJ : wholeB wkJ 3 = false := by
  unfold wholeB
  rw [partsJ]
  simp
theorem whole1J : wholeB (wkJ.drop 16) 1 = true := by
  unfold wholeB
  rw [parts1J, good1J]
  rfl
def WkP (w : World) (e : Ending) (w' : World) : Prop := ∃ b o c A c', e = .returned (.tuple #[.slice (some ⟨b, o, none⟩) 2 c, .int .i64 0]) ∧ b < w'.heap.size ∧ w'.cell? ⟨b, o, none⟩ = some (.slice A 2 c') ∧ ZsAt w' (.slice A 2 c') [0, 1] 2 ∧ Below w.heap.size w w'
theorem partsW13 (lv : Value) (w : World) (hL : CelAt w lv wkJ 3) : Calls Try.prog 8 #[lv] w (WkP w) := by
  refine (partsGood lv wkJ 3 w hL (by decide) goodJ).mono ?_
  rintro e w' ⟨A, c, m, rfl, hm, ho, hb⟩
  rw [partsJ] at hm ho
  obtain rfl : m = 2 := hm.symm
  obtain ⟨b, o, c2, s, hv, hlt, hs, hz⟩ := ho.rs.nth (k := 0) (by decide)
  have hz2 : ZsAt w' s [0, 1] 2 := hz
  obtain ⟨A', c', es⟩ := hz2.form
  subst es
  simp only [Value.slice.injEq, true_and] at hv
  obtain ⟨rfl, rfl⟩ := hv
  exact ⟨b, o, _, A', c', rfl, hlt, hs, hz2, hb⟩
theorem path1W13 (lv : Value) (w : World) (hL : CelAt w lv wkJ 3) : Calls Try.prog 14 #[lv, .int .i64 1, .int .i64 0] w fun e w' => ∃ A c, e = .returned (.tuple #[.slice A 1 c, .int .i64 0]) ∧ ZsAt w' (.slice A 1 c) [2] 1 ∧ Below w.heap.size w w' := by
  refine (path_ lv wkJ 3 1 0 w hL (by decide) goodJ (by decide) (by decide)).mono ?_
  rintro e w' ⟨hb, ⟨hc, _⟩ | ⟨_, P, A, c, m, rfl, hm, ho, hp, hf, _⟩⟩
  · exact absurd con10 hc
  · rw [far10] at hf
    obtain rfl : m = 1 := by omega
    obtain rfl := path10 hp hm
    exact ⟨A, c, rfl, ho.zs, hb⟩
theorem path2W13 (lv : Value) (w : World) (hL : CelAt w lv wkJ 3) : Calls Try.prog 14 #[lv, .int .i64 0, .int .i64 2] w fun e w' => e = .returned (.tuple #[.slice none 0 0, .int .i64 13]) ∧ Below w.heap.size w w' := by
  refine (path_ lv wkJ 3 0 2 w hL (by decide) goodJ (by decide) (by decide)).mono ?_
  rintro e w' ⟨hb, ⟨_, rfl⟩ | ⟨hc, _⟩⟩
  · exact ⟨rfl, hb⟩
  · have := con02 (v := 0) (by omega) hc
    omega
/-- The last one alone. -/
theorem celDrop {w : World} {A : Option Addr} {c : Nat} (h : CelAt w (.slice A 3 c) wkJ 3) : ∃ b o, A = some ⟨b, o, none⟩ ∧ 3 ≤ c ∧ b < w.heap.size ∧ CelAt w (.slice (some ⟨b, o + 16, none⟩) 1 (c - 2)) (wkJ.drop 16) 1 := by
  obtain ⟨hl, A, cap, e, ⟨hc, _⟩, hA⟩ := h
  simp only [Value.slice.injEq, true_and] at e
  obtain ⟨rfl, rfl⟩ := e
  obtain ⟨b, o, rfl, hb, hx⟩ := hA (by decide)
  refine ⟨b, o, rfl, hc, hb, rfl, _, _, rfl, ⟨by omega, fun e => by cases e⟩, fun _ => ⟨b, o + 16, rfl, hb, fun j hj => ?_⟩⟩
  have h2 := hx (16 + j) (by omega)
  rw [← Nat.add_assoc] at h2
  rw [h2]
  simp [List.getD_eq_getElem?_getD]
set_option maxHeartbeats 8000000 in
set_option maxRecDepth 100000 in
theorem wakes13 (w : World) : Calls Try.prog 10 #[] w fun e w' => e = .returned (.bool true) ∧ Below w.heap.size w w' := by
  have N3 := Lib.hid (fun w => refNew 3 w (by decide))
  have J1 : Hid (∀ lv w, CelAt w lv (newG 3) 3 → Calls Try.prog 28 #[lv, .int .i64 0, .int .i64 0, .int .i64 1, .int .i64 0] w fun r w' => (∃ A c, r = .returned (.tuple #[.slice A 3 c, .int .i64 0]) ∧ OwnG w' w.heap.size (.slice A 3 c) wkJ 3) ∧ Below w.heap.size w w') := Lib.hid (fun lv w h =>
    refJoin_yes lv (newG 3) 3 0 0 1 0 w h (by decide) (by decide) (by decide) (by decide) (by decide) (by decide) (by decide) (by decide))
  have PW := Lib.hid partsW13
  have P1 := Lib.hid path1W13
  have P2 := Lib.hid path2W13
  have WW : Hid (∀ lv w, CelAt w lv wkJ 3 → Calls Try.prog 11 #[lv] w fun e w' => e = .returned (.bool false) ∧ Below w.heap.size w w') := Lib.hid (fun lv w h => by
    have := whole_ lv wkJ 3 w h (by decide)
    rw [wholeJ] at this; exact this)
  have W1 : Hid (∀ lv w, CelAt w lv (wkJ.drop 16) 1 → Calls Try.prog 11 #[lv] w fun e w' => e = .returned (.bool true) ∧ Below w.heap.size w w') := Lib.hid (fun lv w h => by
    have := whole_ lv (wkJ.drop 16) 1 w h (by decide)
    rw [whole1J] at this; exact this)
  have EQ : Hid (∀ v u w, ZsAt w v [0, 1] 2 → ZsAt w u [0, 1] 2 → Calls Try.prog 12 #[v, u] w fun e w' => e = .returned (.bool true) ∧ Below w.heap.size w w') := Lib.hid (fun v u w hX hY => equalJ v u [0, 1] [0, 1] 2 2 w hX hY (by decide) (by decide))
  have EQ2 : Hid (∀ v u w, ZsAt w v [2] 1 → ZsAt w u [2] 1 → Calls Try.prog 12 #[v, u] w fun e w' => e = .returned (.bool true) ∧ Below w.heap.size w w') := Lib.hid (fun v u w hX hY => equalJ v u [2] [2] 1 1 w hX hY (by decide) (by decide))
  go_enter Try.func10, Try.ntmps10
  go_upto_region 3 with (first
    | (go_at_call 28; refine (J1.out _ _ (OwnG.cel O1.out)).mono ?_; rintro e w2 ⟨⟨A, c, rfl, o2⟩, b2⟩; have C2 := Lib.hid (OwnG.cel o2); have B2 := Lib.hid (B1.out.trans (b2.mono B1.out.size)); clear b2 o2)
    | (go_at_call 20; refine (N3.out _).mono ?_; rintro e w1 ⟨⟨g, rfl, o1⟩, b1⟩; have O1 := Lib.hid o1; have B1 := Lib.hid b1; clear o1 b1))
  go_upto_region 6 with (first
    | (go_at_call 14; have _z := Q4; refine (P2.out _ _ (C2.out.below Q4.out (Nat.le_refl _))).mono ?_; rintro e w5 ⟨rfl, b5⟩; have Q5 := Lib.hid (Q4.out.trans (b5.mono Q4.out.size)); have Z5 := Lib.hid (Z4.out.below b5 (Nat.le_refl _)); have R5 := Lib.hid (R4.out.trans (b5.mono R4.out.size)); clear b5)
    | (go_at_call 14; have _z := Q3; refine (P1.out _ _ (C2.out.below Q3.out (Nat.le_refl _))).mono ?_; rintro e w4 ⟨A4, c4, rfl, z4, b4⟩; have Q4 := Lib.hid (Q3.out.trans (b4.mono Q3.out.size)); have Z4 := Lib.hid z4; have R4 := Lib.hid b4; clear b4 z4)
    | (go_at_call 8; refine (PW.out _ _ C2.out).mono ?_; rintro e w3 ⟨b, o, c3, A3, c3', rfl, hb3, hc3, z3, b3⟩; have Z3 := Lib.hid z3; have Q3 := Lib.hid b3; have HC3 := Lib.hid hc3; have HB3 := Lib.hid hb3; clear b3 z3 hc3 hb3))
  have f0 := (R5.out.cell (p := ⟨b, o, none⟩) HB3.out).trans HC3.out
  have hb5 := Nat.lt_of_lt_of_le HB3.out R5.out.size
  have ZA := Lib.hid (Z3.out.below R5.out (Nat.le_refl _))
  have CD := Lib.hid (fun wr (h : Below w2.heap.size w2 wr) => (celDrop (C2.out.below h (Nat.le_refl _))))
  obtain ⟨bl, ol, rfl, hcl, -, -⟩ := celDrop C2.out
  have CE : Hid (∀ wr, Below w5.heap.size w5 wr → CelAt wr (.slice (some ⟨bl, ol + 16, none⟩) 1 (c - 2)) (wkJ.drop 16) 1) := Lib.hid (fun wr h => by
    obtain ⟨b', o', e, _, _, hh⟩ := CD.out wr (Q5.out.trans (h.mono Q5.out.size))
    simp only [Option.some.injEq, Addr.mk.injEq, and_true] at e
    obtain ⟨rfl, rfl⟩ := e
    exact hh)
  have BQ := Lib.hid (B2.out.trans (Q5.out.mono B2.out.size))
  clear Z3 Z4 Q3 Q4 R4 R5 HC3 HB3 CD N3 J1 PW P1 P2
  go_wp2_with (first
    | (go_at_call 11; have _z := Y8; refine (W1.out _ _ (CE.out _ Y8.out)).mono ?_; rintro e w9 ⟨rfl, b9⟩; have Y9 := Lib.hid (Y8.out.trans (b9.mono Y8.out.size)); clear b9)
    | (go_at_call 11; have _z := Y7; refine (WW.out _ _ (C2.out.below (Q5.out.trans (Y7.out.mono Q5.out.size)) (Nat.le_refl _))).mono ?_; rintro e w8 ⟨rfl, b8⟩; have Y8 := Lib.hid (Y7.out.trans (b8.mono Y7.out.size)); clear b8)
    | (go_at_call 12; have _z := Y6; refine (EQ2.out _ _ _ (Z5.out.below (Y6.out.alloc Y6.out.size _) (Nat.le_refl _)) (zsNew13 _ _ [2] 1 rfl 3 (heap_alloc_new w6 _))).mono ?_; rintro e w7 ⟨rfl, b7⟩; have Y7 := Lib.hid ((Y6.out.alloc Y6.out.size _).trans (b7.mono (by have := Y6.out.size; simp; omega))); clear b7)
    | (go_at_call 12; refine (EQ.out _ _ _ (ZA.out.below ((Below.refl _ _).alloc (Nat.le_refl _) _) (Nat.le_refl _)) (zsNew13 _ _ [0, 1] 2 rfl 3 (heap_alloc_new w5 _))).mono ?_; rintro e w6 ⟨rfl, b6⟩; have Y6 : Hid (Below w5.heap.size w5 w6) := Lib.hid (((Below.refl _ _).alloc (Nat.le_refl _) _).trans (b6.mono (by simp))); clear b6))
  go_ret
  exact ⟨rfl, BQ.out.trans (Y9.out.mono BQ.out.size)⟩
end Go.Proofs.Ytieffijdhcbcfaa
