/-
  ParseMany: the walk: at every three numbers of 16 bits the call answers true and turns nothing that was there. Conditions: the library's tables are laid.
-/
import Derived.Test.YtgchmoabhblmcaaGreatDoorParY
import Derived.Test.YtgchmoabhblmcaaGreatDoorParO
import Derived.Lib.Repeat
namespace Go.Proofs.YtgchmoabhblmcaaGreatDoor
open Go.RowKit Go.Proofs.YtgchmoabhblmcaaGreatDoor.LexM Go.Proofs.YtgchmoabhblmcaaGreatDoor.ParM

theorem repeat_one8 (c : UInt8) : ∀ n, Lib.repeatL [c] n = List.replicate n c
  | 0 => rfl
  | n + 1 => by rw [Lib.repeatL, repeat_one8 c n]; rfl
theorem repW8 (c : UInt8) (n : Nat) (hn : n ≤ 5000) (w : World) :
    Calls Tryz.prog 5 #[.string ⟨#[c]⟩, .int .i64 n] w fun e w' => e = .returned (.string (bs (List.replicate n c))) ∧ Below w.heap.size w w' := by
  have h := Go.Proofs.Tryz.strings_Repeat ⟨#[c]⟩ n w (by omega) (by show 1 * n ≤ _; omega)
  have e : Lib.repeatL (⟨#[c]⟩ : ByteArray).data.toList n = List.replicate n c := repeat_one8 c n
  rw [e] at h
  exact h
theorem infoB8 : (Tryz.prog.info? 4).map (fun i => (i.zero, i.size, i.bytes)) = some (some (.bool false), 1, 1) := by kernel_rfl
theorem mkBools8 (N : Nat) (hN : N ≤ 5000) (w : World) : (Instr.makeSlice 23 (.int .i64 (N : Int)) (.int .i64 (N : Int))).run Tryz.prog w = .ok (.slice (some ⟨w.heap.size, 0, none⟩) N N) (w.alloc (.cells (madeCells #[.bool false] N) 4)) := by
  obtain ⟨i, hi, h0, h1, h2⟩ := info_of infoB8
  have h := run_make (P := Tryz.prog) w 23 4 i _ Tryz.underlying23 hi h0 .i64 .i64 N N (by omega) (by omega) (by rw [h2]; omega) (by omega)
  rw [h1] at h
  simpa [Value.cells] using h
/-- The shape under way: its box, its rows. -/
structure MnSt (w wr : World) (s : Nat) (bv ev : Value) (B : List Bool) (E : List Edg) : Prop where
  below : Below w.heap.size w wr
  sb : wr.heap[s]? = some (.cells #[bv, ev] 26 (0, 0))
  sl : w.heap.size ≤ s
  rb : OwnB wr w.heap.size bv B
  re : OwnE wr w.heap.size ev E
theorem shT_b8 : 26 ≠ 4 := by decide
theorem shT_e8 : 26 ≠ 29 := by decide
section
variable {w wr wl : World} {s : Nat} {bv ev : Value} {B : List Bool} {E : List Edg}
theorem MnSt.step (h : MnSt w wr s bv ev B E) (b : Below wr.heap.size wr wl) : MnSt w wl s bv ev B E :=
  ⟨h.below.trans (b.mono h.below.size), by rw [b.block _ (Array.getElem?_eq_some_iff.1 h.sb).1]; exact h.sb, h.sl, h.rb.below b (Nat.le_refl _), h.re.below b (Nat.le_refl _)⟩
theorem MnSt.cs (h : MnSt w wr s bv ev B E) : wr.cell? ⟨s, 0, none⟩ = some bv ∧ wr.cell? ⟨s, 1, none⟩ = some ev ∧ wr.frozen? ⟨s, 1, none⟩ = false ∧ s < wr.heap.size := by
  have h1 := h.sb
  refine ⟨by simp [World.cell?, h1], by simp [World.cell?, h1], ?_, (Array.getElem?_eq_some_iff.1 h1).1⟩
  simp only [World.frozen?, h1]; simp
end
theorem MnSt.more {w wz wa w5 : World} {s n : Nat} {bv ev v' : Value} {B : List Bool} {E : List Edg} {a : Edg} (h : MnSt w wz s bv ev B E) (hn : E.length = n) (ha : Below wz.heap.size wz wa) (hown : w5.ownsRow w.heap.size 29 4 v' (n + 1) (E.flatMap encE ++ encE a)) (hgrow : wa.grownBy w5 ev.ownBlock) :
    w5.heap[s]? = some (.cells #[bv, ev] 26 (0, 0)) ∧ MnSt w (w5.setCell ⟨s, 1, none⟩ v') s bv v' B (E ++ [a]) := by
  have H := h.step ha
  have lt : ∀ {k c}, wa.heap[k]? = some c → k < wa.heap.size := fun h => (Array.getElem?_eq_some_iff.1 h).1
  have hO := OwnE.snocAt hn hown
  have hsb : w5.heap[s]? = some (.cells #[bv, ev] 26 (0, 0)) := by
    rw [hgrow.block s (lt H.sb) (fun e => own_kind H.re H.sb shT_e8 e.symm)]; exact H.sb
  have hw5 : Below w.heap.size w w5 := H.below.grown hgrow H.below.size (fun q hq => (World.ownsRow.lt H.re q hq).1)
  have hrb : OwnB w5 w.heap.size bv B := by
    refine ownsRow_block H.rb (fun q hq => hgrow.block q (World.ownsRow.lt H.rb q hq).2 (fun e => ?_))
    rcases H.rb.2 with ⟨rfl, _⟩ | ⟨g, c1, c2, rfl, _, hgk, _⟩
    · cases hq
    · have : g = q := by simpa [Value.ownBlock] using hq
      subst this
      exact own_kind H.re hgk (by decide) e.symm
  exact ⟨hsb, ⟨below_set hw5 h.sl _ _, by rw [heap_setCell_at hsb]; rfl, h.sl, ownsRow_setCell_other hrb (own_kind hrb hsb shT_b8) _, ownsRow_setCell_other hO (own_kind hO hsb shT_e8) _⟩⟩
theorem one_cells8 {w : World} {x : Nat} {v0 v1 v2 v3 : Value} {T : TypeId} (h1 : w.heap[x]? = some (.cells #[v0, v1, v2, v3] T (0, 0))) : w.cell? ⟨x, 0, none⟩ = some v0 ∧ w.cell? ⟨x, 1, none⟩ = some v1 ∧ w.cell? ⟨x, 2, none⟩ = some v2 ∧ w.cell? ⟨x, 3, none⟩ = some v3 ∧ w.frozen? ⟨x, 3, none⟩ = false ∧ x < w.heap.size := by
  refine ⟨?_, ?_, ?_, ?_, ?_, (Array.getElem?_eq_some_iff.1 h1).1⟩
  iterate 4 simp [World.cell?, h1]
  simp only [World.frozen?, h1]; simp
theorem newsE8 (w : World) (T : TypeId) (l : List Value) (b : Nat) (hb : w.heap.size = b) : ∀ j z, l[j]? = some z → (w.alloc (.cells l.toArray T)).cell? ((⟨b, 0, none⟩ : Addr).add j) = some z := by
  intro j z hz
  subst hb
  have e : ((⟨w.heap.size, 0, none⟩ : Addr).add j) = ⟨w.heap.size, j, none⟩ := by
    by_cases hj : j = 0
    · subst hj; rfl
    · simp [Addr.add, hj]
  rw [e]
  simpa using hz
theorem MnSt.start (w : World) (v : Nat) (hv : v ≤ 5000) : MnSt w ((w.alloc (.cells (madeCells #[.bool false] v) 4)).alloc (.cells #[.slice (some ⟨w.heap.size, 0, none⟩) v v, .slice none 0 0] 26)) (w.heap.size + 1) (.slice (some ⟨w.heap.size, 0, none⟩) v v) (.slice none 0 0) (falses v) [] := by
  have h1 := World.ownsRow_lit w (base := w.heap.size) (e := 4) (size := 1) (madeCells #[.bool false] v) v (Nat.le_refl _) (by unfold maxLen; omega) (by simp [size_madeCells])
  rw [toList_madeCells_one] at h1
  refine ⟨((Below.refl _ _).alloc (Nat.le_refl _) _).alloc (by simp) _, heap_second w _ _, by omega, ?_, World.ownsRow_nil _ _ _ _⟩
  have h2 : OwnB (w.alloc (.cells (madeCells #[.bool false] v) 4)) w.heap.size (.slice (some ⟨w.heap.size, 0, none⟩) v v) (falses v) := by
    unfold OwnB falses
    rw [List.length_replicate, List.map_replicate]
    exact h1
  exact h2.below ((Below.refl _ _).alloc (Nat.le_refl _) _) (Nat.le_refl _)
/-- Ahead of the loop. -/
def MnCut2 (v e b : Nat) (w : World) (s11 : Value) (wx : World) : Prop :=
  ∃ T : ByteArray, s11 = .string T ∧ T.data.toList = manyT v e b 0 ∧
    MnSt w wx (w.heap.size + 1) (.slice (some ⟨w.heap.size, 0, none⟩) v v) (.slice none 0 0) (falses v) []
/-- In the loop. -/
def MnRel (v e b : Nat) (w : World) (tv iv : Value) (wx : World) : Prop :=
  ∃ (k : Nat) (T : ByteArray) (ev : Value), iv = .int .i64 k ∧ tv = .string T ∧ k ≤ e ∧ T.data.toList = manyT v e b k ∧
    MnSt w wx (w.heap.size + 1) (.slice (some ⟨w.heap.size, 0, none⟩) v v) ev (falses v) ((manyE e b).take k)
theorem wf_of8 {n : Int} (h : (Lit.int .u16 n).wf = true) : 0 ≤ n ∧ n ≤ 65535 := by
  have h' : IntKind.u16.min ≤ n ∧ n ≤ IntKind.u16.max := by simpa [Lit.wf] using h
  exact h'
theorem many_chk {v e b : Nat} (h1 : v = 0 → e = 0) (h2 : e = 0 → b = 0) : chkS (falses v) (manyE e b) = manyZ v e b := by
  unfold manyZ
  by_cases h : 4096 < v ∨ 4096 < e ∨ 4096 < b
  · rw [if_pos h]
    unfold chkS manyS
    rw [falses_len, many_len, many_bends h2, if_pos (by rcases h with h | h | h <;> simp [h])]
  · rw [if_neg h]; exact chk_ok (many_may (by omega) (by omega) (by omega) h1 h2)
theorem parse8m {s : ByteArray} {N Z : Int} {B : List Bool} {E : List Edg} (h : par s.data.toList = (Z, N, B, E)) (w : World) (hT : TabL w) {nB nE : Nat} (hB : B.length = nB) (hE : E.length = nE) :
    Calls Tryz.prog 6 #[.string s] w fun e w' => ∃ A1 c1 A2 c2, e = .returned (.tuple #[.agg #[.slice A1 nB c1, .slice A2 nE c2], .int .i64 N, .int .i64 Z]) ∧ BlsAt w' (.slice A1 nB c1) B ∧ EdsAt w' (.slice A2 nE c2) E ∧ Below w.heap.size w w' := by
  refine (parse s w hT).mono ?_
  rintro e w' ⟨bv, ev, rfl, hb, he, hw⟩
  rw [h] at hb he
  rw [h]
  obtain ⟨A1, c1, rfl⟩ := hb.form
  obtain ⟨A2, c2, rfl⟩ := he.form
  subst hB hE
  exact ⟨A1, c1, A2, c2, rfl, hb, he, hw⟩
def mnE (v e0 : Nat) : Nat := if v = 0 then 0 else e0
def mnB (v e0 b0 : Nat) : Nat := if mnE v e0 = 0 then 0 else b0
theorem fst_text {v : Nat} (hv : v ≠ 0) (e b : Nat) : ((⟨#[115, 104, 97, 112, 101, 32]⟩ : ByteArray) ++ bs (List.replicate v 112) ++ ⟨#[10]⟩).data.toList = manyT v e b 0 := by
  rw [manyT_zero, fst_falses, if_neg hv]
  have h : ∀ a b : ByteArray, (a ++ b).data.toList = a.data.toList ++ b.data.toList := fun a b => by simp
  rw [h, h, bs_data]
theorem fst_text0 (e b : Nat) : (⟨#[115, 104, 97, 112, 101, 32, 45, 10]⟩ : ByteArray).data.toList = manyT 0 e b 0 := by
  rw [manyT_zero, fst_falses, if_pos rfl]; rfl
theorem next_text {v e b k : Nat} {T : ByteArray} (hk : k < e) (h : T.data.toList = manyT v e b k) (hb : k + 1 ≠ e ∨ b = 0) : (T ++ ⟨#[48, 32, 69, 32, 48]⟩ ++ ⟨#[10]⟩).data.toList = manyT v e b (k + 1) := by
  rw [manyT_next hk, edg_many, cat_list, cat_list, h]
  have e1 : (if k + 1 = e then (if b = 0 then [] else 32 :: List.replicate b (76 : UInt8)) else []) = [] := by
    by_cases h1 : k + 1 = e
    · rw [if_pos h1, if_pos (hb.resolve_left (fun h => h h1))]
    · rw [if_neg h1]
  rw [e1, List.append_assoc]; rfl
theorem next_text2 {v e b k : Nat} {T : ByteArray} (hk : k < e) (h : T.data.toList = manyT v e b k) (h1 : k + 1 = e) (hb : b ≠ 0) : (T ++ ⟨#[48, 32, 69, 32, 48]⟩ ++ (⟨#[32]⟩ ++ bs (List.replicate b 76)) ++ ⟨#[10]⟩).data.toList = manyT v e b (k + 1) := by
  rw [manyT_next hk, edg_many, cat_list, cat_list, cat_list, cat_list, h, if_pos h1, if_neg hb, bs_data, List.append_assoc, List.append_assoc, List.append_assoc]; rfl
set_option maxHeartbeats 16000000 in
set_option maxRecDepth 100000 in
theorem many8 (x y z : Int) (w : World) (hT : TabL w) (hx : 0 ≤ x ∧ x ≤ 65535) (hy : 0 ≤ y ∧ y ≤ 65535) (hz : 0 ≤ z ∧ z ≤ 65535) :
    Calls Tryz.prog 3 #[.int .u16 x, .int .u16 y, .int .u16 z] w fun e w' => e = .returned (.bool true) ∧ Below w.heap.size w w' := by
  have HT := Lib.hid hT
  obtain ⟨v, hv⟩ : ∃ v : Nat, x % 4200 = (v : Int) := ⟨(x % 4200).toNat, by omega⟩
  obtain ⟨e0, he0⟩ : ∃ v : Nat, y % 4200 = (v : Int) := ⟨(y % 4200).toNat, by omega⟩
  obtain ⟨b0, hb0⟩ : ∃ v : Nat, z % 4200 = (v : Int) := ⟨(z % 4200).toNat, by omega⟩
  have hv1 : v < 4200 := by omega
  have he1 : e0 < 4200 := by omega
  have hb1 : b0 < 4200 := by omega
  have hmk := mkBools8 v (by omega)
  have RV := Lib.hid (repW8 112 v (by omega))
  obtain ⟨e, hee⟩ : ∃ e, mnE v e0 = e := ⟨_, rfl⟩
  obtain ⟨b, hbb⟩ : ∃ b, mnB v e0 b0 = b := ⟨_, rfl⟩
  have EE := Lib.hid hee
  have BB := Lib.hid hbb
  have he2 : e < 4200 := by rw [← hee]; unfold mnE; split <;> omega
  have hb2 : b < 4200 := by rw [← hbb]; unfold mnB; split <;> omega
  obtain ⟨b1, hb1e⟩ : ∃ x, (if v = 0 then 0 else b0) = x := ⟨_, rfl⟩
  have B1 := Lib.hid hb1e
  have BE : Hid (e ≠ 0 → b = b1) := Lib.hid (fun h => by
    have hv0 : v ≠ 0 := fun h0 => h (by rw [← hee]; unfold mnE; rw [if_pos h0])
    rw [← hbb, ← hb1e, if_neg hv0]; unfold mnB; rw [hee, if_neg h])
  clear hb1e
  have V0 : Hid (v = 0 → e = 0) := Lib.hid (fun h => by rw [← hee]; unfold mnE; rw [if_pos h])
  have E0 : Hid (e = 0 → b = 0) := Lib.hid (fun h => by rw [← hbb]; unfold mnB; rw [hee, if_pos h])
  clear hT hee hbb
  go_enter Tryz.func3, Tryz.ntmps3
  go_upto_if 28 with (fail)
  go_cut [8, 9] from 28 to 28 (fun s8 s9 wx => s8 = .int .i64 (e : Nat) ∧ s9 = .int .i64 (b1 : Nat) ∧ wx = w)
  case first =>
    by_cases hv0 : v = 0
    · have q1 : ((v : Int) == 0) = true := by rw [beq_iff_eq]; omega
      have H1 : Hid (e = 0) := Lib.hid (V0.out hv0)
      have H2 : Hid (b1 = 0) := Lib.hid (by rw [← B1.out, if_pos hv0])
      clear hv0
      go_wp2
      go_meet
      exact ⟨by rw [H1.out]; rfl, by rw [H2.out]; rfl, rfl⟩
    · have q1 : ((v : Int) == 0) = false := by rw [beq_eq_false_iff_ne]; omega
      have H1 : Hid (e = e0) := Lib.hid (by have := EE.out; unfold mnE at this; rw [if_neg hv0] at this; exact this.symm)
      have H2 : Hid (b1 = b0) := Lib.hid (by rw [← B1.out, if_neg hv0])
      clear hv0
      go_wp2
      go_meet
      exact ⟨by rw [H1.out], by rw [H2.out], rfl⟩
  case rest =>
    obtain ⟨rfl, rfl, rfl⟩ := hcut
    clear he0 hb0
    go_upto_if 30 with (fail)
    go_cut [9] from 30 to 30 (fun s9 wx => s9 = .int .i64 (b : Nat) ∧ wx = wc)
    case first =>
      by_cases h0 : e = 0
      · have q1 : ((e : Int) == 0) = true := by rw [beq_iff_eq]; omega
        have H2 : Hid (b = 0) := Lib.hid (E0.out h0)
        clear h0
        go_wp2
        go_meet
        exact ⟨by rw [H2.out]; rfl, rfl⟩
      · have q1 : ((e : Int) == 0) = false := by rw [beq_eq_false_iff_ne]; omega
        have H2 : Hid (b = b1) := Lib.hid (BE.out h0)
        clear h0
        go_wp2
        go_meet
        exact ⟨by rw [H2.out], rfl⟩
    case rest =>
      obtain ⟨rfl, rfl⟩ := hcut
      obtain ⟨w, hw⟩ : ∃ W, W = wc := ⟨_, rfl⟩
      subst hw
      have X := Lib.hid (MnSt.start w v (by omega))
      obtain ⟨sv, hsv⟩ : ∃ s, bs (List.replicate v 112) = s := ⟨_, rfl⟩
      have RV2 : Hid (∀ w, Calls Tryz.prog 5 #[.string ⟨#[112]⟩, .int .i64 v] w fun e w' => e = .returned (.string sv) ∧ Below w.heap.size w w') := Lib.hid (by rw [← hsv]; exact RV.out)
      have HV : Hid (v ≠ 0 → ((⟨#[115, 104, 97, 112, 101, 32]⟩ : ByteArray) ++ sv ++ ⟨#[10]⟩).data.toList = manyT v e b 0) := Lib.hid (fun h => by rw [← hsv]; exact fst_text (v := v) h e b)
      have hzv : sv.size ≤ 5000 := by rw [← hsv, bs_size, List.length_replicate]; omega
      have hzv2 : ((⟨#[115, 104, 97, 112, 101, 32]⟩ : ByteArray) ++ sv).size ≤ 5010 := by rw [ByteArray.size_append]; show 6 + sv.size ≤ 5010; omega
      clear BE B1 EE BB hsv RV
      go_upto_if 39 with (go_at_call 5; refine (RV2.out _).mono ?_; rintro e' w2 ⟨rfl, b2⟩; have B2 := Lib.hid b2; clear b2)
      have X2 := Lib.hid (X.out.step B2.out)
      clear X B2
      go_cut [11] from 39 to 39 (fun s11 wx => MnCut2 v e b w s11 wx)
      case first =>
        by_cases h0 : v = 0
        · have q1 : ((v : Int) == 0) = true := by rw [beq_iff_eq]; omega
          have HV0 : Hid ((⟨#[115, 104, 97, 112, 101, 32, 45, 10]⟩ : ByteArray).data.toList = manyT v e b 0) := Lib.hid (by rw [h0]; exact fst_text0 e b)
          clear h0
          go_wp2
          go_meet
          exact ⟨_, rfl, HV0.out, X2.out⟩
        · have q1 : ((v : Int) == 0) = false := by rw [beq_eq_false_iff_ne]; omega
          have HV1 := Lib.hid (HV.out h0)
          clear h0
          go_wp2
          go_meet
          exact ⟨_, rfl, HV1.out, X2.out⟩
      case rest =>
        obtain ⟨T0, rfl, hT0, hS0⟩ := hcut
        obtain ⟨wz, hwz⟩ : ∃ W, W = wc := ⟨_, rfl⟩
        subst hwz
        have TS := Lib.hid hT0
        have S0 := Lib.hid hS0
        have RB := Lib.hid (repW8 76 b (by omega))
        clear hT0 hS0 hmk RV2 X2 HV hv he1 hb1 hx hy hz
        go_wp2
        go_loopw [11, 41] (fun tv iv wr => MnRel v e b w tv iv wr) (fun _ iv _ => e - (intOf iv).toNat)
        case atStart => exact ⟨0, T0, _, rfl, rfl, Nat.zero_le _, TS.out, by rw [List.take_zero]; exact S0.out⟩
        case round =>
          obtain ⟨k, T, ev, rfl, rfl, hk, ht, hS⟩ := hrel
          have hlk : ((manyE e b).take k).length = k := by rw [List.length_take, many_len]; omega
          obtain ⟨ae, ce, e'⟩ := hS.re.form
          rw [hlk] at e'
          subst e'
          have LK := Lib.hid hlk
          have S := Lib.hid hS
          have TX := Lib.hid ht
          have htz : T.size ≤ 200000 := by rw [size_list, ht]; exact manyT_len (by omega) (by omega) (by omega) E0.out hk
          have hwr : w.heap.size ≤ wr.heap.size := hS.below.size
          clear hlk hS ht
          by_cases hlt : k < e
          · obtain ⟨sb, hsb⟩ : ∃ s, (if k + 1 = e then bs (List.replicate b 76) else ByteArray.empty) = s := ⟨_, rfl⟩
            have SB := Lib.hid hsb
            clear hsb
            have hw1 : wrap64 ((e : Int) - 1) = e - 1 := by unfold wrap64; omega
            go_upto_if 48 with (fail)
            go_cut [13] from 48 to 51 (fun pv wx => pv = .pointer (some ⟨wr.heap.size, 0, none⟩) ∧ wx.heap[wr.heap.size]? = some (.cells #[.int .i64 0, .int .i64 0, .int .i64 0, .string sb] 29 (0, 0)) ∧ Below wr.heap.size wr wx)
            case first =>
              by_cases hl : k + 1 = e
              · have q1 : ((k : Int) == (e : Int) - 1) = true := by rw [beq_iff_eq]; omega
                have SE : Hid (bs (List.replicate b 76) = sb) := Lib.hid (by rw [← SB.out, if_pos hl])
                have R2 : Hid (∀ w, Calls Tryz.prog 5 #[.string ⟨#[76]⟩, .int .i64 b] w fun e w' => e = .returned (.string sb) ∧ Below w.heap.size w w') := Lib.hid (by rw [← SE.out]; exact RB.out)
                clear hl
                go_wp2_with (go_at_call 5; refine (R2.out _).mono ?_; rintro e' w2 ⟨rfl, b2⟩; have K2 : Hid (w2.heap[wr.heap.size]? = some (.cells #[.int .i64 0, .int .i64 0, .int .i64 0, .string ByteArray.empty] 29 (0, 0))) := Lib.hid (by rw [b2.block _ (by simp)]; exact heap_alloc_new wr _); have B2 : Hid (Below wr.heap.size wr w2) := Lib.hid (((Below.refl _ _).alloc (Nat.le_refl _) _).trans (b2.mono (by simp))); obtain ⟨x0, x1, x2, x3, x4, x5⟩ := one_cells8 K2.out; clear b2)
                go_meet
                exact ⟨rfl, by rw [heap_setCell_at K2.out]; rfl, below_set B2.out (Nat.le_refl _) _ _⟩
              · have q1 : ((k : Int) == (e : Int) - 1) = false := by rw [beq_eq_false_iff_ne]; omega
                have SE : Hid (sb = ByteArray.empty) := Lib.hid (by rw [← SB.out, if_neg hl])
                clear hl
                go_wp2
                go_meet
                exact ⟨rfl, by rw [SE.out]; exact heap_alloc_new wr _, (Below.refl _ _).alloc (Nat.le_refl _) _⟩
            case rest =>
              obtain ⟨rfl, hK, hBX⟩ := hcut
              obtain ⟨w4, hw4⟩ : ∃ W, W = wc := ⟨_, rfl⟩
              subst hw4
              have S4 := Lib.hid (S.out.step hBX)
              have K4 := Lib.hid hK
              obtain ⟨y0, y1, y2, y3, yf, yl⟩ := one_cells8 hK
              obtain ⟨r0, r1, rf, rl⟩ := S4.out.cs
              obtain ⟨i0, hi, hz0, hz1, hz2⟩ := info_of infoE4
              have hwb : w.heap.size ≤ w4.heap.size := S4.out.below.size
              have hne : ¬ wr.heap.size = w.heap.size + 1 := by
                have := S.out.cs.2.2.2
                omega
              have NB : Hid ((Value.slice ae k ce).ownBlock ≠ some wr.heap.size) := Lib.hid (fun h => Nat.lt_irrefl _ (World.ownsRow.lt S.out.re _ h).2)
              obtain ⟨am, ham⟩ : ∃ a, manyAt e b k = a := ⟨_, rfl⟩
              have AM : Hid (encE am = [.int .i64 0, .int .i64 0, .int .i64 0, .string sb]) := Lib.hid (by
                rw [← ham, ← SB.out]
                unfold encE manyAt
                simp only
                by_cases hl : k + 1 = e
                · rw [if_pos hl, if_pos hl]
                · rw [if_neg hl, if_neg hl]; rfl)
              have HA := Lib.hid ham
              clear hK hBX yf ham
              go_upto_region 17 with (at_builtin; refine wpList_append_fresh rfl (.tmp 53) (.tmp 55) 24 rfl w.heap.size 29 i0 (.agg #[.int .i64 0, .int .i64 0, .int .i64 0, .string ByteArray.empty]) 4 40 Tryz.underlying24 hi hz0 hz1 hz2 rfl (by decide) (.slice ae k ce) k (((manyE e b).take k).flatMap encE) rfl ((S4.out.re.below ((Below.refl _ _).alloc (Nat.le_refl _) _) (Nat.le_refl _)).at_ LK.out) ⟨w4.heap.size, 0, none⟩ 1 1 (encE am) rfl rfl (by rw [AM.out]; exact newsE8 _ _ _ _ rfl) (encE_one _) (by unfold maxLen; omega) (by omega) (by simp; omega) ?_; intro v5 w5 hown hgrow hfr; obtain ⟨hs5, hM5⟩ := S4.out.more LK.out ((Below.refl _ _).alloc (Nat.le_refl _) _) hown hgrow; obtain ⟨ao, cap, e5⟩ := (OwnE.snocAt LK.out hown).form; rw [List.length_append, LK.out] at e5; simp only [List.length_singleton] at e5; subst e5; have M5 := Lib.hid hM5; have s5f : w5.frozen? ⟨w.heap.size + 1, 1, none⟩ = false := (by simp only [World.frozen?, hs5]; simp); have s5l := (Array.getElem?_eq_some_iff.1 hs5).1; have s5c : w5.cell? ⟨w.heap.size + 1, 1, none⟩ = some (.slice ae k ce) := (by simp [World.cell?, hs5]); have K5 : Hid (w5.heap[wr.heap.size]? = some (.cells #[.int .i64 0, .int .i64 0, .int .i64 0, .string sb] 29 (0, 0))) := Lib.hid (by rw [hgrow.block _ (by simp; omega) (fun h => NB.out h.symm), Below.heap_alloc _ _ _ yl]; exact K4.out); clear hown hgrow hfr hs5 hM5)
              generalize hw6 : World.setCell w5 _ _ = w6
              have M6 : Hid (MnSt w w6 (w.heap.size + 1) (.slice (some ⟨w.heap.size, 0, none⟩) v v) (.slice ao (k + 1) cap) (falses v) ((manyE e b).take k ++ [am])) := Lib.hid (by rw [← hw6]; exact M5.out)
              have k6 : w6.heap[wr.heap.size]? = some (.cells #[.int .i64 0, .int .i64 0, .int .i64 0, .string sb] 29 (0, 0)) := by rw [← hw6, Below.heap_setCell _ _ _ _ hne]; exact K5.out
              obtain ⟨p0, p1, p2, p3, pf, pl⟩ := one_cells8 k6
              have htz2 : (T ++ ⟨#[48, 32, 69, 32, 48]⟩).size ≤ 300000 := by rw [size_list, cat_list, List.length_append, ← size_list]; simp; omega
              clear hw6 pf s5f s5l s5c y0 y1 y2 y3 yl r0 r1 rf rl hne hwb k6
              by_cases hb : k + 1 = e ∧ b ≠ 0
              · have hsb : bs (List.replicate b 76) = sb := by rw [← SB.out, if_pos hb.1]
                have q5 : (sb.toList == []) = false := by rw [toList_data, ← hsb, bs_data]; simpa using hb.2
                have q6 : (sb.toList != []) = true := by rw [bne, q5]; rfl
                have hsz : sb.size ≤ 5000 := by rw [← hsb, bs_size, List.length_replicate]; omega
                have NT : Hid ((T ++ ⟨#[48, 32, 69, 32, 48]⟩ ++ (⟨#[32]⟩ ++ sb) ++ ⟨#[10]⟩).data.toList = manyT v e b (k + 1)) := Lib.hid (by rw [← hsb]; exact next_text2 hlt TX.out hb.1 hb.2)
                have hsz2 : ((⟨#[32]⟩ : ByteArray) ++ sb).size ≤ 6000 := by rw [ByteArray.size_append]; show 1 + sb.size ≤ 6000; omega
                have hsz3 : (T ++ ⟨#[48, 32, 69, 32, 48]⟩ ++ (⟨#[32]⟩ ++ sb)).size ≤ 400000 := by rw [size_list, cat_list, List.length_append, ← size_list, ← size_list]; omega
                clear hb hsb
                go_wp2
                go_roundw
                case rel => exact ⟨k + 1, _, _, by go_num, rfl, hlt, NT.out, by rw [many_take hlt, HA.out]; exact M6.out⟩
                case measure => (simp [intOf] <;> omega)
              · have hsb : sb = ByteArray.empty := by
                  rw [← SB.out]
                  by_cases hl : k + 1 = e
                  · have : b = 0 := by
                      by_cases h : b = 0
                      · exact h
                      · exact absurd ⟨hl, h⟩ hb
                    rw [if_pos hl, this]; rfl
                  · rw [if_neg hl]
                have q5 : (sb.toList == []) = true := by rw [hsb, toList_data]; rfl
                have q6 : (sb.toList != []) = false := by rw [bne, q5]; rfl
                have NT : Hid ((T ++ ⟨#[48, 32, 69, 32, 48]⟩ ++ ⟨#[10]⟩).data.toList = manyT v e b (k + 1)) := Lib.hid (next_text hlt TX.out (by
                  by_cases hl : k + 1 = e
                  · right
                    by_cases h : b = 0
                    · exact h
                    · exact absurd ⟨hl, h⟩ hb
                  · exact Or.inl hl))
                clear hb hsb
                go_wp2
                go_roundw
                case rel => exact ⟨k + 1, _, _, by go_num, rfl, hlt, NT.out, by rw [many_take hlt, HA.out]; exact M6.out⟩
                case measure => (simp [intOf] <;> omega)
          · have hke : k = e := by omega
            subst hke
            have s1 := S.out
            have t1 := TX.out
            rw [many_all] at s1
            have SE := Lib.hid s1
            have PP : Hid (par (T ++ ⟨#[101, 110, 100, 10]⟩).data.toList = (manyZ v k b, manyN v k b, if manyZ v k b = 0 then falses v else [], if manyZ v k b = 0 then manyE k b else [])) := Lib.hid (by
              rw [cat_list, t1]
              exact (congrArg par (manyT_last v k b)).trans (many_par (by omega) (by omega) (by omega) V0.out E0.out))
            have CK := Lib.hid (many_chk V0.out E0.out)
            have HZ : Hid (∀ e ∈ manyE k b, e.2.2.2.length ≤ 1000000) := Lib.hid (fun x hx => by
              obtain ⟨j, _, rfl⟩ := List.mem_map.1 hx
              unfold manyAt
              simp only
              split
              · rw [List.length_replicate]; omega
              · decide)
            have htz3 : (T ++ ⟨#[101, 110, 100, 10]⟩).size ≤ 300000 := by rw [size_list, cat_list, List.length_append, ← size_list]; simp; omega
            clear s1 t1 S TX LK TS S0 RB hlt hk
            by_cases hbig : manyZ v k b = 6
            · have hcase : (4096 < v ∧ manyN v k b = 1) ∨ (¬ 4096 < v ∧ 4096 < k ∧ manyN v k b = 4098) ∨ (¬ 4096 < v ∧ ¬ 4096 < k ∧ 4096 < b ∧ manyN v k b = k + 1) := by
                unfold manyZ at hbig
                unfold manyN
                by_cases h1 : 4096 < v
                · left; rw [if_pos h1]; exact ⟨h1, rfl⟩
                · by_cases h2 : 4096 < k
                  · right; left; rw [if_neg h1, if_pos h2]; exact ⟨h1, h2, rfl⟩
                  · by_cases h3 : 4096 < b
                    · right; right; rw [if_neg h1, if_neg h2, if_pos h3]; exact ⟨h1, h2, h3, rfl⟩
                    · rw [if_neg (by omega)] at hbig; cases hbig
              obtain ⟨N, hN⟩ : ∃ N, manyN v k b = N := ⟨_, rfl⟩
              rw [hN] at hcase
              have PS := Lib.hid (fun w hT => parse8m (s := T ++ ⟨#[101, 110, 100, 10]⟩) (N := N) (Z := 6) (B := []) (E := []) (by rw [PP.out, hbig, hN]; rfl) w hT (nB := 0) (nE := 0) rfl rfl)
              have CS : Hid (∀ w', BlsAt w' (.slice (some ⟨w.heap.size, 0, none⟩) v v) (falses v) → EdsAt w' (.slice ae k ce) (manyE k b) → Calls Tryz.prog 7 #[.agg #[.slice (some ⟨w.heap.size, 0, none⟩) v v, .slice ae k ce]] w' fun r w2 => r = .returned (.int .i64 6) ∧ Below w'.heap.size w' w2) := Lib.hid (fun w' h1 h2 => by rw [← hbig, ← CK.out]; exact checkS _ _ _ _ w' h1 h2 (by rw [many_len]; omega) (by rw [falses_len]; omega) HZ.out)
              clear PP CK HZ hN hbig V0 E0
              go_wp2_with (fail)
              refine (PS.out _ (HT.out.below SE.out.below (Nat.le_refl _))).mono ?_
              rintro e' w1 ⟨A1, c1, A2, c2, rfl, _, _, hw⟩
              have S1 := Lib.hid (SE.out.step hw)
              obtain ⟨y0, y1, _, yl⟩ := S1.out.cs
              clear hw
              go_wp2_with (fail)
              generalize hwa : World.alloc w1 _ = wa
              have S2 : Hid (MnSt w wa (w.heap.size + 1) (.slice (some ⟨w.heap.size, 0, none⟩) v v) (.slice ae k ce) (falses v) (manyE k b)) := Lib.hid (by rw [← hwa]; exact S1.out.step ((Below.refl _ _).alloc (Nat.le_refl _) _))
              clear hwa
              refine (CS.out wa S2.out.rb.bls S2.out.re.eds).mono ?_
              rintro e' w3 ⟨rfl, b3⟩
              have B3 : Hid (Below w.heap.size w w3) := Lib.hid (S2.out.below.trans (b3.mono S2.out.below.size))
              clear b3
              rcases hcase with ⟨h1, rfl⟩ | ⟨h1, h2, rfl⟩ | ⟨h1, h2, h3, rfl⟩
              · have q1 : decide ((4096 : Int) < (v : Int)) = true := by rw [decide_eq_true_eq]; omega
                have q1' : decide (4096 < v) = true := by rw [decide_eq_true_eq]; omega
                clear h1
                go_wp2_with (go_at_call 8; refine (wakes8 _ (HT.out.below B3.out (Nat.le_refl _))).mono ?_; rintro e' w4 ⟨rfl, b4⟩; have B4 := Lib.hid (B3.out.trans (b4.mono B3.out.size)); clear b4)
                go_ret
                exact ⟨ret_bool (by simp), B4.out⟩
              · have q1 : decide ((4096 : Int) < (v : Int)) = false := by rw [decide_eq_false_iff_not]; omega
                have q1' : decide (4096 < v) = false := by rw [decide_eq_false_iff_not]; omega
                have q2 : decide ((4096 : Int) < (k : Int)) = true := by rw [decide_eq_true_eq]; omega
                have q2' : decide (4096 < k) = true := by rw [decide_eq_true_eq]; omega
                clear h1 h2
                go_wp2_with (go_at_call 8; refine (wakes8 _ (HT.out.below B3.out (Nat.le_refl _))).mono ?_; rintro e' w4 ⟨rfl, b4⟩; have B4 := Lib.hid (B3.out.trans (b4.mono B3.out.size)); clear b4)
                go_ret
                exact ⟨ret_bool (by simp), B4.out⟩
              · have q1 : decide ((4096 : Int) < (v : Int)) = false := by rw [decide_eq_false_iff_not]; omega
                have q1' : decide (4096 < v) = false := by rw [decide_eq_false_iff_not]; omega
                have q2 : decide ((4096 : Int) < (k : Int)) = false := by rw [decide_eq_false_iff_not]; omega
                have q2' : decide (4096 < k) = false := by rw [decide_eq_false_iff_not]; omega
                have q3 : decide ((4096 : Int) < (b : Int)) = true := by rw [decide_eq_true_eq]; omega
                have q3' : decide (4096 < b) = true := by rw [decide_eq_true_eq]; omega
                have hw1 : wrap64 ((k : Int) + 1) = k + 1 := by unfold wrap64; omega
                clear h1 h2 h3
                go_wp2_with (go_at_call 8; refine (wakes8 _ (HT.out.below B3.out (Nat.le_refl _))).mono ?_; rintro e' w4 ⟨rfl, b4⟩; have B4 := Lib.hid (B3.out.trans (b4.mono B3.out.size)); clear b4)
                go_ret
                exact ⟨ret_bool (by simp), B4.out⟩
            · have h0 : manyZ v k b = 0 ∧ manyN v k b = 0 ∧ ¬ (4096 : Int) < v ∧ ¬ (4096 : Int) < k ∧ ¬ (4096 : Int) < b := by
                unfold manyZ at hbig ⊢
                unfold manyN
                have h : ¬ (4096 < v ∨ 4096 < k ∨ 4096 < b) := fun h => hbig (by rw [if_pos h])
                rw [if_neg h, if_neg (by omega), if_neg (by omega), if_neg (by omega)]
                exact ⟨rfl, rfl, by omega, by omega, by omega⟩
              obtain ⟨hZ, hN, t1, t2, t3⟩ := h0
              have q1 : decide ((4096 : Int) < (v : Int)) = false := by rw [decide_eq_false_iff_not]; omega
              have q1' : decide (4096 < v) = false := by rw [decide_eq_false_iff_not]; omega
              have q2 : decide ((4096 : Int) < (k : Int)) = false := by rw [decide_eq_false_iff_not]; omega
              have q2' : decide (4096 < k) = false := by rw [decide_eq_false_iff_not]; omega
              have q3 : decide ((4096 : Int) < (b : Int)) = false := by rw [decide_eq_false_iff_not]; omega
              have q3' : decide (4096 < b) = false := by rw [decide_eq_false_iff_not]; omega
              clear t1 t2 t3
              have PS := Lib.hid (fun w hT => parse8m (s := T ++ ⟨#[101, 110, 100, 10]⟩) (N := 0) (Z := 0) (B := falses v) (E := manyE k b) (by rw [PP.out, hZ, hN]; rfl) w hT (nB := v) (nE := k) (falses_len v) (many_len k b))
              have CS : Hid (∀ w', BlsAt w' (.slice (some ⟨w.heap.size, 0, none⟩) v v) (falses v) → EdsAt w' (.slice ae k ce) (manyE k b) → Calls Tryz.prog 7 #[.agg #[.slice (some ⟨w.heap.size, 0, none⟩) v v, .slice ae k ce]] w' fun r w2 => r = .returned (.int .i64 0) ∧ Below w'.heap.size w' w2) := Lib.hid (fun w' h1 h2 => by rw [← hZ, ← CK.out]; exact checkS _ _ _ _ w' h1 h2 (by rw [many_len]; omega) (by rw [falses_len]; omega) HZ.out)
              have EQ : Hid (∀ bv ev cv dv w', BlsAt w' bv (falses v) → EdsAt w' ev (manyE k b) → BlsAt w' cv (falses v) → EdsAt w' dv (manyE k b) → Calls Tryz.prog 9 #[.agg #[bv, ev], .agg #[cv, dv]] w' fun r w2 => r = .returned (.bool true) ∧ Below w'.heap.size w' w2) := Lib.hid (fun bv ev cv dv w' h1 h2 h3 h4 => by
                refine (equalShape bv ev cv dv _ _ _ _ w' h1 h2 h3 h4 (by rw [falses_len]; omega) (by rw [many_len]; omega) (by rw [falses_len]; omega) (by rw [many_len]; omega)).mono ?_
                rintro r w2 ⟨rfl, hb⟩
                exact ⟨by simp, hb⟩)
              clear PP CK HZ hN hZ hbig V0 E0
              go_wp2_with (fail)
              refine (PS.out _ (HT.out.below SE.out.below (Nat.le_refl _))).mono ?_
              rintro e' w1 ⟨A1, c1, A2, c2, rfl, hB1, hE1, hw⟩
              have S1 := Lib.hid (SE.out.step hw)
              obtain ⟨y0, y1, _, yl⟩ := S1.out.cs
              have HB1 := Lib.hid hB1
              have HE1 := Lib.hid hE1
              clear hw hB1 hE1
              go_wp2_with (fail)
              generalize hwa : World.alloc w1 _ = wa
              have ba : Below w1.heap.size w1 wa := by rw [← hwa]; exact (Below.refl _ _).alloc (Nat.le_refl _) _
              have S2 : Hid (MnSt w wa (w.heap.size + 1) (.slice (some ⟨w.heap.size, 0, none⟩) v v) (.slice ae k ce) (falses v) (manyE k b)) := Lib.hid (S1.out.step ba)
              have hka : wa.heap[w1.heap.size]? = some (.cells #[.slice A1 v c1, .slice A2 k c2] 26 (0, 0)) := by rw [← hwa]; exact heap_alloc_new w1 _
              have HB2 := Lib.hid (HB1.out.below ba (Nat.le_refl _))
              have HE2 := Lib.hid (HE1.out.below ba (Nat.le_refl _))
              have KA := Lib.hid hka
              have hla : w1.heap.size < wa.heap.size := (Array.getElem?_eq_some_iff.1 hka).1
              clear hwa hka ba
              refine (CS.out wa S2.out.rb.bls S2.out.re.eds).mono ?_
              rintro e' w3 ⟨rfl, b3⟩
              have S3 := Lib.hid (S2.out.step b3)
              have HB3 := Lib.hid (HB2.out.below b3 (Nat.le_refl _))
              have HE3 := Lib.hid (HE2.out.below b3 (Nat.le_refl _))
              have K3 : Hid (w3.heap[w1.heap.size]? = some (.cells #[.slice A1 v c1, .slice A2 k c2] 26 (0, 0))) := Lib.hid (by rw [b3.block _ hla]; exact KA.out)
              have hl3 := Nat.lt_of_lt_of_le hla b3.size
              have hl3s := S3.out.cs.2.2.2
              clear b3
              go_wp2_with (first
                | (go_at_call 8; refine (wakes8 _ (HT.out.below S3.out.below (Nat.le_refl _))).mono ?_; rintro e' w4 ⟨rfl, b4⟩; have S4 := Lib.hid (S3.out.step b4); have HB4 := Lib.hid (HB3.out.below b4 (Nat.le_refl _)); have HE4 := Lib.hid (HE3.out.below b4 (Nat.le_refl _)); obtain ⟨y0, y1, _, yl⟩ := S4.out.cs; have x0 : w4.cell? ⟨w1.heap.size, 0, none⟩ = some (.slice A1 v c1) := (by have h := b4.block _ hl3; rw [K3.out] at h; simp [World.cell?, h]); have x1 : w4.cell? ⟨w1.heap.size, 1, none⟩ = some (.slice A2 k c2) := (by have h := b4.block _ hl3; rw [K3.out] at h; simp [World.cell?, h]); have xl := Nat.lt_of_lt_of_le hl3 b4.size; clear b4)
                | (go_at_call 9; refine (EQ.out _ _ _ _ _ S4.out.rb.bls S4.out.re.eds HB4.out HE4.out).mono ?_; rintro e' w5 ⟨rfl, b5⟩; have B5 := Lib.hid (S4.out.below.trans (b5.mono S4.out.below.size)); clear b5))
              go_ret
              exact ⟨ret_bool (by simp), B5.out⟩
end Go.Proofs.YtgchmoabhblmcaaGreatDoor
