/-
  A point's ends told in their edges' ways. Conditions: the ends are a shape's that may be written; at most 100000 cells.
-/
import Derived.Test.YtecifgaekefkpaaDoorNcE
import Derived.Test.YtecifgaekefkpaaDoorNmS
namespace Go.Proofs.YtecifgaekefkpaaDoor
open Go.RowKit Go.Proofs.YtecifgaekefkpaaDoor.LexM Go.Proofs.YtecifgaekefkpaaDoor.ParM Go.Proofs.YtecifgaekefkpaaDoor.GrM Go.Proofs.YtecifgaekefkpaaDoor.NmM

/-- How many bends an edge has. -/
def nbE (E : List Edg) (i : Nat) : Nat := (E.getD i noE).2.2.2.length
/-- A way whose bends are not told yet. -/
def wayZ (en : List Int) (nb i : Nat) : List Int := en.getD (2 * i) 0 :: (List.replicate nb 0 ++ [en.getD (2 * i + 1) 0])
theorem wayZ_len (en : List Int) (nb i : Nat) : (wayZ en nb i).length = nb + 2 := by simp [wayZ]
theorem getD_setI (L : List Int) (i j : Nat) (x : Int) (h : i < L.length) : (L.set i x).getD j 0 = if j = i then x else L.getD j 0 := getD_set L i j x h
theorem wayZ_put (E : List Edg) (en : List Int) (q : Nat) (c : Int) (hl : en.length = 2 * E.length) (hq : q < E.length) :
    ((fun j => if j = q then (wayZ en (nbE E q) q).set 0 c else wayZ en (nbE E j) j) = fun j => wayZ (en.set (2 * q) c) (nbE E j) j) ∧
    ((fun j => if j = q then (wayZ en (nbE E q) q).set (nbE E q + 1) c else wayZ en (nbE E j) j) = fun j => wayZ (en.set (2 * q + 1) c) (nbE E j) j) := by
  constructor
  · funext j
    unfold wayZ
    rw [getD_setI _ _ _ _ (by omega), getD_setI _ _ _ _ (by omega), if_neg (c := 2 * j + 1 = 2 * q) (by omega)]
    by_cases h : j = q
    · subst h; rw [if_pos rfl, if_pos rfl]; rfl
    · rw [if_neg h, if_neg (by omega)]
  · funext j
    unfold wayZ
    rw [getD_setI _ _ _ _ (by omega), getD_setI _ _ _ _ (by omega), if_neg (c := 2 * j = 2 * q + 1) (by omega)]
    by_cases h : j = q
    · subst h
      rw [if_pos rfl, if_pos rfl, List.set_cons_succ, List.set_append_right _ _ (by simp)]
      simp
    · rw [if_neg h, if_neg (by omega)]
/-- An end of a side: its edge, its place, and what telling it is. -/
theorem on_end {E : List Edg} {v d : Int} {i : Nat} (hi : i < (onL E v d).length) : ∃ q p : Nat, q < E.length ∧ endP E ((onL E v d).getD i 0) = ((q : Int), (p : Int)) ∧ p < nbE E q + 2 ∧
    ∀ (en : List Int) (c : Int), en.length = 2 * E.length → ((fun j => if j = q then (wayZ en (nbE E q) q).set p c else wayZ en (nbE E j) j) = fun j => wayZ (en.set ((onL E v d).getD i 0).toNat c) (nbE E j) j) := by
  have hmem : (onL E v d).getD i 0 ∈ onL E v d := by
    rw [List.getD_eq_getElem?_getD, List.getElem?_eq_getElem hi]
    exact List.getElem_mem _
  obtain ⟨q, hq, h1⟩ := onK_mem.1 hmem
  generalize (onL E v d).getD i 0 = t at *
  rcases on1_mem.1 h1 with ⟨e, _⟩ | ⟨e, _⟩
  · subst e
    refine ⟨q, 0, hq, ?_, by omega, fun en c hl => ?_⟩
    · unfold endP
      rw [if_pos (by omega), show 2 * (q : Int) / 2 = q by omega]; rfl
    · rw [show (2 * (q : Int)).toNat = 2 * q by omega]
      exact (wayZ_put E en q c hl hq).1
  · subst e
    refine ⟨q, nbE E q + 1, hq, ?_, by omega, fun en c hl => ?_⟩
    · unfold endP nbE
      rw [if_neg (by omega), show (2 * (q : Int) + 1) / 2 = q by omega, Int.toNat_natCast]
      simp
    · rw [show (2 * (q : Int) + 1).toNat = 2 * q + 1 by omega]
      exact (wayZ_put E en q c hl hq).2
theorem OwnT.nth {w : World} {B : Nat} {A : Option Addr} {n c : Nat} {l : List (Int × Int)} (h : OwnT w B (.slice A n c) l) {i : Nat} (hi : i < l.length) : ∃ b, A = some ⟨b, 0, none⟩ ∧ b < w.heap.size ∧
    w.cell? ⟨b, i * 2, none⟩ = some (.int .i64 (l[i]).1) ∧ w.cell? ⟨b, i * 2 + 1, none⟩ = some (.int .i64 (l[i]).2) := by
  obtain ⟨g, cap, hv, _, hg, _⟩ := ownsRow_form h (by omega)
  simp only [Value.slice.injEq] at hv
  obtain ⟨rfl, rfl, rfl⟩ := hv
  have hI : Inhabited (Int × Int) := ⟨(0, 0)⟩
  have hlen := flat_len encN encN_len l
  have key : ∀ r, r < 2 → w.cell? ⟨g, i * 2 + r, none⟩ = (encN l[i])[r]? := fun r hr => by
    rw [World.ownsRow.cellAt h (i * 2 + r) (by omega)]
    have h1 := flat_get encN encN_len l i r hi hr
    have h2 : i * 2 + r < (l.flatMap encN).length := by rw [hlen]; omega
    rw [List.getD_eq_getElem?_getD, List.getD_eq_getElem?_getD, List.getD_eq_getElem?_getD, List.getElem?_eq_getElem h2, List.getElem?_eq_getElem hi] at h1
    simp only [Option.getD_some] at h1
    rw [List.getElem?_eq_getElem h2, h1, List.getElem?_eq_getElem (by rw [encN_len]; exact hr)]
    rfl
  exact ⟨g, rfl, hg, key 0 (by decide), key 1 (by decide)⟩
theorem OwnT.below {w w' : World} {B C : Nat} {v : Value} {l : List (Int × Int)} (h : OwnT w B v l) (o : Below C w w') (hC : w.heap.size ≤ C) : OwnT w' B v l := ownsRow_out (S := fun _ => False) h (Out.ofBelow (o.mono hC)) (fun _ _ e => e)
theorem ptE_n {l : List Int} {c : Int} {s : NSt} : ∀ i, (ptE l c s i).n = s.n ∧ (ptE l c s i).en.length = s.en.length
  | 0 => ⟨rfl, rfl⟩
  | i + 1 => by
    obtain ⟨h1, h2⟩ := ptE_n (l := l) (c := c) (s := s) i
    refine ⟨h1, ?_⟩
    show ((ptE l c s i).en.set _ _).length = _
    rw [List.length_set, h2]
theorem ptK_n {E : List Edg} {v c : Int} {s : NSt} : ∀ d, (ptK E v c s d).n = s.n ∧ (ptK E v c s d).en.length = s.en.length
  | 0 => ⟨rfl, rfl⟩
  | d + 1 => by
    obtain ⟨h1, h2⟩ := ptK_n (E := E) (v := v) (c := c) (s := s) d
    obtain ⟨h3, h4⟩ := ptE_n (l := onL E v d) (c := c) (s := ptK E v c s d) (onL E v d).length
    exact ⟨h3.trans h1, h4.trans h2⟩
/-- What a part of the layout leaves: all but the layout's own blocks as it was. -/
def Kept (B m : Nat) (w w' : World) : Prop := Out (fun b => B ≤ b ∧ b < m) w w'
theorem Kept.refl (B m : Nat) (w : World) : Kept B m w w := Out.refl _ w
theorem Kept.trans {B m : Nat} {a b c : World} (h : Kept B m a b) (k : Kept B m b c) : Kept B m a c := Out.trans h k (fun _ _ e => e)
theorem Kept.ofB {B m : Nat} {w w' : World} (h : Below w.heap.size w w') : Kept B m w w' := Out.ofBelow h
theorem Kept.set {B m : Nat} {a w : World} (h : Kept B m a w) {p : Addr} (h1 : B ≤ p.block) (h2 : p.block < m) (u : Value) : Kept B m a (w.setCell p u) := Out.setCell (S := fun b => B ≤ b ∧ b < m) h (p := p) (fun _ => ⟨h1, h2⟩) u
theorem Kept.below {B m : Nat} {w w' : World} (h : Kept B m w w') (hB : B ≤ w.heap.size) : Below B w w' := Out.below h hB (fun _ _ e => e.1)
theorem ix4 (V : Nat → Value) (v d : Nat) (hd : d < 4) (w : World) : (Instr.index 79 (.agg #[V (v * 4), V (v * 4 + 1), V (v * 4 + 2), V (v * 4 + 3)]) (.int .i64 (d : Int))).run Tryd.prog w = .ok (V (v * 4 + d)) w := by
  have hc : d = 0 ∨ d = 1 ∨ d = 2 ∨ d = 3 := by omega
  rcases hc with rfl | rfl | rfl | rfl
  · exact ix0 _ _ _ _ w
  · exact ix1 _ _ _ _ w
  · exact ix2 _ _ _ _ w
  · exact ix3 _ _ _ _ w
def PtD (B s0 nE : Nat) (ln : Nat → Nat) (lb ob fb cF : Nat) (w wr : World) (F : List Int) (nF : Nat) (xv : Value) (E : List Edg) (v c : Nat) (s : NSt) (dv : Value) : Prop :=
  ∃ d : Nat, dv = .int .i64 d ∧ d ≤ 4 ∧ LyAt B s0 nE ln lb ob fb cF wr s.n F nF xv (fun i => wayZ (ptK E v c s d).en (nbE E i) i) ∧ Kept B (s0 + 2 * nE) w wr
def PtI (B s0 nE : Nat) (ln : Nat → Nat) (lb ob fb cF : Nat) (w wr : World) (F : List Int) (nF : Nat) (xv : Value) (E : List Edg) (l : List Int) (c n : Nat) (s : NSt) (sn : Nat) (iv : Value) : Prop :=
  ∃ i : Nat, iv = .int .i64 i ∧ i ≤ n ∧ LyAt B s0 nE ln lb ob fb cF wr sn F nF xv (fun i' => wayZ (ptE l c s i).en (nbE E i') i') ∧ Kept B (s0 + 2 * nE) w wr
set_option maxHeartbeats 16000000 in
set_option maxRecDepth 100000 in
theorem addPointY {w0 w : World} {C B s0 lb ob fb cF nF g nB : Nat} {F : List Int} {xv : Value} {s : NSt} {E : List Edg} {V : Nat → Value} (v : Nat)
    (hL : LyAt B s0 E.length (fun i => nbE E i + 2) lb ob fb cF w s.n F nF xv (fun i => wayZ s.en (nbE E i) i)) (hG : EnAt C w0 g nB V (enR E E.length)) (hv : v < nB) (h0 : w0.heap.size ≤ B) (hw : Below B w0 w) (hB : B ≤ w.heap.size) (hs0 : s0 + 2 * E.length ≤ w.heap.size)
    (hen : s.en.length = 2 * E.length) (hM : E.length ≤ 4096) (hbd : ∀ i, nbE E i ≤ 4096) (hn : s.n ≤ 100000000000) :
    Calls Tryd.prog 36 #[.pointer (some ⟨lb, 0, none⟩), .agg #[V (v * 4), V (v * 4 + 1), V (v * 4 + 2), V (v * 4 + 3)]] w fun e w' => e = .returned (.tuple #[]) ∧
      LyAt B s0 E.length (fun i => nbE E i + 2) lb ob fb cF w' (ptN E v s).n F nF xv (fun i => wayZ (ptN E v s).en (nbE E i) i) ∧ Kept B (s0 + 2 * E.length) w w' := by
  have HL := Lib.hid hL
  have HG := Lib.hid hG
  have HW := Lib.hid hw
  have H0 := Lib.hid h0
  have HB := Lib.hid hB
  have HEN := Lib.hid hen
  have HBD := Lib.hid hbd
  have NM := Lib.hid hL.nums
  obtain ⟨nE, hnE⟩ : ∃ n, E.length = n := ⟨_, rfl⟩
  have NE := Lib.hid hnE
  rw [hnE] at HL hM hs0 ⊢
  have HS0 := Lib.hid hs0
  clear hL hG hw h0 hB hen hbd hnE hs0
  go_enter Tryd.func36, Tryd.ntmps36
  go_upto_region 1 with (fail)
  obtain ⟨w1, hw1⟩ : ∃ W, W = (w.alloc (.cells #[V (v * 4), V (v * 4 + 1), V (v * 4 + 2), V (v * 4 + 3)] 79)) := ⟨_, rfl⟩
  have b1 : Below w.heap.size w w1 := by rw [hw1]; exact (Below.refl _ _).alloc (Nat.le_refl _) _
  have L1 := Lib.hid (HL.out.below b1 (Nat.le_refl _))
  have hx : w1.heap[w.heap.size]? = some (.cells #[V (v * 4), V (v * 4 + 1), V (v * 4 + 2), V (v * 4 + 3)] 79 (0, 0)) := by rw [hw1]; exact heap_alloc_new w _
  have K1 := Lib.hid (Kept.ofB (B := B) (m := s0 + 2 * nE) b1)
  have hxl : w.heap.size ≠ lb := by have := NM.out; have := HS0.out; omega
  rw [← hw1]
  clear hw1 HL b1
  obtain ⟨xb, hxb⟩ : ∃ x, x = w.heap.size := ⟨_, rfl⟩
  rw [← hxb] at hx hxl ⊢
  clear hxb
  obtain ⟨l0, -, -, -⟩ := L1.out.at_
  have lf := L1.out.fr 0
  have ll := L1.out.lt
  go_upto_region 2 with (go_at_call 37; go_must (refine (takeY lb s.n l0 lf (by omega)).mono ?_; rintro e w2 ⟨rfl, hw2⟩; have L2 : Hid (LyAt B s0 nE (fun i => nbE E i + 2) lb ob fb cF w2 (s.n + 1) F nF xv (fun i => wayZ s.en (nbE E i) i)) := Lib.hid (by rw [hw2]; exact L1.out.took _); have K2 : Hid (Kept B (s0 + 2 * nE) w w2) := Lib.hid (by rw [hw2]; exact K1.out.set (p := ⟨lb, 0, none⟩) NM.out.1 (by have := NM.out; show lb < _; omega) _); have hx2 : w2.heap[xb]? = some (.cells #[V (v * 4), V (v * 4 + 1), V (v * 4 + 2), V (v * 4 + 3)] 79 (0, 0)) := (by rw [hw2]; exact (Below.heap_setCell _ _ _ _ hxl).trans hx); clear hw2 hx))
  clear l0 lf ll K1 L1
  have x0 : w2.cell? ⟨xb, 0, none⟩ = some (V (v * 4)) := by simp [World.cell?, hx2]
  have x1 : w2.cell? ⟨xb, 1, none⟩ = some (V (v * 4 + 1)) := by simp [World.cell?, hx2]
  have x2 : w2.cell? ⟨xb, 2, none⟩ = some (V (v * 4 + 2)) := by simp [World.cell?, hx2]
  have x3 : w2.cell? ⟨xb, 3, none⟩ = some (V (v * 4 + 3)) := by simp [World.cell?, hx2]
  have xl := (Array.getElem?_eq_some_iff.1 hx2).1
  clear hx2 hxl
  go_wp2_with fail
  go_loopw [12] (fun dv wr => PtD B s0 nE (fun i => nbE E i + 2) lb ob fb cF w wr F nF xv E v s.n (moN s) dv) (fun dv _ => 4 - (intOf dv).toNat)
  case atStart => exact ⟨0, rfl, by omega, L2.out, K2.out⟩
  case round =>
    clear L2 K2 x0 x1 x2 x3 xl
    obtain ⟨d, rfl, hd, hL3, hK3⟩ := hrel
    have L3 := Lib.hid hL3
    have K3 := Lib.hid hK3
    clear hL3 hK3
    by_cases hd4 : d < 4
    · have q0 : decide (d < 4) = true := decide_eq_true hd4
      have q0' : decide ((d : Int) < 4) = true := decide_eq_true (by omega)
      obtain ⟨ho, A, c, eV⟩ := HG.out.side hv hd4
      have hix := ix4 V v d hd4
      rw [eV] at hix ho
      obtain ⟨l, hl⟩ : ∃ l, onL E (v : Int) (d : Int) = l := ⟨_, rfl⟩
      have OE := Lib.hid (fun (i : Nat) (hi : i < (onL E (v : Int) (d : Int)).length) => on_end hi)
      have HLL := Lib.hid hl
      rw [hl] at hix ho OE
      obtain ⟨n, hn2⟩ : ∃ n, l.length = n := ⟨_, rfl⟩
      rw [hn2] at hix ho OE
      have HO := Lib.hid ho
      have HN := Lib.hid hn2
      have hnb : n ≤ 8192 := by have h1 := onL_len E (v : Int) (d : Int); rw [hl, hn2] at h1; have := NE.out; omega
      clear eV ho hl hn2
      obtain ⟨wo, hwo⟩ : ∃ W, W = wr := ⟨_, rfl⟩
      subst hwo
      go_wp2_with fail
      go_loopw [17] (fun iv wr => PtI B s0 nE (fun i => nbE E i + 2) lb ob fb cF w wr F nF xv E l s.n n (ptK E v s.n (moN s) d) (s.n + 1) iv) (fun iv _ => n - (intOf iv).toNat)
      case atStart => exact ⟨0, rfl, Nat.zero_le _, L3.out, K3.out⟩
      case round =>
        clear L3 K3 hix
        obtain ⟨i, rfl, hi, hL4, hK4⟩ := hrel
        have L4 := Lib.hid hL4
        have K4 := Lib.hid hK4
        clear hL4 hK4
        by_cases hlt : i < n
        · have q1 : decide (i < n) = true := decide_eq_true hlt
          have BZ : Below B w0 wr := HW.out.trans (K4.out.below HB.out)
          obtain ⟨b, rfl, hb, f0, f1⟩ := (HO.out.below BZ H0.out).nth (i := i) (by rw [List.length_map, HN.out]; exact hlt)
          obtain ⟨q, p, hq, hqp, hp, hput⟩ := OE.out i hlt
          rw [List.getElem_map] at f0 f1
          have hgi : l[i]'(by rw [HN.out]; exact hlt) = l.getD i 0 := by rw [List.getD_eq_getElem?_getD, List.getElem?_eq_getElem (by rw [HN.out]; exact hlt)]; rfl
          rw [hgi, hqp] at f0 f1
          have PUT := Lib.hid (hput (ptE l s.n (ptK E v s.n (moN s) d) i).en s.n ((ptE_n i).2.trans ((ptK_n d).2.trans HEN.out)))
          have hqE : q < nE := by have := NE.out; omega
          obtain ⟨m, hm⟩ : ∃ m, nbE E q + 2 = m := ⟨_, rfl⟩
          rw [hm] at hp
          have hm2 : m ≤ 5000 := by have := HBD.out q; omega
          clear BZ hq hqp hgi hput
          go_upto_region 8 with (fail)
          obtain ⟨wx, hwx⟩ : ∃ W, W = (wr.alloc (.cells #[.int .i64 (q : Int), .int .i64 (p : Int)] 82)) := ⟨_, rfl⟩
          have bx : Below wr.heap.size wr wx := by rw [hwx]; exact (Below.refl _ _).alloc (Nat.le_refl _) _
          have hx : wx.heap[wr.heap.size]? = some (.cells #[.int .i64 (q : Int), .int .i64 (p : Int)] 82 (0, 0)) := by rw [hwx]; exact heap_alloc_new wr _
          have y0 : wx.cell? ⟨wr.heap.size, 0, none⟩ = some (.int .i64 (q : Int)) := by simp [World.cell?, hx]
          have y1 : wx.cell? ⟨wr.heap.size, 1, none⟩ = some (.int .i64 (p : Int)) := by simp [World.cell?, hx]
          have yl := (Array.getElem?_eq_some_iff.1 hx).1
          have LX := Lib.hid (L4.out.below bx (Nat.le_refl _))
          have KX := Lib.hid (K4.out.trans (Kept.ofB bx))
          rw [← hwx]
          generalize wr.heap.size = yb at *
          clear hwx bx hx f0 f1 hb L4 K4
          obtain ⟨-, -, -, l3⟩ := LX.out.at_
          have ll := LX.out.lt
          have ol := LX.out.ol
          obtain ⟨v0, v1⟩ := LX.out.way hqE
          obtain ⟨v2, v3⟩ := LX.out.wayC (p := p) hqE (by show p < nbE E q + 2; omega)
          have LE := Lib.hid ((LX.out.told hqE p (s.n : Int)).below (Below.refl _ _).drew (Nat.le_refl _))
          have KE := Lib.hid ((KX.out.set (p := ⟨s0 + 2 * q + 1, p, none⟩) (show B ≤ s0 + 2 * q + 1 by have := NM.out; omega) (show s0 + 2 * q + 1 < s0 + 2 * nE by omega) (.int .i64 (s.n : Int))).trans (Kept.ofB (Below.refl _ _).drew))
          rw [hm] at v0
          generalize hyy : s0 + 2 * q + 1 = yy at *
          clear hyy hm
          go_region
          go_wp2_with fail
          go_roundw
          case rel => exact ⟨i + 1, by go_num, by omega, (by show LyAt _ _ _ _ _ _ _ _ _ _ _ _ _ (fun i' => wayZ ((ptE l s.n (ptK E v s.n (moN s) d) i).en.set (l.getD i 0).toNat s.n) (nbE E i') i'); rw [← PUT.out]; exact LE.out), KE.out⟩
          case measure => (simp [intOf] <;> omega)
        · have hin : i = n := by omega
          have q1 : decide (i < n) = false := decide_eq_false hlt
          have EK : Hid (ptK E v s.n (moN s) (d + 1) = ptE l s.n (ptK E v s.n (moN s) d) i) := Lib.hid (by
            show ptE (onL E (v : Int) (d : Int)) _ _ _ = _
            rw [HLL.out, HN.out, hin])
          go_wp2_with fail
          go_roundw
          case rel => exact ⟨d + 1, by go_num, by omega, by rw [EK.out]; exact L4.out, K4.out⟩
          case measure => (simp [intOf] <;> omega)
    · have hd5 : d = 4 := by omega
      subst hd5
      have q0 : decide (4 < 4) = false := by decide
      have EN : Hid ((ptN E (v : Int) s).n = s.n + 1) := Lib.hid (ptK_n 4).1
      go_wp2_with fail
      go_end0
      exact ⟨rfl, by rw [EN.out]; exact L3.out, K3.out⟩
end Go.Proofs.YtecifgaekefkpaaDoor
