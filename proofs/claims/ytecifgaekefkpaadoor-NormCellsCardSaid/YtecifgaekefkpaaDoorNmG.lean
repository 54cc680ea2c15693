/-
  What the reference's Of answers. Conditions: a shape that may be written, at most 4096 cells.
-/
import Derived.Test.YtecifgaekefkpaaDoorNmF
import Derived.Test.YtecifgaekefkpaaDoorNcI
import Derived.OrdersHeld
namespace Go.Proofs.YtecifgaekefkpaaDoor
open Go.RowKit Go.Proofs.YtecifgaekefkpaaDoor.LexM Go.Proofs.YtecifgaekefkpaaDoor.ParM Go.Proofs.YtecifgaekefkpaaDoor.GrM Go.Proofs.YtecifgaekefkpaaDoor.NmM

theorem info_e2 : ∃ i, Tryd.prog.info? 72 = some i ∧ i.zero = some (.agg #[.int .i64 0, .int .i64 0]) ∧ i.size = 2 ∧ i.bytes = 16 := by
  have h : (Tryd.prog.info? 72).map (fun i => (i.zero, i.size, i.bytes)) = some (some (.agg #[.int .i64 0, .int .i64 0]), 2, 16) := by kernel_rfl
  cases e : Tryd.prog.info? 72 with
  | none => rw [e] at h; cases h
  | some i =>
    rw [e] at h
    simp only [Option.map_some, Option.some.injEq, Prod.mk.injEq] at h
    exact ⟨i, rfl, h.1, h.2.1, h.2.2⟩
theorem mkE2 (N : Nat) (hN : N ≤ 10000) (w : World) : (Instr.makeSlice 41 (.int .i64 (N : Int)) (.int .i64 (N : Int))).run Tryd.prog w = .ok (.slice (some ⟨w.heap.size, 0, none⟩) N N) (w.alloc (.cells (madeCells #[.int .i64 0, .int .i64 0] (N * 2)) 72)) := by
  obtain ⟨i, hi, h0, h1, h2⟩ := info_e2
  have h := run_make (P := Tryd.prog) w 41 72 i _ Tryd.underlying41 hi h0 .i64 .i64 N N (by omega) (by omega) (by rw [h2]; omega) (by omega)
  rw [h1] at h
  simpa [Value.cells] using h
theorem made_two (N : Nat) : (madeCells #[(.int .i64 0 : Value), .int .i64 0] (N * 2)).toList = (List.replicate (2 * N) (0 : Int)).map intV := by
  apply List.ext_getElem?
  intro i
  by_cases h : i < N * 2
  · have hm : i % 2 = 0 ∨ i % 2 = 1 := by omega
    rcases hm with e | e <;> simp [madeCells, h, e, intV, show i < 2 * N by omega]
  · simp [madeCells, h, show ¬ i < 2 * N by omega]
theorem of_start {w1 wr : World} {nb m : Nat} {ev : Value} (he : ev = .slice (some ⟨w1.heap.size, 0, none⟩) m m) (h1 : wr.heap[w1.heap.size]? = some (.cells (madeCells #[.int .i64 0, .int .i64 0] (m * 2)) 72 (0, 0))) (hb : NmB wr nb (.slice none 0 0) (.slice none 0 0) ev (.slice none 0 0)) (b : Below w1.heap.size w1 wr) (hm : m ≤ 10000) (V : Nat → Value) (W : Nat → List Int) :
    OfS w1.heap.size nb m w1 wr (.slice none 0 0) (.slice none 0 0) (.slice none 0 0) (.slice none 0 0) (.slice none 0 0) ev (.slice none 0 0) ⟨[], 0, List.replicate (2 * m) 0⟩ [] 0 V W 0 := by
  refine ⟨⟨OwnG.nil _ _, ?_⟩, OwnZ.nil _ _, World.ownsRow_nil _ _ _ _, fun j hj => absurd hj (by omega), hb, b⟩
  rw [he]
  refine ⟨by simp; omega, Or.inr ⟨w1.heap.size, m, _, rfl, Nat.le_refl _, h1, Nat.le_refl _, by unfold maxLen; omega, by simp [size_madeCells], ?_⟩⟩
  rw [made_two, List.take_of_length_le (by simp; omega)]
theorem OfS.b0 {B nb m : Nat} {w1 wr : World} {c0 f0 w0 cv fv ev wv : Value} {s : NSt} {F : List Int} {k : Nat} {V : Nat → Value} {W : Nat → List Int} {i : Nat} (h : OfS B nb m w1 wr c0 f0 w0 cv fv ev wv s F k V W i) (hx : B ≤ nb) (u : Value) : OfS B nb m w1 (wr.setCell ⟨nb, 0, none⟩ u) u f0 w0 cv fv ev wv s F k V W i := h.boxed hx 0 u (by simp)
theorem OfS.b1 {B nb m : Nat} {w1 wr : World} {c0 f0 w0 cv fv ev wv : Value} {s : NSt} {F : List Int} {k : Nat} {V : Nat → Value} {W : Nat → List Int} {i : Nat} (h : OfS B nb m w1 wr c0 f0 w0 cv fv ev wv s F k V W i) (hx : B ≤ nb) (u : Value) : OfS B nb m w1 (wr.setCell ⟨nb, 1, none⟩ u) c0 u w0 cv fv ev wv s F k V W i := h.boxed hx 1 u (by simp)
theorem OfS.b2 {B nb m : Nat} {w1 wr : World} {c0 f0 w0 cv fv ev wv : Value} {s : NSt} {F : List Int} {k : Nat} {V : Nat → Value} {W : Nat → List Int} {i : Nat} (h : OfS B nb m w1 wr c0 f0 w0 cv fv ev wv s F k V W i) (hx : B ≤ nb)  : OfS B nb m w1 (wr.setCell ⟨nb, 2, none⟩ ev) c0 f0 w0 cv fv ev wv s F k V W i := h.boxed hx 2 ev (by simp)
theorem OfS.b3 {B nb m : Nat} {w1 wr : World} {c0 f0 w0 cv fv ev wv : Value} {s : NSt} {F : List Int} {k : Nat} {V : Nat → Value} {W : Nat → List Int} {i : Nat} (h : OfS B nb m w1 wr c0 f0 w0 cv fv ev wv s F k V W i) (hx : B ≤ nb) (u : Value) : OfS B nb m w1 (wr.setCell ⟨nb, 3, none⟩ u) c0 f0 u cv fv ev wv s F k V W i := h.boxed hx 3 u (by simp)
theorem cntV_mono {B : List Bool} {E : List Edg} {a b : Nat} (h : a ≤ b) : cntV B E a ≤ cntV B E b := by
  induction b with
  | zero => have : a = 0 := by omega
            subst this; exact Nat.le_refl _
  | succ b ih =>
    by_cases e : a = b + 1
    · subst e; exact Nat.le_refl _
    · have := ih (by omega)
      rw [cntV]; omega
/-- The reference's ways. -/
noncomputable def bdE (E : List Edg) (s : NSt) (i k : Nat) : NSt × Int × Int × List Int := bdK i (E.getD i noE).2.2.2 (egK E s i).1 (s.en.getD (2 * i) 0) (E.getD i noE).2.2.1 k
noncomputable def wyE (E : List Edg) (s : NSt) (i : Nat) : List Int := (bdE E s i (nbE E i)).2.2.2 ++ [s.en.getD (2 * i + 1) 0]
def VtR (B : List Bool) (E : List Edg) (nB m nb : Nat) (ev : Value) (V : Nat → Value) (W : Nat → List Int) (w1 wr : World) (iv : Value) : Prop :=
  ∃ (k : Nat) (A : Option Addr) (cp : Nat) (Af : Option Addr) (cf : Nat), iv = .int .i64 k ∧ k ≤ nB ∧ OfS w1.heap.size nb m w1 wr (.slice A (vxK B E k).1.n cp) (.slice Af k cf) (.slice none 0 0) (.slice A (vxK B E k).1.n cp) (.slice Af k cf) ev (.slice none 0 0) (vxK B E k).1 (vxK B E k).2 k V W 0
def PtR (E : List Edg) (v c m nb k : Nat) (s : NSt) (F : List Int) (xv fv ev : Value) (V : Nat → Value) (W : Nat → List Int) (w1 wr : World) (dv : Value) : Prop :=
  ∃ d : Nat, dv = .int .i64 d ∧ d ≤ 4 ∧ OfS w1.heap.size nb m w1 wr xv fv (.slice none 0 0) xv fv ev (.slice none 0 0) (ptK E v c s d) F k V W 0
def PiR (l : List Int) (n c m nb k : Nat) (s : NSt) (F : List Int) (xv fv ev lv : Value) (V : Nat → Value) (W : Nat → List Int) (w1 wr : World) (iv : Value) : Prop :=
  ∃ i : Nat, iv = .int .i64 i ∧ i ≤ n ∧ OfS w1.heap.size nb m w1 wr xv fv (.slice none 0 0) xv fv ev (.slice none 0 0) (ptE l c s i) F k V W 0 ∧ OwnZ wr w1.heap.size lv l n
def OfP (B : List Bool) (E : List Edg) (w : World) (e : Ending) (w' : World) : Prop :=
  ∃ cv fv ev wv V, e = .returned (.agg #[cv, fv, ev, wv]) ∧ OwnG w' w.heap.size cv (egK E (vxK B E B.length).1 E.length).1.L (egK E (vxK B E B.length).1 E.length).1.n ∧ OwnZ w' w.heap.size fv (vxK B E B.length).2 B.length ∧
    w'.ownsRow w.heap.size 32 1 wv E.length ((List.range E.length).map V) ∧ (∀ j, j < E.length → OwnZ w' w.heap.size (V j) (wyE E (vxK B E B.length).1 j) (wyE E (vxK B E B.length).1 j).length) ∧ (∃ A c, ev = .slice A E.length c) ∧ Below w.heap.size w w'
theorem bdK_m {i : Int} {bl : List UInt8} {s : NSt} {a d : Int} : ∀ k, (bdK i bl s a d k).1.n = s.n + k ∧ (bdK i bl s a d k).1.en = s.en ∧ (bdK i bl s a d k).2.2.2.length = k + 1
  | 0 => ⟨rfl, rfl, rfl⟩
  | k + 1 => by
    obtain ⟨h1, h2, h3⟩ := bdK_m (i := i) (bl := bl) (s := s) (a := a) (d := d) k
    refine ⟨?_, h2, ?_⟩
    · show (bdK i bl s a d k).1.n + 1 = _
      omega
    · show ((bdK i bl s a d k).2.2.2 ++ [_]).length = _
      rw [List.length_append, h3]; rfl
theorem egK_m {E : List Edg} {s : NSt} : ∀ i, (egK E s i).1.n = s.n + bndK E i ∧ (egK E s i).1.en = s.en
  | 0 => ⟨rfl, rfl⟩
  | i + 1 => by
    obtain ⟨h1, h2⟩ := egK_m (E := E) (s := s) i
    obtain ⟨h3, h4, _⟩ := bdK_m (i := (i : Int)) (bl := (E.getD i noE).2.2.2) (s := (egK E s i).1) (a := s.en.getD (2 * i) 0) (d := (E.getD i noE).2.2.1) (E.getD i noE).2.2.2.length
    refine ⟨?_, h4.trans h2⟩
    show (bdK (i : Int) (E.getD i noE).2.2.2 (egK E s i).1 (s.en.getD (2 * i) 0) (E.getD i noE).2.2.1 (E.getD i noE).2.2.2.length).1.n = _
    rw [h3, h1, bndK]
    unfold nbE
    omega
def EtR (E : List Edg) (s : NSt) (F : List Int) (nB nE nb : Nat) (fv ev : Value) (W : Nat → List Int) (w1 wr : World) (iv : Value) : Prop :=
  ∃ (i : Nat) (A : Option Addr) (cp : Nat) (Aw : Option Addr) (cw : Nat) (V : Nat → Value), iv = .int .i64 i ∧ i ≤ nE ∧ OfS w1.heap.size nb nE w1 wr (.slice A (egK E s i).1.n cp) fv (.slice Aw i cw) (.slice A (egK E s i).1.n cp) fv ev (.slice Aw i cw) (egK E s i).1 F nB V W i
def BtR (E : List Edg) (s : NSt) (F : List Int) (nB nE nb i C nl : Nat) (fv ev wv : Value) (V : Nat → Value) (W : Nat → List Int) (w1 wr : World) (av dv yv kv : Value) : Prop :=
  ∃ (k z : Nat) (A : Option Addr) (cp : Nat) (Az : Option Addr) (cz : Nat), kv = .int .i64 k ∧ k ≤ nl ∧ av = .int .i64 (bdE E s i k).2.1 ∧ dv = .int .i64 z ∧ (z : Int) = (bdE E s i k).2.2.1 ∧ z < 4 ∧ yv = .slice Az (k + 1) cz ∧
    OfS w1.heap.size nb nE w1 wr (.slice A (bdE E s i k).1.n cp) fv wv (.slice A (bdE E s i k).1.n cp) fv ev wv (bdE E s i k).1 F nB V W i ∧ OwnZ wr C yv (bdE E s i k).2.2.2 (k + 1)
theorem newsR (w : World) (t : TypeId) (x : Value) (b : Nat) (hb : w.heap.size = b) : ∀ j z, [x][j]? = some z → (w.alloc (.cells #[x] t)).cell? ((⟨b, 0, none⟩ : Addr).add j) = some z := by
  intro j z hz
  have hj : j = 0 := by have := List.getElem?_eq_some_iff.1 hz; simp at this; omega
  subst hj hb
  simp at hz
  subst hz
  go_simp
theorem OwnZ.one (w : World) (x : Int) : OwnZ (w.alloc (.cells #[.int .i64 x] 3)) w.heap.size (.slice (some ⟨w.heap.size, 0, none⟩) 1 1) [x] 1 :=
  ⟨rfl, rfl, Or.inr ⟨w.heap.size, 1, _, rfl, Nat.le_refl _, heap_alloc_new w _, Nat.le_refl _, by unfold maxLen; omega, rfl, rfl⟩⟩
set_option maxHeartbeats 16000000 in
set_option maxRecDepth 100000 in
theorem refOf {w : World} (bv ev0 : Value) (B : List Bool) (E : List Edg) (hB : BlsAt w bv B) (hE : EdsAt w ev0 E) (hM : May B E) (hc : cntN B E ≤ 4096) (hok : OkEs E) :
    Calls Tryd.prog 10 #[.agg #[bv, ev0]] w (OfP B E w) := by
  obtain ⟨i0, hi, hz0, hz1, hz2⟩ := info_z
  obtain ⟨ic, hci, hc0, hc1, hc2⟩ := info_c8
  obtain ⟨AB, cB, e⟩ := hB.form
  subst e
  obtain ⟨AE, cE, e⟩ := hE.form
  subst e
  have HB := Lib.hid hB
  have HE := Lib.hid hE
  have HM := Lib.hid hM
  have HOK := Lib.hid hok
  have hbl := hM.vs
  have hel := hM.es
  have ON := Lib.hid (fun (v d : Int) w1 (b : Below w.heap.size w w1) => refOn (.slice AB B.length cB) _ E v d w1 (hE.below b (Nat.le_refl _)) hel hok)
  unfold OfP
  obtain ⟨nB, hnB⟩ : ∃ n, B.length = n := ⟨_, rfl⟩
  obtain ⟨nE, hnE⟩ : ∃ n, E.length = n := ⟨_, rfl⟩
  rw [hnB] at HB hbl ON ⊢
  rw [hnE] at HE hel ON ⊢
  have NB := Lib.hid hnB
  have NE := Lib.hid hnE
  have CV : Hid (∀ k, k ≤ nB → (vxK B E k).1.n = cntV B E k ∧ cntV B E k ≤ 4096) := Lib.hid (fun k hk => ⟨(vxK_m B E k).1, by
    have h1 : cntV B E k ≤ cntV B E B.length := cntV_mono (by omega)
    unfold cntN at hc
    omega⟩)
  have CE : Hid (∀ k, k ≤ nE → cntV B E nB + bndK E k ≤ 4096) := Lib.hid (fun k hk => by
    have h1 := bndK_le (E := E) (i := k) (by omega)
    rw [bndK_all] at h1
    unfold cntN at hc
    rw [hnB] at hc
    omega)
  have hmk := mkE2 nE (by omega)
  clear hB hE hM hc hok hnB hnE
  go_enter Tryd.func10, Tryd.ntmps10
  go_upto_region 1 with (fail)
  obtain ⟨w1, hw1⟩ : ∃ W, W = ((w.alloc (.cells #[.slice AB nB cB, .slice AE nE cE] 29)).alloc (.cells #[.slice none 0 0, .slice none 0 0, .slice none 0 0, .slice none 0 0] 43)) := ⟨_, rfl⟩
  have SB : Hid (ShB w1 w.heap.size (.slice AB nB cB) (.slice AE nE cE)) := Lib.hid (by rw [hw1]; unfold ShB; rw [Below.heap_alloc _ _ _ (by simp)]; exact heap_alloc_new w _)
  have RB : Hid (NmB w1 (w.heap.size + 1) (.slice none 0 0) (.slice none 0 0) (.slice none 0 0) (.slice none 0 0)) := Lib.hid (by rw [hw1]; exact heap_two w _ _)
  have B1 : Hid (Below w.heap.size w w1) := Lib.hid (by rw [hw1]; exact ((Below.refl _ _).alloc (Nat.le_refl _) _).alloc (by simp) _)
  rw [← hw1]
  obtain ⟨rb, hrb⟩ : ∃ x, x = w.heap.size + 1 := ⟨_, rfl⟩
  rw [← hrb] at RB ⊢
  obtain ⟨sb, hsb⟩ : ∃ x, x = w.heap.size := ⟨_, rfl⟩
  rw [← hsb] at SB ⊢
  have RBW : Hid (w.heap.size ≤ rb ∧ rb < w1.heap.size) := Lib.hid ⟨by omega, RB.out.lt⟩
  clear hw1 hrb hsb
  obtain ⟨x0, x1⟩ := SB.out.at_
  have xl := SB.out.lt
  go_upto_region 2 with (fail)
  obtain ⟨ev, hev⟩ : ∃ ev, ev = Value.slice (some ⟨w1.heap.size, 0, none⟩) nE nE := ⟨_, rfl⟩
  obtain ⟨w2, hw2⟩ : ∃ W, W = ((w1.alloc (.cells (madeCells #[.int .i64 0, .int .i64 0] (nE * 2)) 72)).alloc (.cells #[.slice none 0 0, .slice none 0 0, .slice (some ⟨w1.heap.size, 0, none⟩) nE nE, .slice none 0 0] 43)) := ⟨_, rfl⟩
  obtain ⟨W, hW⟩ : ∃ W : Nat → List Int, W = wyE E (vxK B E nB).1 := ⟨_, rfl⟩
  have b2 : Below w1.heap.size w1 w2 := by rw [hw2]; exact ((Below.refl _ _).alloc (Nat.le_refl _) _).alloc (by simp) _
  have O2 : Hid (OfS w1.heap.size (w1.heap.size + 1) nE w1 w2 (.slice none 0 0) (.slice none 0 0) (.slice none 0 0) (.slice none 0 0) (.slice none 0 0) ev (.slice none 0 0) ⟨[], 0, List.replicate (2 * nE) 0⟩ [] 0 (fun _ => .slice none 0 0) W 0) := Lib.hid (of_start hev (by rw [hw2, Below.heap_alloc _ _ _ (by simp)]; exact heap_alloc_new w1 _) (by rw [hw2, hev]; exact heap_two w1 _ _) b2 (by omega) _ _)
  rw [← hw2]
  obtain ⟨nb, hnb⟩ : ∃ x, x = w1.heap.size + 1 := ⟨_, rfl⟩
  have NBB : Hid (w1.heap.size ≤ nb) := Lib.hid (by omega)
  rw [← hnb] at O2 ⊢
  have HWW := Lib.hid hW
  rw [← hev]
  obtain ⟨ge, hge⟩ : ∃ g, ev = Value.slice (some ⟨g, 0, none⟩) nE nE := ⟨_, hev⟩
  have SZ : Hid (∀ wr, Below w1.heap.size w1 wr → w1.heap.size ≤ wr.heap.size ∧ wr.cell? ⟨sb, 0, none⟩ = some (.slice AB nB cB) ∧ wr.cell? ⟨sb, 1, none⟩ = some (.slice AE nE cE) ∧ sb < wr.heap.size ∧ Below w.heap.size w wr) := Lib.hid (fun wr b => by
    have h := SB.out.below b (Nat.le_refl _)
    exact ⟨b.size, h.at_.1, h.at_.2, h.lt, B1.out.trans (b.mono B1.out.size)⟩)
  clear hw2 b2 hnb hW hev x0 x1 xl hmk SB
  subst hge
  go_wp2_with fail
  go_loopw [4] (fun iv wr => VtR B E nB nE nb (.slice (some ⟨ge, 0, none⟩) nE nE) (fun _ => .slice none 0 0) W w1 wr iv) (fun iv _ => nB - (intOf iv).toNat)
  case atStart => exact ⟨0, none, 0, none, 0, rfl, Nat.zero_le _, by show OfS _ _ _ _ _ _ _ _ _ _ _ _ ⟨[], 0, List.replicate (2 * E.length) 0⟩ _ _ _ _ _; rw [NE.out]; exact O2.out⟩
  case round =>
    clear O2
    obtain ⟨k, A, cp, Af, cf, rfl, hk, hO⟩ := hrel
    obtain ⟨v1, v2⟩ := CV.out k hk
    have VX : Hid (vxK B E (k + 1) = (if B.getD k false = true then bxN E k (vxK B E k).1 else ptN E k (vxK B E k).1, (vxK B E k).2 ++ [((vxK B E k).1.n : Int)])) := Lib.hid rfl
    obtain ⟨⟨s, F⟩, hsF⟩ : ∃ z, vxK B E k = z := ⟨_, rfl⟩
    have HSF := Lib.hid hsF
    rw [hsF] at hO v1 VX
    obtain ⟨n, hn⟩ : ∃ n, s.n = n := ⟨_, rfl⟩
    have SN := Lib.hid hn
    have O3 : Hid (OfS w1.heap.size nb nE w1 wr (.slice A n cp) (.slice Af k cf) (.slice none 0 0) (.slice A n cp) (.slice Af k cf) (.slice (some ⟨ge, 0, none⟩) nE nE) (.slice none 0 0) s F k (fun _ => .slice none 0 0) W 0) := Lib.hid (by rw [← hn]; exact hO)
    have hn4 : n ≤ 4096 := by have h : s.n = cntV B E k := v1; omega
    have V1 : Hid (s.n = cntV B E k) := Lib.hid v1
    clear hO v1 v2 hsF hn
    obtain ⟨hwB, x0, x1, xl, BW⟩ := SZ.out wr O3.out.bel
    have HB3 := Lib.hid BW
    clear BW
    obtain ⟨y0, y1, y2, y3⟩ := O3.out.bx.at_
    have yl := O3.out.bx.lt
    have yf1 := O3.out.bx.fr 1
    by_cases hlt : k < nB
    · have q0 : decide (k < nB) = true := decide_eq_true hlt
      have hkB : k < B.length := by have := NB.out; omega
      go_upto_region 7 with (at_builtin; go_must (refine wpList_append_fresh rfl (.tmp 33) (.tmp 35) 32 rfl w1.heap.size 3 i0 (.int .i64 0) 1 8 Tryd.underlying32 hi hz0 hz1 hz2 rfl (by decide) (.slice Af k cf) k (F.map intV) rfl (O3.out.fst.below ((Below.refl _ _).alloc (Nat.le_refl _) _) (Nat.le_refl _)).2 ⟨wr.heap.size, 0, none⟩ 1 1 [intV (n : Int)] rfl rfl (newsZ _ _ _ _ rfl) (oneZ _) (by unfold maxLen; omega) (by omega) (by simp; omega) ?_; intro v5 w5 hown hgrow hfr; have o5 := OwnZ.more O3.out.fst.1 hown; obtain ⟨a5, c5, e5⟩ := o5.form; subst e5; have O5 := Lib.hid ((O3.out.below hwB ((Below.refl _ _).alloc (Nat.le_refl _) _)).grownF (by simp; omega) hgrow o5); have hwB5 : w1.heap.size ≤ w5.heap.size := (by have h := hgrow.size; simp at h; omega); clear hown hgrow hfr o5 y0 y1 y2 y3 yl yf1; obtain ⟨y0, y1, y2, y3⟩ := O5.out.bx.at_; have yl := O5.out.bx.lt; have yf1 := O5.out.bx.fr 1))
      have O6 : Hid (OfS w1.heap.size nb nE w1 (w5.setCell ⟨nb, 1, none⟩ (.slice a5 (k + 1) c5)) (.slice A n cp) (.slice a5 (k + 1) c5) (.slice none 0 0) (.slice A n cp) (.slice a5 (k + 1) c5) (.slice (some ⟨ge, 0, none⟩) nE nE) (.slice none 0 0) s (F ++ [(n : Int)]) (k + 1) (fun _ => .slice none 0 0) W 0) := Lib.hid (O5.out.b1 NBB.out _)
      obtain ⟨w6, hw6⟩ : ∃ Wq, Wq = w5.setCell ⟨nb, 1, none⟩ (.slice a5 (k + 1) c5) := ⟨_, rfl⟩
      rw [← hw6] at O6
      rw [← hw6]
      clear hw6 O5 O3 y0 y1 y2 y3 yl yf1 x0 x1 xl HB3 hwB hwB5
      obtain ⟨hwB6, x0, x1, xl, BW6⟩ := SZ.out w6 O6.out.bel
      obtain ⟨bb, obb, rfl, hbb, z0⟩ := HB.out.one hkB
      have f0 := (BW6.cell (p := ⟨bb, obb + k, none⟩) hbb).trans z0
      have hbw := Nat.lt_of_lt_of_le hbb BW6.size
      obtain ⟨t, ht⟩ : ∃ t, B.getD k false = t := ⟨_, rfl⟩
      have HT := Lib.hid ht
      rw [ht] at f0
      have B6 := Lib.hid BW6
      clear ht z0 BW6 hbb
      obtain ⟨y0, y1, y2, y3⟩ := O6.out.bx.at_
      have yl := O6.out.bx.lt
      cases t
      · have EVX : Hid (vxK B E (k + 1) = (ptN E k s, F ++ [(n : Int)])) := Lib.hid (by rw [VX.out, HT.out, ← SN.out]; rfl)
        go_upto_region 10 with (go_at_call 27; refine (refNew 1 _ (by decide)).mono ?_; rintro e w7 ⟨⟨g7, rfl, o7⟩, b7⟩; have O7 := Lib.hid o7; have P7 := Lib.hid (O6.out.below hwB6 b7); have hwB7 : w1.heap.size ≤ w7.heap.size := Nat.le_trans hwB6 b7.size; clear o7 b7 y0 y1 y2 y3 yl x0 x1 xl f0 hbw; obtain ⟨y0, y1, y2, y3⟩ := P7.out.bx.at_; have yl := P7.out.bx.lt; have yf := P7.out.bx.fr 0)
        go_upto_region 11 with (at_builtin; go_must (refine wpList_append_fresh rfl (.tmp 49) (.tmp 50) 31 rfl w1.heap.size 51 ic (.agg #[.int .i64 0, .int .i64 0, .int .i64 0, .int .i64 0, .int .i64 0, .int .i64 0, .int .i64 0, .int .i64 0]) 8 64 Tryd.underlying31 hci hc0 hc1 hc2 rfl (by decide) (.slice A n cp) n (s.L.map intV) rfl (by have h := P7.out.nm.cel; rw [SN.out] at h; exact h) ⟨g7, 0, none⟩ 1 1 ((newG 1).map intV) rfl rfl (O7.out.cells rfl) (allI _) (by unfold maxLen; omega) (by omega) hwB7 ?_; intro v8 w8 hown hgrow hfr; have o8 := more_cells hown; obtain ⟨a8, c8, e8⟩ := o8.form; subst e8; have O8 := Lib.hid (P7.out.grownC (s' := moN s) hwB7 hgrow (by show OwnG _ _ _ (s.L ++ freeC) (s.n + 1); rw [SN.out]; exact o8) rfl); have hwB8 : w1.heap.size ≤ w8.heap.size := (by have := hgrow.size; omega); clear hown hgrow hfr o8 y0 y1 y2 y3 yl yf; obtain ⟨y0, y1, y2, y3⟩ := O8.out.bx.at_; have yl := O8.out.bx.lt; have yf := O8.out.bx.fr 0))
        have O9 := Lib.hid (O8.out.b0 NBB.out (.slice a8 (n + 1) c8))
        obtain ⟨w9, hw9⟩ : ∃ Wq, Wq = w8.setCell ⟨nb, 0, none⟩ (.slice a8 (n + 1) c8) := ⟨_, rfl⟩
        rw [← hw9] at O9
        rw [← hw9]
        clear hw9 O8 P7 O7 O6 y0 y1 y2 y3 yl yf hwB6 hwB7 hwB8
        go_wp2_with fail
        go_loopw [7] (fun dv wr => PtR E k n nE nb (k + 1) (moN s) (F ++ [(n : Int)]) (.slice a8 (n + 1) c8) (.slice a5 (k + 1) c5) (.slice (some ⟨ge, 0, none⟩) nE nE) (fun _ => .slice none 0 0) W w1 wr dv) (fun dv _ => 4 - (intOf dv).toNat)
        case atStart => exact ⟨0, rfl, by omega, O9.out⟩
        case round =>
          clear O9
          obtain ⟨d, rfl, hd, hO⟩ := hrel
          have O10 := Lib.hid hO
          obtain ⟨hwB, x0, x1, xl, BW⟩ := SZ.out _ hO.bel
          have B10 := Lib.hid BW
          clear hO BW
          by_cases hd4 : d < 4
          · have q1 : decide (d < 4) = true := decide_eq_true hd4
            have q1' : decide ((d : Int) < 4) = true := decide_eq_true (by omega)
            go_upto_region 15 with (go_at_call 25; go_must (refine (ON.out (k : Int) (d : Int) _ B10.out).mono ?_; rintro e w11 ⟨⟨A11, c11, n11, rfl, o11, hn11⟩, b11⟩; have Z11 := Lib.hid (o11.base hwB); have HL11 : Hid ((onL E (k : Int) (d : Int)).length = n11) := Lib.hid o11.1; have O11 := Lib.hid (O10.out.below hwB b11); clear o11 b11 x0 x1 xl))
            obtain ⟨sd, hsd⟩ : ∃ z, ptK E (k : Int) (n : Int) (moN s) d = z := ⟨_, rfl⟩
            have HSD := Lib.hid hsd
            rw [hsd] at O11
            obtain ⟨l, hl⟩ : ∃ z, onL E (k : Int) (d : Int) = z := ⟨_, rfl⟩
            have LM : Hid (∀ i, i < n11 → ∃ t : Nat, l.getD i 0 = (t : Int) ∧ t / 2 < nE) := Lib.hid (fun i hi => by
              have hlen := HL11.out
              have hmem : (onL E (k : Int) (d : Int)).getD i 0 ∈ onL E (k : Int) (d : Int) := by
                rw [List.getD_eq_getElem?_getD, List.getElem?_eq_getElem (by omega)]
                exact List.getElem_mem _
              rw [← hl]
              obtain ⟨q, hq, h1⟩ := onK_mem.1 hmem
              have hmm := NE.out
              rcases on1_mem.1 h1 with ⟨e, _⟩ | ⟨e, _⟩
              · exact ⟨2 * q, by omega, by omega⟩
              · exact ⟨2 * q + 1, by omega, by omega⟩)
            rw [hl] at Z11 HL11
            have HLL := Lib.hid hl
            clear hl hsd O10 B10
            go_wp2_with fail
            go_loopw [9] (fun iv wr => PiR l n11 n nE nb (k + 1) sd (F ++ [(n : Int)]) (.slice a8 (n + 1) c8) (.slice a5 (k + 1) c5) (.slice (some ⟨ge, 0, none⟩) nE nE) (.slice A11 n11 c11) (fun _ => .slice none 0 0) W w1 wr iv) (fun iv _ => n11 - (intOf iv).toNat)
            case atStart => exact ⟨0, rfl, Nat.zero_le _, O11.out, Z11.out⟩
            case round =>
              clear O11 Z11 hwB
              obtain ⟨i, rfl, hin, hO, hZ⟩ := hrel
              have O12 := Lib.hid hO
              have Z12 := Lib.hid hZ
              have hwB : w1.heap.size ≤ wr.heap.size := hO.bel.size
              have PI : Hid (ptE l (n : Int) sd (i + 1) = putE (ptE l (n : Int) sd i) (l.getD i 0) (n : Int)) := Lib.hid rfl
              obtain ⟨⟨ZL, zn, ze⟩, hz⟩ : ∃ z, ptE l (n : Int) sd i = z := ⟨_, rfl⟩
              rw [hz] at O12 PI
              have HZ := Lib.hid hz
              clear hO hZ hz
              by_cases hlt3 : i < n11
              · have q2 : decide (i < n11) = true := decide_eq_true hlt3
                obtain ⟨t, ht, htm⟩ := LM.out i hlt3
                obtain ⟨g11, e11⟩ : ∃ g, A11 = some ⟨g, 0, none⟩ := by
                  obtain ⟨g, cap, hv, _⟩ := ownsRow_form Z12.out.2 (by omega)
                  simp only [Value.slice.injEq, true_and] at hv
                  exact ⟨g, hv.1⟩
                subst e11
                have f0 := Z12.out.at_ hlt3
                rw [ht] at f0
                have HTT := Lib.hid ht
                obtain ⟨a, ha⟩ : ∃ a : Nat, (t : Int) / 2 = (a : Int) := ⟨t / 2, by omega⟩
                obtain ⟨r, hr⟩ : ∃ r : Nat, (t : Int) % 2 = (r : Int) := ⟨t % 2, by omega⟩
                have ham : a < nE := by omega
                have hr2 : r < 2 := by omega
                have hat : a * 2 + r = t := by omega
                have HE2 : wr.ownsRow w1.heap.size 72 2 (.slice (some ⟨ge, 0, none⟩) nE nE) nE (ze.map intV) := O12.out.nm.ends
                have hle : (ze.map intV).length = nE * 2 := HE2.1
                have ha' : (t : Int).tdiv 2 = (a : Int) := by rw [Int.tdiv_eq_ediv_of_nonneg (by omega)]; exact ha
                have hr' : (t : Int).tmod 2 = (r : Int) := by rw [Int.tmod_eq_emod_of_nonneg (by omega)]; exact hr
                obtain ⟨y0, j0⟩ : ∃ y, wr.cell? ⟨ge, a * 2 + r, none⟩ = some y := ⟨_, by rw [World.ownsRow.cellAt HE2 (a * 2 + r) (by omega), List.getElem?_eq_getElem (by omega)]⟩
                have j1 := World.ownsRow.frozenAt HE2 (a * 2 + r)
                have zl11 := (World.ownsRow.lt Z12.out.2 g11 rfl).2
                have zle := (World.ownsRow.lt HE2 ge rfl).2
                have hix : a * 2 + r = (l.getD i 0).toNat := by rw [HTT.out, Int.toNat_natCast]; exact hat
                have o13 := (O12.out.told hwB rfl (a * 2 + r) (n : Int)).below (by simpa [World.setCell] using hwB) (Below.refl _ _).drew
                have O13 : Hid (OfS w1.heap.size nb nE w1 (wr.setCell ⟨ge, a * 2 + r, none⟩ (.int .i64 (n : Int))).drew (.slice a8 (n + 1) c8) (.slice a5 (k + 1) c5) (.slice none 0 0) (.slice a8 (n + 1) c8) (.slice a5 (k + 1) c5) (.slice (some ⟨ge, 0, none⟩) nE nE) (.slice none 0 0) (ptE l (n : Int) sd (i + 1)) (F ++ [(n : Int)]) (k + 1) (fun _ => .slice none 0 0) W 0) := Lib.hid (by rw [PI.out]; unfold putE; rw [← hix]; exact o13)
                have Z13 := Lib.hid ((Z12.out.told HE2 rfl (a * 2 + r) (.int .i64 (n : Int))).below (Below.refl _ _).drew (Nat.le_refl _))
                have cw1 : IntKind.i64.wrap (a : Int) = (a : Int) := IntWalk.i64_in _ (by omega)
                have cw2 : IntKind.i64.wrap (r : Int) = (r : Int) := IntWalk.i64_in _ (by omega)
                obtain ⟨-, -, u2, -⟩ := O12.out.bx.at_
                have ul := O12.out.bx.lt
                clear ht htm hle HE2 hix o13 hat
                go_upto_region 18 with (fail)
                go_region
                clear j0 j1 f0 u2 ul zl11 zle cw1 cw2 ha hr ha' hr'
                go_wp2_with fail
                go_roundw
                case rel => exact ⟨i + 1, by go_num, by omega, O13.out, Z13.out⟩
                case measure => (simp [intOf] <;> omega)
              · have hin2 : i = n11 := by omega
                have q2 : decide (i < n11) = false := decide_eq_false hlt3
                have EK : Hid (ptK E (k : Int) (n : Int) (moN s) (d + 1) = ⟨ZL, zn, ze⟩) := Lib.hid (by
                  show ptE (onL E (k : Int) (d : Int)) _ _ _ = _
                  rw [HLL.out, HL11.out, ← hin2, HSD.out, HZ.out])
                clear hin2
                go_wp2_with fail
                go_roundw
                case rel => exact ⟨d + 1, by go_num, by omega, by rw [EK.out]; exact O12.out⟩
                case measure => (simp [intOf] <;> omega)
          · have hd5 : d = 4 := by omega
            have q1 : decide (d < 4) = false := decide_eq_false hd4
            have q1' : decide ((d : Int) < 4) = false := decide_eq_false (by omega)
            rw [hd5] at O10
            have PN : Hid ((ptN E (k : Int) s).n = n + 1) := Lib.hid (by
              have h := (ptK_n (E := E) (v := (k : Int)) (c := (s.n : Int)) (s := moN s) 4).1
              show (ptK E (k : Int) s.n (moN s) 4).n = _
              rw [h, ← SN.out]; rfl)
            have PK : Hid (ptN E (k : Int) s = ptK E (k : Int) (n : Int) (moN s) 4) := Lib.hid (by unfold ptN; rw [SN.out])
            clear hd5
            go_wp2_with fail
            go_roundw
            case rel => exact ⟨k + 1, a8, c8, a5, c5, by go_num, by omega, by rw [EVX.out]; show OfS _ _ _ _ _ (.slice a8 (ptN E (k : Int) s).n c8) _ _ (.slice a8 (ptN E (k : Int) s).n c8) _ _ _ _ _ _ _ _ _; rw [PN.out, PK.out]; exact O10.out⟩
            case measure => (simp [intOf] <;> omega)
      · have EVX : Hid (vxK B E (k + 1) = (bxN E k s, F ++ [(n : Int)])) := Lib.hid (by rw [VX.out, HT.out, ← SN.out]; rfl)
        have hcn := (CV.out (k + 1) (by omega)).2
        have BX := Lib.hid (refBox (w0 := w1) (bv := .slice (some ⟨bb, obb, none⟩) nB cB) (fv := .slice a5 (k + 1) c5) (wv := .slice none 0 0) k O6.out.nm hwB6 (HE.out.below B1.out (Nat.le_refl _)) (Nat.le_refl _) O6.out.bel NE.out.symm O6.out.nm.right (by rw [NE.out]; exact hel) HOK.out (by rw [V1.out]; rw [cntV] at hcn; unfold vtxC at hcn; rw [HT.out, if_pos rfl] at hcn; omega) ⟨_, _, _, rfl⟩ ⟨_, _, _, rfl⟩)
        go_wp2_with (go_at_call 26; go_must (refine BX.out.mono ?_; rintro e w7 ⟨cv7, rfl, nm7, b7, o7, -⟩; obtain ⟨a7, c7, e7⟩ := nm7.cel.form; subst e7; have O7 := Lib.hid (O6.out.past hwB6 o7 (fun b e => e) nm7); clear nm7 b7 o7 y0 y1 y2 y3 yl x0 x1 xl f0 hbw; obtain ⟨y0, y1, y2, y3⟩ := O7.out.bx.at_; have yl := O7.out.bx.lt; have yf0 := O7.out.bx.fr 0; have yf1 := O7.out.bx.fr 1; have yf2 := O7.out.bx.fr 2; have yf3 := O7.out.bx.fr 3; obtain ⟨n7, hn7⟩ : ∃ n, (bxN E (k : Int) s).n = n := ⟨_, rfl⟩; have N7 := Lib.hid hn7; rw [hn7] at O7; rw [hn7]; clear hn7))
        have O8 := Lib.hid ((((O7.out.b0 NBB.out (.slice a7 n7 c7)).b1 NBB.out (.slice a5 (k + 1) c5)).b2 NBB.out).b3 NBB.out (.slice none 0 0))
        go_roundw
        case rel => exact ⟨k + 1, a7, c7, a5, c5, by go_num, by omega, by rw [EVX.out]; show OfS _ _ _ _ _ (.slice a7 (bxN E (k : Int) s).n c7) _ _ (.slice a7 (bxN E (k : Int) s).n c7) _ _ _ _ _ _ _ _ _; rw [N7.out]; exact O8.out⟩
        case measure => (simp [intOf] <;> omega)
    · have hkn : k = nB := by omega
      have q0 : decide (k < nB) = false := decide_eq_false hlt
      have FN := (CV.out nB (Nat.le_refl _)).1
      rw [hkn] at HSF V1
      have HS1 : Hid ((vxK B E nB).1 = s ∧ (vxK B E nB).2 = F) := Lib.hid (by rw [HSF.out]; exact ⟨rfl, rfl⟩)
      have W1 : Hid (W = wyE E s) := Lib.hid (by rw [HWW.out, HSF.out])
      rw [hkn] at O3
      clear hkn FN
      obtain ⟨fv, hfv⟩ : ∃ fv, fv = Value.slice Af nB cf := ⟨_, rfl⟩
      rw [← hfv] at O3
      have FF := Lib.hid hfv
      have N0 : Hid (s.n ≤ 4096 ∧ ∀ i, i ≤ nE → s.n + bndK E i ≤ 4096) := Lib.hid ⟨by rw [SN.out]; exact hn4, fun i hi => by rw [V1.out]; exact CE.out i hi⟩
      rw [← SN.out] at O3
      clear hfv y0 y1 y2 y3 yl yf1
      go_wp2_with fail
      clear x0 x1 xl
      go_loopw [10] (fun iv wr => EtR E s F nB nE nb fv (.slice (some ⟨ge, 0, none⟩) nE nE) W w1 wr iv) (fun iv _ => nE - (intOf iv).toNat)
      case atStart => exact ⟨0, A, cp, none, 0, fun _ => .slice none 0 0, rfl, Nat.zero_le _, O3.out⟩
      case round =>
        clear O3 HB3 hwB
        obtain ⟨i, A1, cp1, Aw, cw, V, rfl, hiN, hO⟩ := hrel
        have O4 := Lib.hid hO
        obtain ⟨hwB, x0, x1, xl, BW⟩ := SZ.out _ hO.bel
        obtain ⟨y0, y1, y2, y3⟩ := hO.bx.at_
        have yl := hO.bx.lt
        clear hO
        by_cases hlt2 : i < nE
        · have q1 : decide (i < nE) = true := decide_eq_true hlt2
          have hiE : i < E.length := by have := NE.out; omega
          obtain ⟨be, oe, rfl, hbe, z0, z1, z2, z3⟩ := HE.out.one hiE
          have EF : Hid (∀ wq, Below w1.heap.size w1 wq → wq.cell? ⟨be, oe + i * 4 + 2, none⟩ = some (.int .i64 E[i].2.2.1) ∧ wq.cell? ⟨be, oe + i * 4 + 3, none⟩ = some (.string (bs E[i].2.2.2)) ∧ be < wq.heap.size) := Lib.hid (fun wq b => by
            have B := (SZ.out wq b).2.2.2.2
            exact ⟨(B.cell (p := ⟨be, oe + i * 4 + 2, none⟩) hbe).trans z2, (B.cell (p := ⟨be, oe + i * 4 + 3, none⟩) hbe).trans z3, Nat.lt_of_lt_of_le hbe B.size⟩)
          have GE : Hid (E.getD i noE = E[i]) := Lib.hid (by rw [List.getD_eq_getElem?_getD, List.getElem?_eq_getElem hiE]; rfl)
          have hok := HM.out.ok E[i] (List.getElem_mem hiE)
          have hle := bend_le HM.out.bs (List.getElem_mem hiE)
          have hsz : (bs E[i].2.2.2).size = E[i].2.2.2.length := bs_size _
          have hnb : nbE E i = E[i].2.2.2.length := by unfold nbE; rw [GE.out]
          obtain ⟨d0, hd0⟩ : ∃ d : Nat, (d : Int) = E[i].2.2.1 := ⟨E[i].2.2.1.toNat, by have := hok.2.2.2.2.1; omega⟩
          have hd4 : d0 < 4 := by have := hok.2.2.2.2.2.1; omega
          obtain ⟨em1, em2⟩ := egK_m (E := E) (s := s) i
          have BD0 : Hid (bdE E s i 0 = ((egK E s i).1, s.en.getD (2 * i) 0, (d0 : Int), [s.en.getD (2 * i) 0])) := Lib.hid (by show ((egK E s i).1, s.en.getD (2 * i) 0, (E.getD i noE).2.2.1, [s.en.getD (2 * i) 0]) = _; rw [GE.out, ← hd0])
          obtain ⟨bl, hbl2⟩ : ∃ b, E[i].2.2.2 = b := ⟨_, rfl⟩
          have BDS : Hid (∀ k, bdE E s i (k + 1) = (joiN (moN (bdE E s i k).1) (bdE E s i k).2.1 (bdE E s i k).2.2.1 (bdE E s i k).1.n i, ((bdE E s i k).1.n : Int), ((bdE E s i k).2.2.1 + addT (bl.getD k 0)) % 4, (bdE E s i k).2.2.2 ++ [((bdE E s i k).1.n : Int)])) := Lib.hid (fun k => by
            rw [← hbl2, ← GE.out]; rfl)
          have BDM : Hid (∀ k, k ≤ bl.length → (bdE E s i k).1.n ≤ 4096 ∧ (bdE E s i k).1.en = s.en ∧ (bdE E s i k).2.2.2.length = k + 1) := Lib.hid (fun k hk => by
            obtain ⟨m1, m2, m3⟩ := bdK_m (i := (i : Int)) (bl := (E.getD i noE).2.2.2) (s := (egK E s i).1) (a := s.en.getD (2 * i) 0) (d := (E.getD i noE).2.2.1) k
            have h1 := N0.out.2 (i + 1) (by omega)
            rw [bndK, hnb, hbl2] at h1
            exact ⟨by show (bdK _ _ _ _ _ _).1.n ≤ 4096; rw [m1, em1]; omega, m2.trans em2, m3⟩)
          have EGN : Hid (egK E s (i + 1) = (joiN (bdE E s i bl.length).1 (bdE E s i bl.length).2.1 (bdE E s i bl.length).2.2.1 (s.en.getD (2 * i + 1) 0) i, (egK E s i).2 ++ [wyE E s i])) := Lib.hid (by
            rw [← hbl2, ← hnb]; rfl)
          have WYE : Hid (wyE E s i = (bdE E s i bl.length).2.2.2 ++ [s.en.getD (2 * i + 1) 0]) := Lib.hid (by unfold wyE; rw [hnb, hbl2])
          have EN0 : Hid ((egK E s i).1.en = s.en) := Lib.hid em2
          have EN1 : Hid (s.en.length = nE * 2) := Lib.hid (by have h := O4.out.nm.ends.1; rw [List.length_map, em2] at h; exact h)
          rw [hbl2] at EF hsz hle
          rw [← hd0] at EF
          have HZL := Lib.hid hsz
          have hzs : (bs bl).size ≤ 4096 := by rw [hsz]; exact hle
          have BDA : Hid (∀ k (h : k < (bs bl).size), bl.getD k 0 = (bs bl)[k]'h) := Lib.hid (fun k h => by
            have h1 := byte_at (bs bl) k h
            rw [bs_data] at h1
            rw [List.getD_eq_getElem?_getD, h1]; rfl)
          clear z0 z1 z2 z3 hok hle hsz hnb hd0 em1 em2 hbl2 hbe
          generalize bs bl = sk at *
          obtain ⟨f2, f3, fl⟩ := EF.out _ O4.out.bel
          have HE2 : wr.ownsRow w1.heap.size 72 2 (.slice (some ⟨ge, 0, none⟩) nE nE) nE (s.en.map intV) := by have h := O4.out.nm.ends; rw [EN0.out] at h; exact h
          obtain ⟨a0, ha0⟩ : ∃ z, s.en.getD (2 * i) 0 = z := ⟨_, rfl⟩
          have e0 : wr.cell? ⟨ge, i * 2, none⟩ = some (.int .i64 a0) := by
            rw [World.ownsRow.cellAt HE2 (i * 2) (by have := EN1.out; omega), List.getElem?_map, List.getElem?_eq_getElem (by have := EN1.out; omega), ← ha0, List.getD_eq_getElem?_getD, Nat.mul_comm 2 i, List.getElem?_eq_getElem (by have := EN1.out; omega)]; rfl
          have zle := (World.ownsRow.lt HE2 ge rfl).2
          have HA0 := Lib.hid ha0
          rw [ha0] at BD0
          clear ha0 HE2
          obtain ⟨n4, hn4'⟩ : ∃ n, (egK E s i).1.n = n := ⟨_, rfl⟩
          rw [hn4'] at O4 y0
          have N4 := Lib.hid hn4'
          clear hn4'
          obtain ⟨wo, hwo⟩ : ∃ Wq, Wq = wr := ⟨_, rfl⟩
          subst hwo
          go_upto_region 25 with (fail)
          obtain ⟨wx, hwx⟩ : ∃ Wq, Wq = (wo.alloc (.cells #[.int .i64 a0] 3)) := ⟨_, rfl⟩
          have bx : Below wo.heap.size wo wx := by rw [hwx]; exact (Below.refl _ _).alloc (Nat.le_refl _) _
          have OX := Lib.hid (O4.out.below hwB bx)
          have ZX : Hid (OwnZ wx wo.heap.size (.slice (some ⟨wo.heap.size, 0, none⟩) 1 1) [a0] 1) := Lib.hid (by rw [hwx]; exact OwnZ.one wo a0)
          have HFV : Hid ((∀ b, fv.ownBlock = some b → b < wo.heap.size) ∧ ∀ j, j < i → ∀ b, (V j).ownBlock = some b → b < wo.heap.size) := Lib.hid ⟨fun b hb => (O4.out.fst.2.lt b hb).2, fun j hj b hb => ((O4.out.row j hj).2.lt b hb).2⟩
          have WOB := Lib.hid hwB
          rw [← hwx]
          clear hwx bx O4 x0 x1 xl y0 y1 y2 y3 yl f2 f3 fl e0 zle hwB BW
          go_wp2_with fail
          go_loopw [11, 12, 13, 14] (fun av dv yv kv wr => BtR E s F nB nE nb i wo.heap.size sk.size fv (.slice (some ⟨ge, 0, none⟩) nE nE) (.slice Aw i cw) V W w1 wr av dv yv kv) (fun _ _ _ kv _ => sk.size - (intOf kv).toNat)
          case atStart => exact ⟨0, d0, A1, cp1, some ⟨wo.heap.size, 0, none⟩, 1, rfl, Nat.zero_le _, by rw [BD0.out], rfl, by rw [BD0.out], hd4, rfl, by rw [BD0.out]; show OfS _ _ _ _ _ (.slice A1 (egK E s i).1.n cp1) _ _ (.slice A1 (egK E s i).1.n cp1) _ _ _ _ _ _ _ _ _; rw [N4.out]; exact OX.out, by rw [BD0.out]; exact ZX.out⟩
          case round =>
            clear OX ZX
            obtain ⟨k5, z, A5, cp5, Az, cz, rfl, hk5, rfl, rfl, hz, hz4, rfl, hO, hZ⟩ := hrel
            have NXT := Lib.hid (BDS.out k5)
            obtain ⟨bm1, bm2, bm3⟩ := BDM.out k5 (by rw [← HZL.out]; exact hk5)
            obtain ⟨⟨⟨ZL, zn, ze⟩, at_, dd, wl⟩, hbd⟩ : ∃ q, bdE E s i k5 = q := ⟨_, rfl⟩
            have HBD := Lib.hid hbd
            rw [hbd] at hO hZ hz NXT bm1 bm2 bm3
            rw [hbd]
            have hz' : (z : Int) = dd := hz
            have hzn : zn ≤ 4096 := bm1
            have ZEN : Hid (ze = s.en) := Lib.hid bm2
            have WLL : Hid (wl.length = k5 + 1) := Lib.hid bm3
            have O5 : Hid (OfS w1.heap.size nb nE w1 wr (.slice A5 zn cp5) fv (.slice Aw i cw) (.slice A5 zn cp5) fv (.slice (some ⟨ge, 0, none⟩) nE nE) (.slice Aw i cw) ⟨ZL, zn, ze⟩ F nB V W i) := Lib.hid hO
            have Z5 : Hid (OwnZ wr wo.heap.size (.slice Az (k5 + 1) cz) wl (k5 + 1)) := Lib.hid hZ
            rw [← hz'] at NXT HBD
            have HK5 := Lib.hid hk5
            clear bm1 bm2 bm3 hbd hz hO hZ hz'
            obtain ⟨hwB, x0, x1, xl, -⟩ := SZ.out _ O5.out.bel
            obtain ⟨y0, y1, y2, y3⟩ := O5.out.bx.at_
            have yl := O5.out.bx.lt
            obtain ⟨f2, f3, fl⟩ := EF.out _ O5.out.bel
            by_cases hlt5 : k5 < sk.size
            · have q2 : decide (k5 < sk.size) = true := decide_eq_true hlt5
              go_upto_region 30 with (go_at_call 27; refine (refNew 1 _ (by decide)).mono ?_; rintro e w7 ⟨⟨g7, rfl, o7⟩, b7⟩; have N7 := Lib.hid o7; have O7 := Lib.hid (O5.out.below hwB b7); have Z7 := Lib.hid (Z5.out.below b7 (Nat.le_refl _)); have hwB7 : w1.heap.size ≤ w7.heap.size := Nat.le_trans hwB b7.size; clear o7 b7 x0 x1 xl y0 y1 y2 y3 yl f2 f3 fl; obtain ⟨y0, y1, y2, y3⟩ := O7.out.bx.at_; have yl := O7.out.bx.lt; have yf := O7.out.bx.fr 0)
              go_upto_region 31 with (at_builtin; go_must (refine wpList_append_fresh rfl (.tmp 119) (.tmp 120) 31 rfl w1.heap.size 51 ic (.agg #[.int .i64 0, .int .i64 0, .int .i64 0, .int .i64 0, .int .i64 0, .int .i64 0, .int .i64 0, .int .i64 0]) 8 64 Tryd.underlying31 hci hc0 hc1 hc2 rfl (by decide) (.slice A5 zn cp5) zn (ZL.map intV) rfl O7.out.nm.cel ⟨g7, 0, none⟩ 1 1 ((newG 1).map intV) rfl rfl (N7.out.cells rfl) (allI _) (by unfold maxLen; omega) (by omega) hwB7 ?_; intro v8 w8 hown hgrow hfr; have o8 := more_cells hown; obtain ⟨a8, c8, e8⟩ := o8.form; subst e8; have O8 := Lib.hid (O7.out.grownC (s' := ⟨ZL ++ freeC, zn + 1, ze⟩) hwB7 hgrow o8 rfl); have Z8 := Lib.hid (Z7.out.past O7.out.nm.cel hgrow); have hwB8 : w1.heap.size ≤ w8.heap.size := (by have := hgrow.size; omega); clear hown hgrow hfr o8 y0 y1 y2 y3 yl yf; obtain ⟨y0, y1, y2, y3⟩ := O8.out.bx.at_; have yl := O8.out.bx.lt; have yf := O8.out.bx.fr 0))
              have O9 := Lib.hid (O8.out.b0 NBB.out (.slice a8 (zn + 1) c8))
              have Z9 := Lib.hid (Z8.out.held O8.out.bx (.slice a8 (zn + 1) c8))
              obtain ⟨w9, hw9⟩ : ∃ Wq, Wq = w8.setCell ⟨nb, 0, none⟩ (.slice a8 (zn + 1) c8) := ⟨_, rfl⟩
              rw [← hw9] at O9 Z9
              rw [← hw9]
              have hwB9 : w1.heap.size ≤ w9.heap.size := O9.out.bel.size
              clear hw9 O8 Z8 O7 Z7 N7 O5 Z5 y0 y1 y2 y3 yl yf hwB7 hwB8
              obtain ⟨y0, y1, y2, y3⟩ := O9.out.bx.at_
              have yl := O9.out.bx.lt
              go_upto_region 33 with (go_at_call 28; go_must (refine (refJoinAny (L := ZL ++ freeC) (n := zn + 1) (ownG_zero O9.out.nm.cel) (by omega) at_ (z : Int) (zn : Int) (i : Int)).mono ?_; rintro e w10 ⟨A10, c10, rfl, r10⟩; have O10 := Lib.hid (O9.out.joined hwB9 r10); have Z10 := Lib.hid (Z9.out.below r10.2.2 (Nat.le_refl _)); have hwB10 : w1.heap.size ≤ w10.heap.size := Nat.le_trans hwB9 r10.2.2.size; clear r10 y0 y1 y2 y3 yl; obtain ⟨y0, y1, y2, y3⟩ := O10.out.bx.at_; have yl := O10.out.bx.lt; have yf := O10.out.bx.fr 0))
              have JN : Hid (joiN (moN ⟨ZL, zn, ze⟩) at_ (z : Int) (zn : Int) (i : Int) = ⟨(joiO (ZL ++ freeC) (zn + 1) at_ (z : Int) (zn : Int) (i : Int)).2, zn + 1, ze⟩) := Lib.hid rfl
              have O11 := Lib.hid (O10.out.b0 NBB.out (.slice A10 (zn + 1) c10))
              have Z11 := Lib.hid (Z10.out.held O10.out.bx (.slice A10 (zn + 1) c10))
              obtain ⟨w11, hw11⟩ : ∃ Wq, Wq = w10.setCell ⟨nb, 0, none⟩ (.slice A10 (zn + 1) c10) := ⟨_, rfl⟩
              rw [← hw11] at O11 Z11
              rw [← hw11]
              have hwB11 : w1.heap.size ≤ w11.heap.size := O11.out.bel.size
              clear hw11 O9 Z9 O10 Z10 y0 y1 y2 y3 yl yf hwB9 hwB10
              have OA := Lib.hid (O11.out.below hwB11 ((Below.refl _ _).alloc (Nat.le_refl _) (.cells #[.int .i64 (zn : Int)] 3)))
              have ZA := Lib.hid (Z11.out.below ((Below.refl _ _).alloc (Nat.le_refl _) (.cells #[.int .i64 (zn : Int)] 3)) (Nat.le_refl _))
              have hk9 : k5 ≤ 5000 := by omega
              go_upto_region 34 with (at_builtin; go_must (refine wpList_append_fresh rfl (.tmp 135) (.tmp 137) 32 rfl wo.heap.size 3 i0 (.int .i64 0) 1 8 Tryd.underlying32 hi hz0 hz1 hz2 rfl (by decide) (.slice Az (k5 + 1) cz) (k5 + 1) (wl.map intV) rfl ZA.out.2 ⟨w11.heap.size, 0, none⟩ 1 1 [intV (zn : Int)] rfl rfl (newsZ _ _ _ _ rfl) (oneZ _) (by unfold maxLen; omega) (by omega) (by have h1 := (World.ownsRow.lt Z11.out.2); have h2 := WOB.out; obtain ⟨g, c, e, hg1, hg2, -⟩ := ownsRow_form Z11.out.2 (by omega); simp; omega) ?_; intro v12 w12 hown hgrow hfr; have o12 : OwnZ w12 wo.heap.size v12 (wl ++ [(zn : Int)]) (k5 + 1 + 1) := OwnZ.more WLL.out hown; obtain ⟨a12, c12, e12⟩ := o12.form; subst e12; have Z13 := Lib.hid o12; have O13 := Lib.hid (OA.out.beside (by simp; omega) WOB.out ZA.out hgrow HFV.out.1 HFV.out.2); clear hown hgrow hfr o12))
              clear OA ZA O11 Z11 hwB11
              obtain ⟨hwB13, x0, x1, xl, -⟩ := SZ.out _ O13.out.bel
              obtain ⟨f2, f3, fl⟩ := EF.out _ O13.out.bel
              obtain ⟨b, hbe⟩ : ∃ b, sk[k5]'hlt5 = b := ⟨_, rfl⟩
              have hbg := BDA.out k5 hlt5
              rw [hbe] at hbg
              rw [hbg, JN.out] at NXT
              clear hbg
              by_cases h1 : b = 76
              · obtain ⟨y, hy⟩ : ∃ y : Nat, ((z : Int) + 1) % 4 = (y : Int) := ⟨(((z : Int) + 1) % 4).toNat, by omega⟩
                have NY : Hid ((y : Int) = ((z : Int) + addT b) % 4) := Lib.hid (by rw [h1, addT_l, hy])
                have hy2 : ((z : Int) + 1).tmod 4 = (y : Int) := by rw [Int.tmod_eq_emod_of_nonneg (by omega)]; exact hy
                have hy4 : y < 4 := by omega
                subst h1
                have q3 : (((76 : UInt8).toNat : Int) == 76) = true := rfl
                go_wp2_with fail
                go_roundw
                case rel => exact ⟨k5 + 1, y, A10, c10, a12, c12, by go_num, by have := HK5.out; omega, by rw [NXT.out], by first | rfl | (simp [hy]) | (rw [hy]), by rw [NXT.out]; exact NY.out, hy4, rfl, by rw [NXT.out]; exact O13.out, by rw [NXT.out]; exact Z13.out⟩
                case measure => (simp [intOf] <;> omega)
              · obtain ⟨y, hy⟩ : ∃ y : Nat, ((z : Int) + 3) % 4 = (y : Int) := ⟨(((z : Int) + 3) % 4).toNat, by omega⟩
                have NY : Hid ((y : Int) = ((z : Int) + addT b) % 4) := Lib.hid (by rw [addT_r h1, hy])
                have hy2 : ((z : Int) + 3).tmod 4 = (y : Int) := by rw [Int.tmod_eq_emod_of_nonneg (by omega)]; exact hy
                have hy4 : y < 4 := by omega
                have q3 : ((b.toNat : Int) == 76) = false := by rw [byte_test b 76 76 rfl]; simpa using h1
                clear h1
                go_wp2_with fail
                go_roundw
                case rel => exact ⟨k5 + 1, y, A10, c10, a12, c12, by go_num, by have := HK5.out; omega, by rw [NXT.out], by first | rfl | (simp [hy]) | (rw [hy]), by rw [NXT.out]; exact NY.out, hy4, rfl, by rw [NXT.out]; exact O13.out, by rw [NXT.out]; exact Z13.out⟩
                case measure => (simp [intOf] <;> omega)
            · have hkn5 : k5 = bl.length := by rw [← HZL.out]; omega
              have q2 : decide (k5 < sk.size) = false := decide_eq_false hlt5
              have EGX := EGN.out
              have WYX := WYE.out
              rw [← hkn5, HBD.out] at EGX WYX
              obtain ⟨a1, ha1⟩ : ∃ q, s.en.getD (2 * i + 1) 0 = q := ⟨_, rfl⟩
              rw [ha1] at EGX WYX
              have EX := Lib.hid EGX
              have WX := Lib.hid WYX
              have HE2 : wr.ownsRow w1.heap.size 72 2 (.slice (some ⟨ge, 0, none⟩) nE nE) nE (s.en.map intV) := by have h := O5.out.nm.ends; rw [show (⟨ZL, zn, ze⟩ : NSt).en = s.en from ZEN.out] at h; exact h
              have e1 : wr.cell? ⟨ge, i * 2 + 1, none⟩ = some (.int .i64 a1) := by
                rw [World.ownsRow.cellAt HE2 (i * 2 + 1) (by have := EN1.out; omega), List.getElem?_map, List.getElem?_eq_getElem (by have := EN1.out; omega), ← ha1, List.getD_eq_getElem?_getD, Nat.mul_comm 2 i, List.getElem?_eq_getElem (by have := EN1.out; omega)]; rfl
              have zle := (World.ownsRow.lt HE2 ge rfl).2
              have ngn : ge ≠ nb := fun e => ne_nm HE2 O5.out.bx endT_n (by rw [e]; rfl)
              clear hkn5 EGX WYX ha1 HE2
              have yf := O5.out.bx.fr 0
              go_upto_region 37 with (fail)
              have hS0 : wr.drew.cell? ⟨nb, 2, none⟩ = some (.slice (some ⟨ge, 0, none⟩) nE nE) ∧ wr.drew.cell? ⟨ge, i * 2 + 1, none⟩ = some (.int .i64 a1) := ⟨y2, e1⟩
              refine wp_region_held_drew (S := fun w' => w'.cell? ⟨nb, 2, none⟩ = some (.slice (some ⟨ge, 0, none⟩) nE nE) ∧ w'.cell? ⟨ge, i * 2 + 1, none⟩ = some (.int .i64 a1)) (by kernel_rfl) hS0 (fun hHeld => ?_)
              clear hS0
              refine wpAnyH_take (i := 0) (v := ?_) rfl (by kernel_rfl) (by kernel_rfl) (by kernel_rfl) (fun _ _ _ h => h) (Or.inl ⟨by rfl, ?_⟩) (by assumption) ?_
              rotate_left
              · (intro w' hSw; (try dsimp only at hSw); go_simp; try with_reducible rfl)
              refine wpAnyH_take (i := 2) (v := ?_) rfl (by kernel_rfl) (by kernel_rfl) (by kernel_rfl) (fun _ _ _ h => h) (Or.inl ⟨by rfl, ?_⟩) (by assumption) ?_
              rotate_left
              · (intro w' hSw; (try dsimp only at hSw); go_simp; try with_reducible rfl)
              refine wpAnyH_take (i := 3) (v := ?_) rfl (by kernel_rfl) (by kernel_rfl) (by kernel_rfl) (fun _ _ _ h => h) (Or.inl ⟨by rfl, ?_⟩) (by assumption) ?_
              rotate_left
              · (intro w' hSw; (try dsimp only at hSw); go_simp; try with_reducible rfl)
              refine wpAnyH_take (i := 4) (v := ?_) rfl (by kernel_rfl) (by kernel_rfl) (by kernel_rfl) (fun _ _ _ h => h) (Or.inl ⟨by rfl, ?_⟩) (by assumption) ?_
              rotate_left
              · (intro w' hSw; (try dsimp only at hSw); go_simp; try with_reducible rfl)
              refine wpAnyH_take (i := 5) (v := ?_) rfl (by kernel_rfl) (by kernel_rfl) (by kernel_rfl) (fun _ _ _ h => h) (Or.inl ⟨by rfl, ?_⟩) (by assumption) ?_
              rotate_left
              · (intro w' hSw; (try dsimp only at hSw); go_simp; try with_reducible rfl)
              refine wpAnyH_take (i := 6) (v := ?_) rfl (by kernel_rfl) (by kernel_rfl) (by kernel_rfl) (fun _ _ _ h => h) (Or.inl ⟨by rfl, ?_⟩) (by assumption) ?_
              rotate_left
              · (intro w' hSw; (try dsimp only at hSw); go_simp; try with_reducible rfl)
              refine wpAnyH_take (i := 7) (v := ?_) rfl (by kernel_rfl) (by kernel_rfl) (by kernel_rfl) (fun _ _ _ h => h) (Or.inl ⟨by rfl, ?_⟩) (by assumption) ?_
              rotate_left
              · (intro w' hSw; (try dsimp only at hSw); go_simp; try with_reducible rfl)
              refine wpAnyH_take (i := 8) (v := ?_) rfl (by kernel_rfl) (by kernel_rfl) (by kernel_rfl) (fun _ _ _ h => h) (Or.inl ⟨by rfl, ?_⟩) (by assumption) ?_
              rotate_left
              · (intro w' hSw; (try dsimp only at hSw); go_simp; try with_reducible rfl)
              refine wpAnyH_take (i := 9) (v := ?_) rfl (by kernel_rfl) (by kernel_rfl) (by kernel_rfl) (fun _ _ _ h => h) (Or.inl ⟨by rfl, ?_⟩) (by assumption) ?_
              rotate_left
              · (intro w' hSw; (try dsimp only at hSw); go_simp; try with_reducible rfl)
              refine wpAnyH_take (i := 10) (v := ?_) rfl (by kernel_rfl) (by kernel_rfl) (by kernel_rfl) (fun _ _ _ h => h) (Or.inl ⟨by rfl, ?_⟩) (by assumption) ?_
              rotate_left
              · (intro w' hSw; (try dsimp only at hSw); go_simp; try with_reducible rfl)
              refine wpAnyH_ready (rs := [1]) (by kernel_rfl) (by simp) ?_
              refine AllReadyH.cons rfl (fun K hK => ?_) AllReadyH.nil
              go_simp
              refine hK.out _ _ hHeld (fun hHeld2 => ?_)
              clear hK K
              refine wpAnyH_ready (rs := [11]) (by kernel_rfl) (by simp) ?_
              refine AllReadyH.cons rfl (fun K hK => ?_) AllReadyH.nil
              go_simp
              have OD := O5.out.below hwB (Below.refl _ _).drew
              refine (refJoinAny (L := ZL) (n := zn) (ownG_zero OD.nm.cel) (by omega) at_ (z : Int) a1 (i : Int)).mono ?_
              rintro e w10 ⟨A10, c10, rfl, r10⟩
              have O10 := Lib.hid (OD.joined hwB r10)
              have Z10 := Lib.hid ((Z5.out.below (Below.refl _ _).drew (Nat.le_refl _)).below r10.2.2 (Nat.le_refl _))
              have hwB10 : w1.heap.size ≤ w10.heap.size := Nat.le_trans hwB r10.2.2.size
              have s2 : w10.cell? ⟨nb, 2, none⟩ = some (.slice (some ⟨ge, 0, none⟩) nE nE) := (r10.2.2.cell (p := ⟨nb, 2, none⟩) yl).trans y2
              have s3 : w10.cell? ⟨ge, i * 2 + 1, none⟩ = some (.int .i64 a1) := (r10.2.2.cell (p := ⟨ge, i * 2 + 1, none⟩) zle).trans e1
              clear r10 OD
              refine hK.out _ _ ⟨s2, s3⟩ (fun hHeld3 => ?_)
              clear hK K y0 y1 y2 y3 yl yf
              obtain ⟨y0, y1, y2, y3⟩ := O10.out.bx.at_
              have yl := O10.out.bx.lt
              have yf := O10.out.bx.fr 0
              refine wpAnyH_take (i := 12) (v := ?_) rfl (by kernel_rfl) (by kernel_rfl) (by kernel_rfl) (fun _ _ _ h => h) (Or.inl ⟨by rfl, ?_⟩) (by assumption) ?_
              rotate_left
              · (intro w' hSw; (try dsimp only at hSw); go_simp; try with_reducible rfl)
              refine wpAnyH_take (i := 13) (v := ?_) rfl (by kernel_rfl) (by kernel_rfl) (by kernel_rfl) (fun _ _ _ h => h) (Or.inl ⟨by rfl, ?_⟩) (by assumption) ?_
              rotate_left
              · (intro w' hSw; (try dsimp only at hSw); go_simp; try with_reducible rfl)
              refine wpAnyH_take (i := 14) (v := ?_) rfl (by kernel_rfl) (by kernel_rfl) (by kernel_rfl) (fun _ _ _ h => h) (Or.inl ⟨by rfl, ?_⟩) (by assumption) ?_
              rotate_left
              · (intro w' hSw; (try dsimp only at hSw); go_simp; try with_reducible rfl)
              refine wpAnyH_take (i := 15) (v := ?_) rfl (by kernel_rfl) (by kernel_rfl) (by kernel_rfl) (fun _ _ _ h => h) (Or.inl ⟨by rfl, ?_⟩) (by assumption) ?_
              rotate_left
              · (intro w' hSw; (try dsimp only at hSw); go_simp; try with_reducible rfl)
              refine wpAnyH_ready (rs := [16]) (by kernel_rfl) (by simp) ?_
              refine AllReadyH.cons rfl (fun K hK => ?_) AllReadyH.nil
              go_simp
              refine hK.out _ _ ⟨by go_simp, (World.cell?_setCell_far _ _ _ _ (fun e => ngn e.symm)).trans s3⟩ (fun hHeld4 => ?_)
              clear hK K
              refine wpAnyH_done (by kernel_rfl) ?_ _
              have JN : Hid (joiN ⟨ZL, zn, ze⟩ at_ (z : Int) a1 (i : Int) = ⟨(joiO ZL zn at_ (z : Int) a1 (i : Int)).2, zn, ze⟩) := Lib.hid rfl
              have O11 := Lib.hid (O10.out.b0 NBB.out (.slice A10 zn c10))
              have Z11 := Lib.hid (Z10.out.held O10.out.bx (.slice A10 zn c10))
              have s4 : (w10.setCell ⟨nb, 0, none⟩ (.slice A10 zn c10)).cell? ⟨ge, i * 2 + 1, none⟩ = some (.int .i64 a1) := (World.cell?_setCell_far _ _ _ _ (fun e => ngn e.symm)).trans s3
              obtain ⟨w11, hw11⟩ : ∃ Wq, Wq = w10.setCell ⟨nb, 0, none⟩ (.slice A10 zn c10) := ⟨_, rfl⟩
              rw [← hw11] at O11 Z11 s4
              rw [← hw11]
              have hwB11 : w1.heap.size ≤ w11.heap.size := O11.out.bel.size
              have zle11 := (World.ownsRow.lt O11.out.nm.ends ge rfl).2
              clear hw11 O10 Z10 y0 y1 y2 y3 yl yf hwB10 s2 s3 hHeld hHeld2 hHeld3 hHeld4 e1 zle x0 x1 xl f2 f3 fl O5 Z5
              obtain ⟨y0, y1, y2, y3⟩ := O11.out.bx.at_
              have yl := O11.out.bx.lt
              have OA := Lib.hid (O11.out.below hwB11 ((Below.refl _ _).alloc (Nat.le_refl _) (.cells #[.int .i64 a1] 3)))
              have ZA := Lib.hid (Z11.out.below ((Below.refl _ _).alloc (Nat.le_refl _) (.cells #[.int .i64 a1] 3)) (Nat.le_refl _))
              have hk9 : k5 ≤ 5000 := by omega
              go_upto_region 39 with (at_builtin; go_must (refine wpList_append_fresh rfl (.tmp 170) (.tmp 177) 32 rfl wo.heap.size 3 i0 (.int .i64 0) 1 8 Tryd.underlying32 hi hz0 hz1 hz2 rfl (by decide) (.slice Az (k5 + 1) cz) (k5 + 1) (wl.map intV) rfl ZA.out.2 ⟨w11.heap.size, 0, none⟩ 1 1 [intV a1] rfl rfl (newsZ _ _ _ _ rfl) (oneZ _) (by unfold maxLen; omega) (by omega) (by obtain ⟨g, c, e, hg1, hg2, -⟩ := ownsRow_form Z11.out.2 (by omega); simp; omega) ?_; intro v12 w12 hown hgrow hfr; have o12 : OwnZ w12 wo.heap.size v12 (wl ++ [a1]) (k5 + 1 + 1) := OwnZ.more WLL.out hown; obtain ⟨a12, c12, e12⟩ := o12.form; subst e12; have Z13 := Lib.hid o12; have O13 := Lib.hid (OA.out.beside (by simp; omega) WOB.out ZA.out hgrow HFV.out.1 HFV.out.2); clear hown hgrow hfr o12))
              clear OA ZA O11 Z11 y0 y1 y2 y3 yl s4 zle11
              have hwB13 : w1.heap.size ≤ w12.heap.size := O13.out.bel.size
              obtain ⟨y0, y1, y2, y3⟩ := O13.out.bx.at_
              have yl := O13.out.bx.lt
              have yf := O13.out.bx.fr 3
              obtain ⟨V', hV'⟩ : ∃ V' : Nat → Value, V' = fun j => if j = i then Value.slice a12 (k5 + 1 + 1) c12 else V j := ⟨_, rfl⟩
              have OB := Lib.hid ((O13.out.swapV (V' := V') (fun j hj => by rw [hV']; exact if_neg (by omega))).below hwB13 ((Below.refl _ _).alloc (Nat.le_refl _) (.cells #[.slice a12 (k5 + 1 + 1) c12] 32)))
              have ZB : Hid (OwnZ (w12.alloc (.cells #[.slice a12 (k5 + 1 + 1) c12] 32)) w1.heap.size (V' i) (W i) (W i).length) := Lib.hid (by
                have e1 : W i = wl ++ [a1] := by rw [W1.out]; exact WX.out
                have e2 : V' i = Value.slice a12 (k5 + 1 + 1) c12 := by rw [hV']; exact if_pos rfl
                rw [e1, e2, List.length_append, WLL.out]
                exact (Z13.out.base WOB.out).below ((Below.refl _ _).alloc (Nat.le_refl _) _) (Nat.le_refl _))
              have VE : Hid ((List.range (i + 1)).map V' = (List.range i).map V' ++ [Value.slice a12 (k5 + 1 + 1) c12]) := Lib.hid (by
                rw [List.range_succ, List.map_append, hV']
                simp)
              clear hV'
              obtain ⟨izz, hqi, hq0, hq1, hq2⟩ := info_zz
              go_wp2_with (at_builtin; go_must (refine wpList_append_fresh rfl (.tmp 180) (.tmp 182) 33 rfl w1.heap.size 32 izz (.slice none 0 0) 1 24 Tryd.underlying33 hqi hq0 hq1 hq2 rfl (by decide) (.slice Aw i cw) i ((List.range i).map V') rfl OB.out.out ⟨w12.heap.size, 0, none⟩ 1 1 [.slice a12 (k5 + 1 + 1) c12] rfl rfl (newsR _ _ _ _ rfl) (by intro u hu; simp at hu; subst hu; rfl) (by unfold maxLen; omega) (by omega) (by simp; omega) ?_; intro v14 w14 hown hgrow hfr; rw [← VE.out] at hown; have O14 := OB.out.grownW (by simp; omega) hgrow hown ZB.out; obtain ⟨g14, c14, e14, -, -, -⟩ := ownsRow_form hown (by omega); subst e14; have O15 := Lib.hid O14; clear hown hgrow hfr O14 y0 y1 y2 y3 yl yf; obtain ⟨y0, y1, y2, y3⟩ := O15.out.bx.at_; have yl := O15.out.bx.lt; have yf := O15.out.bx.fr 3))
              have O16 := Lib.hid (O15.out.b3 NBB.out (.slice (some ⟨g14, 0, none⟩) (i + 1) c14))
              go_roundw
              case rel => exact ⟨i + 1, A10, c10, some ⟨g14, 0, none⟩, c14, V', by go_num, by omega, by rw [EX.out, JN.out]; exact O16.out⟩
              case measure => (simp [intOf] <;> omega)
        · have hkn2 : i = nE := by omega
          have q1 : decide (i < nE) = false := decide_eq_false hlt2
          subst hkn2
          have e := FF.out
          subst e
          obtain ⟨r0, r1, r2, r3⟩ := (RB.out.below O4.out.bel (Nat.le_refl _)).at_
          have rl := (RB.out.below O4.out.bel (Nat.le_refl _)).lt
          have rf0 := (RB.out.below O4.out.bel (Nat.le_refl _)).fr 0
          have rf1 := (RB.out.below O4.out.bel (Nat.le_refl _)).fr 1
          have rf2 := (RB.out.below O4.out.bel (Nat.le_refl _)).fr 2
          have rf3 := (RB.out.below O4.out.bel (Nat.le_refl _)).fr 3
          have B9 := Lib.hid BW
          obtain ⟨n9, hn9⟩ : ∃ n, (egK E s i).1.n = n := ⟨_, rfl⟩
          have N9 := Lib.hid hn9
          rw [hn9] at O4 y0
          clear hn9
          go_wp2_with fail
          have OX : Out (fun b => b = rb) wr ((((wr.setCell ⟨rb, 0, none⟩ (.slice A1 n9 cp1)).setCell ⟨rb, 1, none⟩ (.slice Af nB cf)).setCell ⟨rb, 2, none⟩ (.slice (some ⟨ge, 0, none⟩) i i)).setCell ⟨rb, 3, none⟩ (.slice Aw i cw)) := ((((Out.refl _ wr).setIn 0 _).setIn 1 _).setIn 2 _).setIn 3 _
          have keep : ∀ {v : Value} {e : TypeId} {n k : Nat} {xs : List Value}, wr.ownsRow w1.heap.size e k v n xs → ((((wr.setCell ⟨rb, 0, none⟩ (.slice A1 n9 cp1)).setCell ⟨rb, 1, none⟩ (.slice Af nB cf)).setCell ⟨rb, 2, none⟩ (.slice (some ⟨ge, 0, none⟩) i i)).setCell ⟨rb, 3, none⟩ (.slice Aw i cw)).ownsRow w.heap.size e k v n xs := fun hr => own_base (ownsRow_out hr OX (fun b hb e => by have h1 := (World.ownsRow.lt hr b hb).1; have h2 := RBW.out; omega)) B1.out.size
          refine bodyPost_ret (v := .agg #[.slice A1 n9 cp1, .slice Af nB cf, .slice (some ⟨ge, 0, none⟩) i i, .slice Aw i cw]) (by simp [results, Tryd.results10, go_sem, r0, r1, r2, r3]) rfl ⟨_, _, _, _, rfl, ?_, ?_, V, keep O4.out.out, fun j hj => ?_, ⟨_, _, rfl⟩, (((B9.out.setCell (p := ⟨rb, 0, none⟩) RBW.out.1 _).setCell (p := ⟨rb, 1, none⟩) RBW.out.1 _).setCell (p := ⟨rb, 2, none⟩) RBW.out.1 _).setCell (p := ⟨rb, 3, none⟩) RBW.out.1 _⟩
          · have h := O4.out.nm.cel
            rw [N9.out] at h
            rw [HS1.out.1, N9.out]; exact keep h
          · rw [HS1.out.2]; exact ⟨O4.out.fst.1, keep O4.out.fst.2⟩
          · have h := O4.out.row j hj
            rw [W1.out] at h
            rw [HS1.out.1]
            exact ⟨h.1, keep h.2⟩
end Go.Proofs.YtecifgaekefkpaaDoor
