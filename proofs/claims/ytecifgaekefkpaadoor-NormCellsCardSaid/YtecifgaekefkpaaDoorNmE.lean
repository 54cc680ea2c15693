/-
  What the reference's box answers: a box's cells and ends. Conditions: at most 9000 cells; the edges lie below the base.
-/
import Derived.Test.YtecifgaekefkpaaDoorNmD
namespace Go.Proofs.YtecifgaekefkpaaDoor
open Go.RowKit Go.Proofs.YtecifgaekefkpaaDoor.LexM Go.Proofs.YtecifgaekefkpaaDoor.ParM Go.Proofs.YtecifgaekefkpaaDoor.GrM Go.Proofs.YtecifgaekefkpaaDoor.NmM

theorem more_cells {w : World} {B n q : Nat} {v : Value} {L K : List Int} (h : w.ownsRow B 51 8 v (n + q) (L.map intV ++ K.map intV)) : OwnG w B v (L ++ K) (n + q) := by
  unfold OwnG
  rw [List.map_append]
  exact h
theorem nm_step {w : World} {B m rb j : Nat} {cv ev : Value} {s : NSt} {cur : Array Value} (h : NmAt w B cv ev s m) (hr : w.heap[rb]? = some (.cells cur 43 (0, 0))) (u : Value) :
    NmAt (w.setCell ⟨rb, j, none⟩ u) B cv ev s m ∧ ∃ cur', (w.setCell ⟨rb, j, none⟩ u).heap[rb]? = some (.cells cur' 43 (0, 0)) :=
  ⟨⟨ownsRow_setCell_other h.cel (own_kind h.cel hr cellT_n) _, ownsRow_setCell_other h.ends (own_kind h.ends hr endT_n) _⟩, _, heap_setCell_at hr _ _⟩
theorem nm_out {S0 : Nat → Prop} {B xb sb rb m : Nat} {fv ev wv bv edv : Value} {w wr : World} {cb cv : Value} {s : NSt} (h : BxS S0 B xb sb rb m fv ev wv bv edv w wr cb cv s) (hB : B ≤ rb) (hw : w.heap.size ≤ rb) (u0 u1 u2 u3 : Value) :
    NmAt ((((wr.setCell ⟨rb, 0, none⟩ u0).setCell ⟨rb, 1, none⟩ u1).setCell ⟨rb, 2, none⟩ u2).setCell ⟨rb, 3, none⟩ u3) B cv ev s m ∧ Below B w ((((wr.setCell ⟨rb, 0, none⟩ u0).setCell ⟨rb, 1, none⟩ u1).setCell ⟨rb, 2, none⟩ u2).setCell ⟨rb, 3, none⟩ u3) ∧
      Out S0 w ((((wr.setCell ⟨rb, 0, none⟩ u0).setCell ⟨rb, 1, none⟩ u1).setCell ⟨rb, 2, none⟩ u2).setCell ⟨rb, 3, none⟩ u3) := by
  obtain ⟨a0, _, b0⟩ := nm_step (j := 0) h.nm h.rs u0
  obtain ⟨a1, _, b1⟩ := nm_step (j := 1) a0 b0 u1
  obtain ⟨a2, _, b2⟩ := nm_step (j := 2) a1 b1 u2
  obtain ⟨a3, _, _⟩ := nm_step (j := 3) a2 b2 u3
  exact ⟨a3, (((h.bel.setCell (p := ⟨rb, 0, none⟩) hB _).setCell (p := ⟨rb, 1, none⟩) hB _).setCell (p := ⟨rb, 2, none⟩) hB _).setCell (p := ⟨rb, 3, none⟩) hB _,
    (((h.out.setCell (p := ⟨rb, 0, none⟩) (fun e => by change rb < _ at e; omega) _).setCell (p := ⟨rb, 1, none⟩) (fun e => by change rb < _ at e; omega) _).setCell (p := ⟨rb, 2, none⟩) (fun e => by change rb < _ at e; omega) _).setCell (p := ⟨rb, 3, none⟩) (fun e => by change rb < _ at e; omega) _⟩
theorem ends_form {w : World} {B m : Nat} {v : Value} {e : TypeId} {k : Nat} {xs : List Value} (h : w.ownsRow B e k v m xs) : ∃ ao cap, v = .slice ao m cap := by
  rcases h.2 with ⟨h1, h2⟩ | ⟨_, _, _, h, _⟩
  · exact ⟨none, 0, by rw [h2]; exact h1⟩
  · exact ⟨_, _, h⟩
theorem ownG_zero {w : World} {B n : Nat} {v : Value} {L : List Int} (h : OwnG w B v L n) : OwnG w 0 v L n := h.base (Nat.zero_le _)
theorem chK_n {way : Int} {l : List Int} {s : NSt} {c : Int} : ∀ i, (chK way l s c i).1.n = s.n + i
  | 0 => rfl
  | i + 1 => by
    have := chK_n (way := way) (l := l) (s := s) (c := c) i
    show (chK way l s c i).1.n + 1 = _
    omega
def BxP (w : World) (B m : Nat) (cv fv ev wv : Value) (E : List Edg) (v : Nat) (s : NSt) (e : Ending) (w' : World) : Prop :=
  ∃ cv', e = .returned (.agg #[cv', fv, ev, wv]) ∧ NmAt w' B cv' ev (bxN E v s) m ∧ Below B w w' ∧ Out (fun b => cv.ownBlock = some b ∨ ev.ownBlock = some b) w w' ∧ (∀ b, cv'.ownBlock = some b → (cv.ownBlock = some b ∨ ev.ownBlock = some b) ∨ w.heap.size ≤ b)
/-- The state of box's outer loop. -/
def BxD (S0 : Nat → Prop) (B xb sb rb m c : Nat) (fv ev wv bv edv : Value) (w wr : World) (E : List Edg) (v : Nat) (s : NSt) (dv : Value) : Prop :=
  ∃ (d : Nat) (A : Option Addr) (cp : Nat), dv = .int .i64 d ∧ d ≤ 4 ∧ BxS S0 B xb sb rb m fv ev wv bv edv w wr (.slice A (bxK E v c s d).n cp) (.slice A (bxK E v c s d).n cp) (bxK E v c s d)
/-- The state of box's inner loop. -/
def BxI (S0 : Nat → Prop) (B xb sb rb m : Nat) (fv ev wv bv edv : Value) (w wr : World) (way fr : Int) (l : List Int) (q : Nat) (lv : Value) (sd : NSt) (fv' iv : Value) : Prop :=
  ∃ (i : Nat) (A : Option Addr) (cp : Nat), iv = .int .i64 i ∧ i ≤ q ∧ fv' = .int .i64 (chK way l sd fr i).2 ∧ BxS S0 B xb sb rb m fv ev wv bv edv w wr (.slice A (chK way l sd fr i).1.n cp) (.slice A (chK way l sd fr i).1.n cp) (chK way l sd fr i).1 ∧ OwnZ wr B lv l q
set_option maxHeartbeats 16000000 in
set_option maxRecDepth 100000 in
theorem refBox {w0 w : World} {B m : Nat} {cv fv ev wv bv edv : Value} {s : NSt} {E : List Edg} (v : Nat) (h : NmAt w B cv ev s m) (hB : B ≤ w.heap.size) (hE : EdsAt w0 edv E) (h0 : w0.heap.size ≤ B) (hw : Below B w0 w) (hm : m = E.length) (hr : RightN s (2 * m))
    (hl : E.length ≤ 4096) (hok : OkEs E) (hn : s.n + 4 + sidesK E v 4 ≤ 9000)
    (hf : ∃ A n c, fv = .slice A n c) (hv : ∃ A n c, wv = .slice A n c) :
    Calls Tryd.prog 26 #[.agg #[cv, fv, ev, wv], .agg #[bv, edv], .int .i64 v] w (BxP w B m cv fv ev wv E v s) := by
  obtain ⟨i0, hi, hz0, hz1, hz2⟩ := info_c8
  obtain ⟨L0, n0, en0⟩ := s
  obtain ⟨Af, nf, kf, rfl⟩ := hf
  obtain ⟨Aw, nw, kw, rfl⟩ := hv
  obtain ⟨Ae, ke, e⟩ := ends_form h.ends
  subst e
  have H := Lib.hid h
  obtain ⟨A, cp, e⟩ := h.cel.form
  subst e
  obtain ⟨S0, hS0⟩ : ∃ S0 : Nat → Prop, S0 = fun b => (Value.slice A n0 cp).ownBlock = some b ∨ (Value.slice Ae m ke).ownBlock = some b := ⟨_, rfl⟩
  have HS0 := Lib.hid hS0
  clear hS0
  have ON := Lib.hid (fun (d : Int) w1 (b : Below B w0 w1) => refOn bv _ E v d w1 (hE.below b h0) hl hok)
  have HR := Lib.hid hr
  have HM := Lib.hid hm
  have HW := Lib.hid hw
  have HN := Lib.hid hn
  have HL := Lib.hid hl
  have hn9 : n0 + 4 ≤ 9000 := by have : n0 + 4 + sidesK E v 4 ≤ 9000 := hn; omega
  have HB := Lib.hid hB
  have N4 : Hid (∀ w, Calls Tryd.prog 27 #[.int .i64 4] w fun r w' => (∃ g, r = .returned (.slice (some ⟨g, 0, none⟩) 4 4) ∧ OwnG w' w.heap.size (.slice (some ⟨g, 0, none⟩) 4 4) (newG 4) 4) ∧ Below w.heap.size w w') := Lib.hid (fun w => refNew 4 w (by decide))
  have N1 : Hid (∀ w, Calls Tryd.prog 27 #[.int .i64 1] w fun r w' => (∃ g, r = .returned (.slice (some ⟨g, 0, none⟩) 1 1) ∧ OwnG w' w.heap.size (.slice (some ⟨g, 0, none⟩) 1 1) (newG 1) 1) ∧ Below w.heap.size w w') := Lib.hid (fun w => refNew 1 w (by decide))
  clear h hE hw hm hr hl hok hn h0 hB
  go_enter Tryd.func26, Tryd.ntmps26
  go_upto_region 1 with (fail)
  obtain ⟨wb, hwb⟩ : ∃ W, W = (((w.alloc (.cells #[.slice A n0 cp, (.slice Af nf kf : Value), .slice Ae m ke, .slice Aw nw kw] 43)).alloc (.cells #[bv, edv] 29)).alloc (.cells #[.slice none 0 0, .slice none 0 0, .slice none 0 0, .slice none 0 0] 43)) := ⟨_, rfl⟩
  have S0 : Hid (BxS S0 B w.heap.size (w.heap.size + 1) (w.heap.size + 2) m (.slice Af nf kf) (.slice Ae m ke) (.slice Aw nw kw) bv edv w wb (.slice A n0 cp) (.slice A n0 cp) ⟨L0, n0, en0⟩) := Lib.hid (by
    have hb3 : Below w.heap.size w wb := by rw [hwb]; exact (((Below.refl _ _).alloc (Nat.le_refl _) _).alloc (by simp) _).alloc (by simp; omega) _
    refine ⟨H.out.below hb3 (Nat.le_refl _), ?_, ?_, ?_, hb3.mono HB.out, Out.ofBelow hb3, fun b e => Or.inl (by rw [HS0.out]; exact Or.inl e), fun b e => by rw [HS0.out]; exact Or.inr e⟩
    · unfold NmB
      rw [hwb, Below.heap_alloc _ _ _ (by simp; omega), Below.heap_alloc _ _ _ (by simp)]
      exact heap_alloc_new w _
    · unfold ShB
      rw [hwb, Below.heap_alloc _ _ _ (by simp)]
      have := heap_alloc_new (w.alloc (.cells #[.slice A n0 cp, (.slice Af nf kf : Value), .slice Ae m ke, .slice Aw nw kw] 43)) (.cells #[bv, edv] 29)
      simpa using this
    · unfold NmB
      rw [hwb]
      have := heap_alloc_new ((w.alloc (.cells #[.slice A n0 cp, (.slice Af nf kf : Value), .slice Ae m ke, .slice Aw nw kw] 43)).alloc (.cells #[bv, edv] 29)) (.cells #[.slice none 0 0, .slice none 0 0, .slice none 0 0, .slice none 0 0] 43)
      simpa using this)
  rw [← hwb]
  clear hwb
  have hx1 : B ≤ w.heap.size := HB.out
  obtain ⟨xb, hxb⟩ : ∃ x, x = w.heap.size := ⟨_, rfl⟩
  obtain ⟨sb, hsb⟩ : ∃ x, x = w.heap.size + 1 := ⟨_, rfl⟩
  obtain ⟨rb, hrb⟩ : ∃ x, x = w.heap.size + 2 := ⟨_, rfl⟩
  have hne1 : Hid (B ≤ xb ∧ xb ≠ sb ∧ xb ≠ rb ∧ rb ≠ sb ∧ B ≤ rb ∧ w.heap.size ≤ xb ∧ w.heap.size ≤ rb) := Lib.hid (by omega)
  rw [← hrb, ← hsb, ← hxb] at S0
  rw [← hrb, ← hsb, ← hxb]
  clear hx1 hxb hsb hrb H
  obtain ⟨x0, x1, x2, x3⟩ := S0.out.bx.at_
  have xl := S0.out.bx.lt
  go_upto_region 3 with (go_at_call 27; refine (N4.out _).mono ?_; rintro e w1 ⟨⟨g1, rfl, o1⟩, b1⟩; have O1 := Lib.hid o1; have B1 := Lib.hid b1; clear o1 b1)
  have hBw : B ≤ wb.heap.size := Nat.le_trans HB.out S0.out.bel.size
  have S1 := Lib.hid (S0.out.below hBw B1.out)
  clear x0 x1 x2 x3 xl
  obtain ⟨x0, x1, x2, x3⟩ := S1.out.bx.at_
  have xl := S1.out.bx.lt
  have xf := S1.out.bx.fr 0
  have hBw1 : B ≤ w1.heap.size := Nat.le_trans hBw B1.out.size
  clear hBw S0
  go_wp2_with (at_builtin; refine wpList_append_fresh rfl (.tmp 22) (.tmp 23) 31 rfl B 51 i0 (.agg #[.int .i64 0, .int .i64 0, .int .i64 0, .int .i64 0, .int .i64 0, .int .i64 0, .int .i64 0, .int .i64 0]) 8 64 Tryd.underlying31 hi hz0 hz1 hz2 rfl (by decide) (.slice A n0 cp) n0 (L0.map intV) rfl S1.out.nm.cel ⟨g1, 0, none⟩ 4 4 ((newG 4).map intV) rfl rfl (O1.out.cells rfl) (allI _) (by unfold maxLen; omega) (by omega) hBw1 ?_; intro v5 w5 hown hgrow hfr; have o5 := more_cells hown; obtain ⟨a5, c5, e5⟩ := o5.form; subst e5; have S5 := Lib.hid (S1.out.grown (s' := ⟨L0 ++ newG 4, n0 + 4, en0⟩) hBw1 hgrow hfr o5 rfl); have hB5 : B ≤ w5.heap.size := (by have := hgrow.size; omega); clear hown hgrow hfr o5 x0 x1 x2 x3 xl xf; obtain ⟨x0, x1, x2, x3⟩ := S5.out.bx.at_; have xl := S5.out.bx.lt; have xf := S5.out.bx.fr 0)
  have S6 := Lib.hid (S5.out.held hne1.out.1 hne1.out.2.2.2.2.2.1 hne1.out.2.1 hne1.out.2.2.1)
  clear x0 x1 x2 x3 xl xf S5 S1 O1 B1 hBw1
  go_loopw [9] (fun dv wr => BxD S0 B xb sb rb m n0 (.slice Af nf kf) (.slice Ae m ke) (.slice Aw nw kw) bv edv w wr E v ⟨L0 ++ newG 4, n0 + 4, en0⟩ dv) (fun dv _ => 4 - (intOf dv).toNat)
  case atStart => exact ⟨0, a5, c5, rfl, by omega, S6.out⟩
  case round =>
    clear S6 hB5
    obtain ⟨d, A7, c7, rfl, hd, hS⟩ := hrel
    have S7 := Lib.hid hS
    obtain ⟨x0, x1, x2, x3⟩ := hS.bx.at_
    have xl := hS.bx.lt
    have hB7 : B ≤ wr.heap.size := Nat.le_trans HB.out hS.bel.size
    clear hS
    by_cases hd4 : d < 4
    · have q0 : decide (d < 4) = true := decide_eq_true hd4
      have q0' : decide ((d : Int) < 4) = true := decide_eq_true (by omega)
      obtain ⟨sd, hsd⟩ : ∃ z, bxK E v n0 ⟨L0 ++ newG 4, n0 + 4, en0⟩ d = z := ⟨_, rfl⟩
      have HSD := Lib.hid hsd
      rw [hsd] at S7
      rw [hsd] at x0
      clear hsd
      go_upto_region 7 with (fail)
      go_cut [10] from 39 to 39 (fun x wx => x = .int .i64 (frC n0 d) ∧ Below wr.heap.size wr wx)
      case first =>
        have hc : d = 0 ∨ d = 1 ∨ d = 2 ∨ d = 3 := by omega
        rcases hc with rfl | rfl | rfl | rfl
        all_goals
          go_wp2_with fail
          go_meet
          exact ⟨by simp [frC], (Below.refl _ _).alloc (Nat.le_refl _) _⟩
      case rest =>
        obtain ⟨rfl, h8⟩ := hcut
        obtain ⟨w8, hw8⟩ : ∃ W, W = wc := ⟨_, rfl⟩
        subst hw8
        have S8 := Lib.hid (S7.out.below hB7 h8)
        have hB8 : B ≤ w8.heap.size := Nat.le_trans hB7 h8.size
        clear h8 S7 hB7 x0 x1 x2 x3 xl
        obtain ⟨fr, hfr⟩ : ∃ z, frC n0 d = z := ⟨_, rfl⟩
        have HFR := Lib.hid hfr
        rw [hfr]
        clear hfr
        go_upto_region 8 with (fail)
        go_cut [11] from 51 to 51 (fun x wx => x = .int .i64 (toC n0 d) ∧ Below w8.heap.size w8 wx)
        case first =>
          have hc : d = 0 ∨ d = 1 ∨ d = 2 ∨ d = 3 := by omega
          rcases hc with rfl | rfl | rfl | rfl
          all_goals
            go_wp2_with fail
            go_meet
            exact ⟨by simp [toC], (Below.refl _ _).alloc (Nat.le_refl _) _⟩
        case rest =>
          obtain ⟨rfl, h9⟩ := hcut
          obtain ⟨w9, hw9⟩ : ∃ W, W = wc := ⟨_, rfl⟩
          subst hw9
          have S9 := Lib.hid (S8.out.below hB8 h9)
          have hB9 : B ≤ w9.heap.size := Nat.le_trans hB8 h9.size
          clear h9 S8 hB8
          obtain ⟨tc, htc⟩ : ∃ z, toC n0 d = z := ⟨_, rfl⟩
          have HTC := Lib.hid htc
          rw [htc]
          clear htc
          go_upto_region 9 with (fail)
          go_cut [12] from 55 to 55 (fun x wx => x = .int .i64 (wyC d) ∧ Below w9.heap.size w9 wx)
          case first =>
            have hc : d = 0 ∨ d = 1 ∨ d = 2 ∨ d = 3 := by omega
            rcases hc with rfl | rfl | rfl | rfl
            all_goals
              go_wp2_with fail
              go_meet
              exact ⟨by simp [wyC], (Below.refl _ _).alloc (Nat.le_refl _) _⟩
          case rest =>
            obtain ⟨rfl, h10⟩ := hcut
            obtain ⟨w10, hw10⟩ : ∃ W, W = wc := ⟨_, rfl⟩
            subst hw10
            have S10 := Lib.hid (S9.out.below hB9 h10)
            have hB10 : B ≤ w10.heap.size := Nat.le_trans hB9 h10.size
            clear h10 S9 hB9
            obtain ⟨wy, hwy⟩ : ∃ z, wyC d = z := ⟨_, rfl⟩
            have HWY := Lib.hid hwy
            rw [hwy]
            clear hwy
            obtain ⟨y0, y1⟩ := S10.out.sh.at_
            have yl := S10.out.sh.lt
            have BZ : Hid (Below B w0 w10) := Lib.hid (HW.out.trans S10.out.bel)
            go_upto_region 11 with (go_at_call 25; refine (ON.out (d : Int) _ BZ.out).mono ?_; rintro e w11 ⟨⟨A11, c11, n11, rfl, o11, hn11⟩, b11⟩; have O11 := Lib.hid (o11.base hB10); have HL11 : Hid ((onL E v d).length = n11) := Lib.hid o11.1; have B11 := Lib.hid b11; clear o11 b11)
            have S11 := Lib.hid (S10.out.below hB10 B11.out)
            have hB11 : B ≤ w11.heap.size := Nat.le_trans hB10 B11.out.size
            clear y0 y1 yl BZ S10 B11 hB10
            obtain ⟨l, hl⟩ : ∃ z, onL E v d = z := ⟨_, rfl⟩
            have LM : Hid (∀ i, i < n11 → ∃ t : Nat, l.getD i 0 = (t : Int) ∧ t / 2 < m) := Lib.hid (fun i hi => by
              have hlen := HL11.out
              have hmem : (onL E v d).getD i 0 ∈ onL E v d := by
                rw [List.getD_eq_getElem?_getD, List.getElem?_eq_getElem (by omega)]
                exact List.getElem_mem _
              rw [← hl]
              obtain ⟨q, hq, h1⟩ := onK_mem.1 hmem
              have hmm := HM.out
              rcases on1_mem.1 h1 with ⟨e, _⟩ | ⟨e, _⟩
              · exact ⟨2 * q, by omega, by omega⟩
              · exact ⟨2 * q + 1, by omega, by omega⟩)
            have hbd : sd.n + n11 ≤ 9000 := by
              have h1 : (bxK E v n0 ⟨L0 ++ newG 4, n0 + 4, en0⟩ d).n = (n0 + 4) + sidesK E v d :=
                (bxK_right (s := ⟨L0 ++ newG 4, n0 + 4, en0⟩) (m := 2 * m) ⟨by show (L0 ++ newG 4).length = (n0 + 4) * 8; rw [List.length_append, new_len]; have : L0.length = n0 * 8 := HR.out.1; omega, HR.out.2⟩ d).2
              rw [HSD.out] at h1
              have h2 : n0 + 4 + sidesK E v 4 ≤ 9000 := HN.out
              have h3 : sidesK E v (d + 1) ≤ sidesK E v 4 := sidesK_mono hd4
              have h4 : sidesK E v (d + 1) = sidesK E v d + (onL E v d).length := rfl
              have h5 := HL11.out
              omega
            rw [hl] at O11 HL11
            have HLL := Lib.hid hl
            clear hl
            go_wp2_with fail
            go_loopw [10, 14] (fun fv' iv wr => BxI S0 B xb sb rb m (.slice Af nf kf) (.slice Ae m ke) (.slice Aw nw kw) bv edv w wr wy fr l n11 (.slice A11 n11 c11) sd fv' iv) (fun _ iv _ => n11 - (intOf iv).toNat)
            case atStart => exact ⟨0, A7, c7, rfl, Nat.zero_le _, rfl, S11.out, O11.out⟩
            case round =>
              clear S11 hB11 O11
              obtain ⟨i, A12, c12, rfl, hin, rfl, hS, hO⟩ := hrel
              have CH : Hid (chK wy l sd fr (i + 1) = (joiN (putE (moN (chK wy l sd fr i).1) (l.getD i 0) (chK wy l sd fr i).1.n) (chK wy l sd fr i).2 wy (chK wy l sd fr i).1.n (-1), ((chK wy l sd fr i).1.n : Int))) := Lib.hid rfl
              have hzn : (chK wy l sd fr i).1.n = sd.n + i := chK_n i
              obtain ⟨⟨⟨ZL, zn, ze⟩, f⟩, hz⟩ : ∃ z, chK wy l sd fr i = z := ⟨_, rfl⟩
              rw [hz] at hS CH hzn
              rw [hz]
              have hzn' : zn = sd.n + i := hzn
              have HZ := Lib.hid hz
              have S12 := Lib.hid hS
              have O12 := Lib.hid hO
              obtain ⟨x0, x1, x2, x3⟩ := hS.bx.at_
              have xl := hS.bx.lt
              have hB12 : B ≤ wr.heap.size := Nat.le_trans HB.out hS.bel.size
              have hz9 : zn ≤ 9000 := by omega
              clear hS hO hz hzn
              by_cases hlt : i < n11
              · have q1 : decide (i < n11) = true := decide_eq_true hlt
                have hz8 : zn + 1 ≤ 9000 := by omega
                clear hzn'
                go_upto_region 16 with (go_at_call 27; refine (N1.out _).mono ?_; rintro e w13 ⟨⟨g13, rfl, o13⟩, b13⟩; have O13 := Lib.hid o13; have B13 := Lib.hid b13; clear o13 b13)
                have S13 := Lib.hid (S12.out.below hB12 B13.out)
                have Z13 := Lib.hid (O12.out.below B13.out (Nat.le_refl _))
                have hB13 : B ≤ w13.heap.size := Nat.le_trans hB12 B13.out.size
                clear x0 x1 x2 x3 xl S12 O12
                obtain ⟨x0, x1, x2, x3⟩ := S13.out.bx.at_
                have xl := S13.out.bx.lt
                have xf := S13.out.bx.fr 0
                go_upto_region 17 with (at_builtin; refine wpList_append_fresh rfl (.tmp 71) (.tmp 72) 31 rfl B 51 i0 (.agg #[.int .i64 0, .int .i64 0, .int .i64 0, .int .i64 0, .int .i64 0, .int .i64 0, .int .i64 0, .int .i64 0]) 8 64 Tryd.underlying31 hi hz0 hz1 hz2 rfl (by decide) (.slice A12 zn c12) zn (ZL.map intV) rfl S13.out.nm.cel ⟨g13, 0, none⟩ 1 1 ((newG 1).map intV) rfl rfl (O13.out.cells rfl) (allI _) (by unfold maxLen; omega) (by omega) hB13 ?_; intro v5 w5 hown hgrow hfr; have o5 := more_cells hown; obtain ⟨a5, c5, e5⟩ := o5.form; subst e5; have S14 := Lib.hid (S13.out.grown (s' := ⟨ZL ++ freeC, zn + 1, ze⟩) hB13 hgrow hfr o5 rfl); have Z14 := Lib.hid (Z13.out.past S13.out.nm.cel hgrow); have hB14 : B ≤ w5.heap.size := (by have := hgrow.size; omega); clear hown hgrow hfr o5 x0 x1 x2 x3 xl xf; obtain ⟨x0, x1, x2, x3⟩ := S14.out.bx.at_; have xl := S14.out.bx.lt; have xf := S14.out.bx.fr 0)
                have S15 := Lib.hid (S14.out.held hne1.out.1 hne1.out.2.2.2.2.2.1 hne1.out.2.1 hne1.out.2.2.1)
                have Z15 := Lib.hid (Z14.out.held S14.out.bx (.slice a5 (zn + 1) c5))
                obtain ⟨w15, hw15⟩ : ∃ W, W = w5.setCell ⟨xb, 0, none⟩ (.slice a5 (zn + 1) c5) := ⟨_, rfl⟩
                rw [← hw15] at S15 Z15
                rw [← hw15]
                have hB15 : B ≤ w15.heap.size := by rw [hw15]; simpa [World.setCell] using hB14
                clear hw15 x0 x1 x2 x3 xl xf S14 Z14 S13 Z13 hB14 hB13 O13 B13 hB12
                obtain ⟨x0, x1, x2, x3⟩ := S15.out.bx.at_
                have xl := S15.out.bx.lt
                obtain ⟨t, ht, htm⟩ := LM.out i hlt
                obtain ⟨g11, e11⟩ : ∃ g, A11 = some ⟨g, 0, none⟩ := by
                  obtain ⟨g, cap, hv, _⟩ := ownsRow_form Z15.out.2 (by omega)
                  simp only [Value.slice.injEq, true_and] at hv
                  exact ⟨g, hv.1⟩
                subst e11
                have f0 := Z15.out.at_ hlt
                rw [ht] at f0
                have HT := Lib.hid ht
                obtain ⟨ge, eev⟩ : ∃ g, Ae = some ⟨g, 0, none⟩ := by
                  obtain ⟨g, cap, hv, _⟩ := ownsRow_form S15.out.nm.ends (by omega)
                  simp only [Value.slice.injEq, true_and] at hv
                  exact ⟨g, hv.1⟩
                subst eev
                obtain ⟨a, ha⟩ : ∃ a : Nat, (t : Int) / 2 = (a : Int) := ⟨t / 2, by omega⟩
                obtain ⟨r, hr⟩ : ∃ r : Nat, (t : Int) % 2 = (r : Int) := ⟨t % 2, by omega⟩
                have ham : a < m := by omega
                have hr2 : r < 2 := by omega
                have hat : Hid (a * 2 + r = t) := Lib.hid (by omega)
                have HE2 : w15.ownsRow B 72 2 (.slice (some ⟨ge, 0, none⟩) m ke) m (ze.map intV) := S15.out.nm.ends
                have hle : (ze.map intV).length = m * 2 := HE2.1
                have ha' : (t : Int).tdiv 2 = (a : Int) := by rw [Int.tdiv_eq_ediv_of_nonneg (by omega)]; exact ha
                have hr' : (t : Int).tmod 2 = (r : Int) := by rw [Int.tmod_eq_emod_of_nonneg (by omega)]; exact hr
                obtain ⟨y0, j0⟩ : ∃ y, w15.cell? ⟨ge, a * 2 + r, none⟩ = some y := ⟨_, by rw [World.ownsRow.cellAt HE2 (a * 2 + r) (by omega), List.getElem?_eq_getElem (by omega)]⟩
                have j1 := World.ownsRow.frozenAt HE2 (a * 2 + r)
                have zl11 := (World.ownsRow.lt Z15.out.2 g11 rfl).2
                have zle := (World.ownsRow.lt HE2 ge rfl).2
                have hix : a * 2 + r = (l.getD i 0).toNat := by rw [HT.out, Int.toNat_natCast]; exact hat.out
                have s16 := (S15.out.told rfl (a * 2 + r) (zn : Int)).below (by simpa [World.setCell] using hB15) (Below.refl _ _).drew
                have z16 := (Z15.out.told HE2 rfl (a * 2 + r) (.int .i64 (zn : Int))).below (Below.refl _ _).drew (Nat.le_refl _)
                have S16 : Hid (BxS S0 B xb sb rb m (.slice Af nf kf) (.slice (some ⟨ge, 0, none⟩) m ke) (.slice Aw nw kw) bv edv w (w15.setCell ⟨ge, a * 2 + r, none⟩ (.int .i64 (zn : Int))).drew (.slice a5 (zn + 1) c5) (.slice a5 (zn + 1) c5) ⟨ZL ++ freeC, zn + 1, ze.set (l.getD i 0).toNat (zn : Int)⟩) := Lib.hid (by rw [← hix]; exact s16)
                have Z16 := Lib.hid z16
                have hB16 : Hid (B ≤ (w15.setCell ⟨ge, a * 2 + r, none⟩ (.int .i64 (zn : Int))).drew.heap.size) := Lib.hid (by simpa [World.setCell] using hB15)
                have hm4 : m ≤ 4096 := by have := HM.out; have := HL.out; omega
                have cw1 : IntKind.i64.wrap (a : Int) = (a : Int) := IntWalk.i64_in _ (by omega)
                have cw2 : IntKind.i64.wrap (r : Int) = (r : Int) := IntWalk.i64_in _ (by omega)
                clear ht htm hle HE2 hix s16 z16 S15 Z15 hm4
                go_region
                obtain ⟨w16, hw16⟩ : ∃ W, W = (w15.setCell ⟨ge, a * 2 + r, none⟩ (.int .i64 (zn : Int))).drew := ⟨_, rfl⟩
                rw [← hw16] at S16 Z16 hB16
                rw [← hw16]
                clear hw16 cw1 cw2 ha hr ha' hr' j0 j1 f0 x0 x1 x2 x3 xl zl11 zle hB15
                obtain ⟨x0, x1, x2, x3⟩ := S16.out.bx.at_
                have xl := S16.out.bx.lt
                go_upto_region 19 with (go_at_call 28; refine (refJoinAny (L := ZL ++ freeC) (n := zn + 1) (ownG_zero S16.out.nm.cel) (by omega) f wy (zn : Int) (-1)).mono ?_; rintro e w17 ⟨A17, c17, rfl, r17⟩; have S17 := Lib.hid (S16.out.joined hB16.out r17); have Z17 := Lib.hid (Z16.out.below r17.2.2 (Nat.le_refl _)); clear r17 x0 x1 x2 x3 xl; obtain ⟨x0, x1, x2, x3⟩ := S17.out.bx.at_; have xl := S17.out.bx.lt; have xf := S17.out.bx.fr 0)
                have S18 := Lib.hid (S17.out.held hne1.out.1 hne1.out.2.2.2.2.2.1 hne1.out.2.1 hne1.out.2.2.1)
                have Z18 := Lib.hid (Z17.out.held S17.out.bx (.slice A17 (zn + 1) c17))
                clear x0 x1 x2 x3 xl xf S17 Z17 S16 Z16 hB16
                go_wp2_with fail
                go_roundw
                case rel => exact ⟨i + 1, A17, c17, by go_num, by omega, by rw [CH.out], by rw [CH.out]; exact S18.out, Z18.out⟩
                case measure => (simp [intOf] <;> omega)
              · have hin2 : i = n11 := by omega
                have q1 : decide (i < n11) = false := decide_eq_false hlt
                have EB : Hid (bxK E v n0 ⟨L0 ++ newG 4, n0 + 4, en0⟩ (d + 1) = joiN ⟨ZL, zn, ze⟩ f wy tc (-1)) := Lib.hid (by
                  show sdN E v n0 (bxK E v n0 ⟨L0 ++ newG 4, n0 + 4, en0⟩ d) d = _
                  unfold sdN
                  rw [HSD.out, HLL.out, HWY.out, HFR.out, HTC.out, HL11.out, ← hin2, HZ.out])
                clear hzn' hin2
                go_wp2_with (go_at_call 28; refine (refJoinAny (L := ZL) (n := zn) (ownG_zero S12.out.nm.cel) (by omega) f wy tc (-1)).mono ?_; rintro e w17 ⟨A17, c17, rfl, r17⟩; have S17 := Lib.hid (S12.out.joined hB12 r17); clear r17 x0 x1 x2 x3 xl; obtain ⟨x0, x1, x2, x3⟩ := S17.out.bx.at_; have xl := S17.out.bx.lt; have xf := S17.out.bx.fr 0)
                have S18 := Lib.hid (S17.out.held hne1.out.1 hne1.out.2.2.2.2.2.1 hne1.out.2.1 hne1.out.2.2.1)
                go_roundw
                case rel => exact ⟨d + 1, A17, c17, by go_num, by omega, by rw [EB.out]; exact S18.out⟩
                case measure => (simp [intOf] <;> omega)
    · have hd5 : d = 4 := by omega
      subst hd5
      have q0 : decide (4 < 4) = false := by decide
      obtain ⟨r0, r1, r2, r3⟩ := S7.out.rs.at_
      have rl := S7.out.rs.lt
      have hrb := hne1.out.2.2
      have rf0 := S7.out.rs.fr 0
      have rf1 := S7.out.rs.fr 1
      have rf2 := S7.out.rs.fr 2
      have rf3 := S7.out.rs.fr 3
      have FN := Lib.hid (nm_out S7.out hne1.out.2.2.2.2.1 hne1.out.2.2.2.2.2.2 (.slice A7 (bxK E v n0 ⟨L0 ++ newG 4, n0 + 4, en0⟩ 4).n c7) (.slice Af nf kf) (.slice Ae m ke) (.slice Aw nw kw))
      go_wp2_with fail
      refine bodyPost_ret (v := .agg #[.slice A7 (bxK E v n0 ⟨L0 ++ newG 4, n0 + 4, en0⟩ 4).n c7, .slice Af nf kf, .slice Ae m ke, .slice Aw nw kw]) (by simp [results, Tryd.results26, go_sem, r0, r1, r2, r3]) rfl ⟨_, rfl, FN.out.1, FN.out.2.1, by rw [HS0.out] at FN; exact FN.out.2.2, by have h := S7.out.cS; rw [HS0.out] at h; exact h⟩
end Go.Proofs.YtecifgaekefkpaaDoor
