/-
  Rows of ints of the call's own; what the reference's Side and On answer. Conditions: at most 4096 edges, of directions, each with at most 1000000 bends.
-/
import Derived.Test.YtecifgaekefkpaaDoorNmM
import Derived.Test.YtecifgaekefkpaaDoorNzT
import Derived.Test.YtecifgaekefkpaaDoorNzRa
import Derived.IntWalk
namespace Go.Proofs.YtecifgaekefkpaaDoor
open Go.RowKit Go.Proofs.YtecifgaekefkpaaDoor.LexM Go.Proofs.YtecifgaekefkpaaDoor.ParM Go.Proofs.YtecifgaekefkpaaDoor.GrM Go.Proofs.YtecifgaekefkpaaDoor.NmM

/-- A row of ints of the call's own. -/
def OwnZ (w : World) (B : Nat) (v : Value) (x : List Int) (n : Nat) : Prop := x.length = n ∧ w.ownsRow B 3 1 v n (x.map intV)
theorem OwnZ.form {w : World} {B : Nat} {v : Value} {x : List Int} {n : Nat} (h : OwnZ w B v x n) : ∃ ao cap, v = .slice ao n cap := by
  rcases h.2.2 with ⟨h1, h2⟩ | ⟨_, _, _, h, _⟩
  · exact ⟨none, 0, by rw [h2]; exact h1⟩
  · exact ⟨_, _, h⟩
theorem OwnZ.below {w w' : World} {B C : Nat} {v : Value} {x : List Int} {n : Nat} (h : OwnZ w B v x n) (o : Below C w w') (hC : w.heap.size ≤ C) : OwnZ w' B v x n :=
  ⟨h.1, ownsRow_out (S := fun _ => False) h.2 (Out.ofBelow (o.mono hC)) (fun _ _ e => e)⟩
theorem OwnZ.base {w : World} {B C : Nat} {v : Value} {x : List Int} {n : Nat} (h : OwnZ w B v x n) (hC : C ≤ B) : OwnZ w C v x n := by
  refine ⟨h.1, h.2.1, ?_⟩
  rcases h.2.2 with q | ⟨g, cap, cur, hv, hg, r⟩
  · exact Or.inl q
  · exact Or.inr ⟨g, cap, cur, hv, by omega, r⟩
theorem OwnZ.nil (w : World) (B : Nat) : OwnZ w B (.slice none 0 0) [] 0 := ⟨rfl, World.ownsRow_nil _ _ _ _⟩
theorem OwnZ.more {w : World} {B n : Nat} {v : Value} {x : List Int} {y : Int} (hl : x.length = n) (h : w.ownsRow B 3 1 v (n + 1) (x.map intV ++ [intV y])) : OwnZ w B v (x ++ [y]) (n + 1) := by
  refine ⟨by simp [hl], ?_⟩
  rw [List.map_append]
  exact h
theorem OwnZ.at_ {w : World} {B n g cap : Nat} {x : List Int} (h : OwnZ w B (.slice (some ⟨g, 0, none⟩) n cap) x n) {i : Nat} (hi : i < n) : w.cell? ⟨g, i, none⟩ = some (.int .i64 (x.getD i 0)) := by
  rw [World.ownsRow.cellAt h.2 i (by omega), List.getElem?_map, List.getElem?_eq_getElem (by rw [h.1]; exact hi), List.getD_eq_getElem?_getD, List.getElem?_eq_getElem (by rw [h.1]; exact hi)]; rfl
theorem newsZ (w : World) (t : TypeId) (x : Int) (b : Nat) (hb : w.heap.size = b) : ∀ j z, [intV x][j]? = some z → (w.alloc (.cells #[.int .i64 x] t)).cell? ((⟨b, 0, none⟩ : Addr).add j) = some z := by
  intro j z hz
  have hj : j = 0 := by have := List.getElem?_eq_some_iff.1 hz; simp at this; omega
  subst hj hb
  simp at hz
  subst hz
  unfold intV
  go_simp
theorem oneZ (x : Int) : ∀ u ∈ [intV x], u.oneCell' = true := fun u hu => by
  simp at hu
  subst hu
  rfl
theorem info_z : ∃ i, Tryd.prog.info? 3 = some i ∧ i.zero = some (.int .i64 0) ∧ i.size = 1 ∧ i.bytes = 8 := by
  have h : (Tryd.prog.info? 3).map (fun i => (i.zero, i.size, i.bytes)) = some (some (.int .i64 0), 1, 8) := by kernel_rfl
  cases e : Tryd.prog.info? 3 with
  | none => rw [e] at h; cases h
  | some i =>
    rw [e] at h
    simp only [Option.map_some, Option.some.injEq, Prod.mk.injEq] at h
    exact ⟨i, rfl, h.1, h.2.1, h.2.2⟩
theorem refSide (y1 y2 y3 : Int) (y4 : List UInt8) (w : World) (hz : y4.length ≤ 1000000) (h0 : 0 ≤ y3) (h3 : y3 ≤ 3) :
    Calls Tryd.prog 43 #[.agg #[.int .i64 y1, .int .i64 y2, .int .i64 y3, .string (bs y4)]] w fun r w' => r = .returned (.int .i64 (sideT (y1, y2, y3, y4))) ∧ Below w.heap.size w w' := by
  have LA := Lib.hid (fun w => refLast y1 y2 y3 y4 w (by omega) h0 h3)
  have hr := lastT_range y3 y4
  have ST : Hid (sideT (y1, y2, y3, y4) = (lastT y3 y4 + 2) % 4) := Lib.hid rfl
  obtain ⟨z, hz⟩ : ∃ z : Nat, lastT y3 y4 = (z : Int) := ⟨(lastT y3 y4).toNat, by omega⟩
  have hz4 : z ≤ 3 := by omega
  rw [hz] at LA ST
  clear hr hz h0 h3
  generalize bs y4 = sb at *
  go_enter Tryd.func43, Tryd.ntmps43
  go_wp2_with (go_at_call 29; refine (LA.out _).mono ?_; rintro e w1 ⟨rfl, b1⟩; have B1 := Lib.hid b1; clear b1)
  go_ret
  exact ⟨ret_int (by rw [ST.out]), ((Below.refl w.heap.size w).alloc (Nat.le_refl _) _).trans (B1.out.mono (by simp))⟩
/-- Edges that may be gone through. -/
def OkEs (E : List Edg) : Prop := ∀ e ∈ E, 0 ≤ e.2.2.1 ∧ e.2.2.1 ≤ 3 ∧ e.2.2.2.length ≤ 1000000
/-- An edge in a box of its own. -/
def EdB (w : World) (xb : Nat) (f t d : Int) (s : ByteArray) : Prop := w.heap[xb]? = some (.cells #[.int .i64 f, .int .i64 t, .int .i64 d, .string s] 54 (0, 0))
theorem EdB.lt {w : World} {xb : Nat} {f t d : Int} {s : ByteArray} (h : EdB w xb f t d s) : xb < w.heap.size := (Array.getElem?_eq_some_iff.1 h).1
theorem EdB.at_ {w : World} {xb : Nat} {f t d : Int} {s : ByteArray} (h : EdB w xb f t d s) : w.cell? ⟨xb, 0, none⟩ = some (.int .i64 f) ∧ w.cell? ⟨xb, 1, none⟩ = some (.int .i64 t) ∧ w.cell? ⟨xb, 2, none⟩ = some (.int .i64 d) ∧ w.cell? ⟨xb, 3, none⟩ = some (.string s) := by
  unfold EdB at h
  exact ⟨by simp [World.cell?, h], by simp [World.cell?, h], by simp [World.cell?, h], by simp [World.cell?, h]⟩
theorem EdB.out {w w' : World} {S : Nat → Prop} {xb : Nat} {f t d : Int} {s : ByteArray} (h : EdB w xb f t d s) (o : Out S w w') (hn : ¬ S xb) : EdB w' xb f t d s := (o.block xb h.lt hn).trans h
def onT (t : Bool) (x : Int) : List Int := if t = true then [x] else []
theorem onT_t (x : Int) : onT true x = [x] := rfl
theorem onT_f (x : Int) : onT false x = [] := rfl
theorem onK_next {E : List Edg} {v d : Int} {k : Nat} (hk : k < E.length) (t1 t2 : Bool) (h1 : decide (E[k].1 = v ∧ E[k].2.2.1 = d) = t1) (h2 : decide (E[k].2.1 = v ∧ sideT E[k] = d) = t2) :
    onK E v d (k + 1) = (onK E v d k ++ onT t1 (2 * (k : Int))) ++ onT t2 (2 * (k : Int) + 1) := by
  have e : E.getD k noE = E[k] := by rw [List.getD_eq_getElem?_getD, List.getElem?_eq_getElem hk]; rfl
  rw [onK, e, List.append_assoc]
  unfold on1 onT
  congr 1
  congr 1
  · subst h1
    simp only [decide_eq_true_eq]
  · subst h2
    simp only [decide_eq_true_eq]
def OnR (E : List Edg) (v d : Int) (n : Nat) (wb wr : World) (lv iv : Value) : Prop :=
  ∃ (k m : Nat) (A : Option Addr) (c : Nat), iv = .int .i64 k ∧ k ≤ n ∧ m ≤ 2 * k ∧ lv = .slice A m c ∧ OwnZ wr wb.heap.size lv (onK E v d k) m ∧ Below wb.heap.size wb wr
/-- Behind an 'if' that may append one int. -/
def OnC (K : List Int) (m xb : Nat) (f t d : Int) (s : ByteArray) (wb : World) (lv : Value) (w' : World) : Prop :=
  ∃ (A : Option Addr) (c m' : Nat), lv = .slice A m' c ∧ m' ≤ m ∧ OwnZ w' wb.heap.size lv K m' ∧ EdB w' xb f t d s ∧ Below wb.heap.size wb w' ∧ (∀ b, lv.ownBlock = some b → b ≠ xb)
theorem on_app {wb wa w5 : World} {K : List Int} {m xb : Nat} {f t d x : Int} {s : ByteArray} {v v5 : Value} (hK : K.length = m) (hO : OwnZ wa wb.heap.size v K m) (hX : EdB wa xb f t d s) (hB : Below wb.heap.size wb wa) (hne : ∀ b, v.ownBlock = some b → b ≠ xb)
    (hown : w5.ownsRow wb.heap.size 3 1 v5 (m + 1) (K.map intV ++ [intV x])) (hgrow : wa.grownBy w5 v.ownBlock) (hfr : ∀ b, v5.ownBlock = some b → v.ownBlock = some b ∨ wa.heap.size ≤ b) :
    OnC (K ++ [x]) (m + 1) xb f t d s wb v5 w5 := by
  have hZ := OwnZ.more hK hown
  obtain ⟨ao, co, rfl⟩ := hZ.form
  refine ⟨ao, co, m + 1, rfl, Nat.le_refl _, hZ, ?_, hB.grown hgrow hB.size (fun q hq => (World.ownsRow.lt hO.2 q hq).1), fun b hb => ?_⟩
  · exact (hgrow.block xb hX.lt (fun e => hne xb e.symm rfl)).trans hX
  · rcases hfr b hb with h | h
    · exact hne b h
    · have := hX.lt; omega
set_option maxHeartbeats 16000000 in
set_option maxRecDepth 100000 in
theorem refOn (bv ev : Value) (E : List Edg) (v d : Int) (w : World) (hE : EdsAt w ev E) (hl : E.length ≤ 4096) (hok : OkEs E) :
    Calls Tryd.prog 25 #[.agg #[bv, ev], .int .i64 v, .int .i64 d] w fun r w' => (∃ A c n, r = .returned (.slice A n c) ∧ OwnZ w' w.heap.size (.slice A n c) (onL E v d) n ∧ n ≤ 8192) ∧ Below w.heap.size w w' := by
  have HE := Lib.hid hE
  obtain ⟨n, hn⟩ : ∃ n, E.length = n := ⟨_, rfl⟩
  obtain ⟨A0, c0, e⟩ := hE.form
  subst e
  rw [hn] at HE hl ⊢
  have HK := Lib.hid hok
  have HN := Lib.hid hn
  obtain ⟨i0, hi, hz0, hz1, hz2⟩ := info_z
  clear hE hok hn
  go_enter Tryd.func25, Tryd.ntmps25
  go_upto_region 1 with (fail)
  obtain ⟨wb, hwb⟩ : ∃ W, W = (w.alloc (.cells #[bv, .slice A0 n c0] 29)) := ⟨_, rfl⟩
  have BB : Hid (Below w.heap.size w wb) := Lib.hid (by rw [hwb]; exact (Below.refl _ _).alloc (Nat.le_refl _) _)
  have x1 : wb.cell? ⟨w.heap.size, 1, none⟩ = some (.slice A0 n c0) := by rw [hwb]; go_simp
  have hgb : w.heap.size < wb.heap.size := by rw [hwb]; simp
  rw [← hwb]
  clear hwb
  have KX := Lib.hid (fun wr (b : Below wb.heap.size wb wr) => And.intro ((b.cell (p := ⟨w.heap.size, 1, none⟩) hgb).trans x1) (Nat.lt_of_lt_of_le hgb b.size))
  clear x1 hgb
  go_wp2_with fail
  go_loopw [7, 8] (fun lv iv wr => OnR E v d n wb wr lv iv) (fun _ iv _ => n - (intOf iv).toNat)
  case atStart => exact ⟨0, 0, none, 0, rfl, Nat.zero_le _, Nat.le_refl _, rfl, OwnZ.nil _ _, Below.refl _ _⟩
  case round =>
    obtain ⟨k, m, ao, co, rfl, hk, hm, rfl, hO, hB⟩ := hrel
    have O := Lib.hid hO
    have B := Lib.hid hB
    obtain ⟨y1, hgw⟩ := KX.out wr hB
    clear hO hB
    by_cases hlt : k < n
    · have q0 : decide (k < n) = true := decide_eq_true hlt
      have hkE : k < E.length := by have := HN.out; omega
      obtain ⟨A1, cc, e, _, hc⟩ := (HE.out.below BB.out (Nat.le_refl _))
      simp only [Value.slice.injEq] at e
      obtain ⟨rfl, -, rfl⟩ := e
      obtain ⟨b, o, e, hb, hcell⟩ := hc (by omega)
      subst e
      obtain ⟨z0, z1, z2, z3⟩ := hcell k hkE
      have f0 := (B.out.cell (p := ⟨b, o + k * 4, none⟩) hb).trans z0
      have f1 := (B.out.cell (p := ⟨b, o + k * 4 + 1, none⟩) hb).trans z1
      have f2 := (B.out.cell (p := ⟨b, o + k * 4 + 2, none⟩) hb).trans z2
      have f3 := (B.out.cell (p := ⟨b, o + k * 4 + 3, none⟩) hb).trans z3
      have hbw := Nat.lt_of_lt_of_le hb B.out.size
      obtain ⟨t1, h1⟩ : ∃ t, decide (E[k].1 = v ∧ E[k].2.2.1 = d) = t := ⟨_, rfl⟩
      obtain ⟨t2, h2⟩ : ∃ t, decide (E[k].2.1 = v ∧ sideT E[k] = d) = t := ⟨_, rfl⟩
      have NX := Lib.hid (onK_next hkE t1 t2 h1 h2)
      obtain ⟨k1, k2, k3⟩ := HK.out E[k] (List.getElem_mem hkE)
      have SD := Lib.hid (fun w => refSide E[k].1 E[k].2.1 E[k].2.2.1 E[k].2.2.2 w k3 k1 k2)
      have H1 := Lib.hid h1
      have H2 := Lib.hid h2
      have eS : (E[k].1, E[k].2.1, E[k].2.2.1, E[k].2.2.2) = E[k] := rfl
      rw [eS] at SD
      clear eS z0 z1 z2 z3 hcell hc h1 h2 k1 k2 k3 HE
      generalize sideT E[k] = sd at *
      generalize E[k].1 = fk at *
      generalize E[k].2.1 = tk at *
      generalize E[k].2.2.1 = dk at *
      generalize bs E[k].2.2.2 = sk at *
      go_upto_region 6 with (fail)
      obtain ⟨wx, hwx⟩ : ∃ W, W = (wr.alloc (.cells #[.int .i64 fk, .int .i64 tk, .int .i64 dk, .string sk] 54)) := ⟨_, rfl⟩
      have bx : Below wr.heap.size wr wx := by rw [hwx]; exact (Below.refl _ _).alloc (Nat.le_refl _) _
      have EX := Lib.hid (show EdB wx wr.heap.size fk tk dk sk from by rw [hwx]; exact heap_alloc_new wr _)
      have OX := Lib.hid (O.out.below bx (Nat.le_refl _))
      have BX := Lib.hid (B.out.trans (bx.mono B.out.size))
      have NE : Hid (∀ b, (Value.slice ao m co).ownBlock = some b → b ≠ wr.heap.size) := Lib.hid (fun q hq e => by have := (World.ownsRow.lt O.out.2 q hq).2; omega)
      have HL : Hid ((onK E v d k).length = m) := Lib.hid O.out.1
      rw [← hwx]
      generalize wr.heap.size = xb at *
      clear hwx bx O B y1 hgw f0 f1 f2 f3 hbw hb
      obtain ⟨g0, g1, g2, g3⟩ := EX.out.at_
      have hxb := EX.out.lt
      go_cut [32] from 31 to 31 (fun s wq => s = .bool t1 ∧ wq = wx)
      case first =>
        by_cases c1 : fk = v
        · have p1 : (fk == v) = true := by rw [beq_iff_eq]; exact c1
          by_cases c2 : dk = d
          · have p2 : (dk == d) = true := by rw [beq_iff_eq]; exact c2
            have e1 : true = t1 := by rw [← H1.out]; exact (decide_eq_true ⟨c1, c2⟩).symm
            subst e1
            clear c1 c2
            go_wp2_with fail
            go_meet
            exact ⟨rfl, rfl⟩
          · have p2 : (dk == d) = false := by rw [beq_eq_false_iff_ne]; exact c2
            have e1 : false = t1 := by rw [← H1.out]; exact (decide_eq_false (fun h => c2 h.2)).symm
            subst e1
            clear c1 c2
            go_wp2_with fail
            go_meet
            exact ⟨rfl, rfl⟩
        · have p1 : (fk == v) = false := by rw [beq_eq_false_iff_ne]; exact c1
          have e1 : false = t1 := by rw [← H1.out]; exact (decide_eq_false (fun h => c1 h.1)).symm
          subst e1
          clear c1
          go_wp2_with fail
          go_meet
          exact ⟨rfl, rfl⟩
      case rest =>
        obtain ⟨rfl, hwc⟩ := hcut
        obtain rfl := hwc.symm
        go_upto_if 32 with (fail)
        go_cut [7] from 37 to 37 (fun lv wq => OnC (onK E v d k ++ onT t1 (2 * (k : Int))) (m + 1) xb fk tk dk sk wb lv wq)
        case first =>
          cases t1
          · go_wp2_with fail
            go_meet
            exact ⟨ao, co, m, rfl, Nat.le_succ _, by rw [onT_f, List.append_nil]; exact OX.out, EX.out, BX.out, NE.out⟩
          · go_wp2_with (at_builtin; refine wpList_append_fresh rfl (.tmp 33) (.tmp 36) 32 rfl wb.heap.size 3 i0 (.int .i64 0) 1 8 Tryd.underlying32 hi hz0 hz1 hz2 rfl (by decide) (.slice ao m co) m ((onK E v d k).map intV) rfl (OX.out.below ((Below.refl _ _).alloc (Nat.le_refl _) _) (Nat.le_refl _)).2 ⟨wx.heap.size, 0, none⟩ 1 1 [intV (2 * (k : Int))] rfl rfl (newsZ _ _ _ _ rfl) (oneZ _) (by unfold maxLen; omega) (by omega) (Nat.le_trans BX.out.size (by simp)) ?_; intro v5 w5 hown hgrow hfr; have C5 := Lib.hid (on_app HL.out (OX.out.below ((Below.refl _ _).alloc (Nat.le_refl _) _) (Nat.le_refl _)) (EX.out.out (Out.ofBelow (S := fun _ => False) ((Below.refl _ _).alloc (Nat.le_refl _) _)) (fun e => e)) (BX.out.alloc BX.out.size _) NE.out hown hgrow hfr); clear hown hgrow hfr)
            go_meet
            exact C5.out
        case rest =>
          obtain ⟨A7, c7, m7, rfl, hm7, o7, e7, b7, n7⟩ := hcut
          obtain ⟨w7, hw7⟩ : ∃ W, W = wc := ⟨_, rfl⟩
          subst hw7
          have O7 := Lib.hid o7
          have E7 := Lib.hid e7
          have B7 := Lib.hid b7
          have N7 := Lib.hid n7
          obtain ⟨g0, g1, g2, g3⟩ := e7.at_
          have hx7 := e7.lt
          clear o7 e7 b7 n7 OX EX BX NE HL g0 g1 g2 g3 hxb
          obtain ⟨g0, g1, g2, g3⟩ := E7.out.at_
          go_upto_region 9 with (go_at_call 43; refine (SD.out _).mono ?_; rintro e w8 ⟨rfl, b8⟩; have B8 := Lib.hid b8; clear b8)
          have O8 := Lib.hid (O7.out.below B8.out (Nat.le_refl _))
          have E8 := Lib.hid (E7.out.out (Out.ofBelow (S := fun _ => False) B8.out) (fun e => e))
          have BZ := Lib.hid (B7.out.trans (B8.out.mono B7.out.size))
          have HL : Hid ((onK E v d k ++ onT t1 (2 * (k : Int))).length = m7) := Lib.hid O7.out.1
          clear g0 g1 g2 g3 hx7 O7 E7 B7 B8
          obtain ⟨g0, g1, g2, g3⟩ := E8.out.at_
          have hx8 := E8.out.lt
          generalize onK E v d k ++ onT t1 (2 * (k : Int)) = K1 at *
          go_cut [48] from 47 to 47 (fun s wq => s = .bool t2 ∧ wq = w8)
          case first =>
            by_cases c1 : tk = v
            · have p1 : (tk == v) = true := by rw [beq_iff_eq]; exact c1
              by_cases c2 : sd = d
              · have p2 : (sd == d) = true := by rw [beq_iff_eq]; exact c2
                have e1 : true = t2 := by rw [← H2.out]; exact (decide_eq_true ⟨c1, c2⟩).symm
                subst e1
                clear c1 c2
                go_wp2_with fail
                go_meet
                exact ⟨rfl, rfl⟩
              · have p2 : (sd == d) = false := by rw [beq_eq_false_iff_ne]; exact c2
                have e1 : false = t2 := by rw [← H2.out]; exact (decide_eq_false (fun h => c2 h.2)).symm
                subst e1
                clear c1 c2
                go_wp2_with fail
                go_meet
                exact ⟨rfl, rfl⟩
            · have p1 : (tk == v) = false := by rw [beq_eq_false_iff_ne]; exact c1
              have e1 : false = t2 := by rw [← H2.out]; exact (decide_eq_false (fun h => c1 h.1)).symm
              subst e1
              clear c1
              go_wp2_with fail
              go_meet
              exact ⟨rfl, rfl⟩
          case rest =>
            obtain ⟨rfl, hwc⟩ := hcut
            obtain rfl := hwc.symm
            cases t2
            · go_wp2_with fail
              go_roundw
              case rel => exact ⟨k + 1, m7, A7, c7, by go_num, by omega, by omega, rfl, by rw [NX.out, onT_f, List.append_nil]; exact O8.out, BZ.out⟩
              case measure => (simp [intOf] <;> omega)
            · go_wp2_with (at_builtin; refine wpList_append_fresh rfl (.tmp 49) (.tmp 53) 32 rfl wb.heap.size 3 i0 (.int .i64 0) 1 8 Tryd.underlying32 hi hz0 hz1 hz2 rfl (by decide) (.slice A7 m7 c7) m7 (K1.map intV) rfl (O8.out.below ((Below.refl _ _).alloc (Nat.le_refl _) _) (Nat.le_refl _)).2 ⟨w8.heap.size, 0, none⟩ 1 1 [intV (2 * (k : Int) + 1)] rfl rfl (newsZ _ _ _ _ rfl) (oneZ _) (by unfold maxLen; omega) (by omega) (Nat.le_trans BZ.out.size (by simp)) ?_; intro v5 w5 hown hgrow hfr; have C5 := Lib.hid (on_app HL.out (O8.out.below ((Below.refl _ _).alloc (Nat.le_refl _) _) (Nat.le_refl _)) (E8.out.out (Out.ofBelow (S := fun _ => False) ((Below.refl _ _).alloc (Nat.le_refl _) _)) (fun e => e)) (BZ.out.alloc BZ.out.size _) N7.out hown hgrow hfr); clear hown hgrow hfr)
              obtain ⟨A9, c9, m9, e9, hm9, o9, _, b9, _⟩ := C5.out
              go_roundw
              case rel => exact ⟨k + 1, m9, A9, c9, by go_num, by omega, by omega, e9, by rw [NX.out]; exact o9, b9⟩
              case measure => (simp [intOf] <;> omega)
    · have hkn : k = n := by omega
      have q0 : decide (k < n) = false := decide_eq_false hlt
      have EQ : Hid (onL E v d = onK E v d k) := Lib.hid (by unfold onL; rw [HN.out, hkn])
      go_wp2_with fail
      go_ret
      exact ⟨⟨_, _, m, rfl, by rw [EQ.out]; exact O.out.base BB.out.size, by omega⟩, BB.out.trans (B.out.mono BB.out.size)⟩
end Go.Proofs.YtecifgaekefkpaaDoor
