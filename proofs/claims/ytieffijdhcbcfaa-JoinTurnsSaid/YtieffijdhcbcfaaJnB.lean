/-
  Rows of rows of ints in memory; what the code's Parts and Whole answer. Conditions: at most 100000 cells.
-/
import Derived.Test.YtieffijdhcbcfaaJnL
import Derived.Test.YtieffijdhcbcfaaJnP
namespace Go.Proofs.Ytieffijdhcbcfaa
open Go.RowKit Go.Proofs.Ytieffijdhcbcfaa.GrM Go.Proofs.Ytieffijdhcbcfaa.JoM

def castP (R : List (List Nat)) : List (List Int) := R.map castN
theorem castP_len (R : List (List Nat)) : (castP R).length = R.length := by simp [castP]
theorem castP_more (R : List (List Nat)) (p : List Nat) : castP (R ++ [p]) = castP R ++ [castN p] := by simp [castP]
/-! Rows of rows, to be read. -/
def RsAt (w : World) (v : Value) (R : List (List Int)) (n : Nat) : Prop :=
  R.length = n ∧ ∃ A c, v = .slice A n c ∧ (0 < n → ∃ b o, A = some ⟨b, o, none⟩ ∧ b < w.heap.size ∧ ∀ k, k < n → ∃ s, w.cell? ⟨b, o + k, none⟩ = some s ∧ ZsAt w s (R.getD k []) (R.getD k []).length)
theorem RsAt.below {w w' : World} {C n : Nat} {v : Value} {R : List (List Int)} (h : RsAt w v R n) (o : Below C w w') (hC : w.heap.size ≤ C) : RsAt w' v R n := by
  obtain ⟨hl, A, c, rfl, hA⟩ := h
  refine ⟨hl, A, c, rfl, fun h0 => ?_⟩
  obtain ⟨b, q, e, hb, hc⟩ := hA h0
  refine ⟨b, q, e, Nat.lt_of_lt_of_le hb o.size, fun k hk => ?_⟩
  obtain ⟨s, hs, hp⟩ := hc k hk
  exact ⟨s, (o.cell (p := ⟨b, q + k, none⟩) (Nat.lt_of_lt_of_le hb hC)).trans hs, hp.below o hC⟩
theorem RsAt.form {w : World} {n : Nat} {v : Value} {R : List (List Int)} (h : RsAt w v R n) : ∃ A c, v = .slice A n c := by obtain ⟨_, A, c, e, _⟩ := h; exact ⟨A, c, e⟩
theorem RsAt.nth {w : World} {n : Nat} {v : Value} {R : List (List Int)} (h : RsAt w v R n) {k : Nat} (hk : k < n) : ∃ b o c s, v = .slice (some ⟨b, o, none⟩) n c ∧ b < w.heap.size ∧ w.cell? ⟨b, o + k, none⟩ = some s ∧ ZsAt w s (R.getD k []) (R.getD k []).length := by
  obtain ⟨hl, A, c, rfl, hA⟩ := h
  obtain ⟨b, q, rfl, hb, hc⟩ := hA (by omega)
  obtain ⟨s, hs, hp⟩ := hc k hk
  exact ⟨b, q, c, s, rfl, hb, hs, hp⟩
/-! .. of the call's own: rows of their own blocks. -/
def OwnRs (w : World) (B : Nat) (v : Value) (R : List (List Int)) (n : Nat) : Prop :=
  R.length = n ∧ ∃ S : List Value, w.ownsRow B 38 1 v n S ∧ (∀ k, k < n → ∃ s, S[k]? = some s ∧ OwnZ w B s (R.getD k []) (R.getD k []).length) ∧
    ∀ (j k : Nat) (s t : Value) (b : Nat), j ≠ k → S[j]? = some s → S[k]? = some t → s.ownBlock = some b → t.ownBlock ≠ some b
section
variable {w w' : World} {B C n : Nat} {v : Value} {R : List (List Int)}
theorem OwnRs.nil (w : World) (B : Nat) : OwnRs w B (.slice none 0 0) [] 0 := ⟨rfl, [], World.ownsRow_nil _ _ _ _, fun k hk => absurd hk (by omega), fun j k s t b _ h => by simp at h⟩
theorem OwnRs.out {S : Nat → Prop} (h : OwnRs w B v R n) (o : Out S w w') (hS : ∀ b, B ≤ b → b < w.heap.size → ¬ S b) : OwnRs w' B v R n := by
  obtain ⟨hl, Z, hr, hk, hap⟩ := h
  refine ⟨hl, Z, ownsRow_out hr o (fun b hb => hS b (hr.lt b hb).1 (hr.lt b hb).2), fun k h => let ⟨s, a, b⟩ := hk k h; ⟨s, a, ?_⟩, hap⟩
  exact ownsRow_out b o (fun q hq => hS q (World.ownsRow.lt b q hq).1 (World.ownsRow.lt b q hq).2)
theorem OwnRs.below (h : OwnRs w B v R n) (o : Below C w w') (hC : w.heap.size ≤ C) : OwnRs w' B v R n := h.out (S := fun _ => False) (Out.ofBelow (o.mono hC)) (fun _ _ _ e => e)
theorem OwnRs.base (h : OwnRs w B v R n) (hC : C ≤ B) : OwnRs w C v R n := by
  obtain ⟨hl, S, hr, hk, hap⟩ := h
  exact ⟨hl, S, row_base12 hr hC, fun k h => let ⟨s, a, b⟩ := hk k h; ⟨s, a, row_base12 b hC⟩, hap⟩
theorem OwnRs.form (h : OwnRs w B v R n) : ∃ ao cap, v = .slice ao n cap := by obtain ⟨_, S, hr, _⟩ := h; exact row_form12 hr
theorem OwnRs.rs (h : OwnRs w B v R n) : RsAt w v R n := by
  obtain ⟨hl, S, hr, hk, _⟩ := h
  have hr' := hr
  rcases hr.2 with ⟨h1, h2⟩ | ⟨g, cap, cur, hv, _, hg, r⟩
  · exact ⟨hl, none, 0, by rw [h2]; exact h1, fun h => absurd h (by omega)⟩
  · refine ⟨hl, _, cap, hv, fun _ => ⟨g, 0, rfl, (Array.getElem?_eq_some_iff.1 hg).1, fun k hkn => ?_⟩⟩
    obtain ⟨s, hs, hp⟩ := hk k hkn
    rw [hv] at hr'
    have hSl : S.length = n * 1 := hr'.1
    refine ⟨s, ?_, hp.zs⟩
    rw [Nat.zero_add, hr'.cellAt k (by omega), hs]
/-- A row more. -/
theorem OwnRs.more {w1 : World} {v' s : Value} {f : List Int} {S : List Value} (hl : R.length = n) (hr : w.ownsRow B 38 1 v n S) (hk : ∀ k, k < n → ∃ s, S[k]? = some s ∧ OwnZ w B s (R.getD k []) (R.getD k []).length)
    (hap : ∀ (j k : Nat) (s t : Value) (b : Nat), j ≠ k → S[j]? = some s → S[k]? = some t → s.ownBlock = some b → t.ownBlock ≠ some b) (hnew : ∀ (k : Nat) (t : Value) (b : Nat), S[k]? = some t → t.ownBlock = some b → s.ownBlock ≠ some b)
    (hf : OwnZ w B s f f.length) (hown : w1.ownsRow B 38 1 v' (n + 1) (S ++ [s])) (hgrow : w.grownBy w1 v.ownBlock) : OwnRs w1 B v' (R ++ [f]) (n + 1) := by
  have o1 : Out (fun b => v.ownBlock = some b) w w1 := (Out.refl _ w).grown hgrow (fun _ _ e => e)
  have keep : ∀ {u : Value} {g : List Int} {m : Nat}, OwnZ w B u g m → OwnZ w1 B u g m := fun h => ownsRow_out h o1 (fun b hb e => row_ne12 h hr (by decide) b hb e)
  have hSl : S.length = n := by have := hr.1; omega
  refine ⟨by simp [hl], S ++ [s], hown, fun k hkn => ?_, fun j k x y b hne hx hy hb hc => ?_⟩
  · by_cases e : k = n
    · subst e
      refine ⟨s, by rw [List.getElem?_append_right (by omega), hSl]; simp, ?_⟩
      rw [List.getD_eq_getElem?_getD, List.getElem?_append_right (by omega), hl]
      simpa using keep hf
    · obtain ⟨u, hu, hp⟩ := hk k (by omega)
      refine ⟨u, by rw [List.getElem?_append_left (by omega)]; exact hu, ?_⟩
      rw [List.getD_eq_getElem?_getD, List.getElem?_append_left (by omega), ← List.getD_eq_getElem?_getD]
      exact keep hp
  · have side : ∀ {j : Nat} {x : Value}, (S ++ [s])[j]? = some x → (j < n ∧ S[j]? = some x) ∨ (j = n ∧ x = s) := fun {j x} h => by
      by_cases c : j < n
      · rw [List.getElem?_append_left (by omega)] at h; exact Or.inl ⟨c, h⟩
      · rw [List.getElem?_append_right (by omega), hSl] at h
        have hj : j - n = 0 := by
          have := (List.getElem?_eq_some_iff.1 h).1
          simp at this; omega
        rw [hj] at h
        simp at h
        exact Or.inr ⟨by omega, h.symm⟩
    rcases side hx with ⟨_, hx1⟩ | ⟨e1, hx1⟩ <;> rcases side hy with ⟨_, hy1⟩ | ⟨e2, hy1⟩
    · exact hap j k x y b hne hx1 hy1 hb hc
    · subst hy1; exact hnew j x b hx1 hb hc
    · subst hx1; exact hnew k y b hy1 hc hb
    · omega
end
/-! Parts. -/
def PartsP (L : List Int) (n : Nat) (w : World) (e : Ending) (w' : World) : Prop :=
  ∃ (A : Option Addr) (c m : Nat), e = .returned (.tuple #[.slice A m c, .int .i64 0]) ∧ (partsK L n n).length = m ∧ OwnRs w' w.heap.size (.slice A m c) (castP (partsK L n n)) m ∧ Below w.heap.size w w'
def PtR (L : List Int) (n B1 g : Nat) (w0 w1 : World) (pv iv : Value) (wr : World) : Prop :=
  ∃ (v : Nat) (F : Nat → Int), iv = .int .i64 v ∧ v ≤ n ∧ FarS L n v F ∧ FarAt wr w0.heap.size g n F ∧ OwnRs wr B1 pv (castP (partsK L n v)) (partsK L n v).length ∧ Out (fun b => b = g) w1 wr
theorem infoR13 : (Try.prog.info? 38).map (fun i => (i.zero, i.size, i.bytes)) = some (some (.slice none 0 0), 1, 24) := by kernel_rfl
theorem newsV13 (w : World) (g : Nat) (x : Value) (T : TypeId) (h : w.heap[g]? = some (.cells #[x] T (0, 0))) : ∀ j z, [x][j]? = some z → w.cell? ((⟨g, 0, none⟩ : Addr).add j) = some z := by
  intro j z hz
  match j with
  | 0 =>
    simp only [List.getElem?_cons_zero, Option.some.injEq] at hz
    subst hz
    rw [show (⟨g, 0, none⟩ : Addr).add 0 = ⟨g, 0, none⟩ by unfold Addr.add; split <;> simp_all]
    simp [World.cell?, h]
  | j + 1 => simp at hz
set_option maxHeartbeats 8000000 in
set_option maxRecDepth 100000 in
theorem partsGood (lv : Value) (L : List Int) (n : Nat) (w : World) (hL : CelAt w lv L n) (hn : n ≤ 100000) (h0 : chkG L n = 0) :
    Calls Try.prog 8 #[lv] w (PartsP L n w) := by
  obtain ⟨i0, hi, hz0, hz1, hz2⟩ := info_parts infoR13
  have HL := Lib.hid hL
  have HG := Lib.hid (chk_good.1 h0).2
  have CK := Lib.hid (fun w hL => checkY lv L n w hL hn)
  rw [h0] at CK
  have UN := Lib.hid (fun w => unmet13 n hn w)
  obtain ⟨A0, c0, e⟩ := hL.form
  subst e
  clear hL h0
  go_enter Try.func8, Try.ntmps8
  go_wp2_with (first
    | (go_at_call 25; refine (UN.out _).mono ?_; rintro e w2 ⟨g, rfl, f2, b2⟩; have F2 := Lib.hid f2; have B2 := Lib.hid b2; clear f2 b2)
    | (go_at_call 24; refine (CK.out _ HL.out).mono ?_; rintro e w1 ⟨rfl, b1⟩; have B1 := Lib.hid b1; clear b1))
  have hgw := F2.out.lt
  have BB := Lib.hid (B1.out.trans (B2.out.mono B1.out.size))
  have hwg : w.heap.size ≤ g := Nat.le_trans B1.out.size hgw.1
  have FF : Hid (FarAt w2 w.heap.size g n (fun _ => -1)) := Lib.hid (F2.out.base B1.out.size)
  have hg2 := hgw.2
  clear hgw UN CK F2
  go_loopw [5, 19] (fun pv iv wr => PtR L n w2.heap.size g w w2 pv iv wr) (fun _ iv _ => n - (intOf iv).toNat)
  case atStart => exact ⟨0, _, rfl, Nat.zero_le _, FarS.start L n, FF.out, OwnRs.nil _ _, Out.refl _ _⟩
  case round =>
    clear FF
    obtain ⟨v, F, rfl, hv, hS, hF, hR, hO⟩ := hrel
    have FS := Lib.hid hS
    have FA := Lib.hid hF
    have RR := Lib.hid hR
    have OU := Lib.hid hO
    obtain ⟨ao, co, e⟩ := hR.form
    subst e
    have hgr := hF.lt.2
    have hws := hO.size
    have hpl := parts_len L n v
    obtain ⟨p, hp⟩ : ∃ p, partsK L n v = p := ⟨_, rfl⟩
    have HP := Lib.hid hp
    rw [hp] at RR hpl ⊢
    obtain ⟨m, hm⟩ : ∃ m, p.length = m := ⟨_, rfl⟩
    have HM := Lib.hid hm
    rw [hm] at RR hpl ⊢
    clear hS hF hR hO hp hm
    by_cases hlt : v < n
    · have q0 : decide (v < n) = true := decide_eq_true hlt
      have fv := FA.out.cell hlt
      by_cases ho : oldB L v = true
      · obtain ⟨k, hk⟩ : ∃ k : Nat, F v = k := by
          rcases FS.out v hlt with ⟨e, a⟩ | ⟨e, _⟩
          · exact absurd (oldB_iff.1 ho) a
          · exact ⟨(F v).toNat, by omega⟩
        rw [hk] at fv
        have n1 : ((k : Int) == -1) = false := by rw [beq_eq_false_iff_ne]; omega
        have n2 : ((k : Int) != -1) = true := by rw [bne, n1]; rfl
        have HO := Lib.hid ho
        clear ho hk
        go_wp2_with fail
        go_roundw
        case rel => exact ⟨v + 1, F, by go_num, by omega, FS.out.skip HO.out, FA.out, by rw [parts_skip HO.out, HP.out, HM.out]; exact RR.out, OU.out⟩
        case measure => (simp [intOf] <;> omega)
      · have hk : F v = -1 := (FS.out.old hlt).2 ho
        rw [hk] at fv
        have CR := HL.out.below (BB.out.trans ((OU.out.below (B := w.heap.size) BB.out.size (fun i _ e => by subst e; exact hwg)))) (Nat.le_refl _)
        have hnb : (Value.slice A0 n c0).ownBlock ≠ some g := by
          obtain ⟨b, o, c', e, hb, _⟩ := HL.out.nth hlt
          rw [e]
          intro e2
          have : b = g := by simpa [Value.ownBlock] using e2
          omega
        have FD := Lib.hid (flood_ _ L n v w.heap.size g F wr CR hn HG.out hlt FA.out (FS.out.free HG.out hlt ho) hnb)
        have HO := Lib.hid ho
        clear CR hk ho hnb
        go_upto_region 11 with (go_at_call 26; refine FD.out.mono ?_; rintro e w3 ⟨M, F3, A3, c3, m3, rfl, hm3, o3, f3, u3, fl3⟩; have O3 := Lib.hid o3; have F3H := Lib.hid f3; have U3 := Lib.hid u3; have L3 := Lib.hid fl3; have HM3 := Lib.hid hm3; clear o3 f3 u3 fl3 hm3)
        have hmn : m3 ≤ n := by rw [← HM3.out]; exact L3.out.len
        have SO := Lib.hid (sortZ _ _ _ _ w3 O3.out (by omega))
        have hw3 := U3.out.size
        have LL : Hid (Fl L n v F M F3 M.length 0) := Lib.hid (by rw [HM3.out]; exact L3.out)
        have SP : Hid ((castN M).mergeSort (fun a b => decide (a ≤ b)) = castN (partL L n v)) := Lib.hid (by
          obtain ⟨e1, _⟩ := LL.out.end_ rfl
          exact sorted_part LL.out.nd LL.out.lt e1)
        rw [SP.out] at SO
        clear FD q0 fv SP
        go_upto_region 12 with (go_at_call 27; refine SO.out.mono ?_; rintro e w4 ⟨rfl, o4, g4⟩; have O4 := Lib.hid o4; have G4 := Lib.hid g4; clear o4 g4)
        have o34 : Out (fun b => (Value.slice A3 m3 c3).ownBlock = some b) w3 w4 := (Out.refl _ _).grown G4.out (fun _ _ e => e)
        have nb3 : ∀ b, (Value.slice A3 m3 c3).ownBlock = some b → wr.heap.size ≤ b := fun b hb => (World.ownsRow.lt O3.out b hb).1
        have U4 : Hid (Out (fun b => b = g) wr w4) := Lib.hid (U3.out.trans o34 (fun i hi e => by have := nb3 i e; omega))
        have F4 : Hid (FarAt w4 w.heap.size g n F3) := Lib.hid (F3H.out.out o34 (fun e => by have := nb3 g e; omega))
        have OU4 : Hid (Out (fun b => b = g) w2 w4) := Lib.hid (OU.out.trans U4.out (fun _ _ e => e))
        have hw4 := U4.out.size
        have NB := Lib.hid nb3
        obtain ⟨hRl, SS, hSS, hSk, hSa⟩ := RR.out
        have offg : ∀ {b : Nat}, w2.heap.size ≤ b → ¬ b = g := fun h e => by omega
        have SH : Hid (w4.ownsRow w2.heap.size 38 1 (.slice ao m co) m SS) := Lib.hid (ownsRow_out hSS U4.out (fun b hb => offg (hSS.lt b hb).1))
        have SK : Hid (∀ k, k < m → ∃ s, SS[k]? = some s ∧ OwnZ w4 w2.heap.size s ((castP p).getD k []) ((castP p).getD k []).length) := Lib.hid (fun k hk => let ⟨s, a, b⟩ := hSk k hk; ⟨s, a, ownsRow_out b U4.out (fun q hq => offg (World.ownsRow.lt b q hq).1)⟩)
        have SA := Lib.hid hSa
        have RL := Lib.hid hRl
        have LT : Hid (∀ (k : Nat) (t : Value) (b : Nat), SS[k]? = some t → t.ownBlock = some b → b < wr.heap.size) := Lib.hid (fun k t b hk hb => by
          have hkm : k < m := by
            have h1 := (List.getElem?_eq_some_iff.1 hk).1
            have h2 := hSS.1
            omega
          obtain ⟨s, hs, hz⟩ := hSk k hkm
          rw [hk] at hs
          obtain rfl := Option.some.inj hs
          exact (World.ownsRow.lt hz b hb).2)
        have hpl2 := part_len L n v
        have M4 : Hid (OwnZ w4 w2.heap.size (.slice A3 m3 c3) (castN (partL L n v)) (castN (partL L n v)).length) := Lib.hid (by
          have h := O4.out
          rw [OwnZ.len h]
          exact row_base12 h hws)
        clear o34 nb3 hSS hSk hSa hRl offg
        go_wp2_with (at_builtin; refine wpList_append_fresh rfl (.tmp 33) (.tmp 35) 30 rfl w2.heap.size 38 i0 (.slice none 0 0) 1 24 Try.underlying30 hi hz0 hz1 hz2 rfl (by decide) (.slice ao m co) m SS rfl (row_below12 SH.out ((Below.refl _ _).alloc (Nat.le_refl _) _) (Nat.le_refl _)) ⟨w4.heap.size, 0, none⟩ 1 1 [.slice A3 m3 c3] rfl rfl (newsV13 _ _ _ 38 (heap_alloc_new w4 _)) (fun z hz => by obtain rfl := List.mem_singleton.1 hz; rfl) (by unfold maxLen; omega) (by omega) (by simp; omega) ?_; intro v5 w5 hown hgrow hfr)
        have ba : Below w4.heap.size w4 (w4.alloc (.cells #[.slice A3 m3 c3] 38)) := (Below.refl _ _).alloc (Nat.le_refl _) _
        have R5 : Hid (OwnRs w5 w2.heap.size v5 (castP (p ++ [partL L n v])) (m + 1)) := Lib.hid (by
          rw [castP_more]
          exact OwnRs.more RL.out (row_below12 SH.out ba (Nat.le_refl _)) (fun k hk => let ⟨s, a, b⟩ := SK.out k hk; ⟨s, a, row_below12 b ba (Nat.le_refl _)⟩) SA.out (fun k t b hk hb e => by have := LT.out k t b hk hb; have := NB.out b e; omega) (row_below12 M4.out ba (Nat.le_refl _)) hown hgrow)
        have o5 : Out (fun b => (Value.slice ao m co).ownBlock = some b) w4 w5 := ((Out.refl _ _).alloc _).grown hgrow (fun _ _ e => e)
        have F5 : Hid (FarAt w5 w.heap.size g n F3) := Lib.hid (F4.out.out o5 (fun e => by have := (SH.out.lt g e).1; omega))
        have O5 : Hid (Out (fun b => b = g) w2 w5) := Lib.hid (OU4.out.trans o5 (fun i hi e => by have := (SH.out.lt i e).1; omega))
        clear hown hgrow hfr o5 ba
        go_roundw
        case rel => exact ⟨v + 1, F3, by go_num, by omega, FS.out.flood LL.out, F5.out, by rw [parts_more HO.out, HP.out, List.length_append, HM.out]; exact R5.out, O5.out⟩
        case measure => (simp [intOf] <;> omega)
    · have hvn : v = n := by omega
      have q0 : decide (v < n) = false := decide_eq_false hlt
      subst hvn
      go_wp2_with fail
      go_ret2
      exact ⟨ao, co, m, rfl, by rw [HP.out]; exact HM.out, by rw [HP.out]; exact RR.out.base BB.out.size, BB.out.trans (OU.out.below BB.out.size (fun i _ e => by subst e; exact hwg))⟩
end Go.Proofs.Ytieffijdhcbcfaa
