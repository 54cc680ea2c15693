/-
  leastFirst: the walk. Conditions: the graph may be.
-/
import Derived.Test.YtkloaekmjnbacaaDagE
import Derived.Test.YtkloaekmjnbacaaDagD
import Derived.Test.YtkloaekmjnbacaaDagB
namespace Go.Proofs.Ytkloaekmjnbacaa
open Go.RowKit Go.Proofs.Ytkloaekmjnbacaa.DagM Go.Proofs.Ytkloaekmjnbacaa.HeapM

abbrev castL (L : List Nat) : List Int := L.map fun (x : Nat) => (x : Int)
/-- Loop 1: the nodes below k that nothing leads to are pushed. -/
def Lf1 (w0 : World) (B g m N : Nat) (V : Nat → Value) (E : EndL) (wr : World) (iv : Value) : Prop :=
  ∃ (k : Nat) (hv : Value), iv = .int .i64 k ∧ k ≤ N ∧ LfAt w0 wr B g m N V (outs E) (miss E []) B hv (castL ((List.range k).filter fun v => miss E [] v == 0)) ((List.range k).filter fun v => miss E [] v == 0).length (.slice none 0 0) []
/-- What is known when v was popped, or nothing. -/
def Nxt (E : EndL) (N : Nat) (P L : List Nat) (vv okv : Value) : Prop :=
  (okv = .bool false ∧ nextOf E N P = none) ∨ ∃ v, v < N ∧ okv = .bool true ∧ vv = .int .i64 (v : Int) ∧ nextOf E N P = some v ∧ Rdy N (P ++ [v]) (fun w => miss E (P ++ [v]) w + (outs E v).count w) L
def Lf2 (w0 : World) (B g m N : Nat) (V : Nat → Value) (E : EndL) (wr : World) (ov vv okv : Value) : Prop :=
  ∃ (P L : List Nat) (hv : Value) (c : Int), LfAt w0 wr B g m N V (outs E) (miss E P) B hv (castL L) c ov P ∧ Gr E N P ∧ c ≤ (P.length : Int) + 1 + L.length ∧ Nxt E N P L vv okv
def left (N : Nat) (ov : Value) : Nat := match ov with | .slice _ n _ => N - n | _ => 0
def Lf3 (w0 : World) (B g m N : Nat) (V : Nat → Value) (E : EndL) (P : List Nat) (v : Nat) (ov : Value) (wr : World) (iv : Value) : Prop :=
  ∃ (k : Nat) (L : List Nat) (hv : Value) (c : Int), iv = .int .i64 k ∧ k ≤ (outs E v).length ∧ LfAt w0 wr B g m N V (outs E) (fun w => miss E (P ++ [v]) w + ((outs E v).drop k).count w) B hv (castL L) c ov (P ++ [v]) ∧ c ≤ (P.length : Int) + 1 + L.length ∧ Rdy N (P ++ [v]) (fun w => miss E (P ++ [v]) w + ((outs E v).drop k).count w) L
def Least (N : Nat) (E : EndL) (w : World) (e : Ending) (w' : World) : Prop := ∃ v, e = .returned v ∧ OwnN w' w.heap.size v (topo E N) ∧ Below w.heap.size w w'

theorem rdy_len {N : Nat} {E : EndL} {P L : List Nat} {f : Nat → Nat} (hG : Gr E N P) (h : Rdy N P f L) : P.length + L.length ≤ N := by
  have := pigeon (n := N) (P := P ++ L) (List.nodup_append.2 ⟨gr_nodup hG, h.nd, fun x hx y hy e => ((h.iff y).1 hy).2.1 (e ▸ hx)⟩) (fun v hv => by
    rcases List.mem_append.1 hv with hv | hv
    · exact gr_lt hG v hv
    · exact ((h.iff v).1 hv).1)
  simpa using this
theorem filter_snoc (p : Nat → Bool) (k : Nat) : (List.range (k + 1)).filter p = if p k then (List.range k).filter p ++ [k] else (List.range k).filter p := by
  rw [List.range_succ, List.filter_append]
  by_cases h : p k <;> simp [h]

theorem OwnN.base {w : World} {B B' : Nat} {v : Value} {l : List Nat} (h : OwnN w B v l) (hb : B' ≤ B) : OwnN w B' v l := by
  refine ⟨h.1, ?_⟩
  rcases h.2 with h2 | ⟨g, cap, cur, hv, hg, r⟩
  · exact Or.inl h2
  · exact Or.inr ⟨g, cap, cur, hv, Nat.le_trans hb hg, r⟩
theorem gr_snoc_not {E : EndL} {N v : Nat} {P : List Nat} (h : Gr E N (P ++ [v])) : v ∉ P := fun hv => (List.nodup_append.1 (gr_nodup h)).2.2 v hv v (by simp) rfl
theorem newsN (w : World) (t : TypeId) (x : Nat) : ∀ j z, [encNat x][j]? = some z → (w.alloc (.cells #[.int .i64 (x : Int)] t)).cell? ((⟨w.heap.size, 0, none⟩ : Addr).add j) = some z := by
  intro j z hz
  have hj : j = 0 := by have := List.getElem?_eq_some_iff.1 hz; simp at this; omega
  subst hj
  simp at hz
  subst hz
  go_simp
  rfl
theorem oneN (x : Nat) : ∀ z ∈ [encNat x], z.oneCell' = true := by
  intro z hz
  simp [encNat] at hz
  subst hz
  rfl
/-- What the pop behind an order leaves. -/
def PopTo (w0 : World) (B g m N : Nat) (V : Nat → Value) (E : EndL) (P : List Nat) (ov : Value) (w : World) (e : Ending) (w' : World) : Prop :=
  ∃ (vv okv : Value) (L : List Nat) (hv : Value) (c : Int), e = .returned (.tuple #[vv, okv]) ∧ w.heap.size ≤ w'.heap.size ∧ LfAt w0 w' B g m N V (outs E) (miss E P) B hv (castL L) c ov P ∧ c ≤ (P.length : Int) + 1 + L.length ∧ Nxt E N P L vv okv ∧
    (okv = .bool false ∨ ∃ v : Nat, vv = .int .i64 (v : Int) ∧ okv = .bool true)
theorem popTo {w0 w : World} {B g m N : Nat} {V : Nat → Value} {E : EndL} {P L : List Nat} {hv ov : Value} {c : Int} (h : LfAt w0 w B g m N V (outs E) (miss E P) B hv (castL L) c ov P) (hG : Gr E N P) (hc : c ≤ (P.length : Int) + L.length) (hR : Rdy N P (miss E P) L) (hN : N ≤ 4096) :
    Calls Try.prog 62 #[.pointer (some ⟨B, 0, none⟩)] w (PopTo w0 B g m N V E P ov w) := by
  have hl := rdy_len hG hR
  by_cases h0 : L = []
  · subst h0
    refine (HI.pop_none (lt := ltI) (fn := 60) B hv c w h.heap).mono ?_
    rintro e w' ⟨rfl, hb⟩
    exact ⟨_, _, [], hv, c, rfl, hb.size, h.quiet hb, by simp at hc; simp; omega, Or.inl ⟨rfl, rdy_none hR⟩, Or.inl rfl⟩
  · have hpos : 0 < (castL L).length := by simp; exact List.length_pos_iff.2 h0
    obtain ⟨a, ha⟩ := h.heap.first lessI hpos
    obtain ⟨ha', hmin, hx⟩ := first_min ha
    refine (HI.pop_some lessI B hv (castL L) c w h.heap (by omega) a ha _ hx).mono ?_
    rintro e w' ⟨rfl, v4, i4, o4, f4⟩
    rw [map_erase] at i4
    have hlt := ((hR.iff L[a]).1 (List.getElem_mem ha')).1
    have hle : (L.eraseIdx a).length + 1 = L.length := by rw [List.length_eraseIdx_of_lt ha']; omega
    exact ⟨_, _, L.eraseIdx a, v4, c, rfl, o4.size, h.push i4 o4 f4, by omega, Or.inr ⟨L[a], hlt, rfl, rfl, rdy_next hR ha' hmin, rdy_pop hR ha'⟩, Or.inr ⟨L[a], rfl, rfl⟩⟩

set_option maxHeartbeats 8000000 in
set_option maxRecDepth 100000 in
theorem leastFirst (N : Nat) (v : Value) (L : List Arc) (w : World) (hA : ArcsAt w v L) (hM : May N L) :
    Calls Try.prog 40 #[.int .i64 N, v] w (Least N (ends L) w) := by
  have hN : N ≤ 4096 := by have := hM.n1; omega
  have hEl : (ends L).length ≤ 16384 := by have := hM.len; unfold ends; simpa using this
  have LK := Lib.hid (links N v L w hA hM)
  obtain ⟨A, cap, rfl, hcap, -⟩ := hA
  obtain ⟨i0, hi, hz0, hz1, hz2⟩ := info_parts infoI
  have hE : ∀ e ∈ ends L, e.1 < N ∧ e.2 < N := by
    intro e he
    obtain ⟨a, ha, rfl⟩ := List.mem_map.1 he
    have := hM.ok a ha
    simp only
    omega
  have HE := Lib.hid hE
  have HMK := Lib.hid (mkRoom N hN)
  clear hM hE
  generalize hEe : ends L = E at *
  have HEE := Lib.hid hEe
  clear hEe
  go_enter Try.func40, Try.ntmps40
  go_wp2_with (first
    | (go_at_call 58; refine LK.out.mono ?_; rintro e w1 ⟨g, m, V, rfl, hL⟩; rw [HEE.out] at hL; have K := Lib.hid hL; have hgl := hL.gl; have hml := hL.ml; have hbs := hL.below.size; clear hL)
    | (go_at_call 59; refine (HI.new (fn := 60) (lt := ltI) _).mono ?_; rintro e w2 ⟨rfl, j1, b1⟩; have I1 : Hid (LfAt w w2 w1.heap.size g m N V (outs E) (miss E []) w1.heap.size (.slice none 0 0) [] 0 (.slice none 0 0) []) := Lib.hid ⟨K.out.quiet b1, j1, World.ownsRow_nil _ _ _ _, K.out.below.size, b1.size, Nat.le_refl _, (fun b hb => by simp [Value.ownBlock] at hb), hgl, hml, fun v hv b hb => ((K.out.rows v hv).lt b hb).2⟩; clear j1 b1))
  go_loopw [24] (fun iv wr => Lf1 w w1.heap.size g m N V E wr iv) (fun iv _ => N - (intOf iv).toNat)
  case atStart => exact ⟨0, _, rfl, by omega, I1.out⟩
  case round =>
    clear I1
    obtain ⟨k, hv, rfl, hk, hI⟩ := hrel
    have I := Lib.hid hI
    clear hI K
    by_cases hlt : k < N
    · have g0 := I.out.lk.cellM hlt
      have hq : miss E [] k ≤ 16384 := by have := miss_le (E := E) (P := []) k; omega
      have HF := Lib.hid (filter_snoc (fun v => miss E [] v == 0) k)
      have hfl : ((List.range k).filter fun v => miss E [] v == 0).length ≤ k := by have := List.length_filter_le (fun v => miss E [] v == 0) (List.range k); simpa using this
      generalize hqv : miss E [] k = q at *
      have HQ := Lib.hid hqv
      clear hqv
      cases q with
      | zero =>
        go_wp2_with (go_at_call 61; refine (HI.push lessI _ _ _ _ (k : Int) _ I.out.heap (by omega)).mono ?_; rintro e w3 ⟨rfl, v3, i3, o3, f3⟩; have I3 := Lib.hid (I.out.push i3 o3 f3); clear i3 o3 f3)
        go_roundw
        case rel =>
          refine ⟨k + 1, v3, by go_num, by omega, ?_⟩
          have h := I3.out
          have e1 := HF.out
          simp only [beq_self_eq_true, if_true] at e1
          rw [e1]
          simpa [castL] using h
        case measure => simp [intOf]; omega
      | succ q =>
        have hb : (((q + 1 : Nat) : Int) == 0) = false := by simp; omega
        go_wp2
        go_roundw
        case rel =>
          refine ⟨k + 1, hv, by go_num, by omega, ?_⟩
          have e1 := HF.out
          simp only [Nat.add_eq_zero_iff, Nat.succ_ne_self, and_false, beq_iff_eq] at e1
          rw [e1]
          simpa using I.out
        case measure => simp [intOf]; omega
    · obtain hkN : N = k := by omega
      subst hkN
      have R0 := Lib.hid (rdy_first (n := N) (miss E []))
      have hfl : ((List.range N).filter fun v => miss E [] v == 0).length ≤ N := by have := List.length_filter_le (fun v => miss E [] v == 0) (List.range N); simpa using this
      clear hlt hk
      generalize hG0 : (List.range N).filter (fun v => miss E [] v == 0) = L0 at *
      clear hG0
      have hmk := HMK.out
      have B0 : w1.heap.size ≤ wr.heap.size := I.out.Bw
      go_wp2_with (go_at_call 62; refine (popTo (I.out.app (World.grownBy_alloc _ _ _) (OwnN.room wr _ N B0 hN)) gr_nil (by simp) R0.out hN).mono ?_; rintro e w5 ⟨vv, okv, L2, hv2, c2, rfl, hsz, hI5, hc5, hN5, hok⟩; have I5 := Lib.hid hI5; have C5 := Lib.hid hc5; have N5 := Lib.hid hN5; clear hI5 hc5 hN5 hsz hok)
      clear hmk
      go_loopw [10, 11, 12] (fun ov vv okv wr => Lf2 w w1.heap.size g m N V E wr ov vv okv) (fun ov _ _ _ => left N ov)
      case atStart => exact ⟨[], L2, hv2, c2, I5.out, gr_nil, C5.out, N5.out⟩
      case round =>
        clear I5 C5 N5 R0 I HMK
        obtain ⟨P, L3, hv3, c3, hI, hG, hc, hN3⟩ := hrel
        have hPl := gr_len hG
        have hIB := hI.Bw
        rcases hN3 with ⟨rfl, hn⟩ | ⟨v, hv', rfl, rfl, hnx, hR⟩
        · have I := Lib.hid hI
          have T := Lib.hid (topo_uniq hG hn)
          clear hI hG hc hn
          go_wp2
          go_ret
          refine ⟨_, rfl, ?_, I.out.lk.below⟩
          rw [← T.out]
          exact OwnN.base I.out.ord I.out.wB
        · have I := Lib.hid hI
          have G := Lib.hid (gr_snoc hG hnx)
          have hPN : P.length < N := by
            rcases Nat.lt_or_ge P.length N with h | h
            · exact h
            · have := gr_full hG (by omega)
              rw [this] at hnx
              cases hnx
          have R := Lib.hid hR
          obtain ⟨ao, cp, hVv⟩ := hI.rowAt hv'
          have HV := Lib.hid hVv
          obtain ⟨aoo, cpo, hou⟩ : ∃ aoo cpo, u10 = .slice aoo P.length cpo := by
            rcases hI.ord.2 with ⟨h1, h2⟩ | ⟨_, _, _, h, _⟩
            · exact ⟨none, 0, by rw [h2]; exact h1⟩
            · exact ⟨_, _, h⟩
          subst hou
          have C := Lib.hid hc
          have hov : (outs E v).length ≤ 16384 := by have := outs_len E v; omega
          clear hI hG hc hnx hR hVv
          go_wp2_with (at_builtin; refine wpList_append_fresh rfl (.tmp 48) (.tmp 50) 29 rfl w1.heap.size 3 i0 (.int .i64 0) 1 8 Try.underlying29 hi hz0 hz1 hz2 rfl (by decide) _ _ _ rfl (I.out.ord.alloc _) ⟨wr.heap.size, 0, none⟩ 1 1 [encNat v] rfl rfl (newsN _ _ _) (oneN _) (by unfold maxLen; omega) (by omega) (by simp; omega) ?_; intro v4 w4 hown hgrow hfr; have I4 := Lib.hid ((I.out.quiet ((Below.refl _ _).alloc (Nat.le_refl _) _)).app hgrow (OwnN.snoc hown)); obtain ⟨g4, c4, rfl, _, _, _⟩ := ownsRow_form hown (by omega); have q4 : w4.cell? ⟨g, v, none⟩ = some (.slice ao (outs E v).length cp) := (by rw [← HV.out]; exact I4.out.lk.cellG hv'); clear hown hgrow hfr)
          obtain ⟨wb, rfl⟩ : ∃ W, W = wr := ⟨_, rfl⟩
          go_loopw [57] (fun iv wr => Lf3 w w1.heap.size g m N V E P v (.slice (some ⟨g4, 0, none⟩) (P.length + 1) c4) wr iv) (fun iv _ => (outs E v).length - (intOf iv).toNat)
          case atStart =>
            have e1 : (fun x => miss E P x) = fun x => miss E (P ++ [v]) x + ((outs E v).drop 0).count x := by
              funext x
              exact miss_snoc (gr_snoc_not G.out) x
            refine ⟨0, L3, hv3, c3, rfl, by omega, ?_, C.out, by simpa using R.out⟩
            have h := I4.out
            rw [show miss E P = fun x => miss E (P ++ [v]) x + ((outs E v).drop 0).count x from e1] at h
            exact h
          case round =>
            clear I4 C R I q4
            obtain ⟨j, L5, hv5, c5, rfl, hj, hI, hc, hR⟩ := hrel
            have hIB := hI.Bw
            have I := Lib.hid hI
            have C := Lib.hid hc
            have R := Lib.hid hR
            have hLn := rdy_len G.out hR
            simp only [List.length_append, List.length_singleton] at hLn
            have hc5 : c5 ≤ 4096 := by omega
            clear hI hc hR
            by_cases hlt : j < (outs E v).length
            · have hown := I.out.lk.rows v hv'
              rw [HV.out] at hown
              obtain ⟨gv, cv, hu, _, hgv, _⟩ := ownsRow_form hown (by omega)
              simp only [Value.slice.injEq, true_and] at hu
              obtain ⟨rfl, rfl⟩ := hu
              have d0 := hown.cell rfl j hlt
              have hin := outs_mem (List.getElem_mem hlt)
              have ht := (HE.out _ hin).2
              have hno := gr_fresh G.out hin
              have ST := Lib.hid (rdy_step hlt ht hno R.out)
              have hcnt : ((outs E v).drop j).count (outs E v)[j] = ((outs E v).drop (j + 1)).count (outs E v)[j] + 1 := by
                rw [List.drop_eq_getElem_cons hlt, List.count_cons]
                simp
              have hcn : ∀ x, x ≠ (outs E v)[j] → ((outs E v).drop j).count x = ((outs E v).drop (j + 1)).count x := by
                intro x hx
                rw [List.drop_eq_getElem_cons hlt, List.count_cons]
                simp [Ne.symm hx]
              have CN := Lib.hid hcn
              have d1 := I.out.lk.cellM ht
              simp only [hcnt] at d1
              have d2 := I.out.lk.frM (outs E v)[j]
              have hb1 := miss_le (E := E) (P := P ++ [v]) (outs E v)[j]
              have hb2 : ((outs E v).drop (j + 1)).count (outs E v)[j] ≤ (outs E v).length := Nat.le_trans List.count_le_length (by simp)
              have CN2 := Lib.hid hcnt
              clear hown hin hno hcnt hcn
              generalize (outs E v)[j] = t at *
              obtain ⟨q, hq⟩ : ∃ q, q = miss E (P ++ [v]) t + ((outs E v).drop (j + 1)).count t := ⟨_, rfl⟩
              obtain ⟨z, hz⟩ : ∃ z : Int, z = ((miss E (P ++ [v]) t + (((outs E v).drop (j + 1)).count t + 1) : Nat) : Int) := ⟨_, rfl⟩
              have hzq : z - 1 = (q : Int) := by omega
              rw [← hz] at d1
              have z1 : 1 ≤ z := by omega
              have z2 : z ≤ 40000 := by omega
              have I6 : Hid (LfAt w (wr.setCell ⟨m, t, none⟩ (.int .i64 (z - 1))) w1.heap.size g m N V (outs E) (fun x => miss E (P ++ [v]) x + ((outs E v).drop (j + 1)).count x) w1.heap.size hv5 (castL L5) c5 (.slice (some ⟨g4, 0, none⟩) (P.length + 1) c4) (P ++ [v])) := by
                have h := I.out.dec t q
                have e : (fun x => if x = t then q else miss E (P ++ [v]) x + ((outs E v).drop j).count x) = fun x => miss E (P ++ [v]) x + ((outs E v).drop (j + 1)).count x := by
                  funext x
                  by_cases hx : x = t
                  · subst hx; simp [hq]
                  · simp only [if_neg hx, CN.out x hx]
                rw [e, encNat, ← hzq] at h
                exact Lib.hid h
              have Q := Lib.hid hq
              clear hq hz
              have HZ := Lib.hid hzq
              by_cases h0 : q = 0
              · have hbz : (z - 1 == 0) = true := by simp; omega
                clear hzq
                have H0 := Lib.hid h0
                clear h0
                go_wp2_with (go_at_call 61; refine (HI.push lessI _ _ _ _ (t : Int) _ I6.out.heap (by omega)).mono ?_; rintro e w7 ⟨rfl, v7, i7, o7, f7⟩; have I7 := Lib.hid (I6.out.push i7 o7 f7); clear i7 o7 f7)
                go_roundw
                case rel =>
                  have s := ST.out
                  rw [if_pos (by rw [← Q.out]; exact H0.out)] at s
                  have h := I7.out
                  refine ⟨j + 1, L5 ++ [t], v7, c5 + 1, by go_num, by omega, ?_, by have := C.out; simp; omega, s⟩
                  simpa [castL] using h
                case measure => simp [intOf]; omega
              · have hbz : (z - 1 == 0) = false := by simp; omega
                clear hzq
                have H0 := Lib.hid h0
                clear h0
                go_wp2
                go_roundw
                case rel =>
                  have s := ST.out
                  rw [if_neg (by rw [← Q.out]; exact H0.out)] at s
                  exact ⟨j + 1, L5, hv5, c5, by go_num, by omega, I6.out, C.out, s⟩
                case measure => simp [intOf]; omega
            · have hjl : j = (outs E v).length := by omega
              subst hjl
              have e1 : (fun x => miss E (P ++ [v]) x + ((outs E v).drop (outs E v).length).count x) = miss E (P ++ [v]) := by
                funext x; simp
              have I6 := I.out
              have R6 := R.out
              rw [e1] at I6 R6
              have J6 := Lib.hid I6
              have S6 := Lib.hid R6
              clear I6 R6 e1 hlt hj
              go_wp2_with (go_at_call 62; refine (popTo J6.out G.out (by have := C.out; simp; omega) S6.out hN).mono ?_; rintro e w7 ⟨vv, okv, L7, hv7, c7, rfl, hsz, hI7, hc7, hN7, hok⟩; have I7 := Lib.hid hI7; have C7 := Lib.hid hc7; have N7 := Lib.hid hN7; clear hI7 hc7 hN7 hsz hok)
              go_roundw
              case rel => exact ⟨P ++ [v], L7, hv7, c7, I7.out, G.out, C7.out, N7.out⟩
              case measure => simp [left]; omega
end Go.Proofs.Ytkloaekmjnbacaa
