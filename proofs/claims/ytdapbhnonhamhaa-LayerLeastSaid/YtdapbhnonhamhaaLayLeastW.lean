/-
  LayerLeast: the walk. Conditions: none (numbers within their types).
-/
import Derived.Test.YtdapbhnonhamhaaLayK
import Derived.Test.YtdapbhnonhamhaaLayS
import Derived.Test.YtdapbhnonhamhaaLayN
import Derived.Test.YtdapbhnonhamhaaLayMoreW
import Derived.Test.YtdapbhnonhamhaaDagI
import Derived.Test.YtdapbhnonhamhaaDagWF
import Derived.StillTailTactics
namespace Go.Proofs.Ytdapbhnonhamhaa
open Go.RowKit Go.Proofs.Ytdapbhnonhamhaa.DagM

/-- The numbers x of n nodes, in a row of the call's own at g with room for cap. -/
structure XcAt (w0 w : World) (g cap n : Nat) (x : Nat → Nat) : Prop where
  below : Below w0.heap.size w0 w
  g0 : w0.heap.size ≤ g
  row : w.ownsRow w0.heap.size 3 1 (.slice (some ⟨g, 0, none⟩) n cap) n ((List.range n).map fun v => encNat (x v))
section
variable {w0 w w' : World} {g cap n : Nat} {x : Nat → Nat}
theorem XcAt.gl (h : XcAt w0 w g cap n x) : g < w.heap.size := (h.row.lt g rfl).2
theorem XcAt.quiet (h : XcAt w0 w g cap n x) (o : Below w.heap.size w w') : XcAt w0 w' g cap n x :=
  ⟨h.below.trans (o.mono h.below.size), h.g0, ownsRow_out (S := fun _ => False) h.row (Out.ofBelow o) (fun _ _ e => e)⟩
theorem XcAt.set (h : XcAt w0 w g cap n x) (t d : Nat) : XcAt w0 (w.setCell ⟨g, t, none⟩ (encNat d)) g cap n (fun v => if v = t then d else x v) := by
  have o2 : Out (fun b => b = g) w (w.setCell ⟨g, t, none⟩ (encNat d)) := Out.setCell (S := fun b => b = g) (Out.refl _ w) (p := ⟨g, t, none⟩) (fun _ => rfl) _
  refine ⟨h.below.trans (o2.below h.below.size (fun i _ e => by subst e; exact h.g0)), h.g0, ?_⟩
  have e : ((List.range n).map fun v => encNat (if v = t then d else x v)) = ((List.range n).map fun v => encNat (x v)).set t (encNat d) := by
    rw [← map_set]
    exact List.map_congr_left (fun v _ => by by_cases e : v = t <;> simp [e])
  rw [e]
  exact (h.row.stored t _).1
theorem XcAt.cell (h : XcAt w0 w g cap n x) {v : Nat} (hv : v < n) : w.cell? ⟨g, v, none⟩ = some (.int .i64 (x v : Int)) := by
  rw [h.row.cellAt v (by simpa using hv)]
  simp [hv, encNat]
theorem XcAt.fr (h : XcAt w0 w g cap n x) (v : Nat) : w.frozen? ⟨g, v, none⟩ = false := h.row.frozenAt v
theorem XcAt.ints (h : XcAt w0 w g cap n x) : IntsAt w (.slice (some ⟨g, 0, none⟩) n cap) (castI ((List.range n).map x)) := by
  have := h.row
  have h2 : OwnN w w0.heap.size (.slice (some ⟨g, 0, none⟩) n cap) ((List.range n).map x) := by
    unfold OwnN
    rw [List.length_map, List.length_range, List.map_map]
    exact this
  exact h2.toI.ints
end
def LlRel (n : Nat) (w3 wr : World) (lv iv : Value) : Prop := ∃ (k : Nat) (X : List Nat), iv = .int .i64 k ∧ k ≤ n ∧ X.length = k ∧ (∀ v ∈ X, v ≤ 39) ∧ Below w3.heap.size w3 wr ∧ OwnN wr w3.heap.size lv X
def LoRel (E : EndL) (n g cap : Nat) (w3 wr : World) (iv : Value) : Prop := ∃ (r : Nat) (x : Nat → Nat), iv = .int .i64 r ∧ r ≤ n ∧ XcAt w3 wr g cap n x ∧ Rais E x r []
def LiRel (L : List Arc) (n r g cap : Nat) (w3 wr : World) (iv : Value) : Prop := ∃ (i : Nat) (x : Nat → Nat), iv = .int .i64 i ∧ i ≤ L.length ∧ XcAt w3 wr g cap n x ∧ Rais (ends L) x r (ends (L.take i))
theorem nat_app {w0 w w' : World} {v v' : Value} {K : List Nat} {a : Nat} (hB : Below w0.heap.size w0 w) (hO : OwnN w w0.heap.size v K) (hown : w'.ownsRow w0.heap.size 3 1 v' (K.length + 1) (K.map encNat ++ [encNat a])) (hgrow : w.grownBy w' v.ownBlock) :
    OwnN w' w0.heap.size v' (K ++ [a]) ∧ Below w0.heap.size w0 w' :=
  ⟨OwnN.snoc hown, hB.trans (((Out.refl _ w).grown (S := fun b => v.ownBlock = some b) hgrow (fun _ _ e => e)).below hB.size (fun i _ e => (World.ownsRow.lt hO i e).1))⟩
theorem newsNat (w : World) (t : TypeId) (x b : Nat) (hb : w.heap.size = b) : ∀ j z, [encNat x][j]? = some z → (w.alloc (.cells #[.int .i64 (x : Int)] t)).cell? ((⟨b, 0, none⟩ : Addr).add j) = some z := by
  intro j z hz
  have hj : j = 0 := by have := List.getElem?_eq_some_iff.1 hz; simp at this; omega
  subst hj hb
  simp at hz
  subst hz
  go_simp
  rfl
theorem oneNc (x : Nat) : ∀ z ∈ [encNat x], z.oneCell' = true := by
  intro z hz
  simp at hz
  subst hz
  rfl
theorem OwnN.formN {w : World} {B : Nat} {v : Value} {l : List Nat} (h : OwnN w B v l) (h0 : 0 < l.length) : ∃ g cap, v = .slice (some ⟨g, 0, none⟩) l.length cap := by
  rcases h.2 with ⟨_, h2⟩ | ⟨g, cap, _, h, _⟩
  · omega
  · exact ⟨g, cap, h⟩
theorem map_getD (X : List Nat) : (List.range X.length).map (fun v => X.getD v 0) = X := by
  apply List.ext_getElem
  · simp
  · intro i h1 h2
    simp [List.getD_eq_getElem?_getD, h2]

set_option maxHeartbeats 8000000 in
set_option maxRecDepth 100000 in
theorem least (N : Int) (A : Option Addr) (len cap : Nat) (D : Nat → Int × Int × Int) (yv : Value) (ys : List Int) (w : World) (hN0 : 0 ≤ N) (hN1 : N ≤ 255) (hT : TriAt w A len D) (hY : IntsAt w yv ys) :
    Calls Try.prog 5 #[.agg #[.int .u8 N, .slice A len cap], yv] w fun e w' => e = .returned (.bool true) ∧ Below w.heap.size w w' := by
  have T := Lib.hid hT
  have Y := Lib.hid hY
  obtain ⟨Ay, cy, rfl, hyc, -⟩ := hY
  obtain ⟨i0, hi, hz0, hz1, hz2⟩ := info_parts infoI
  clear hT
  go_enter Try.func5, Try.ntmps5
  go_wp2_with (first
    | (go_at_call 14; refine (make_ N A len cap 12 D _ hN0 hN1 (by omega) (by omega) (T.out.below ((Below.refl _ _).alloc (Nat.le_refl _) _))).mono ?_; rintro e w1 ⟨n, vK, K, rfl, hnm, hRi, hO, hb⟩; obtain ⟨aK, cK, rfl⟩ := hO.form; have OK1 := Lib.hid hO.arcs; have B1 : Hid (Below w.heap.size w w1) := Lib.hid (((Below.refl _ _).alloc (Nat.le_refl _) _).trans (hb.mono (by simp))); have z1 : w.heap.size + 1 ≤ w1.heap.size := (by have := hb.size; simpa using this); have hn1 : 1 ≤ n := hRi.n1; have hKl : K.length ≤ 40 := hRi.len; have RL := Lib.hid (rise_lt hRi); have RO := Lib.hid (hRi.ord (by omega)); have RM := Lib.hid (hRi.may (by omega)); clear hRi hO hb)
    | (go_at_call 15; refine (layersOk n _ K _ OK1.out RO.out).mono ?_; rintro e w2 ⟨v2, d, rfl, ho, hd, hdn, hb⟩; obtain ⟨a2, c2, rfl⟩ := ho.form; rw [List.length_map, List.length_range]; have LD := Lib.hid hd; have DN := Lib.hid hdn; have O2 := Lib.hid (by have h := ho.toI.ints; rw [List.length_map, List.length_range] at h; exact h : IntsAt w2 (.slice a2 n c2) (castI ((List.range n).map d))); have B2 := Lib.hid hb; have z2 := hb.size; clear ho hd hdn hb)
    | (go_at_call 20; refine (wakes4 _).mono ?_; rintro e w3 ⟨rfl, hb⟩; have O3 := Lib.hid (O2.out.below hb); have B3 := Lib.hid (B2.out.trans (hb.mono B2.out.size)); have z3 := hb.size; clear hb)
    | (go_at_call 21; refine (refFit n _ _ K (castI ((List.range n).map d)) _ RM.out (by simp [castI]) (OK1.out.below B3.out) O3.out).mono ?_; rintro e w4 ⟨rfl, hb⟩; rw [lay_fit LD.out RM.out]; have O4 := Lib.hid (O3.out.below hb); have B4 := Lib.hid (B3.out.trans (hb.mono B3.out.size)); have z4 := hb.size; clear hb))
  have Y4 := Lib.hid (Y.out.below (B1.out.trans (B4.out.mono (by omega))))
  have AK := Lib.hid (OK1.out.below B4.out)
  have BZ := Lib.hid (B1.out.trans (B4.out.mono (by omega)))
  clear O2 O3 B2 B3 OK1 Y T B1 B4
  go_loopw [9, 45, 10, 11] (fun lv iv _ _ wr => LlRel n w4 wr lv iv) (fun _ iv _ _ _ => n - (intOf iv).toNat)
  case atStart => exact ⟨0, [], rfl, by omega, rfl, fun v hv => by simp at hv, Below.refl _ _, World.ownsRow_nil _ _ _ _⟩
  case round =>
    obtain ⟨k, X, rfl, hk, hXl, hXb, hB, hO⟩ := hrel
    have B := Lib.hid hB
    have O := Lib.hid hO
    have XL := Lib.hid hXl
    have XB := Lib.hid hXb
    have hwz := hB.size
    have hX12 : X.length ≤ 12 := by omega
    clear hXl hXb hB
    by_cases hlt : k < n
    · obtain ⟨ao, cp, e⟩ := hO.form
      subst e
      clear hO
      by_cases hx : k < ys.length
      · obtain ⟨bx, ox, cx, e, hbx, x0⟩ := Y4.out.nth hx
        simp only [Value.slice.injEq, true_and] at e
        obtain ⟨rfl, rfl⟩ := e
        have x1 := (B.out.cell (p := ⟨bx, ox + k, none⟩) hbx).trans x0
        clear x0
        generalize ys[k] = u at *
        obtain ⟨z, hz⟩ : ∃ z : Nat, max (0 : Int) u = (z : Int) := ⟨u.toNat, by omega⟩
        obtain ⟨y, hy⟩ : ∃ y : Nat, (z : Int) % 40 = (y : Int) := ⟨z % 40, by omega⟩
        have hy2 : (z : Int).tmod 40 = (y : Int) := by rw [Int.tmod_eq_emod_of_nonneg (by omega)]; exact hy
        have hy3 : y ≤ 39 := by omega
        go_wp2_with (at_builtin; refine wpList_append_fresh rfl (.tmp 58) (.tmp 60) 26 rfl w4.heap.size 3 i0 (.int .i64 0) 1 8 Try.underlying26 hi hz0 hz1 hz2 rfl (by decide) (.slice ao X.length cp) X.length (X.map encNat) rfl (World.ownsRow.alloc O.out _) ⟨wr.heap.size, 0, none⟩ 1 1 [encNat y] rfl rfl (newsNat _ _ _ _ (by simp)) (oneNc _) (by unfold maxLen; omega) (by omega) (by simp; omega) ?_; intro v5 w5 hown hgrow hfr; obtain ⟨o5, b5⟩ := nat_app (B.out.alloc hwz _) (World.ownsRow.alloc O.out _) hown hgrow; have O5 := Lib.hid o5; have B5 := Lib.hid b5; clear hown hgrow hfr o5 b5)
        go_roundw
        case rel => exact ⟨k + 1, X ++ [y], by go_num, by omega, by simp [XL.out], fun v hv => by
          rcases List.mem_append.1 hv with hv | hv
          · exact XB.out v hv
          · have := List.mem_singleton.1 hv
            omega, B5.out, O5.out⟩
        case measure => simp [intOf]; omega
      · go_wp2_with (at_builtin; refine wpList_append_fresh rfl (.tmp 58) (.tmp 60) 26 rfl w4.heap.size 3 i0 (.int .i64 0) 1 8 Try.underlying26 hi hz0 hz1 hz2 rfl (by decide) (.slice ao X.length cp) X.length (X.map encNat) rfl (World.ownsRow.alloc O.out _) ⟨wr.heap.size, 0, none⟩ 1 1 [encNat 0] rfl rfl (newsNat _ _ 0 _ (by simp)) (oneNc _) (by unfold maxLen; omega) (by omega) (by simp; omega) ?_; intro v5 w5 hown hgrow hfr; obtain ⟨o5, b5⟩ := nat_app (B.out.alloc hwz _) (World.ownsRow.alloc O.out _) hown hgrow; have O5 := Lib.hid o5; have B5 := Lib.hid b5; clear hown hgrow hfr o5 b5)
        go_roundw
        case rel => exact ⟨k + 1, X ++ [0], by go_num, by omega, by simp [XL.out], fun v hv => by
          rcases List.mem_append.1 hv with hv | hv
          · exact XB.out v hv
          · have := List.mem_singleton.1 hv
            omega, B5.out, O5.out⟩
        case measure => simp [intOf]; omega
    · obtain hkn : n = k := by omega
      subst hkn
      obtain ⟨g, cp, e⟩ := hO.formN (by rw [XL.out]; omega)
      rw [XL.out] at e
      subst e
      have XC : Hid (XcAt w4 wr g cp n (fun v => X.getD v 0)) := Lib.hid ⟨B.out, (hO.lt g rfl).1, by
        have h := hO
        unfold OwnN at h
        rw [XL.out] at h
        have e : ((List.range n).map fun v => encNat (X.getD v 0)) = X.map encNat := by
          have h2 := congrArg (List.map encNat) (map_getD X)
          rw [List.map_map, XL.out] at h2
          exact h2
        rw [e]
        exact h⟩
      have RS : Hid (Rais (ends K) (fun v => X.getD v 0) 0 []) := Lib.hid (rais_nil RL.out (fun u => by
        by_cases hu : u < X.length
        · have := XB.out X[u] (List.getElem_mem hu)
          simpa [List.getD_eq_getElem?_getD, hu] using this
        · simp [List.getD_eq_getElem?_getD, hu]))
      clear hO O B XB XL hX12 hlt hk
      go_wp2
      go_loopw [64, 13] (fun iv _ wr2 => LoRel (ends K) n g cp w4 wr2 iv) (fun iv _ _ => n - (intOf iv).toNat)
      case atStart => exact ⟨0, _, rfl, by omega, XC.out, RS.out⟩
      case round =>
        clear XC RS
        obtain ⟨r, x, rfl, hr, hX, hS⟩ := hrel
        have X := Lib.hid hX
        have S := Lib.hid hS
        have hgl := hX.gl
        have hbs := hX.below.size
        clear hX hS
        by_cases hlt : r < n
        · go_wp2
          go_loopw [68, 13] (fun iv _ wr2 => LiRel K n r g cp w4 wr2 iv) (fun iv _ _ => K.length - (intOf iv).toNat)
          case atStart => exact ⟨0, x, rfl, by omega, X.out, S.out⟩
          case round =>
            clear X S
            obtain ⟨i, x, rfl, hi4, hX, hS⟩ := hrel
            have X := Lib.hid hX
            have S := Lib.hid hS
            have hgl := hX.gl
            have hbs := hX.below.size
            clear hX hS
            by_cases hil : i < K.length
            · obtain ⟨A', cap', e, _, hA⟩ := AK.out
              simp only [Value.slice.injEq, true_and] at e
              obtain ⟨rfl, rfl⟩ := e
              obtain ⟨b, o, rfl, hb, hcell⟩ := hA (by omega)
              obtain ⟨c0, c1, c2⟩ := hcell i hil
              have d0 := (X.out.below.cell (p := ⟨b, o + i * 3, none⟩) hb).trans c0
              have d1 := (X.out.below.cell (p := ⟨b, o + i * 3 + 1, none⟩) hb).trans c1
              have d2 := (X.out.below.cell (p := ⟨b, o + i * 3 + 2, none⟩) hb).trans c2
              have ok := RM.out.ok K[i] (List.getElem_mem hil)
              have hme := ends_mem K i hil
              have he := ends_snoc K i hil
              have HE := Lib.hid he
              have ME := Lib.hid hme
              clear he hme hA hcell c0 c1 c2
              generalize K[i] = a at *
              obtain ⟨f, u, z⟩ := a
              obtain ⟨f, rfl⟩ : ∃ u : Nat, f = (u : Int) := ⟨f.toNat, by simp only at ok; omega⟩
              obtain ⟨t, rfl⟩ : ∃ u2 : Nat, u = (u2 : Int) := ⟨u.toNat, by simp only at ok; omega⟩
              simp only [Int.toNat_natCast] at ok d0 d1 d2 HE ME
              have hf : f < n := by omega
              have ht : t < n := by omega
              clear ok
              have x0 := X.out.cell hf
              have x1 := X.out.cell ht
              have x2 := X.out.fr t
              have hxf := S.out.bd f
              have hxt := S.out.bd t
              have S2 := Lib.hid (S.out.step RL.out (fun e he => by
                obtain ⟨a, ha, rfl⟩ := List.mem_map.1 he
                exact List.mem_map.2 ⟨a, List.mem_of_mem_take ha, rfl⟩) ME.out)
              obtain ⟨m, hm, hm2⟩ : ∃ m : Nat, max (x t : Int) ((x f : Int) + 1) = (m : Int) ∧ m = max (x t) (x f + 1) := ⟨max (x t) (x f + 1), by omega, rfl⟩
              have M := Lib.hid hm2
              have hxf2 : x f ≤ 100 := by omega
              have hxt2 : x t ≤ 100 := by omega
              clear hm2 hxf hxt
              go_wp2
              refine wp_region_still_tail 16 (by kernel_rfl) (by kernel_rfl) ?_
              simp only [List.take_succ_cons, List.take_zero, List.drop_succ_cons, List.drop_zero]
              change wpStill _ _ (World.drew _) (fun a' => wpList _ _ _ _ a' (World.drew _)) _ _
              repeat still_step
              refine wpStill_nil ?_
              go_wp2
              go_roundw
              case rel =>
                have X3 := (X.out.set t m).quiet (((Below.refl _ _).alloc (Nat.le_refl _) (.cells #[.int .i64 (f : Int), .int .i64 (t : Int), .int .i64 z] 46)).drew)
                have S3 := S2.out
                rw [← M.out, ← HE.out] at S3
                exact ⟨i + 1, _, by go_num, by omega, X3, S3⟩
              case measure => simp [intOf]; omega
            · obtain hik : i = K.length := by omega
              subst hik
              have h := S.out
              rw [List.take_length] at h
              have S2 := Lib.hid h.round
              clear h
              go_wp2
              go_roundw
              case rel => exact ⟨r + 1, x, by go_num, by omega, X.out, S2.out⟩
              case measure => simp [intOf]; omega
        · obtain hrn : r = n := by omega
          have hls := lay_span LD.out hn1 (fun e he => by have := ends_lt RM.out e he; simpa using this) (fun e he => S.out.sat e he (by have := (ends_lt RM.out e he).2; simp at this; omega))
          have HLS := Lib.hid hls
          have NX : Hid (∀ y ∈ castI ((List.range n).map x), -1000000 ≤ y ∧ y ≤ 1000000) := Lib.hid (fun y hy => by
            obtain ⟨j, hj, rfl⟩ := List.mem_map.1 hy
            obtain ⟨u, hu, rfl⟩ := List.mem_map.1 hj
            have h1 := S.out.bd u
            have h2 : u < n := by simpa using hu
            omega)
          obtain ⟨s1, hs1⟩ : ∃ s1, spanI (castI ((List.range n).map x)) = s1 := ⟨_, rfl⟩
          obtain ⟨s2, hs2⟩ : ∃ s2, spanI (castI ((List.range n).map d)) = s2 := ⟨_, rfl⟩
          have hle : s2 ≤ s1 := by rw [← hs1, ← hs2]; exact hls.2
          have HS1 := Lib.hid hs1
          have HS2 := Lib.hid hs2
          have OD := Lib.hid (O4.out.below X.out.below)
          have XI := Lib.hid X.out.ints
          have BW := Lib.hid (BZ.out.trans (X.out.below.mono (by omega)))
          have hzw := BW.out.size
          clear hls hs1 hs2 S hlt hr
          obtain ⟨wL, hwL⟩ : ∃ W, W = wr := ⟨_, rfl⟩
          subst hwL
          go_wp2
          go_loopw [92, 14] (fun iv _ wr2 => MoRel n wL wr2 iv) (fun iv _ _ => n - (intOf iv).toNat)
          case atStart => exact ⟨0, rfl, by omega, Below.refl _ _⟩
          case round =>
            obtain ⟨k, rfl, hk, hB⟩ := hrel
            have B := Lib.hid hB
            have hwz := hB.size
            clear hB
            by_cases hlt : k < n
            · obtain ⟨_, _, e, _, y1⟩ := lay_cell (XI.out.below B.out) hlt
              simp only [Option.some.injEq, Addr.mk.injEq, and_true] at e
              obtain ⟨rfl, rfl⟩ := e
              rw [Nat.zero_add] at y1
              obtain ⟨b2, o2, rfl, hb2, y2⟩ := lay_cell (OD.out.below B.out) hlt
              have hle2 := HLS.out.1 k hlt
              generalize x k = p1 at *
              generalize d k = p2 at *
              have t3 : decide (p1 < p2) = false := by simp; omega
              have t4 : decide ((p1 : Int) < (p2 : Int)) = false := by simp; omega
              go_wp2
              go_quiet (fail)
              all_goals
                go_wp2
                go_roundw
                case rel => exact ⟨k + 1, by go_num, by omega, B.out.trans ((belowN (Below.refl _ _) _).mono hwz)⟩
                case measure => simp [intOf]; omega
            · have t1 : decide (s2 ≤ s1) = true := by simpa using hle
              have t0 : decide (k < n) = false := by simpa using hlt
              have L1 : (castI ((List.range n).map d)).length ≤ 1000000 := by simp [castI]; omega
              have L2 : (castI ((List.range n).map x)).length ≤ 1000000 := by simp [castI]; omega
              have HL1 := Lib.hid L1
              have HL2 := Lib.hid L2
              have ND := Lib.hid (lay_near DN.out (by omega : n ≤ 1000000))
              have I1 := Lib.hid (OD.out.below B.out)
              have I2 := Lib.hid (XI.out.below B.out)
              clear hlt L1 L2
              go_wp2_with (first
                | (go_at_call 17; (with_reducible refine (span _ (castI ((List.range n).map d)) _ I1.out HL1.out ND.out).mono ?_); rintro e w7 ⟨rfl, rfl⟩; rw [HS2.out])
                | (go_at_call 17; (with_reducible refine (span _ (castI ((List.range n).map x)) _ I2.out HL2.out NX.out).mono ?_); rintro e w6 ⟨rfl, rfl⟩; rw [HS1.out]))
              go_ret
              exact ⟨rfl, BW.out.trans (B.out.mono hzw)⟩
end Go.Proofs.Ytdapbhnonhamhaa
