/-
  The reference's Layers and Span; a list of arcs cloned; wakes answers true. Conditions: the graph is a dag whose layers are d; numbers within a million.
-/
import Derived.Test.YtdapbhnonhamhaaLayE
import Derived.Test.YtdapbhnonhamhaaDagT
import Derived.Test.YtdapbhnonhamhaaArgs
import Derived.IntWalk
import Derived.Lib.SliceRun
namespace Go.Proofs.Ytdapbhnonhamhaa
open Go.RowKit Go.Proofs.Ytdapbhnonhamhaa.DagM

def RefLaid (N : Nat) (d : Nat → Nat) (w : World) (e : Ending) (w' : World) : Prop := ∃ v, e = .returned v ∧ OwnN w' w.heap.size v ((List.range N).map d) ∧ Below w.heap.size w w'
def RlOut (N : Nat) (d : Nat → Nat) (w wr : World) (iv : Value) : Prop := ∃ (r : Nat) (x : Nat → Nat), iv = .int .i64 r ∧ r ≤ N + 1 ∧ XsAt w wr w.heap.size N x ∧ LayRef d x r []
def RlIn (N : Nat) (L : List Arc) (d : Nat → Nat) (r : Nat) (w wr : World) (iv : Value) : Prop := ∃ (i : Nat) (x : Nat → Nat), iv = .int .i64 i ∧ i ≤ L.length ∧ XsAt w wr w.heap.size N x ∧ LayRef d x r (ends (L.take i))
theorem ends_mem (L : List Arc) (k : Nat) (h : k < L.length) : (L[k].1.toNat, L[k].2.1.toNat) ∈ ends L := List.mem_map.2 ⟨L[k], List.getElem_mem h, rfl⟩

set_option maxHeartbeats 4000000 in
set_option maxRecDepth 100000 in
theorem refLayers (N : Nat) (v : Value) (L : List Arc) (d : Nat → Nat) (w : World) (hA : ArcsAt w v L) (hM : May N L) (hd : Lay (ends L) d) (hb : ∀ u, d u ≤ N) :
    Calls Try.prog 16 #[.int .i64 N, v] w (RefLaid N d w) := by
  have HA := Lib.hid hA
  have HM := Lib.hid hM
  have HD := Lib.hid hd
  have HB := Lib.hid hb
  have hN : N ≤ 4096 := by have := hM.n1; omega
  have hL := hM.len
  obtain ⟨A, cap, rfl, hcap, -⟩ := hA
  have hmk := mkInts N hN
  clear hM hd hb
  go_enter Try.func16, Try.ntmps16
  go_wp2
  clear hmk
  go_loopw [6, 7] (fun iv _ wr => RlOut N d w wr iv) (fun iv _ _ => N + 1 - (intOf iv).toNat)
  case atStart => exact ⟨0, _, rfl, by omega, xs_start ((Below.refl _ _).alloc (Nat.le_refl _) _) (Nat.le_refl _) (heap_alloc_new w _) (by omega), layRef_nil⟩
  case round =>
    obtain ⟨r, x, rfl, hr, hX, hS⟩ := hrel
    have X := Lib.hid hX
    have S := Lib.hid hS
    have hgl := hX.gl
    have hbs := hX.below.size
    clear hX hS
    by_cases hlt : r ≤ N
    · go_wp2
      go_loopw [7] (fun iv wr2 => RlIn N L d r w wr2 iv) (fun iv _ => L.length - (intOf iv).toNat)
      case atStart => exact ⟨0, x, rfl, by omega, X.out, S.out⟩
      case round =>
        clear X S
        obtain ⟨i, x, rfl, hi, hX, hS⟩ := hrel
        have X := Lib.hid hX
        have S := Lib.hid hS
        have hgl := hX.gl
        have hbs := hX.below.size
        clear hX hS
        by_cases hil : i < L.length
        · obtain ⟨A', cap', e, _, hA⟩ := HA.out
          simp only [Value.slice.injEq, true_and] at e
          obtain ⟨rfl, rfl⟩ := e
          obtain ⟨b, o, rfl, hb, hcell⟩ := hA (by omega)
          obtain ⟨c0, c1, c2⟩ := hcell i hil
          have d0 := (X.out.below.cell (p := ⟨b, o + i * 3, none⟩) hb).trans c0
          have d1 := (X.out.below.cell (p := ⟨b, o + i * 3 + 1, none⟩) hb).trans c1
          have ok := HM.out.ok L[i] (List.getElem_mem hil)
          have hme := ends_mem L i hil
          have he := ends_snoc L i hil
          have HE := Lib.hid he
          have ME := Lib.hid hme
          clear he hme hA hcell c0 c1 c2
          generalize L[i] = a at *
          obtain ⟨f, t, z⟩ := a
          obtain ⟨f, rfl⟩ : ∃ u : Nat, f = (u : Int) := ⟨f.toNat, by simp only at ok; omega⟩
          obtain ⟨t, rfl⟩ : ∃ u : Nat, t = (u : Int) := ⟨t.toNat, by simp only at ok; omega⟩
          simp only [Int.toNat_natCast] at ok d0 d1 HE ME
          have hf : f < N := by omega
          have ht : t < N := by omega
          clear ok
          have x0 := X.out.cell hf
          have x1 := X.out.cell ht
          have x2 := X.out.fr t
          have hxf := Nat.le_trans (S.out.le f) (HB.out f)
          have hxt := Nat.le_trans (S.out.le t) (HB.out t)
          have S2 := Lib.hid (S.out.step HD.out ME.out)
          generalize hp : x f = p at *
          generalize hq : x t = q at *
          have HP := Lib.hid hp
          have HQ := Lib.hid hq
          clear hp hq
          by_cases hpq : q ≤ p
          · have hw1 : IntKind.i64.wrap ((p : Int) + 1) = (p : Int) + 1 := IntWalk.i64_in _ (by omega)
            have t1 : decide ((q : Int) ≤ (p : Int)) = true := by simpa using hpq
            have t2 : decide (q ≤ p) = true := by simpa using hpq
            go_wp2
            go_quiet (fail)
            all_goals
              go_wp2
              generalize hw2 : wr.drewN _ = w2
              have hb2 : Below wr.heap.size wr w2 := by rw [← hw2]; exact belowN (Below.refl _ _) _
              have X2 := Lib.hid (X.out.quiet hb2)
              clear hw2
              have d2 := (hb2.cell (p := ⟨b, o + i * 3, none⟩) (Nat.lt_of_lt_of_le hb hbs)).trans d0
              have d3 := (hb2.cell (p := ⟨b, o + i * 3 + 1, none⟩) (Nat.lt_of_lt_of_le hb hbs)).trans d1
              have x3 := X2.out.cell hf
              have x4 := X2.out.cell ht
              have x5 := X2.out.fr t
              rw [HP.out] at x3
              rw [HQ.out] at x4
              clear d0 d1 x0 x1 x2 hb2
              go_still_tail 16, (by kernel_rfl)
              change wpList _ _ _ _ _ w2.drew
              go_wp2
              go_roundw
              case rel =>
                have X3 := X2.out.set t (p + 1)
                have S3 := S2.out
                rw [if_pos hpq, ← HE.out] at S3
                exact ⟨i + 1, _, by go_num, by omega, X3.quiet (Below.refl _ _).drew, S3⟩
              case measure => simp [intOf]; omega
          · have t1 : decide ((q : Int) ≤ (p : Int)) = false := by simpa using hpq
            have t2 : decide (q ≤ p) = false := by simpa using hpq
            go_wp2
            go_quiet (fail)
            all_goals
              go_wp2
              go_roundw
              case rel =>
                have S3 := S2.out
                have e : (fun u => if u = t then (if q ≤ p then p + 1 else q) else x u) = x := by
                  funext u
                  rw [if_neg hpq]
                  by_cases e : u = t
                  · rw [if_pos e, e, HQ.out]
                  · rw [if_neg e]
                rw [e, ← HE.out] at S3
                exact ⟨i + 1, x, by go_num, by omega, X.out.quiet (belowN (Below.refl _ _) _), S3⟩
              case measure => simp [intOf]; omega
        · obtain hil2 : i = L.length := by omega
          subst hil2
          have h := S.out
          rw [List.take_length] at h
          have S2 := Lib.hid (h.round HD.out)
          clear h
          go_wp2
          go_roundw
          case rel => exact ⟨r + 1, x, by go_num, by omega, X.out, S2.out⟩
          case measure => simp [intOf]; omega
    · obtain hrn : r = N + 1 := by omega
      have he := S.out.fin (fun u => Nat.le_trans (HB.out u) (by omega : N ≤ r))
      have EX := Lib.hid he
      clear he
      go_wp2
      go_ret
      refine ⟨_, rfl, ?_, X.out.below⟩
      have h := X.out.own
      rw [EX.out] at h
      exact h

def SpRel (x : List Int) (iv lv hv : Value) : Prop := ∃ (k : Nat) (l h : Int), iv = .int .i64 k ∧ lv = .int .i64 l ∧ hv = .int .i64 h ∧ k ≤ x.length ∧ (k = 0 → l = 0 ∧ h = 0) ∧ (0 < k → l = Lib.minOf (x.take k) ∧ h = Lib.maxOf (x.take k))
theorem spRel_next {x : List Int} {k : Nat} {l h y : Int} (hk : k < x.length) (hy : x.getD k 0 = y) (h0 : k = 0 → l = 0 ∧ h = 0) (h1 : 0 < k → l = Lib.minOf (x.take k) ∧ h = Lib.maxOf (x.take k)) :
    Lib.minOf (x.take (k + 1)) = (if k = 0 then y else min l y) ∧ Lib.maxOf (x.take (k + 1)) = (if k = 0 then y else max h y) := by
  by_cases e : k = 0
  · subst e
    rw [Lib.minOf_one, Lib.maxOf_one, hy]
    simp
  · rw [Lib.minOf_step x k (by omega) hk, Lib.maxOf_step x k (by omega) hk, hy, ← (h1 (by omega)).1, ← (h1 (by omega)).2, if_neg e, if_neg e]
    exact ⟨rfl, rfl⟩

set_option maxHeartbeats 2000000 in
theorem refSpan (v : Value) (x : List Int) (w : World) (h : IntsAt w v x) (hl : x.length ≤ 1000000) (hx : ∀ y ∈ x, -1000000 ≤ y ∧ y ≤ 1000000) :
    Calls Try.prog 18 #[v] w fun e w' => e = .returned (.int .i64 (spanI x)) ∧ w = w' := by
  have HA := Lib.hid h
  have HX := Lib.hid hx
  obtain ⟨A, cap, rfl, hcap, -⟩ := h
  clear hx
  go_enter Try.func18, Try.ntmps18
  go_wp2
  go_loop [5, 3, 4] (fun iv lv hv => SpRel x iv lv hv) (fun iv _ _ => x.length - (intOf iv).toNat)
  case atStart => exact ⟨0, 0, 0, rfl, rfl, rfl, by omega, fun _ => ⟨rfl, rfl⟩, fun h => absurd h (by omega)⟩
  case round =>
    obtain ⟨k, l, h, rfl, rfl, rfl, hk, h0, h1⟩ := hrel
    have H0 := Lib.hid h0
    have H1 := Lib.hid h1
    clear h0 h1
    by_cases hlt : k < x.length
    · obtain ⟨b, o, cp, e, _, hc⟩ := HA.out.nth hlt
      simp only [Value.slice.injEq, true_and] at e
      obtain ⟨rfl, rfl⟩ := e
      have hg : x.getD k 0 = x[k] := by simp [List.getD_eq_getElem?_getD, hlt]
      have SN := Lib.hid (spRel_next hlt hg H0.out H1.out)
      clear hg
      generalize x[k] = y at *
      by_cases e0 : k = 0
      · subst e0
        rw [Nat.add_zero] at hc
        go_wp2
        go_round
        case rel => exact ⟨1, y, y, by go_num, rfl, rfl, by omega, fun h => absurd h (by omega), fun _ => by have := SN.out; simp only [if_true] at this; exact ⟨this.1.symm, this.2.symm⟩⟩
        case measure => simp [intOf]; omega
      · have t0 : ((k : Int) == 0) = false := by rw [beq_eq_false_iff_ne]; omega
        have t5 : (k == 0) = false := by simpa using e0
        by_cases e1 : y < l
        · have t1 : decide (y < l) = true := by simpa using e1
          by_cases e2 : h < y
          · have t2 : decide (h < y) = true := by simpa using e2
            go_wp2
            go_round
            case rel => exact ⟨k + 1, y, y, by go_num, rfl, rfl, by omega, fun h => absurd h (by omega), fun _ => by have := SN.out; rw [if_neg e0, if_neg e0] at this; omega⟩
            case measure => simp [intOf]; omega
          · have t2 : decide (h < y) = false := by simpa using e2
            go_wp2
            go_round
            case rel => exact ⟨k + 1, y, h, by go_num, rfl, rfl, by omega, fun h => absurd h (by omega), fun _ => by have := SN.out; rw [if_neg e0, if_neg e0] at this; omega⟩
            case measure => simp [intOf]; omega
        · have t1 : decide (y < l) = false := by simpa using e1
          by_cases e2 : h < y
          · have t2 : decide (h < y) = true := by simpa using e2
            go_wp2
            go_round
            case rel => exact ⟨k + 1, l, y, by go_num, rfl, rfl, by omega, fun h => absurd h (by omega), fun _ => by have := SN.out; rw [if_neg e0, if_neg e0] at this; omega⟩
            case measure => simp [intOf]; omega
          · have t2 : decide (h < y) = false := by simpa using e2
            go_wp2
            go_round
            case rel => exact ⟨k + 1, l, h, by go_num, rfl, rfl, by omega, fun h => absurd h (by omega), fun _ => by have := SN.out; rw [if_neg e0, if_neg e0] at this; omega⟩
            case measure => simp [intOf]; omega
    · obtain hkx : k = x.length := by omega
      have hs : h - l = spanI x ∧ -1000000 ≤ l ∧ l ≤ 1000000 ∧ -1000000 ≤ h ∧ h ≤ 1000000 := by
        unfold spanI
        by_cases e : x.length = 0
        · have := H0.out (by omega)
          rw [if_pos e]
          omega
        · have h2 := H1.out (by omega)
          rw [hkx, List.take_length] at h2
          have h3 := HX.out _ (maxOf_mem (x := x) (by omega))
          have h4 := HX.out _ (minOf_mem (x := x) (by omega))
          rw [if_neg e]
          omega
      obtain ⟨hs1, hs2, hs3, hs4, hs5⟩ := hs
      have SE := Lib.hid hs1
      clear hs1
      go_wp2
      go_ret
      exact ⟨ret_int SE.out, rfl⟩

/-- A clone of arcs in a row of the call's own. -/
def ClonedA (L : List Arc) (w : World) (e : Ending) (w' : World) : Prop := ∃ v', e = .returned v' ∧ OwnA w' w.heap.size v' L ∧ Below w.heap.size w w'
theorem infoA3c : (Try.prog.info? 46).map (fun i => (i.zero, i.size, i.bytes)) = some (some (.agg #[.int .i64 0, .int .i64 0, .int .i64 0]), 3, 24) := by kernel_rfl
theorem flat_one (L : List Arc) : ∀ u ∈ L.flatMap encA, u.oneCell' = true := fun u hu => by
  obtain ⟨a, _, h⟩ := List.mem_flatMap.1 hu
  exact encA_one a u h
theorem own_empty (w : World) (T : TypeId) (k : Nat) : (w.alloc (.cells #[] T)).ownsRow w.heap.size T k (.slice (some ⟨w.heap.size, 0, none⟩) 0 0) 0 [] := by
  exact ⟨by simp, Or.inr ⟨w.heap.size, 0, #[], rfl, Nat.le_refl _, heap_alloc_new w _, Nat.le_refl _, by simp, by simp, by simp⟩⟩

set_option maxHeartbeats 1000000 in
set_option maxRecDepth 100000 in
theorem cloneA (v : Value) (L : List Arc) (w : World) (h : ArcsAt w v L) (hl : L.length ≤ 1000000) :
    Calls Try.prog 19 #[v] w (ClonedA L w) := by
  obtain ⟨A, cap, rfl, hcap, hA⟩ := h
  obtain ⟨i0, hi, hz0, hz1, hz2⟩ := info_parts infoA3c
  cases A with
  | none =>
    have h0 : L.length = 0 := by
      apply Classical.byContradiction
      intro h
      obtain ⟨b, o, e, _⟩ := hA (by omega)
      cases e
    obtain rfl : L = [] := List.eq_nil_of_length_eq_zero h0
    clear hA
    have qe : ∀ (w : World) (a : Option Addr) (n c n' c' : Nat), (binOp .eql 22 (.slice a n c) (.slice none n' c')).run Try.prog w = .ok (.bool a.isNone) w := fun w a n c n' c' => Lib.run_eql_slice_nil w _ _ a n c n' c' Try.underlying22
    go_enter Try.func19, Try.ntmps19
    go_wp2
    go_ret
    exact ⟨_, rfl, World.ownsRow_nil _ _ _ _, Below.refl _ _⟩
  | some a =>
    have news : ∀ j z, (L.flatMap encA)[j]? = some z → w.cell? (a.add j) = some z := by
      intro j z hj
      have hlen := flat_len encA encA_len L
      have hjl := (List.getElem?_eq_some_iff.1 hj).1
      have hpos : 0 < L.length := by omega
      obtain ⟨b, o, e, hb, hc⟩ := hA hpos
      injection e with e
      subst e
      have hk : j / 3 < L.length := by omega
      obtain ⟨c0, c1, c2⟩ := hc (j / 3) hk
      have ej : j = j / 3 * 3 + j % 3 := by omega
      have ea := arc_at L (j / 3) hk (j % 3) (by omega)
      rw [← ej, hj] at ea
      rw [add_lit, ea]
      have h3 : j % 3 = 0 ∨ j % 3 = 1 ∨ j % 3 = 2 := by omega
      rcases h3 with h3 | h3 | h3
      · rw [h3, show o + j = o + j / 3 * 3 by omega, c0]; rfl
      · rw [h3, show o + j = o + j / 3 * 3 + 1 by omega, c1]; rfl
      · rw [h3, show o + j = o + j / 3 * 3 + 2 by omega, c2]; rfl
    have NW := Lib.hid news
    have FL := Lib.hid (flat_len encA encA_len L)
    clear hA news
    have qe : ∀ (w : World) (a : Option Addr) (n c n' c' : Nat), (binOp .eql 22 (.slice a n c) (.slice none n' c')).run Try.prog w = .ok (.bool a.isNone) w := fun w a n c n' c' => Lib.run_eql_slice_nil w _ _ a n c n' c' Try.underlying22
    go_enter Try.func19, Try.ntmps19
    go_wp2_with (at_builtin; refine wpList_append_fresh rfl (.tmp 5) (.tmp 6) 22 rfl w.heap.size 46 i0 (.agg #[.int .i64 0, .int .i64 0, .int .i64 0]) 3 24 Try.underlying22 hi hz0 hz1 hz2 rfl (by decide) (.slice (some ⟨w.heap.size, 0, none⟩) 0 0) 0 [] rfl (own_empty w _ _) a L.length cap (L.flatMap encA) rfl FL.out (fun j z hj => by have h1 := NW.out j z hj; exact (World.cell?_alloc_lt w _ _ (World.block_lt_of_cell? w _ h1)).trans h1) (flat_one L) (by unfold maxLen; omega) (by omega) (by simp) ?_; intro v4 w4 hown hgrow hfr; have O4 : Hid (OwnA w4 w.heap.size v4 L) := Lib.hid (by unfold OwnA; simpa using hown); have B4 : Hid (Below w.heap.size w w4) := Lib.hid (((Below.refl _ _).alloc (Nat.le_refl _) _).trans (((Out.refl _ _).grown (S := fun b => b = w.heap.size) hgrow (fun k _ e => by simp [Value.ownBlock] at e; exact e.symm)).below (B := w.heap.size) (by simp) (fun i _ e => by omega))); clear hown hgrow hfr)
    go_ret
    exact ⟨_, rfl, O4.out, B4.out⟩
/-- The layers of a dag, known. -/
def LayIs (w : World) (l : List Int) (e : Ending) (w' : World) : Prop := ∃ v, e = .returned (.tuple #[v, .int .i64 0]) ∧ OwnI w' w.heap.size v l ∧ Below w.heap.size w w'
theorem layersIs (n : Int) (v : Value) (L : List Arc) (d : Nat → Nat) (l : List Int) (w : World) (hA : ArcsAt w v L) (h0 : ordErr n L = 0) (hd : Lay (ends L) d) (hl : castI ((List.range n.toNat).map d) = l) :
    Calls Try.prog 15 #[.int .i64 n, v] w (LayIs w l) := by
  refine (layers n v L w hA).mono fun e w' h => ?_
  rcases h with ⟨_, v1, d1, rfl, ho, h1, _, hb⟩ | ⟨h1, _⟩
  · obtain rfl := h1.uniq hd
    exact ⟨v1, rfl, hl ▸ ho.toI, hb⟩
  · exact absurd h0 h1
theorem layersNo (n : Int) (v : Value) (L : List Arc) (w : World) (hA : ArcsAt w v L) (h0 : ordErr n L ≠ 0) :
    Calls Try.prog 15 #[.int .i64 n, v] w fun e w' => e = .returned (.tuple #[.slice none 0 0, .int .i64 (ordErr n L)]) ∧ Below w.heap.size w w' := by
  refine (layers n v L w hA).mono fun e w' h => ?_
  rcases h with ⟨h1, _⟩ | ⟨_, h1, hb⟩
  · exact absurd h1 h0
  · exact ⟨h1, hb⟩
abbrev wkL : List Arc := [(0, 1, 0), (1, 2, 0), (0, 2, 0)]
def wkD : Nat → Nat := fun u => if u = 1 then 1 else if u = 2 then 2 else 0
theorem wk_ord : ordErr 3 wkL = 0 := by decide +kernel
theorem wk_lay : Lay (ends wkL) wkD := by
  refine ⟨by decide, fun w => ?_⟩
  by_cases h1 : w = 1
  · subst h1; exact Or.inr ⟨(0, 1), by decide, rfl, rfl⟩
  · by_cases h2 : w = 2
    · subst h2; exact Or.inr ⟨(1, 2), by decide, rfl, rfl⟩
    · exact Or.inl (by simp [wkD, h1, h2])
theorem wk_span : spanI [0, 1, 2] = 2 := by decide +kernel

end Go.Proofs.Ytdapbhnonhamhaa
