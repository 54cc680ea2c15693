/-
  LayerTight: the walk. Conditions: none (numbers within their types).
-/
import Derived.Test.YtdapbhnonhamhaaLayK
import Derived.Test.YtdapbhnonhamhaaLayS
import Derived.Test.YtdapbhnonhamhaaDagOp
import Derived.Test.YtdapbhnonhamhaaDagY
namespace Go.Proofs.Ytdapbhnonhamhaa
open Go.RowKit Go.Proofs.Ytdapbhnonhamhaa.DagM

/-- Does the arc a lead to v from one that is one less? -/
def tightA (d : Nat → Nat) (v : Nat) (a : Arc) : Bool := decide (a.2.1 = (v : Int)) && decide ((d a.1.toNat : Int) = (d v : Int) - 1)
/-- What the law's closure looks at: the node at c, the layers at x0, in a row at g. -/
structure TgAt (n : Nat) (d : Nat → Nat) (v : Nat) (w : World) (c x0 : Nat) (X : Value) : Prop where
  c0 : w.cell? ⟨c, 0, none⟩ = some (.int .i64 (v : Int))
  s0 : w.cell? ⟨x0, 0, none⟩ = some X
  row : IntsAt w X (castI ((List.range n).map d))
  cl : c < w.heap.size
  sl : x0 < w.heap.size
theorem TgAt.below {n : Nat} {d : Nat → Nat} {v c x0 : Nat} {w w' : World} {X : Value} (h : TgAt n d v w c x0 X) (hb : Below w.heap.size w w') : TgAt n d v w' c x0 X :=
  ⟨(hb.cell (p := ⟨c, 0, none⟩) h.cl).trans h.c0, (hb.cell (p := ⟨x0, 0, none⟩) h.sl).trans h.s0, h.row.below hb, Nat.lt_of_lt_of_le h.cl hb.size, Nat.lt_of_lt_of_le h.sl hb.size⟩
theorem TgAt.at_ {n : Nat} {d : Nat → Nat} {v c x0 : Nat} {w : World} {X : Value} (h : TgAt n d v w c x0 X) {u : Nat} (hu : u < n) : ∃ b o cap, X = .slice (some ⟨b, o, none⟩) n cap ∧ b < w.heap.size ∧ w.cell? ⟨b, o + u, none⟩ = some (.int .i64 (d u : Int)) := by
  obtain ⟨b, o, cap, h1, h2, h3⟩ := h.row.nth (i := u) (by simpa [castI] using hu)
  refine ⟨b, o, cap, by simpa [castI] using h1, h2, ?_⟩
  rw [h3]
  simp [castI]

set_option maxHeartbeats 1000000 in
set_option maxRecDepth 100000 in
theorem tight1 (n : Nat) (d : Nat → Nat) (v : Nat) (f t : Nat) (z : Int) (c x0 : Nat) (X : Value) (w : World) (h : TgAt n d v w c x0 X) (hv : v < n) (hf : f < n) (hd : ∀ u, d u ≤ n) (hn : n ≤ 1000000) :
    Calls Try.prog 23 #[.agg #[.int .i64 (f : Int), .int .i64 (t : Int), .int .i64 z], .pointer (some ⟨c, 0, none⟩), .pointer (some ⟨x0, 0, none⟩)] w fun e w' => e = .returned (.bool (tightA d v ((f : Int), (t : Int), z))) ∧ Below w.heap.size w w' := by
  obtain ⟨b, o, cap, rfl, hb, h1⟩ := h.at_ hf
  obtain ⟨b', o', cap', e, _, h2⟩ := h.at_ hv
  simp only [Value.slice.injEq, Option.some.injEq, Addr.mk.injEq, and_true, true_and] at e
  obtain ⟨⟨rfl, rfl⟩, rfl⟩ := e
  have h3 := h.c0
  have h4 := h.s0
  have h5 := h.cl
  have h6 := h.sl
  have hdv := hd v
  have hdf := hd f
  have hw1 : IntKind.i64.wrap ((d v : Int) - 1) = (d v : Int) - 1 := IntWalk.i64_in _ (by omega)
  clear h hd
  by_cases h0 : t = v
  · subst h0
    have hr : tightA d t ((f : Int), (t : Int), z) = ((d f : Int) == (d t : Int) - 1) := by
      unfold tightA
      simp
      rfl
    have HR := Lib.hid hr
    have hbt : ((t : Int) == (t : Int)) = true := by simp
    clear hr
    go_enter Try.func23, Try.ntmps23
    go_wp2
    go_quiet (fail)
    all_goals
      go_wp2
      go_ret
      exact ⟨ret_bool HR.out.symm, belowN ((Below.refl _ _).alloc (Nat.le_refl _) _) _⟩
  · have hr : tightA d v ((f : Int), (t : Int), z) = false := by
      unfold tightA
      have : ¬ (t : Int) = (v : Int) := by omega
      simp [this]
    have HR := Lib.hid hr
    have hbt : ((t : Int) == (v : Int)) = false := by rw [beq_eq_false_iff_ne]; omega
    clear hr
    go_enter Try.func23, Try.ntmps23
    go_wp2
    go_quiet (fail)
    all_goals
      go_wp2
      go_ret
      exact ⟨ret_bool HR.out.symm, belowN ((Below.refl _ _).alloc (Nat.le_refl _) _) _⟩

set_option maxHeartbeats 2000000 in
theorem indexTight (n : Nat) (d : Nat → Nat) (u : Nat) (c x0 : Nat) (X : Value) (v : Value) (L : List Arc) (w : World) (hA : ArcsAt w v L) (hM : May n L) (hT : TgAt n d u w c x0 X) (hu : u < n) (hd : ∀ u, d u ≤ n) :
    Calls Try.prog 34 #[v, .func (.func 23) #[] #[.pointer (some ⟨c, 0, none⟩), .pointer (some ⟨x0, 0, none⟩)]] w (Idx (L.any (tightA d u)) w) := by
  have eg := enters_of Try.func23 (by kernel_rfl) rfl
  have HC := Lib.hid hT
  have HA := Lib.hid hA
  have HM := Lib.hid hM
  have HD := Lib.hid hd
  have hl := hM.len
  have hn := hM.n1
  obtain ⟨A, cap, rfl, hcap, -⟩ := hA
  clear hT hM hd
  go_enter Try.func34, Try.ntmps34
  go_wp2
  go_loopw [8] (fun iv wr => IdxAt L.length (fun k => (L.take k).any (tightA d u)) w wr iv) (fun iv _ => L.length - (intOf iv).toNat)
  case atStart => exact ⟨0, rfl, by omega, Below.refl _ _, rfl⟩
  case round =>
    obtain ⟨k, rfl, hk, hB, hN⟩ := hrel
    have B := Lib.hid hB
    have N := Lib.hid hN
    clear hB hN
    by_cases hlt : k < L.length
    · obtain ⟨A', cap', e, _, hA⟩ := HA.out
      simp only [Value.slice.injEq, true_and] at e
      obtain ⟨rfl, rfl⟩ := e
      obtain ⟨b, o, rfl, hb, hcell⟩ := hA (by omega)
      obtain ⟨c0, c1, c2⟩ := hcell k hlt
      have d0 := (B.out.cell (p := ⟨b, o + k * 3, none⟩) hb).trans c0
      have d1 := (B.out.cell (p := ⟨b, o + k * 3 + 1, none⟩) hb).trans c1
      have d2 := (B.out.cell (p := ⟨b, o + k * 3 + 2, none⟩) hb).trans c2
      have ok := HM.out.ok L[k] (List.getElem_mem hlt)
      have ht := Lib.hid (any_take (tightA d u) L k hlt)
      have hf := Lib.hid (any_found (tightA d u) L k hlt)
      clear hA hcell c0 c1 c2
      have HCw := Lib.hid (HC.out.below B.out)
      generalize L[k] = a at *
      obtain ⟨x, y, z⟩ := a
      obtain ⟨x, rfl⟩ : ∃ u : Nat, x = (u : Int) := ⟨x.toNat, by simp only at ok; omega⟩
      obtain ⟨y, rfl⟩ : ∃ u : Nat, y = (u : Int) := ⟨y.toNat, by simp only at ok; omega⟩
      simp only at ok d0 d1 d2
      have hx : x < n := by omega
      clear ok
      have hz := B.out.size
      cases hbad : tightA d u ((x : Int), (y : Int), z) with
      | true =>
        have hb2 := Lib.hid hbad
        clear hbad
        go_wp2_with (go_at_call 23; refine (tight1 n d u x y z c x0 X _ HCw.out hu hx HD.out (by omega)).mono ?_; rintro e w1 ⟨rfl, b1⟩; rw [hb2.out]; have B1 := Lib.hid b1; clear b1)
        go_ret
        exact ⟨k, rfl, by rw [hf.out hb2.out]; simp, B.out.trans (B1.out.mono hz)⟩
      | false =>
        have hb2 := Lib.hid hbad
        clear hbad
        go_wp2_with (go_at_call 23; refine (tight1 n d u x y z c x0 X _ HCw.out hu hx HD.out (by omega)).mono ?_; rintro e w1 ⟨rfl, b1⟩; rw [hb2.out]; have B1 := Lib.hid b1; clear b1)
        go_roundw
        case rel => exact ⟨k + 1, by go_num, by omega, B.out.trans (B1.out.mono hz), by simp only []; rw [ht.out, N.out, hb2.out]; rfl⟩
        case measure => simp [intOf]; omega
    · obtain rfl : L.length = k := by omega
      go_wp2
      go_ret
      have h := N.out
      rw [List.take_length] at h
      exact ⟨-1, rfl, by rw [h]; rfl, B.out⟩

set_option maxHeartbeats 1000000 in
theorem containsTight (n : Nat) (d : Nat → Nat) (u : Nat) (c x0 : Nat) (X : Value) (v : Value) (L : List Arc) (w : World) (hA : ArcsAt w v L) (hM : May n L) (hT : TgAt n d u w c x0 X) (hu : u < n) (hd : ∀ u, d u ≤ n) :
    Calls Try.prog 22 #[v, .func (.func 23) #[] #[.pointer (some ⟨c, 0, none⟩), .pointer (some ⟨x0, 0, none⟩)]] w fun e w' => e = .returned (.bool (L.any (tightA d u))) ∧ Below w.heap.size w w' := by
  have I := indexTight n d u c x0 X v L w hA hM hT hu hd
  clear hA hT hM hd
  go_enter Try.func22, Try.ntmps22
  go_wp2_with (go_at_call 34; refine I.mono ?_; rintro e w1 ⟨i, rfl, hi, b1⟩; have HI := Lib.hid hi; have B1 := Lib.hid b1; clear hi b1)
  go_ret
  exact ⟨ret_bool HI.out, B1.out⟩

/-- An arc is tight to v just if v isn't at 0. -/
theorem tight_iff {n : Nat} {L : List Arc} {d : Nat → Nat} (h : Lay (ends L) d) (hM : May n L) (v : Nat) : L.any (tightA d v) = decide (0 < d v) := by
  rw [Bool.eq_iff_iff, List.any_eq_true, decide_eq_true_eq]
  constructor
  · rintro ⟨a, ha, h1⟩
    unfold tightA at h1
    simp only [Bool.and_eq_true, decide_eq_true_eq] at h1
    omega
  · intro h0
    rcases h.ti v with h1 | ⟨e, he, h2, h3⟩
    · omega
    · obtain ⟨a, ha, rfl⟩ := List.mem_map.1 he
      have := hM.ok a ha
      refine ⟨a, ha, ?_⟩
      unfold tightA
      simp only at h2 h3
      simp only [Bool.and_eq_true, decide_eq_true_eq]
      omega
/-- The layers are their own ranks. -/
theorem lay_rank {n : Nat} {L : List Arc} {d : Nat → Nat} (h : Lay (ends L) d) (hM : May n L) : rkL (castI ((List.range n).map d)) = (List.range n).map d := by
  unfold rkL castI
  rw [List.map_map, List.map_map]
  have hE : ∀ e ∈ ends L, e.1 < n := fun e he => by have := (ends_lt hM e he).1; simpa using this
  refine List.map_congr_left fun u hu => ?_
  have hu' : u < n := by simpa using hu
  simp only [Function.comp]
  refine (rk_of (l := (List.range (d u)).map fun (k : Nat) => (k : Int)) ?_ fun y => ?_).symm.trans (by simp)
  · rw [List.nodup_iff_pairwise_ne, List.pairwise_map]
    exact (List.pairwise_lt_range).imp fun h e => by omega
  · constructor
    · intro hy
      obtain ⟨k, hk, rfl⟩ := List.mem_map.1 hy
      have hk' : k < d u := by simpa using hk
      obtain ⟨v, hv, hd⟩ := h.all hE hu' k (by omega)
      exact ⟨List.mem_map.2 ⟨d v, List.mem_map.2 ⟨v, by simpa using hv, rfl⟩, by rw [hd]⟩, by omega⟩
    · rintro ⟨hy, hlt⟩
      obtain ⟨k, hk, rfl⟩ := List.mem_map.1 hy
      exact List.mem_map.2 ⟨k, by simp only [List.mem_range]; omega, rfl⟩
end Go.Proofs.Ytdapbhnonhamhaa
