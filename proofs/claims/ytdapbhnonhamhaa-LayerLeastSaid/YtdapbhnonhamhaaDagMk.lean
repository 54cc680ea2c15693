/-
  Make: a graph whose arcs lead from the less node to the greater one. Conditions: it is asked for 1 to 100 nodes.
-/
import Derived.Test.YtdapbhnonhamhaaDagT
namespace Go.Proofs.Ytdapbhnonhamhaa
open Go.RowKit Go.Proofs.Ytdapbhnonhamhaa.DagM

/-- What Make's slice of triples reads as. -/
structure TriAt (w : World) (A : Option Addr) (n : Nat) (D : Nat → Int × Int × Int) : Prop where
  at_ : 0 < n → ∃ b o, A = some ⟨b, o, none⟩ ∧ b < w.heap.size ∧ ∀ k, k < n → w.cell? ⟨b, o + k * 3, none⟩ = some (.int .u8 (D k).1) ∧ w.cell? ⟨b, o + k * 3 + 1, none⟩ = some (.int .u8 (D k).2.1) ∧ w.cell? ⟨b, o + k * 3 + 2, none⟩ = some (.int .u8 (D k).2.2)
  r : ∀ k, k < n → (0 ≤ (D k).1 ∧ (D k).1 ≤ 255) ∧ (0 ≤ (D k).2.1 ∧ (D k).2.1 ≤ 255) ∧ 0 ≤ (D k).2.2 ∧ (D k).2.2 ≤ 255
/-- A graph of arcs that rise. -/
structure Rise (n : Nat) (K : List Arc) : Prop where
  n1 : 1 ≤ n
  len : K.length ≤ 40
  ok : ∀ a ∈ K, 0 ≤ a.1 ∧ a.1 < a.2.1 ∧ a.2.1 < n ∧ 0 ≤ a.2.2 ∧ a.2.2 ≤ 7
theorem Rise.may {n : Nat} {K : List Arc} (h : Rise n K) (hn : n ≤ 4096) : May n K := ⟨by omega, by omega, by have := h.len; omega, fun a ha => by have := h.ok a ha; omega⟩
theorem Rise.ord {n : Nat} {K : List Arc} (h : Rise n K) (hn : n ≤ 4096) : ordErr n K = 0 := ord_rises (h.may hn) (fun i => (i : Int)) (fun a ha => by have := h.ok a ha; omega)
def Makes (most : Nat) (w : World) (e : Ending) (w' : World) : Prop := ∃ (n : Nat) (v : Value) (K : List Arc), e = .returned (.tuple #[.int .i64 n, v]) ∧ n ≤ most ∧ Rise n K ∧ OwnA w' w.heap.size v K ∧ Below w.heap.size w w'
def MkRel (len n : Nat) (w0 wr : World) (lv iv : Value) : Prop := ∃ (k : Nat) (K : List Arc), iv = .int .i64 k ∧ k ≤ len ∧ k ≤ 40 ∧ K.length ≤ k ∧ Rise n K ∧ Below w0.heap.size w0 wr ∧ OwnA wr w0.heap.size lv K
theorem OwnA.base {w : World} {B B' : Nat} {v : Value} {l : List Arc} (h : OwnA w B v l) (hb : B' ≤ B) : OwnA w B' v l := by
  refine ⟨h.1, ?_⟩
  rcases h.2 with h2 | ⟨g, cap, cur, hv, hg, r⟩
  · exact Or.inl h2
  · exact Or.inr ⟨g, cap, cur, hv, Nat.le_trans hb hg, r⟩
theorem infoA3 : (Try.prog.info? 46).map (fun i => (i.zero, i.size, i.bytes)) = some (some (.agg #[.int .i64 0, .int .i64 0, .int .i64 0]), 3, 24) := by kernel_rfl
theorem newsA (w : World) (T : TypeId) (a : Arc) (b : Nat) (hb : w.heap.size = b) : ∀ j z, (encA a)[j]? = some z → (w.alloc (.cells (encA a).toArray T)).cell? ((⟨b, 0, none⟩ : Addr).add j) = some z := by
  intro j z hz
  subst hb
  have e : ((⟨w.heap.size, 0, none⟩ : Addr).add j) = ⟨w.heap.size, j, none⟩ := by
    by_cases hj : j = 0
    · subst hj; rfl
    · simp [Addr.add, hj]
  rw [e, lit_cell]
  exact hz
/-- An append of one arc onto a row of the call's own: what it leaves. -/
theorem arc_app {w0 w w' : World} {v v' : Value} {K : List Arc} {a : Arc} (hB : Below w0.heap.size w0 w) (hO : OwnA w w0.heap.size v K) (hown : w'.ownsRow w0.heap.size 46 3 v' (K.length + 1) (K.flatMap encA ++ encA a)) (hgrow : w.grownBy w' v.ownBlock) :
    OwnA w' w0.heap.size v' (K ++ [a]) ∧ Below w0.heap.size w0 w' :=
  ⟨OwnA.snoc hown, hB.trans (((Out.refl _ w).grown (S := fun b => v.ownBlock = some b) hgrow (fun _ _ e => e)).below hB.size (fun i _ e => (World.ownsRow.lt hO i e).1))⟩
theorem Rise.snoc {n : Nat} {K : List Arc} (h : Rise n K) (hl : K.length < 40) {a b c : Nat} (hab : a < b) (hb : b < n) (hc : c ≤ 7) : Rise n (K ++ [((a : Int), (b : Int), (c : Int))]) :=
  ⟨h.n1, by simp; omega, fun x hx => by
    rcases List.mem_append.1 hx with hx | hx
    · exact h.ok x hx
    · obtain rfl := List.mem_singleton.1 hx
      simp only
      omega⟩

set_option maxHeartbeats 8000000 in
set_option maxRecDepth 100000 in
theorem make_ (N : Int) (A : Option Addr) (len cap most : Nat) (D : Nat → Int × Int × Int) (w : World) (hN0 : 0 ≤ N) (hN1 : N ≤ 255) (hm1 : 1 ≤ most) (hm2 : most ≤ 100) (hT : TriAt w A len D) :
    Calls Try.prog 14 #[.agg #[.int .u8 N, .slice A len cap], .int .i64 most] w (Makes most w) := by
  have T := Lib.hid hT
  clear hT
  obtain ⟨i0, hi, hz0, hz1, hz2⟩ := info_parts infoA3
  obtain ⟨r, hr⟩ : ∃ r : Nat, N % (most : Int) = (r : Int) := ⟨(N % (most : Int)).toNat, by have := Int.emod_nonneg N (b := (most : Int)) (by omega); omega⟩
  have hr1 : r < most := by have := Int.emod_lt_of_pos N (b := (most : Int)) (by omega); omega
  have hr2 : N.tmod (most : Int) = (r : Int) := by rw [Int.tmod_eq_emod_of_nonneg hN0]; exact hr
  obtain ⟨n, hn⟩ : ∃ n : Nat, (1 : Int) + (r : Int) = (n : Int) := ⟨1 + r, by omega⟩
  have hn1 : 1 ≤ n := by omega
  have hn2 : n ≤ most := by omega
  have hm0 : ¬ most = 0 := by omega
  go_enter Try.func14, Try.ntmps14
  go_wp2
  clear hr hr2 hn hm0
  obtain ⟨W0, hW0⟩ : ∃ W0, W0 = w.alloc (.cells #[.int .u8 N, .slice A len cap] 38) := ⟨_, rfl⟩
  have hs0 : W0.heap.size = w.heap.size + 1 := by rw [hW0]; simp
  have b0 : Below w.heap.size w W0 := by rw [hW0]; exact (Below.refl _ _).alloc (Nat.le_refl _) _
  have x1 : W0.cell? ⟨w.heap.size, 1, none⟩ = some (.slice A len cap) := by rw [hW0]; simp
  have X1 := Lib.hid x1
  have B0 := Lib.hid b0
  have S0 := Lib.hid hs0
  clear x1 b0 hs0
  rw [← hW0]
  clear hW0
  go_loopw [7, 8] (fun lv iv wr => MkRel len n W0 wr lv iv) (fun _ iv _ => 40 - (intOf iv).toNat)
  case atStart => exact ⟨0, [], rfl, by omega, by omega, by simp, ⟨hn1, by simp, fun a ha => by simp at ha⟩, Below.refl _ _, World.ownsRow_nil _ _ _ _⟩
  case round =>
    obtain ⟨k, K, rfl, hk, hk4, hKl, hRi, hB, hO⟩ := hrel
    have B := Lib.hid hB
    have O := Lib.hid hO
    have R := Lib.hid hRi
    have hwz : w.heap.size + 1 ≤ wr.heap.size := by have := hB.size; rw [S0.out] at this; exact this
    have y1 : wr.cell? ⟨w.heap.size, 1, none⟩ = some (.slice A len cap) := (hB.cell (p := ⟨w.heap.size, 1, none⟩) (by rw [S0.out]; simp)).trans X1.out
    clear hB hO hRi
    by_cases hlt : k < len
    · by_cases hl4 : k < 40
      · obtain ⟨b, o, hAe, hb, hcell⟩ := T.out.at_ (by omega)
        subst hAe
        obtain ⟨c0, c1, c2⟩ := hcell k hlt
        obtain ⟨⟨p0, p1⟩, ⟨p2, p3⟩, p4, p5⟩ := T.out.r k hlt
        have bb := B0.out.trans (B.out.mono (by rw [S0.out]; omega))
        have d0 := (bb.cell (p := ⟨b, o + k * 3, none⟩) hb).trans c0
        have d1 := (bb.cell (p := ⟨b, o + k * 3 + 1, none⟩) hb).trans c1
        have d2 := (bb.cell (p := ⟨b, o + k * 3 + 2, none⟩) hb).trans c2
        clear hcell c0 c1 c2 bb
        generalize D k = t at *
        obtain ⟨x, y, z⟩ := t
        simp only at p0 p1 p2 p3 p4 p5 d0 d1 d2
        have hnz : ¬ n = 0 := by omega
        obtain ⟨a, ha⟩ : ∃ r : Nat, x % (n : Int) = (r : Int) := ⟨(x % (n : Int)).toNat, by have := Int.emod_nonneg x (b := (n : Int)) (by omega); omega⟩
        have ha1 : a < n := by have := Int.emod_lt_of_pos x (b := (n : Int)) (by omega); omega
        have ha2 : x.tmod (n : Int) = (a : Int) := by rw [Int.tmod_eq_emod_of_nonneg p0]; exact ha
        obtain ⟨c, hc⟩ : ∃ r : Nat, y % (n : Int) = (r : Int) := ⟨(y % (n : Int)).toNat, by have := Int.emod_nonneg y (b := (n : Int)) (by omega); omega⟩
        have hc1 : c < n := by have := Int.emod_lt_of_pos y (b := (n : Int)) (by omega); omega
        have hc2 : y.tmod (n : Int) = (c : Int) := by rw [Int.tmod_eq_emod_of_nonneg p2]; exact hc
        obtain ⟨d, hd⟩ : ∃ r : Nat, z % 8 = (r : Int) := ⟨(z % 8).toNat, by omega⟩
        have hd1 : d ≤ 7 := by omega
        obtain ⟨ao, cp, rfl⟩ := O.out.form
        have hK40 : K.length < 40 := by omega
        rcases Nat.lt_trichotomy a c with hac | hac | hac
        · have t1 : decide (c < a) = false := by simp; omega
          have t2 : decide (a < c) = true := by simpa using hac
          have t3 : decide ((c : Int) < (a : Int)) = false := by simp; omega
          have t4 : decide ((a : Int) < (c : Int)) = true := by simp; omega
          go_wp2_with (at_builtin; refine wpList_append_fresh rfl (.tmp 56) (.tmp 68) 22 rfl W0.heap.size 46 i0 (.agg #[.int .i64 0, .int .i64 0, .int .i64 0]) 3 24 Try.underlying22 hi hz0 hz1 hz2 rfl (by decide) _ _ _ rfl (World.ownsRow.alloc O.out _) ⟨wr.heap.size, 0, none⟩ 1 1 (encA ((a : Int), (c : Int), (d : Int))) rfl rfl (newsA _ _ _ _ (by simp)) (encA_one _) (by unfold maxLen; omega) (by omega) (by simp; rw [S0.out]; omega) ?_; intro v4 w4 hown hgrow hfr; obtain ⟨o4, b4⟩ := arc_app (B.out.alloc (by rw [S0.out]; omega) _) (World.ownsRow.alloc O.out _) hown hgrow; have O4 := Lib.hid o4; have B4 := Lib.hid b4; clear hown hgrow hfr o4 b4)
          go_roundw
          case rel => exact ⟨k + 1, _, by go_num, by omega, by omega, by simp; omega, R.out.snoc hK40 hac hc1 hd1, B4.out, O4.out⟩
          case measure => simp [intOf]; omega
        · obtain rfl : a = c := hac
          go_wp2
          go_roundw
          case rel => exact ⟨k + 1, K, by go_num, by omega, by omega, by omega, R.out, B.out, O.out⟩
          case measure => simp [intOf]; omega
        · have t1 : decide (c < a) = true := by simpa using hac
          have t2 : decide (a < c) = false := by simp; omega
          have t3 : decide ((c : Int) < (a : Int)) = true := by simp; omega
          have t4 : decide ((a : Int) < (c : Int)) = false := by simp; omega
          go_wp2_with (at_builtin; refine wpList_append_fresh rfl (.tmp 56) (.tmp 68) 22 rfl W0.heap.size 46 i0 (.agg #[.int .i64 0, .int .i64 0, .int .i64 0]) 3 24 Try.underlying22 hi hz0 hz1 hz2 rfl (by decide) _ _ _ rfl (World.ownsRow.alloc O.out _) ⟨wr.heap.size, 0, none⟩ 1 1 (encA ((c : Int), (a : Int), (d : Int))) rfl rfl (newsA _ _ _ _ (by simp)) (encA_one _) (by unfold maxLen; omega) (by omega) (by simp; rw [S0.out]; omega) ?_; intro v4 w4 hown hgrow hfr; obtain ⟨o4, b4⟩ := arc_app (B.out.alloc (by rw [S0.out]; omega) _) (World.ownsRow.alloc O.out _) hown hgrow; have O4 := Lib.hid o4; have B4 := Lib.hid b4; clear hown hgrow hfr o4 b4)
          go_roundw
          case rel => exact ⟨k + 1, _, by go_num, by omega, by omega, by simp; omega, R.out.snoc hK40 hac ha1 hd1, B4.out, O4.out⟩
          case measure => simp [intOf]; omega
      · obtain ⟨ao, cp, rfl⟩ := O.out.form
        go_wp2
        go_ret2
        exact ⟨n, _, K, rfl, hn2, R.out, O.out.base (by rw [S0.out]; omega), B0.out.trans (B.out.mono (by rw [S0.out]; omega))⟩
    · obtain ⟨ao, cp, rfl⟩ := O.out.form
      go_wp2
      go_ret2
      exact ⟨n, _, K, rfl, hn2, R.out, O.out.base (by rw [S0.out]; omega), B0.out.trans (B.out.mono (by rw [S0.out]; omega))⟩
end Go.Proofs.Ytdapbhnonhamhaa
