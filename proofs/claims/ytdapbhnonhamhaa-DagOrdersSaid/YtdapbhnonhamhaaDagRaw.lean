/-
  raw: it makes a row of at most 20 arcs. Conditions: n from 0 to 11.
-/
import Derived.Test.YtdapbhnonhamhaaDagRw
import Derived.Test.YtdapbhnonhamhaaTail
namespace Go.Proofs.Ytdapbhnonhamhaa
open Go.RowKit Go.Proofs.Ytdapbhnonhamhaa.DagM

theorem infoA3 : (Try.prog.info? 46).map (fun i => (i.zero, i.size, i.bytes)) = some (some (.agg #[.int .i64 0, .int .i64 0, .int .i64 0]), 3, 24) := by kernel_rfl
def RwRel (m : Nat) (w wr : World) (lv iv : Value) : Prop := ∃ (k : Nat) (K : List Arc), iv = .int .i64 k ∧ k ≤ m ∧ K.length = k ∧ Below w.heap.size w wr ∧ OwnA wr w.heap.size lv K
theorem newsA (w : World) (T : TypeId) (a : Arc) (b : Nat) (hb : w.heap.size = b) : ∀ j z, (encA a)[j]? = some z → (w.alloc (.cells (encA a).toArray T)).cell? ((⟨b, 0, none⟩ : Addr).add j) = some z := by
  intro j z hz
  subst hb
  have e : ((⟨w.heap.size, 0, none⟩ : Addr).add j) = ⟨w.heap.size, j, none⟩ := by
    by_cases hj : j = 0
    · subst hj; rfl
    · simp [Addr.add, hj]
  rw [e, lit_cell]
  exact hz
theorem newsAd (w : World) (T : TypeId) (a : Arc) (b : Nat) (hb : w.heap.size = b) : ∀ j z, (encA a)[j]? = some z → (w.alloc (.cells (encA a).toArray T)).drew.cell? ((⟨b, 0, none⟩ : Addr).add j) = some z := fun j z hz => newsA w T a b hb j z hz

set_option maxHeartbeats 4000000 in
set_option maxRecDepth 100000 in
theorem raw (n : Nat) (v : Value) (L : List Arc) (w : World) (hA : ArcsAt w v L) (hn : n < 12) :
    Calls Try.prog 8 #[v, .int .i64 n] w (Some20 w) := by
  have HA := Lib.hid hA
  obtain ⟨A, cap, rfl, hcap, -⟩ := hA
  obtain ⟨i0, hi, hz0, hz1, hz2⟩ := info_parts infoA3
  obtain ⟨m, hm⟩ : ∃ m : Nat, min (L.length : Int) 20 = (m : Int) := ⟨min L.length 20, by omega⟩
  have hm1 : m ≤ L.length := by omega
  have hm2 : m ≤ 20 := by omega
  obtain ⟨q, hq⟩ : ∃ q : Nat, max (1 : Int) (n : Int) = (q : Int) := ⟨max 1 n, by omega⟩
  have hq1 : 1 ≤ q := by omega
  have hq2 : q ≤ 12 := by omega
  have HQ := Lib.hid hq
  clear hq
  go_enter Try.func8, Try.ntmps8
  go_wp2
  clear hm
  go_loopw [5, 14] (fun lv iv wr => RwRel m w wr lv iv) (fun _ iv _ => m - (intOf iv).toNat)
  case atStart => exact ⟨0, [], rfl, by omega, rfl, Below.refl _ _, World.ownsRow_nil _ _ _ _⟩
  case round =>
    obtain ⟨k, K, rfl, hk, hK, hB, hO⟩ := hrel
    have B := Lib.hid hB
    have O := Lib.hid hO
    have KL := Lib.hid hK
    have hwz := hB.size
    have hK2 : K.length ≤ 20 := by omega
    clear hB hO hK
    by_cases hlt : k < m
    · obtain ⟨A', cap', e, _, hA⟩ := HA.out
      simp only [Value.slice.injEq, true_and] at e
      obtain ⟨rfl, rfl⟩ := e
      obtain ⟨b, o, rfl, hb, hcell⟩ := hA (by omega)
      obtain ⟨c0, c1, c2⟩ := hcell k (by omega)
      have d0 := (B.out.cell (p := ⟨b, o + k * 3, none⟩) hb).trans c0
      have d1 := (B.out.cell (p := ⟨b, o + k * 3 + 1, none⟩) hb).trans c1
      have d2 := (B.out.cell (p := ⟨b, o + k * 3 + 2, none⟩) hb).trans c2
      clear hA hcell c0 c1 c2
      generalize L[k] = a at *
      obtain ⟨x, y, z⟩ := a
      simp only at d0 d1 d2
      obtain ⟨x', hx⟩ : ∃ x' : Nat, max (0 : Int) x = (x' : Int) := ⟨x.toNat, by omega⟩
      obtain ⟨y', hy⟩ : ∃ x' : Nat, max (0 : Int) y = (x' : Int) := ⟨y.toNat, by omega⟩
      obtain ⟨z', hz⟩ : ∃ x' : Nat, max (0 : Int) z = (x' : Int) := ⟨z.toNat, by omega⟩
      obtain ⟨ao, cp, rfl⟩ := O.out.form
      have hq := HQ.out
      have hq0 : ¬ q = 0 := by omega
      go_wp2
      refine wp_region_move_tail 18 (.tmp 5) (by kernel_rfl) (by kernel_rfl) rfl rfl (fun _ _ _ _ h => h) ?_
      simp only [Nat.reduceSub, List.take_succ_cons, List.take_zero, List.drop_succ_cons, List.drop_zero]
      change wpStill _ _ (World.drew _) (fun a' => wpList _ _ _ _ a' (World.drew _)) _ _
      repeat still_step
      try refine wpStill_nil ?_
      go_wp2_with (at_builtin; refine wpList_append_fresh rfl (.tmp 18) (.tmp 36) 22 rfl w.heap.size 46 i0 (.agg #[.int .i64 0, .int .i64 0, .int .i64 0]) 3 24 Try.underlying22 hi hz0 hz1 hz2 rfl (by decide) (.slice ao K.length cp) K.length (K.flatMap encA) rfl (O.out.below ((((Below.refl _ _).alloc (Nat.le_refl _) _).drew).alloc (by simp) _)) ⟨wr.heap.size + 1, 0, none⟩ 1 1 (encA ((x' : Int).tmod q, (y' : Int).tmod q, (z' : Int).tmod 100)) rfl rfl (newsA _ _ _ _ (by simp)) (encA_one _) (by unfold maxLen; omega) (by omega) (by simp; omega) ?_; intro v4 w4 hown hgrow hfr; have O4 := Lib.hid (OwnA.snoc hown); have B4 := Lib.hid (B.out.trans ((((((Below.refl _ _).alloc (Nat.le_refl _) _).drew).alloc (by simp) _).mono hwz).trans (((Out.refl _ _).grown (S := fun b => (Value.slice ao K.length cp).ownBlock = some b) hgrow (fun _ _ e => e)).below (B := w.heap.size) (by simp; omega) (fun i _ e => (O.out.lt i e).1)))); obtain ⟨g4, c4, rfl, _, _, _⟩ := ownsRow_form hown (by omega); clear hown hgrow hfr)
      go_roundw
      case rel => exact ⟨k + 1, _, by go_num, by omega, by rw [List.length_append, KL.out]; rfl, B4.out, O4.out⟩
      case measure => simp [intOf]; omega
    · obtain rfl : k = m := by omega
      obtain ⟨ao, cp, rfl⟩ := O.out.form
      go_wp2
      go_ret
      exact ⟨_, K, rfl, O.out, by omega, B.out⟩
end Go.Proofs.Ytdapbhnonhamhaa
