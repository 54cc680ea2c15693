/-
  DagOrders: the walk, by what raw leaves. Conditions: none.
-/
import Derived.Test.YtdapbhnonhamhaaDagRw
import Derived.Test.YtdapbhnonhamhaaDagV
namespace Go.Proofs.Ytdapbhnonhamhaa
open Go.RowKit Go.Proofs.Ytdapbhnonhamhaa.DagM

theorem ordRes_len (n : Int) (L : List Arc) : (ordRes n L).length ≤ 4096 := by
  unfold ordRes
  split
  · rename_i h
    have hm := (mayB_iff n L).1 h
    have := gr_len (topo_gr (E := ends L) (n := n.toNat)).1
    have := hm.n1
    split
    · simp
    · omega
  · simp
def OrOut (wl wr : World) (iv : Value) : Prop := ∃ j : Nat, iv = .int .i64 j ∧ j ≤ 2 ∧ Below wl.heap.size wl wr
def RawOk : Prop := ∀ (n : Nat) (v : Value) (L : List Arc) (w : World), ArcsAt w v L → n < 12 → Calls Try.prog 8 #[v, .int .i64 n] w (Some20 w)

set_option maxHeartbeats 16000000 in
set_option maxRecDepth 100000 in
theorem orders (hraw : RawOk) (n : Int) (v : Value) (L : List Arc) (w : World) (hA : ArcsAt w v L) :
    Calls Try.prog 3 #[.int .i64 n, v] w fun e w' => e = .returned (.bool true) ∧ Below w.heap.size w w' := by
  have RW := Lib.hid hraw
  have hA2 := hA
  obtain ⟨A, cap, rfl, hcap, -⟩ := hA
  obtain ⟨m, hm⟩ : ∃ m : Nat, min (L.length : Int) 20 = (m : Int) := ⟨min L.length 20, by omega⟩
  have hm1 : m ≤ L.length := by omega
  have hm2 : m ≤ 20 := by omega
  have hmc : m ≤ cap := by omega
  have A0 := Lib.hid (hA2.take hm1)
  obtain ⟨s0, hs0⟩ : ∃ s : Nat, max (0 : Int) n = (s : Int) := ⟨n.toNat, by omega⟩
  obtain ⟨s, hs1⟩ : ∃ s : Nat, (s0 : Int) % 12 = (s : Int) := ⟨s0 % 12, by omega⟩
  have hs2 : (s0 : Int).tmod 12 = (s : Int) := by rw [Int.tmod_eq_emod_of_nonneg (by omega)]; exact hs1
  have hs3 : s < 12 := by omega
  obtain ⟨r, hr⟩ : ∃ r : Int, n.tmod 200 = r := ⟨_, rfl⟩
  generalize L.take m = L1 at *
  clear hraw hA2
  go_enter Try.func3, Try.ntmps3
  go_wp2_with (go_at_call 8; refine (RW.out s _ L1 _ A0.out hs3).mono ?_; rintro e w1 ⟨v2, L2, rfl, hO, hL2, hb⟩; obtain ⟨a2, c2, rfl⟩ := hO.form; have B1 := Lib.hid hb; have A1 := Lib.hid (A0.out.below hb); have A2 := Lib.hid hO.arcs; have z1 : w.heap.size ≤ w1.heap.size := hb.size; clear hO hb)
  clear hm hs0 hs1 hs2 hr
  obtain ⟨wl, hwl⟩ : ∃ wl, wl = w1.alloc (.cells #[.int .i64 r, .slice A m cap, .int .i64 s, .slice a2 L2.length c2] 23) := ⟨_, rfl⟩
  have bl : Below w1.heap.size w1 wl := by rw [hwl]; exact (Below.refl _ _).alloc (Nat.le_refl _) _
  have k0 : wl.cell? ⟨w1.heap.size, 0, none⟩ = some (.int .i64 r) := by rw [hwl]; simp
  have k1 : wl.cell? ⟨w1.heap.size, 1, none⟩ = some (.slice A m cap) := by rw [hwl]; simp
  have k2 : wl.cell? ⟨w1.heap.size, 2, none⟩ = some (.int .i64 s) := by rw [hwl]; simp
  have k3 : wl.cell? ⟨w1.heap.size, 3, none⟩ = some (.slice a2 L2.length c2) := by rw [hwl]; simp
  have hll : w1.heap.size < wl.heap.size := by rw [hwl]; simp
  rw [← hwl]
  clear hwl
  have K0 := Lib.hid k0
  have K1 := Lib.hid k1
  have K2 := Lib.hid k2
  have K3 := Lib.hid k3
  have BL := Lib.hid (B1.out.trans (bl.mono z1))
  have A1l := Lib.hid (A1.out.below bl)
  have A2l := Lib.hid (A2.out.below bl)
  have hlw := BL.out.size
  clear k0 k1 k2 k3 bl
  go_loopw [31] (fun iv wr => OrOut wl wr iv) (fun iv _ => 2 - (intOf iv).toNat)
  case atStart => exact ⟨0, rfl, by omega, Below.refl _ _⟩
  case round =>
    obtain ⟨j, rfl, hj, hB⟩ := hrel
    have B := Lib.hid hB
    have hwz := hB.size
    clear hB
    by_cases hj0 : j = 0
    · subst hj0
      have y0 := (B.out.cell (p := ⟨w1.heap.size, 0, none⟩) hll).trans K0.out
      have y1 := (B.out.cell (p := ⟨w1.heap.size, 1, none⟩) hll).trans K1.out
      have AW := Lib.hid (A1l.out.below B.out)
      go_wp2_with (first
        | (go_at_call 9; refine (order r _ L1 _ (AW.out.below ((Below.refl _ _).alloc (Nat.le_refl _) _))).mono ?_; rintro e w5 ⟨v5, rfl, ho, hb⟩; obtain ⟨a5, c5, rfl⟩ := ho.form; have O5 := Lib.hid ho.toI; have Q1 : Hid (Below wr.heap.size wr w5) := Lib.hid (((Below.refl _ _).alloc (Nat.le_refl _) _).trans (hb.mono (by simp))); have t0 := (hb.cell (p := ⟨wr.heap.size, 0, none⟩) (by simp)); have t1 := (hb.cell (p := ⟨wr.heap.size, 1, none⟩) (by simp)); simp at t0 t1; have hz5 : wr.heap.size + 1 ≤ w5.heap.size := (by have := hb.size; simpa using this); clear ho hb)
        | (go_at_call 10; refine (refOrder r _ L1 _ (AW.out.below Q1.out)).mono ?_; rintro e w6 ⟨v6, rfl, ho, hb⟩; obtain ⟨a6, c6, rfl⟩ := ho.form; have O6 := Lib.hid ho.toI; have O5b := Lib.hid (O5.out.below hb); have Q2 := Lib.hid (Q1.out.trans (hb.mono (by omega))); have u0 := (hb.cell (p := ⟨wr.heap.size, 0, none⟩) (by simp; omega)).trans t0; have u1 := (hb.cell (p := ⟨wr.heap.size, 1, none⟩) (by simp; omega)).trans t1; have hz6 : wr.heap.size + 1 ≤ w6.heap.size := (by have := hb.size; omega); clear ho hb t0 t1)
        | (go_at_call 11; refine (equalI _ _ (castI (ordRes r L1)) (castI (ordRes r L1)) _ (by simpa [castI] using O5b.out.ints) (by simpa [castI] using O6.out.ints) (by have := ordRes_len r L1; simp [castI]; omega) (by have := ordRes_len r L1; simp [castI]; omega)).mono ?_; rintro e w7 ⟨rfl, hb⟩; rw [show (castI (ordRes r L1) == castI (ordRes r L1)) = true by simp]; have Q3 := Lib.hid (Q2.out.trans (hb.mono (by omega))); have s0 := (hb.cell (p := ⟨wr.heap.size, 0, none⟩) (by simp; omega)).trans u0; have s1 := (hb.cell (p := ⟨wr.heap.size, 1, none⟩) (by simp; omega)).trans u1; have hz7 : wr.heap.size + 1 ≤ w7.heap.size := (by have := hb.size; omega); clear hb u0 u1)
        | (go_at_call 12; refine (check r _ L1 _ (AW.out.below Q3.out)).mono ?_; rintro e w8 ⟨rfl, hb⟩; have Q4 := Lib.hid (Q3.out.trans (hb.mono (by omega))); clear hb))
      go_roundw
      case rel => exact ⟨1, by go_num, by omega, B.out.trans (Q4.out.mono hwz)⟩
      case measure => simp [intOf]
    · by_cases hj1 : j = 1
      · subst hj1
        have y0 := (B.out.cell (p := ⟨w1.heap.size, 2, none⟩) hll).trans K2.out
        have y1 := (B.out.cell (p := ⟨w1.heap.size, 3, none⟩) hll).trans K3.out
        have AW := Lib.hid (A2l.out.below B.out)
        go_wp2_with (first
          | (go_at_call 9; refine (order s _ L2 _ (AW.out.below ((Below.refl _ _).alloc (Nat.le_refl _) _))).mono ?_; rintro e w5 ⟨v5, rfl, ho, hb⟩; obtain ⟨a5, c5, rfl⟩ := ho.form; have O5 := Lib.hid ho.toI; have Q1 : Hid (Below wr.heap.size wr w5) := Lib.hid (((Below.refl _ _).alloc (Nat.le_refl _) _).trans (hb.mono (by simp))); have t0 := (hb.cell (p := ⟨wr.heap.size, 0, none⟩) (by simp)); have t1 := (hb.cell (p := ⟨wr.heap.size, 1, none⟩) (by simp)); simp at t0 t1; have hz5 : wr.heap.size + 1 ≤ w5.heap.size := (by have := hb.size; simpa using this); clear ho hb)
          | (go_at_call 10; refine (refOrder s _ L2 _ (AW.out.below Q1.out)).mono ?_; rintro e w6 ⟨v6, rfl, ho, hb⟩; obtain ⟨a6, c6, rfl⟩ := ho.form; have O6 := Lib.hid ho.toI; have O5b := Lib.hid (O5.out.below hb); have Q2 := Lib.hid (Q1.out.trans (hb.mono (by omega))); have u0 := (hb.cell (p := ⟨wr.heap.size, 0, none⟩) (by simp; omega)).trans t0; have u1 := (hb.cell (p := ⟨wr.heap.size, 1, none⟩) (by simp; omega)).trans t1; have hz6 : wr.heap.size + 1 ≤ w6.heap.size := (by have := hb.size; omega); clear ho hb t0 t1)
          | (go_at_call 11; refine (equalI _ _ (castI (ordRes s L2)) (castI (ordRes s L2)) _ (by simpa [castI] using O5b.out.ints) (by simpa [castI] using O6.out.ints) (by have := ordRes_len s L2; simp [castI]; omega) (by have := ordRes_len s L2; simp [castI]; omega)).mono ?_; rintro e w7 ⟨rfl, hb⟩; rw [show (castI (ordRes s L2) == castI (ordRes s L2)) = true by simp]; have Q3 := Lib.hid (Q2.out.trans (hb.mono (by omega))); have s0 := (hb.cell (p := ⟨wr.heap.size, 0, none⟩) (by simp; omega)).trans u0; have s1 := (hb.cell (p := ⟨wr.heap.size, 1, none⟩) (by simp; omega)).trans u1; have hz7 : wr.heap.size + 1 ≤ w7.heap.size := (by have := hb.size; omega); clear hb u0 u1)
          | (go_at_call 12; refine (check s _ L2 _ (AW.out.below Q3.out)).mono ?_; rintro e w8 ⟨rfl, hb⟩; have Q4 := Lib.hid (Q3.out.trans (hb.mono (by omega))); clear hb))
        go_roundw
        case rel => exact ⟨2, by go_num, by omega, B.out.trans (Q4.out.mono hwz)⟩
        case measure => simp [intOf]
      · obtain rfl : j = 2 := by omega
        go_wp2_with (go_at_call 13; refine (wakes _).mono ?_; rintro e w9 ⟨rfl, hb⟩; have B9 := Lib.hid hb; clear hb)
        go_ret
        exact ⟨rfl, (BL.out.trans (B.out.mono hlw)).trans (B9.out.mono (by omega))⟩
end Go.Proofs.Ytdapbhnonhamhaa
