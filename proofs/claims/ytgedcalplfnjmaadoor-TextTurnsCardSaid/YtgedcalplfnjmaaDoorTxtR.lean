/-
  What the reference's Last and Back answer. Conditions: edges that may be, bends of at most 2000000 letters.
-/
import Derived.Test.YtgedcalplfnjmaaDoorTxtQ
namespace Go.Proofs.YtgedcalplfnjmaaDoor
open Go.RowKit Go.Proofs.YtgedcalplfnjmaaDoor.LexM Go.Proofs.YtgedcalplfnjmaaDoor.ParM

theorem addT_l : addT 76 = 1 := rfl
theorem addT_r {b : UInt8} (h : b ≠ 76) : addT b = 3 := by unfold addT; rw [if_neg h]
def RlstRel (d : Int) (l : List UInt8) (wb wr : World) (dv iv : Value) : Prop := ∃ (k z : Nat), iv = .int .i64 k ∧ dv = .int .i64 z ∧ (z : Int) = lastT d (l.take k) ∧ k ≤ l.length ∧ wr = wb
set_option maxHeartbeats 4000000 in
set_option maxRecDepth 100000 in
theorem refLast (y1 y2 y3 : Int) (y4 : List UInt8) (w : World) (hz : y4.length ≤ 2000000) (h0 : 0 ≤ y3) (h3 : y3 ≤ 3) :
    Calls Tryd.prog 18 #[.agg #[.int .i64 y1, .int .i64 y2, .int .i64 y3, .string (bs y4)]] w fun r w' => r = .returned (.int .i64 (lastT y3 y4)) ∧ Below w.heap.size w w' := by
  have hzb : (bs y4).size ≤ 2000000 := by rw [bs_size]; exact hz
  have HZ := Lib.hid (bs_size y4)
  obtain ⟨sb, hsb⟩ : ∃ s, bs y4 = s := ⟨_, rfl⟩
  have DA : Hid (sb.data.toList = y4) := Lib.hid (by rw [← hsb, bs_data])
  have L0 := Lib.hid (lastT_nil h0 h3)
  obtain ⟨d0, hd0⟩ : ∃ d : Nat, (d : Int) = y3 := ⟨y3.toNat, by omega⟩
  rw [← hd0] at L0 ⊢
  rw [hsb] at HZ hzb ⊢
  clear hz hsb h0 h3 hd0
  go_enter Tryd.func18, Tryd.ntmps18
  go_upto_region 1 with (fail)
  generalize hwb : World.alloc w _ = wb
  have hk : wb.heap[w.heap.size]? = some (.cells #[.int .i64 y1, .int .i64 y2, .int .i64 d0, .string sb] 23 (0, 0)) := by rw [← hwb]; exact heap_alloc_new w _
  have B0 : Hid (Below w.heap.size w wb) := Lib.hid (by rw [← hwb]; exact (Below.refl _ _).alloc (Nat.le_refl _) _)
  have x2 : wb.cell? ⟨w.heap.size, 2, none⟩ = some (.int .i64 d0) := by simp [World.cell?, hk]
  have x3 : wb.cell? ⟨w.heap.size, 3, none⟩ = some (.string sb) := by simp [World.cell?, hk]
  have xl := (Array.getElem?_eq_some_iff.1 hk).1
  clear hwb hk
  go_wp2
  go_loopw [3, 4] (fun dv iv wr => RlstRel d0 y4 wb wr dv iv) (fun _ iv _ => sb.size - (intOf iv).toNat)
  case atStart => exact ⟨0, d0, rfl, rfl, L0.out.symm, Nat.zero_le _, rfl⟩
  case round =>
    obtain ⟨k, z, rfl, rfl, hz, hk, rfl⟩ := hrel
    have hks : k ≤ sb.size := by rw [HZ.out]; exact hk
    have hr := lastT_range d0 (y4.take k)
    rw [← hz] at hr
    have hz3 : z ≤ 3 := by omega
    have Z := Lib.hid hz
    clear hz hk hr
    by_cases hlt : k < sb.size
    · have hb := byte_at sb k hlt
      obtain ⟨b, hbe⟩ : ∃ b, sb[k]'hlt = b := ⟨_, rfl⟩
      rw [hbe, DA.out] at hb
      have TS := Lib.hid (take_snoc _ _ _ hb)
      clear hb
      by_cases h1 : b = 76
      · obtain ⟨y, hy⟩ : ∃ y : Nat, ((z : Int) + 1) % 4 = (y : Int) := ⟨(((z : Int) + 1) % 4).toNat, by omega⟩
        have N : Hid ((y : Int) = lastT d0 (y4.take (k + 1))) := Lib.hid (by rw [TS.out, last_snoc, h1, addT_l, ← Z.out, hy])
        have hy2 : ((z : Int) + 1).tmod 4 = (y : Int) := by rw [Int.tmod_eq_emod_of_nonneg (by omega)]; exact hy
        subst h1
        have q1 : (((76 : UInt8).toNat : Int) == 76) = true := rfl
        go_wp2
        go_roundw
        case rel => exact ⟨k + 1, y, by go_num, by first | rfl | (simp [hy]) | (rw [hy]), N.out, by rw [← HZ.out]; omega, rfl⟩
        case measure => (simp [intOf] <;> omega)
      · obtain ⟨y, hy⟩ : ∃ y : Nat, ((z : Int) + 3) % 4 = (y : Int) := ⟨(((z : Int) + 3) % 4).toNat, by omega⟩
        have N : Hid ((y : Int) = lastT d0 (y4.take (k + 1))) := Lib.hid (by rw [TS.out, last_snoc, addT_r h1, ← Z.out, hy])
        have hy2 : ((z : Int) + 3).tmod 4 = (y : Int) := by rw [Int.tmod_eq_emod_of_nonneg (by omega)]; exact hy
        have q1 : ((b.toNat : Int) == 76) = false := by rw [byte_test b 76 76 rfl]; simpa using h1
        clear h1
        go_wp2
        go_roundw
        case rel => exact ⟨k + 1, y, by go_num, by first | rfl | (simp [hy]) | (rw [hy]), N.out, by rw [← HZ.out]; omega, rfl⟩
        case measure => (simp [intOf] <;> omega)
    · obtain rfl : k = sb.size := by omega
      have hz := Z.out
      rw [HZ.out, List.take_length] at hz
      have Z2 := Lib.hid hz
      clear hz
      go_wp2
      go_ret
      exact ⟨ret_int Z2.out, B0.out⟩
def RbkRel (l : List UInt8) (wb wr : World) (bv iv : Value) : Prop := ∃ (k : Nat) (z : Int) (t : ByteArray), iv = .int .i64 z ∧ bv = .string t ∧ z = (k : Int) - 1 ∧ k ≤ l.length ∧ t = bs (bkT l k) ∧ wr = wb
theorem bs_put (l : List UInt8) (x : UInt8) : bs l ++ ⟨#[x]⟩ = bs (l ++ [x]) := by
  rw [← bs_list (bs l ++ ⟨#[x]⟩)]
  congr 1
set_option maxHeartbeats 8000000 in
set_option maxRecDepth 100000 in
theorem refBack (y1 y2 y3 : Int) (y4 : List UInt8) (w : World) (hz : y4.length ≤ 2000000) (h0 : 0 ≤ y3) (h3 : y3 ≤ 3) :
    Calls Tryd.prog 8 #[.agg #[.int .i64 y1, .int .i64 y2, .int .i64 y3, .string (bs y4)]] w fun r w' => r = .returned (.agg #[.int .i64 y2, .int .i64 y1, .int .i64 ((lastT y3 y4 + 2) % 4), .string (bs (backT y4))]) ∧ Below w.heap.size w w' := by
  have hzb : (bs y4).size ≤ 2000000 := by rw [bs_size]; exact hz
  have HZ := Lib.hid (bs_size y4)
  have L0 := fun w => refLast y1 y2 y3 y4 w hz h0 h3
  have hr := lastT_range y3 y4
  obtain ⟨c, hc⟩ : ∃ c : Nat, lastT y3 y4 = (c : Int) := ⟨(lastT y3 y4).toNat, by omega⟩
  rw [hc] at L0 hr ⊢
  have hc3 : c ≤ 3 := by omega
  have LA := Lib.hid L0
  have S0 := Lib.hid (BkSt.start w y1 y2 y3 (bs y4))
  obtain ⟨sb, hsb⟩ : ∃ s, bs y4 = s := ⟨_, rfl⟩
  have DA : Hid (sb.data.toList = y4) := Lib.hid (by rw [← hsb, bs_data])
  rw [hsb] at HZ hzb S0 LA ⊢
  clear hz hsb h0 h3 hr hc L0
  go_enter Tryd.func8, Tryd.ntmps8
  go_upto_region 1 with (fail)
  generalize hwb : World.alloc (World.alloc w _) _ = wb
  have S1 : Hid (BkSt w wb y1 y2 y3 sb) := Lib.hid (by rw [← hwb]; exact S0.out)
  obtain ⟨x0, x1, x2, x3, xl⟩ := S1.out.cs
  clear hwb S0
  go_upto_region 2 with (go_at_call 18; refine (LA.out _).mono ?_; rintro e w1 ⟨rfl, b1⟩; have S2 := Lib.hid (S1.out.step b1); clear b1)
  clear x0 x1 x2 x3 xl
  obtain ⟨x0, x1, x2, x3, xl⟩ := S2.out.cs
  obtain ⟨r0, r1, r2, r3, rl⟩ := S2.out.rs
  have j0 := S2.out.fr 0
  have j1 := S2.out.fr 1
  have j2 := S2.out.fr 2
  have j3 := S2.out.fr 3
  go_wp2
  go_loopw [4, 5] (fun bv iv wr => RbkRel y4 w1 wr bv iv) (fun _ iv _ => (intOf iv + 1).toNat)
  case atStart => exact ⟨sb.size, _, _, rfl, rfl, by first | rfl | go_num, by rw [HZ.out]; exact Nat.le_refl _, by rw [HZ.out, bkT_end]; rfl, rfl⟩
  case round =>
    obtain ⟨k, z, t, rfl, rfl, hz, hk, ht, rfl⟩ := hrel
    have hks : k ≤ sb.size := by rw [HZ.out]; exact hk
    have htz : t.size ≤ 2000000 := by rw [ht, bs_size, bkT_len]; rw [HZ.out] at hzb; omega
    have T := Lib.hid ht
    clear hk ht
    by_cases hp : 0 < k
    · obtain ⟨j, rfl⟩ : ∃ j, k = j + 1 := ⟨k - 1, by omega⟩
      obtain rfl : z = (j : Int) := by omega
      have hlt : j < sb.size := by omega
      have hb := byte_at sb j hlt
      obtain ⟨b, hbe⟩ : ∃ b, sb[j]'hlt = b := ⟨_, rfl⟩
      rw [hbe, DA.out] at hb
      have hjl : j < y4.length := by rw [← HZ.out]; exact hlt
      have hst := bkT_step hjl
      have hbj : y4[j] = b := by rw [List.getElem?_eq_getElem hjl] at hb; exact Option.some.inj hb
      rw [hbj] at hst
      have ST := Lib.hid hst
      clear hb hst hbj hz
      by_cases h1 : b = 76
      · have N : Hid (t ++ ⟨#[82]⟩ = bs (bkT y4 j)) := Lib.hid (by rw [T.out, ST.out, bs_put, h1]; rfl)
        subst h1
        have q1 : (((76 : UInt8).toNat : Int) == 76) = true := rfl
        go_wp2
        go_roundw
        case rel => exact ⟨j, _, _, rfl, rfl, by go_num, by rw [← HZ.out]; omega, N.out, rfl⟩
        case measure => (simp [intOf] <;> omega)
      · have N : Hid (t ++ ⟨#[76]⟩ = bs (bkT y4 j)) := Lib.hid (by rw [T.out, ST.out, bs_put]; unfold flipT; rw [if_neg h1])
        have q1 : ((b.toNat : Int) == 76) = false := by rw [byte_test b 76 76 rfl]; simpa using h1
        clear h1
        go_wp2
        go_roundw
        case rel => exact ⟨j, _, _, rfl, rfl, by go_num, by rw [← HZ.out]; omega, N.out, rfl⟩
        case measure => (simp [intOf] <;> omega)
    · obtain rfl : k = 0 := by omega
      obtain rfl : z = -1 := by omega
      have TB : Hid (t = bs (backT y4)) := Lib.hid (by rw [T.out, bkT_zero])
      obtain ⟨y, hy⟩ : ∃ y : Nat, ((c : Int) + 2) % 4 = (y : Int) := ⟨(((c : Int) + 2) % 4).toNat, by omega⟩
      have hy2 : ((c : Int) + 2).tmod 4 = (y : Int) := by rw [Int.tmod_eq_emod_of_nonneg (by omega)]; exact hy
      clear hz T
      go_wp2
      generalize hw6 : World.setCell _ ⟨w.heap.size + 1, 3, none⟩ _ = w6
      obtain ⟨u0, u1, u2, u3, hb⟩ := S2.out.filled _ _ _ _ hw6
      clear hw6
      refine bodyPost_ret (v := .agg #[.int .i64 y2, .int .i64 y1, .int .i64 y, .string t]) (by simp [results, Tryd.results8, go_sem, u0, u1, u2, u3]) rfl ⟨by rw [hy, TB.out], hb⟩
end Go.Proofs.YtgedcalplfnjmaaDoor
