/-
  The small calls of package norm: a direction behind a bend, the contrary one, the one in which an edge comes; the next cell. Conditions: directions from 0 to 3; bends of letters.
-/
import Derived.Test.YtecifgaekefkpaaDoorNmC
import Derived.Test.YtecifgaekefkpaaDoorNzDa
import Derived.Laws.RangeString
namespace Go.Proofs.YtecifgaekefkpaaDoor
open Go.RowKit Go.Proofs.YtecifgaekefkpaaDoor.LexM Go.Proofs.YtecifgaekefkpaaDoor.ParM Go.Proofs.YtecifgaekefkpaaDoor.GrM Go.Proofs.YtecifgaekefkpaaDoor.NmM

theorem bentY (d : Nat) (b : UInt8) (w : World) (hd : d < 4) : Calls Tryd.prog 49 #[.int .i64 d, .int .i32 (b.toNat : Int)] w fun e w' => e = .returned (.int .i64 (((d : Int) + addT b) % 4)) ∧ w = w' := by
  by_cases h : b = 76
  · subst h
    have e : leftI d 1 = ((d : Int) + addT 76) % 4 := by rw [leftI_t (by omega) (by omega), addT_l]
    have h1 := kept (left_any d 1 w)
    rw [e] at h1
    have L := Lib.hid h1
    have q : (((76 : UInt8).toNat : Int) == 76) = true := rfl
    generalize ((d : Int) + addT 76) % 4 = z at *
    clear e h1 hd
    go_enter Tryd.func49, Tryd.ntmps49
    go_wp2_with (go_at_call 48; refine L.out.mono ?_; rintro e w' ⟨rfl, rfl⟩)
    go_ret
    exact ⟨rfl, rfl⟩
  · have e : leftI d (-1) = ((d : Int) + addT b) % 4 := by rw [leftI_t (by omega) (by omega), addT_r h]; omega
    have h1 := kept (left_any d (-1) w)
    rw [e] at h1
    have L := Lib.hid h1
    have q : ((b.toNat : Int) == 76) = false := by rw [byte_test b 76 76 rfl]; simpa using h
    generalize ((d : Int) + addT b) % 4 = z at *
    clear e h1 hd h
    go_enter Tryd.func49, Tryd.ntmps49
    go_wp2_with (go_at_call 48; refine L.out.mono ?_; rintro e w' ⟨rfl, rfl⟩)
    go_ret
    exact ⟨rfl, rfl⟩
theorem contraryN (d : Nat) (w : World) (hd : d < 4) : Calls Tryd.prog 33 #[.int .i64 d] w fun e w' => e = .returned (.int .i64 (((d : Int) + 2) % 4)) ∧ w = w' := by
  have e : leftI d 2 = ((d : Int) + 2) % 4 := leftI_t (by omega) (by omega)
  have h := left_any d 2 w
  rw [e] at h
  have L := Lib.hid (kept h)
  generalize ((d : Int) + 2) % 4 = z at *
  clear h e
  go_enter Tryd.func33, Tryd.ntmps33
  go_wp2_with (go_at_call 48; refine L.out.mono ?_; rintro e w' ⟨rfl, rfl⟩)
  go_ret
  exact ⟨rfl, rfl⟩
/-- Letters alone. -/
def Asc (l : List UInt8) : Prop := ∀ b ∈ l, b.toNat < 128
def ComR (d : Int) (l : List UInt8) (s : ByteArray) (wb wr : World) (dv : Value) : Prop := ∃ (k z : Nat), dv = .int .i64 z ∧ (z : Int) = lastT d (l.take k) ∧ k ≤ l.length ∧ wr = wb.iter s k
set_option maxHeartbeats 4000000 in
theorem comesY (y1 y2 y3 : Int) (y4 : List UInt8) (w : World) (ha : Asc y4) (hz : y4.length ≤ 2000000) (h0 : 0 ≤ y3) (h3 : y3 ≤ 3) :
    Calls Tryd.prog 34 #[.agg #[.int .i64 y1, .int .i64 y2, .int .i64 y3, .string (bs y4)]] w fun r w' => r = .returned (.int .i64 (lastT y3 y4)) ∧ Below w.heap.size w w' := by
  have hzb : (bs y4).size ≤ 2000000 := by rw [bs_size]; exact hz
  have HZ := Lib.hid (bs_size y4)
  have HA := Lib.hid ha
  obtain ⟨sb, hsb⟩ : ∃ s, bs y4 = s := ⟨_, rfl⟩
  have DA : Hid (sb.data.toList = y4) := Lib.hid (by rw [← hsb, bs_data])
  have L0 := Lib.hid (lastT_nil h0 h3)
  obtain ⟨d0, hd0⟩ : ∃ d : Nat, (d : Int) = y3 := ⟨y3.toNat, by omega⟩
  rw [← hd0] at L0 ⊢
  rw [hsb] at HZ hzb ⊢
  clear hz hsb h0 h3 hd0 ha
  have BN := Lib.hid (fun (d : Nat) b w hd => bentY d b w hd)
  go_enter Tryd.func34, Tryd.ntmps34
  go_upto_region 1 with (fail)
  generalize hwb : World.alloc w _ = wb
  have hk : wb.heap[w.heap.size]? = some (.cells #[.int .i64 y1, .int .i64 y2, .int .i64 d0, .string sb] 54 (0, 0)) := by rw [← hwb]; exact heap_alloc_new w _
  have B0 : Hid (Below w.heap.size w wb) := Lib.hid (by rw [← hwb]; exact (Below.refl _ _).alloc (Nat.le_refl _) _)
  have x2 : wb.cell? ⟨w.heap.size, 2, none⟩ = some (.int .i64 d0) := by simp [World.cell?, hk]
  have x3 : wb.cell? ⟨w.heap.size, 3, none⟩ = some (.string sb) := by simp [World.cell?, hk]
  have xl := (Array.getElem?_eq_some_iff.1 hk).1
  clear hwb hk
  go_wp2
  go_loopw [3] (fun dv wr => ComR d0 y4 sb wb wr dv) (fun _ wr => sb.size - wr.iterPos wb.heap.size)
  case atStart => exact ⟨0, d0, rfl, L0.out.symm, Nat.zero_le _, rfl⟩
  case round =>
    obtain ⟨k, z, rfl, hz, hk, rfl⟩ := hrel
    have hks : k ≤ sb.size := by rw [HZ.out]; exact hk
    have hr := lastT_range d0 (y4.take k)
    rw [← hz] at hr
    have hz3 : z < 4 := by omega
    have Z := Lib.hid hz
    clear hz hk hr
    by_cases hlt : k < sb.size
    · have hb := byte_at sb k hlt
      obtain ⟨b, hbe⟩ : ∃ b, sb[k]'hlt = b := ⟨_, rfl⟩
      rw [hbe, DA.out] at hb
      have TS := Lib.hid (take_snoc _ _ _ hb)
      have hb8 := HA.out b (List.mem_of_getElem? hb)
      have hnx := fun ty => run_next_ascii (P := Tryd.prog) wb sb k ty hlt (by rw [hbe]; exact hb8)
      rw [hbe] at hnx
      have BB := Lib.hid (fun w => BN.out z b w hz3)
      obtain ⟨y, hy⟩ : ∃ y : Nat, ((z : Int) + addT b) % 4 = (y : Int) := ⟨(((z : Int) + addT b) % 4).toNat, by omega⟩
      rw [hy] at BB
      have N : Hid ((y : Int) = lastT d0 (y4.take (k + 1))) := Lib.hid (by rw [TS.out, last_snoc, ← Z.out, hy])
      clear hb hbe hb8 hy
      go_wp2_with (go_at_call 49; refine (BB.out _).mono ?_; rintro e w' ⟨rfl, rfl⟩)
      go_roundw
      case rel => exact ⟨k + 1, y, rfl, N.out, by rw [← HZ.out]; omega, rfl⟩
      case measure => (simp [World.iterPos, World.iter_heap] <;> omega)
    · obtain rfl : k = sb.size := by omega
      have hnx := fun ty => run_next_end (P := Tryd.prog) wb sb sb.size ty (Nat.lt_irrefl _)
      have hz := Z.out
      rw [HZ.out, List.take_length] at hz
      have Z2 := Lib.hid hz
      clear hz
      go_wp2
      go_ret
      exact ⟨ret_int Z2.out, B0.out.alloc B0.out.size _⟩
end Go.Proofs.YtecifgaekefkpaaDoor
