/-
  What the document fixes of shapes' texts is so: the law's 'wakes' answers true. Conditions: the library's tables are laid.
-/
import Derived.Test.YtgchmoabhblmcaaGreatDoorParX
namespace Go.Proofs.YtgchmoabhblmcaaGreatDoor
open Go.RowKit Go.Proofs.YtgchmoabhblmcaaGreatDoor.LexM Go.Proofs.YtgchmoabhblmcaaGreatDoor.ParM

theorem w8a : par [115, 104, 97, 112, 101, 32, 112, 98, 10, 48, 32, 69, 32, 49, 32, 76, 82, 10, 101, 110, 100, 10] = (0, 0, [false, true], [(0, 1, 0, [76, 82])]) := by kernel_rfl
theorem w8b : par [115, 104, 97, 112, 101, 32, 112, 112, 10, 48, 32, 69, 32, 50, 10, 101, 110, 100, 10] = (3, 2, [], []) := by kernel_rfl
theorem parse8a (w : World) (hT : TabL w) : Calls Tryz.prog 6 #[.string ⟨#[115, 104, 97, 112, 101, 32, 112, 98, 10, 48, 32, 69, 32, 49, 32, 76, 82, 10, 101, 110, 100, 10]⟩] w fun e w' =>
    ∃ b1 o1 c1 b2 o2 c2, e = .returned (.tuple #[.agg #[.slice (some ⟨b1, o1, none⟩) 2 c1, .slice (some ⟨b2, o2, none⟩) 1 c2], .int .i64 0, .int .i64 0]) ∧ b1 < w'.heap.size ∧ b2 < w'.heap.size ∧ w'.cell? ⟨b1, o1 + 1, none⟩ = some (.bool true) ∧
      w'.cell? ⟨b2, o2, none⟩ = some (.int .i64 0) ∧ w'.cell? ⟨b2, o2 + 1, none⟩ = some (.int .i64 1) ∧ w'.cell? ⟨b2, o2 + 2, none⟩ = some (.int .i64 0) ∧ w'.cell? ⟨b2, o2 + 3, none⟩ = some (.string (bs [76, 82])) ∧ Below w.heap.size w w' := by
  refine (parse _ w hT).mono ?_
  rintro e w' ⟨bv, ev, rfl, hb, he, hw⟩
  have e1 : (⟨#[115, 104, 97, 112, 101, 32, 112, 98, 10, 48, 32, 69, 32, 49, 32, 76, 82, 10, 101, 110, 100, 10]⟩ : ByteArray).data.toList = [115, 104, 97, 112, 101, 32, 112, 98, 10, 48, 32, 69, 32, 49, 32, 76, 82, 10, 101, 110, 100, 10] := rfl
  rw [e1, w8a] at hb he
  rw [e1, w8a]
  obtain ⟨b1, o1, c1, rfl, h1, h2⟩ := hb.nth (i := 1) (by decide)
  obtain ⟨b2, o2, c2, rfl, h3, h4, h5, h6, h7⟩ := he.nth (i := 0) (by decide)
  exact ⟨b1, o1, c1, b2, o2, c2, rfl, h1, h3, h2, h4, h5, h6, h7, hw⟩
theorem parse8b (w : World) (hT : TabL w) : Calls Tryz.prog 6 #[.string ⟨#[115, 104, 97, 112, 101, 32, 112, 112, 10, 48, 32, 69, 32, 50, 10, 101, 110, 100, 10]⟩] w fun e w' =>
    ∃ A1 c1 A2 c2, e = .returned (.tuple #[.agg #[.slice A1 0 c1, .slice A2 0 c2], .int .i64 2, .int .i64 3]) ∧ Below w.heap.size w w' := by
  refine (parse _ w hT).mono ?_
  rintro e w' ⟨bv, ev, rfl, hb, he, hw⟩
  have e1 : (⟨#[115, 104, 97, 112, 101, 32, 112, 112, 10, 48, 32, 69, 32, 50, 10, 101, 110, 100, 10]⟩ : ByteArray).data.toList = [115, 104, 97, 112, 101, 32, 112, 112, 10, 48, 32, 69, 32, 50, 10, 101, 110, 100, 10] := rfl
  rw [e1, w8b] at hb he
  rw [e1, w8b]
  obtain ⟨A1, c1, rfl⟩ := hb.form
  obtain ⟨A2, c2, rfl⟩ := he.form
  exact ⟨A1, c1, A2, c2, rfl, hw⟩
theorem eql_edge (w : World) : (binOp .eql 29 (.agg #[.int .i64 0, .int .i64 1, .int .i64 0, .string (bs [76, 82])]) (.agg #[.int .i64 0, .int .i64 1, .int .i64 0, .string ⟨#[76, 82]⟩])).run Tryz.prog w = .ok (.bool true) w := by
  have hu := Tryz.underlying29
  have hi := Tryz.underlying3
  have hs := Tryz.underlying9
  rw [run_eql_struct]
  have h := run_equalIn_agg (P := Tryz.prog) w 9999 29 #[.int .i64 0, .int .i64 1, .int .i64 0, .string (bs [76, 82])] #[.int .i64 0, .int .i64 1, .int .i64 0, .string ⟨#[76, 82]⟩] (by kernel_rfl) heldE
  rw [h]
  unfold Program.fieldsOf
  rw [hu]
  simp [Op.eqFields, go_sem, bs]
set_option maxHeartbeats 4000000 in
set_option maxRecDepth 100000 in
theorem wakes8 (w : World) (hT : TabL w) : Calls Tryz.prog 8 #[] w fun e w' => e = .returned (.bool true) ∧ Below w.heap.size w w' := by
  have HT := Lib.hid hT
  have P1 := Lib.hid parse8a
  have P2 := Lib.hid parse8b
  have hq := fun W => eql_edge W
  clear hT
  go_enter Tryz.func8, Tryz.ntmps8
  go_wp2_with (fail)
  refine (P1.out _ HT.out).mono ?_
  rintro e w1 ⟨b1, o1, c1, b2, o2, c2, rfl, l1, l2, h1, h4, h5, h6, h7, hw⟩
  have B1 := Lib.hid hw
  clear hw
  go_upto_region 2 with (fail)
  generalize hwa : World.alloc w1 _ = wa
  have ba : Below w1.heap.size w1 wa := by rw [← hwa]; exact (Below.refl _ _).alloc (Nat.le_refl _) _
  have hk : wa.heap[w1.heap.size]? = some (.cells #[.slice (some ⟨b1, o1, none⟩) 2 c1, .slice (some ⟨b2, o2, none⟩) 1 c2] 26 (0, 0)) := by rw [← hwa]; exact heap_alloc_new w1 _
  have K := Lib.hid hk
  have hlk : w1.heap.size < wa.heap.size := (Array.getElem?_eq_some_iff.1 hk).1
  have BA : Hid (Below w.heap.size w wa) := Lib.hid (B1.out.trans (ba.mono B1.out.size))
  have BX := Lib.hid ba
  clear hwa hk ba
  go_wp2_with (fail)
  refine (P2.out _ (HT.out.below BA.out (Nat.le_refl _))).mono ?_
  rintro e w2 ⟨A3, c3, A4, c4, rfl, b2'⟩
  have y0 : w2.cell? ⟨w1.heap.size, 0, none⟩ = some (.slice (some ⟨b1, o1, none⟩) 2 c1) := by have h := b2'.block _ hlk; rw [K.out] at h; simp [World.cell?, h]
  have y1 : w2.cell? ⟨w1.heap.size, 1, none⟩ = some (.slice (some ⟨b2, o2, none⟩) 1 c2) := by have h := b2'.block _ hlk; rw [K.out] at h; simp [World.cell?, h]
  have bb : Below w1.heap.size w1 w2 := BX.out.trans (b2'.mono BX.out.size)
  have d1 := (bb.cell (p := ⟨b1, o1 + 1, none⟩) l1).trans h1
  have d4 := (bb.cell (p := ⟨b2, o2, none⟩) l2).trans h4
  have d5 := (bb.cell (p := ⟨b2, o2 + 1, none⟩) l2).trans h5
  have d6 := (bb.cell (p := ⟨b2, o2 + 2, none⟩) l2).trans h6
  have d7 := (bb.cell (p := ⟨b2, o2 + 3, none⟩) l2).trans h7
  have m1 := Nat.lt_of_lt_of_le l1 bb.size
  have m2 := Nat.lt_of_lt_of_le l2 bb.size
  have m3 := Nat.lt_of_lt_of_le hlk b2'.size
  have B2 : Hid (Below w.heap.size w w2) := Lib.hid (BA.out.trans (b2'.mono BA.out.size))
  clear b2' bb h1 h4 h5 h6 h7
  go_wp2
  go_ret
  exact ⟨rfl, B2.out.alloc B2.out.size _⟩
end Go.Proofs.YtgchmoabhblmcaaGreatDoor
