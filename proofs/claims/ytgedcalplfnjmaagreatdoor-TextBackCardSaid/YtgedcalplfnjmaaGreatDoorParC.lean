/-
  What the program's readBoxes answers; what is read so far, in memory. Conditions: texts of at most 2000000 bytes.
-/
import Derived.Test.YtgedcalplfnjmaaGreatDoorParB
import Derived.Lib.OthersKept
namespace Go.Proofs.YtgedcalplfnjmaaGreatDoor
open Go.RowKit Go.Proofs.YtgedcalplfnjmaaGreatDoor.LexM Go.Proofs.YtgedcalplfnjmaaGreatDoor.ParM

theorem mkBls (N : Nat) (hN : N ≤ 2000000) (w : World) : (Instr.makeSlice 22 (.int .i64 0) (.int .i64 (N : Int))).run Tryz.prog w = .ok (.slice (some ⟨w.heap.size, 0, none⟩) 0 N) (w.alloc (.cells (madeCells #[.bool false] N) 4)) := by
  obtain ⟨i, hi, hz, hs, hb⟩ := info_of infoBl
  have h := run_make (P := Tryz.prog) w 22 4 i (.bool false) Tryz.underlying22 hi hz .i64 .i64 0 (N : Int) (by decide) (by omega) (by rw [hb]; omega) (by omega)
  rw [hs, Nat.mul_one] at h
  simp only [Int.toNat_zero, Int.toNat_natCast] at h
  exact h
theorem newsB (w : World) (t : TypeId) (x : Bool) (b : Nat) (hb : w.heap.size = b) : ∀ j z, [Value.bool x][j]? = some z → (w.alloc (.cells #[.bool x] t)).cell? ((⟨b, 0, none⟩ : Addr).add j) = some z := by
  intro j z hz
  have hj : j = 0 := by have := List.getElem?_eq_some_iff.1 hz; simp at this; omega
  subst hj hb
  simp at hz
  subst hz
  go_simp
theorem oneB (x : Bool) : ∀ z ∈ [Value.bool x], z.oneCell' = true := by
  intro z hz
  simp at hz
  subst hz
  rfl
theorem row_ne_iter {w : World} {B n k it p : Nat} {e : TypeId} {v : Value} {xs : List Value} {s : ByteArray} (h : w.ownsRow B e k v n xs) (hi : w.heap[it]? = some (.stringIter s p)) : v.ownBlock ≠ some it := by
  intro hc
  rcases h.2 with ⟨rfl, _⟩ | ⟨g, cap, cur, rfl, _, hg, _⟩
  · cases hc
  · have : g = it := by simpa [Value.ownBlock] using hc
    subst this; rw [hg] at hi; cases hi
theorem OwnB.at_ {w : World} {B n : Nat} {v : Value} {l : List Bool} (h : OwnB w B v l) (e : l.length = n) : w.ownsRow B 4 1 v n (l.map Value.bool) := by subst e; exact h
theorem OwnB.snocAt {w : World} {B n : Nat} {v : Value} {l : List Bool} {a : Bool} (e : l.length = n) (h : w.ownsRow B 4 1 v (n + 1) (l.map Value.bool ++ [.bool a])) : OwnB w B v (l ++ [a]) := by subst e; exact OwnB.snoc h
/-- Where readBoxes stands: behind k letters. -/
structure BxIn (s : ByteArray) (w wr : World) (bv : Value) (k : Nat) : Prop where
  le : k ≤ s.size
  good : isBox (s.data.toList.take k) = true
  iter : wr.heap[w.heap.size + 1]? = some (.stringIter s k)
  own : OwnB wr w.heap.size bv (boxesOf (s.data.toList.take k))
  below : Below w.heap.size w wr
theorem BxIn.len {s : ByteArray} {w wr : World} {bv : Value} {k : Nat} (h : BxIn s w wr bv k) : (boxesOf (s.data.toList.take k)).length = k := by
  have := h.le
  have := size_list s
  simp [boxesOf]; omega
def isBx (l : List UInt8) : Bool := decide (l = [45]) || isBox l
def bxV (l : List UInt8) : List Bool := if l = [45] then [] else if isBox l = true then boxesOf l else []
def BoxP (l : List UInt8) (w : World) (e : Ending) (w' : World) : Prop := ∃ v, e = .returned (.tuple #[v, .bool (isBx l)]) ∧ OwnB w' w.heap.size v (bxV l) ∧ Below w.heap.size w w'
theorem not_box {l : List UInt8} {b : UInt8} (hb : b ∈ l) (h1 : b ≠ 112) (h2 : b ≠ 98) : isBox l = false := by
  rw [Bool.eq_false_iff]
  intro hc
  have := List.all_eq_true.1 hc b hb
  simp [h1, h2] at this
theorem box_snoc {l : List UInt8} {b : UInt8} (h : isBox l = true) (hb : b = 112 ∨ b = 98) : isBox (l ++ [b]) = true := by
  unfold isBox at h ⊢
  rw [List.all_append, h]
  rcases hb with rfl | rfl <;> decide
theorem boxesOf_snoc (l : List UInt8) (b : UInt8) : boxesOf (l ++ [b]) = boxesOf l ++ [decide (b = 98)] := by simp [boxesOf]
/-- The iterator moved on. -/
theorem BxIn.moved {s : ByteArray} {w wr : World} {bv : Value} {k : Nat} (h : BxIn s w wr bv k) (k2 : Nat) :
    (wr.iterAt (w.heap.size + 1) s k2).heap[w.heap.size + 1]? = some (.stringIter s k2) ∧ OwnB (wr.iterAt (w.heap.size + 1) s k2) w.heap.size bv (boxesOf (s.data.toList.take k)) ∧ Below w.heap.size w (wr.iterAt (w.heap.size + 1) s k2) ∧ (wr.iterAt (w.heap.size + 1) s k2).heap.size = wr.heap.size := by
  have hn := row_ne_iter h.own h.iter
  refine ⟨Lib.iterAt_heap wr _ s k k2 h.iter, ownsRow_block h.own (fun b hb => ?_), Lib.below_iterAt h.below (by omega) s k2, Lib.iterAt_size _ _ _ _⟩
  exact Lib.iterAt_other wr _ b s k2 (fun e => hn (by rw [hb, e]))
set_option maxHeartbeats 4000000 in
set_option maxRecDepth 100000 in
theorem readBoxes (s : ByteArray) (w : World) (hs : s.size ≤ 2000000) : Calls Tryz.prog 33 #[.string s] w (BoxP s.data.toList w) := by
  obtain ⟨i0, hi, hz0, hz1, hz2⟩ := info_of infoBl
  by_cases h45 : s.data.toList = [45]
  · have hq : (s.toList == [45]) = true := by rw [toList_data, h45]; rfl
    have E := Lib.hid h45
    clear h45
    go_enter Tryz.func33, Tryz.ntmps33
    go_wp2
    go_ret2
    refine ⟨.slice none 0 0, ?_, ?_, Below.refl _ _⟩
    · unfold isBx; rw [E.out]; rfl
    · unfold bxV; rw [if_pos E.out]; exact World.ownsRow_nil _ _ _ _
  · have hq : (s.toList == [45]) = false := by rw [toList_data]; simpa using h45
    have N45 := Lib.hid h45
    have hmk := mkBls s.size hs
    have HZ := Lib.hid (size_list s)
    clear h45
    go_enter Tryz.func33, Tryz.ntmps33
    go_wp2
    clear hmk
    go_loopw [4] (fun bv wr => ∃ k, BxIn s w wr bv k) (fun _ wr => s.size - wr.iterPos (w.heap.size + 1))
    case atStart =>
      refine ⟨0, Nat.zero_le _, by simp [isBox], ?_, ?_, ((Below.refl _ w).alloc (Nat.le_refl _) _).alloc (by simp) _⟩
      · have := World.iter_heap (w.alloc (.cells (madeCells #[.bool false] s.size) 4)) s 0
        simpa using this
      · have h1 := World.ownsRow_made (base := w.heap.size) (e := 4) (size := 1) w (madeCells #[.bool false] s.size) s.size (Nat.le_refl _) (by unfold maxLen; omega) (by rw [Nat.mul_one]; exact size_madeCells _ _)
        exact ownsRow_out (S := fun _ => False) h1 (Out.ofBelow ((Below.refl _ _).alloc (Nat.le_refl _) _)) (fun _ _ e => e)
    case round =>
      obtain ⟨k, hI⟩ := hrel
      have hkl := hI.len
      have hks := hI.le
      obtain ⟨ao, co, e⟩ := hI.own.form
      rw [hkl] at e
      subst e
      have I := Lib.hid hI
      have hsz : w.heap.size + 1 < wr.heap.size := (Array.getElem?_eq_some_iff.1 hI.iter).1
      have hit := hI.iter
      clear hI
      by_cases hp : k < s.size
      · have hb := byte_at s k hp
        obtain ⟨b, hbe⟩ : ∃ b, s[k]'hp = b := ⟨_, rfl⟩
        rw [hbe] at hb
        by_cases ha : b.toNat < 128
        · have hnx : ∀ ty, (Instr.next (.pointer (some ⟨w.heap.size + 1, 0, none⟩)) true ty).run Tryz.prog wr = _ := fun ty => Lib.run_next_ascii_at wr (w.heap.size + 1) s k ty hit hp (by rw [hbe]; exact ha)
          rw [hbe] at hnx
          obtain ⟨m1, m2, m3, m4⟩ := I.out.moved (k + 1)
          obtain ⟨wi, hwi⟩ : ∃ wi, wr.iterAt (w.heap.size + 1) s (k + 1) = wi := ⟨_, rfl⟩
          rw [hwi] at m1 m2 m3 m4 hnx
          have M1 := Lib.hid m1
          have M2 := Lib.hid m2
          have M3 := Lib.hid m3
          have hwz : w.heap.size + 1 < wi.heap.size := by omega
          have HB := Lib.hid hb
          have T := Lib.hid (take_snoc _ _ _ hb)
          clear m1 m2 m3 m4 hwi hb hbe hit
          by_cases h12 : b = 112 ∨ b = 98
          · have GD := Lib.hid (box_snoc I.out.good h12)
            have BS := Lib.hid (boxesOf_snoc (s.data.toList.take k) b)
            obtain ⟨K, hK⟩ : ∃ K, boxesOf (s.data.toList.take k) = K := ⟨_, rfl⟩
            rw [hK] at M2 BS hkl
            have KL := Lib.hid hkl
            clear hK hkl
            rcases h12 with rfl | rfl
            all_goals
              go_wp2_with (at_builtin; refine wpList_append_fresh rfl (.tmp 23) (.tmp 26) 22 rfl w.heap.size 4 i0 (.bool false) 1 1 Tryz.underlying22 hi hz0 hz1 hz2 rfl (by decide) (.slice ao k co) k (K.map Value.bool) rfl ((M2.out.below ((Below.refl _ _).alloc (Nat.le_refl _) _) (Nat.le_refl _)).at_ KL.out) ⟨wi.heap.size, 0, none⟩ 1 1 [.bool _] rfl rfl (newsB _ _ _ _ (by simp)) (oneB _) (by unfold maxLen; omega) (by omega) (by simp; omega) ?_; intro v5 w5 hown hgrow hfr; have O5 := Lib.hid (OwnB.snocAt KL.out hown); have I5 : Hid (w5.heap[w.heap.size + 1]? = some (.stringIter s (k + 1))) := Lib.hid (by rw [hgrow.block _ (by simp; omega) (fun e => row_ne_iter M2.out M1.out e.symm), Below.heap_alloc _ _ _ hwz]; exact M1.out); have B5 : Hid (Below w.heap.size w w5) := Lib.hid (M3.out.trans (((Below.refl _ _).alloc (Nat.le_refl _) _).mono (by omega)) |>.grown hgrow (by simp; omega) (fun q hq => (World.ownsRow.lt M2.out q hq).1)); clear hown hgrow hfr)
              go_roundw
              case rel =>
                refine ⟨k + 1, by omega, by rw [T.out]; exact GD.out, I5.out, ?_, B5.out⟩
                rw [T.out, BS.out]; exact O5.out
              case measure =>
                simp only [World.iterPos, I5.out, I.out.iter]
                omega
          · have hno := not_box (List.mem_of_getElem? HB.out) (fun e => h12 (Or.inl e)) (fun e => h12 (Or.inr e))
            have NO := Lib.hid hno
            have hx1 : ((b.toNat : Int) == 112) = false := by rw [byte_test b 112 112 rfl]; simpa using fun e => h12 (Or.inl e)
            have hx2 : ((b.toNat : Int) == 98) = false := by rw [byte_test b 98 98 rfl]; simpa using fun e => h12 (Or.inr e)
            have hx3 : ((b.toNat : Int) != 112) = true := by simpa [bne] using hx1
            have hx4 : ((b.toNat : Int) != 98) = true := by simpa [bne] using hx2
            clear h12 hno
            go_wp2
            go_ret2
            refine ⟨.slice none 0 0, ?_, ?_, M3.out⟩
            · unfold isBx; rw [decide_eq_false N45.out, NO.out]; rfl
            · unfold bxV; rw [if_neg N45.out, NO.out]; exact World.ownsRow_nil _ _ _ _
        · have hnx : ∀ ty, (Instr.next (.pointer (some ⟨w.heap.size + 1, 0, none⟩)) true ty).run Tryz.prog wr = _ := fun ty => Lib.run_next_any_at wr (w.heap.size + 1) s k ty hit hp
          have hh := (decode_high s k hp (by rw [hbe]; omega)).1
          obtain ⟨r, hr⟩ : ∃ r, (Utf8.decode s k).1 = r := ⟨_, rfl⟩
          obtain ⟨q, hq2⟩ : ∃ q, (Utf8.decode s k).2 = q := ⟨_, rfl⟩
          rw [hr] at hh
          rw [hr, hq2] at hnx
          obtain ⟨_, _, m3, _⟩ := I.out.moved (k + q)
          obtain ⟨wi, hwi⟩ : ∃ wi, wr.iterAt (w.heap.size + 1) s (k + q) = wi := ⟨_, rfl⟩
          rw [hwi] at m3 hnx
          have M3 := Lib.hid m3
          have hno := not_box (List.mem_of_getElem? hb) (fun e => ha (by rw [e]; decide)) (fun e => ha (by rw [e]; decide))
          have NO := Lib.hid hno
          have hx1 : ((r : Int) == 112) = false := by rw [beq_eq_false_iff_ne]; omega
          have hx2 : ((r : Int) == 98) = false := by rw [beq_eq_false_iff_ne]; omega
          have hx3 : ((r : Int) != 112) = true := by simpa [bne] using hx1
          have hx4 : ((r : Int) != 98) = true := by simpa [bne] using hx2
          clear hno hb hbe hit hr hq2 hwi m3 hh
          go_wp2
          go_ret2
          refine ⟨.slice none 0 0, ?_, ?_, M3.out⟩
          · unfold isBx; rw [decide_eq_false N45.out, NO.out]; rfl
          · unfold bxV; rw [if_neg N45.out, NO.out]; exact World.ownsRow_nil _ _ _ _
      · have hnx : ∀ ty, (Instr.next (.pointer (some ⟨w.heap.size + 1, 0, none⟩)) true ty).run Tryz.prog wr = _ := fun ty => Lib.run_next_end_at wr (w.heap.size + 1) s k ty hit hp
        have hks2 : k = s.size := by omega
        have hg := I.out.good
        rw [hks2, HZ.out, List.take_length] at hg
        have ho : OwnB wr w.heap.size (.slice ao k co) (boxesOf s.data.toList) := by
          have h := I.out.own
          rw [show s.data.toList.take k = s.data.toList by rw [hks2, HZ.out, List.take_length]] at h
          exact h
        have G := Lib.hid hg
        have O := Lib.hid ho
        clear hg ho
        go_wp2
        go_ret2
        refine ⟨.slice ao k co, ?_, ?_, I.out.below⟩
        · unfold isBx; rw [decide_eq_false N45.out, G.out]; rfl
        · unfold bxV; rw [if_neg N45.out, if_pos G.out]; exact O.out
end Go.Proofs.YtgedcalplfnjmaaGreatDoor
