/-
  What the code's areBends, lefts, backBends answer; a row of bytes of the call's own. Conditions: texts of at most 2000000 bytes.
-/
import Derived.Test.YtgedcalplfnjmaaDoorParX
import Derived.Test.YtgedcalplfnjmaaDoorTxtN
import Derived.Test.YtgedcalplfnjmaaDoorAppend
import Derived.Laws.BytesArg
namespace Go.Proofs.YtgedcalplfnjmaaDoor
open Go.RowKit Go.Proofs.YtgedcalplfnjmaaDoor.LexM Go.Proofs.YtgedcalplfnjmaaDoor.ParM

/-- A row of bytes of the call's own. -/
def bytV (b : UInt8) : Value := .int .u8 (b.toNat : Int)
def OwnU (w : World) (B : Nat) (v : Value) (L : List UInt8) : Prop := w.ownsRow B 5 1 v L.length (L.map bytV)
theorem OwnU.form {w : World} {B : Nat} {v : Value} {l : List UInt8} (h : OwnU w B v l) : ∃ ao cap, v = .slice ao l.length cap := by
  rcases h.2 with ⟨h1, h2⟩ | ⟨_, _, _, h, _⟩
  · exact ⟨none, 0, by rw [h2]; exact h1⟩
  · exact ⟨_, _, h⟩
theorem OwnU.below {w w' : World} {B C : Nat} {v : Value} {l : List UInt8} (h : OwnU w B v l) (o : Below C w w') (hC : w.heap.size ≤ C) : OwnU w' B v l := ownsRow_out (S := fun _ => False) h (Out.ofBelow (o.mono hC)) (fun _ _ e => e)
theorem OwnU.at_ {w : World} {B n : Nat} {v : Value} {l : List UInt8} (h : OwnU w B v l) (e : l.length = n) : w.ownsRow B 5 1 v n (l.map bytV) := by subst e; exact h
theorem OwnU.snocAt {w : World} {B n : Nat} {v : Value} {l : List UInt8} {a : UInt8} {z : Int} (hz : z = (a.toNat : Int)) (e : l.length = n) (h : w.ownsRow B 5 1 v (n + 1) (l.map bytV ++ [.int .u8 z])) : OwnU w B v (l ++ [a]) := by
  subst e hz
  unfold OwnU
  rw [List.length_append, List.map_append]
  exact h
theorem newsU (w : World) (t : TypeId) (x : Int) (b : Nat) (hb : w.heap.size = b) : ∀ j z, [Value.int .u8 x][j]? = some z → (w.alloc (.cells #[.int .u8 x] t)).cell? ((⟨b, 0, none⟩ : Addr).add j) = some z := by
  intro j z hz
  have hj : j = 0 := by have := List.getElem?_eq_some_iff.1 hz; simp at this; omega
  subst hj hb
  simp at hz
  subst hz
  go_simp
theorem oneU (x : Int) : ∀ z ∈ [Value.int .u8 x], z.oneCell' = true := by
  intro z hz
  simp at hz
  subst hz
  rfl
theorem infoU8 : (Tryd.prog.info? 5).map (fun i => (i.zero, i.size, i.bytes)) = some (some (.int .u8 0), 1, 1) := by kernel_rfl
theorem mkByt (N : Nat) (hN : N ≤ 4000000) (w : World) : (Instr.makeSlice 36 (.int .i64 0) (.int .i64 (N : Int))).run Tryd.prog w = .ok (.slice (some ⟨w.heap.size, 0, none⟩) 0 N) (w.alloc (.cells (madeCells #[.int .u8 0] N) 5)) := by
  obtain ⟨i, hi, hz, hs, hb⟩ := info_of infoU8
  have h := run_make (P := Tryd.prog) w 36 5 i (.int .u8 0) Tryd.underlying36 hi hz .i64 .i64 0 (N : Int) (by decide) (by omega) (by rw [hb]; omega) (by omega)
  rw [hs, Nat.mul_one] at h
  simp only [Int.toNat_zero, Int.toNat_natCast] at h
  exact h
theorem ownU_made (w : World) (N : Nat) (hN : N ≤ 4000000) : OwnU (w.alloc (.cells (madeCells #[.int .u8 0] N) 5)) w.heap.size (.slice (some ⟨w.heap.size, 0, none⟩) 0 N) [] :=
  World.ownsRow_made (base := w.heap.size) (e := 5) (size := 1) w (madeCells #[.int .u8 0] N) N (Nat.le_refl _) (by unfold maxLen; omega) (by rw [Nat.mul_one]; exact size_madeCells _ _)
theorem strOf_bytes (L : List UInt8) : strOfNums (L.map fun b => (b.toNat : Int)) = bs L := by
  unfold strOfNums bs
  rw [List.map_map]
  congr 2
  conv => rhs; rw [← List.map_id L]
  exact List.map_congr_left fun b _ => by simp
theorem convU (w : World) (B : Nat) (v : Value) (L : List UInt8) (n : Nat) (ao : Option Addr) (c : Nat) (h : OwnU w B v L) (hv : v = .slice ao n c) (hn : L.length = n) : (convert 36 9 (.slice ao n c)).run Tryd.prog w = .ok (.string (bs L)) w := by
  rcases h.2 with ⟨h1, h2⟩ | ⟨g, cap, cur, h1, _, hg, hc, hr⟩
  · rw [h1] at hv
    simp only [Value.slice.injEq] at hv
    obtain ⟨rfl, rfl, rfl⟩ := hv
    have hl : L = [] := List.eq_nil_of_length_eq_zero h2
    subst hl
    exact run_convert_bytes_nil w _ _ Tryd.underlying36 Tryd.underlying5 0 0 _ Tryd.underlying9
  · rw [h1] at hv
    simp only [Value.slice.injEq] at hv
    obtain ⟨rfl, rfl, rfl⟩ := hv
    have h' := h
    rw [h1] at h'
    rw [← strOf_bytes]
    refine run_convert_bytes_arg w _ _ Tryd.underlying36 Tryd.underlying5 g 0 _ cap (L.map fun b => (b.toNat : Int)) (by rw [List.length_map]) (fun i hi => ?_) _ Tryd.underlying9
    rw [Nat.zero_add, World.ownsRow.cellAt h' i (by simpa using hi)]
    rw [List.getElem?_map, List.getElem?_eq_getElem hi]
    simp [bytV, List.getD_eq_getElem?_getD, hi]

/-! The small calls. -/
theorem txt_more {l : List UInt8} {x : UInt8} (h : isTurns l = true) (hx : x = 76 ∨ x = 82) : isTurns (l ++ [x]) = true := by
  unfold isTurns at h ⊢
  rw [List.all_append, h]
  rcases hx with rfl | rfl <;> rfl
theorem txt_not {l : List UInt8} {b : UInt8} (hb : b ∈ l) (h1 : b ≠ 76) (h2 : b ≠ 82) : isTurns l = false := by
  rw [Bool.eq_false_iff]
  intro hc
  have := List.all_eq_true.1 hc b hb
  simp [h1, h2] at this
def TaRel (l : List UInt8) (w wr : World) (iv : Value) : Prop := ∃ k : Nat, iv = .int .i64 k ∧ k ≤ l.length ∧ isTurns (l.take k) = true ∧ wr = w
set_option maxHeartbeats 2000000 in
theorem areBendsT (s : ByteArray) (w : World) (hs : s.size ≤ 2000000) : Calls Tryd.prog 13 #[.string s] w fun e w' => e = .returned (.bool (isTurns s.data.toList)) ∧ w = w' := by
  have HZ := Lib.hid (size_list s)
  go_enter Tryd.func13, Tryd.ntmps13
  go_wp2
  go_loopw [6] (fun iv wr => TaRel s.data.toList w wr iv) (fun iv _ => s.size - (intOf iv).toNat)
  case atStart => exact ⟨0, rfl, Nat.zero_le _, rfl, rfl⟩
  case round =>
    obtain ⟨k, rfl, hk, ht, rfl⟩ := hrel
    have hks : k ≤ s.size := by rw [HZ.out]; exact hk
    have T := Lib.hid ht
    clear ht hk
    by_cases hlt : k < s.size
    · have hb := byte_at s k hlt
      obtain ⟨b, hbe⟩ : ∃ b, s[k]'hlt = b := ⟨_, rfl⟩
      rw [hbe] at hb
      have TS := Lib.hid (take_snoc _ _ _ hb)
      have HB := Lib.hid (List.mem_of_getElem? hb)
      clear hb
      by_cases h1 : b = 76 ∨ b = 82
      · have N : Hid (isTurns (s.data.toList.take (k + 1)) = true) := Lib.hid (by
          rw [TS.out]; exact txt_more T.out h1)
        rcases h1 with rfl | rfl
        · have q1 : (((76 : UInt8).toNat : Int) == 76) = true := rfl
          have q2 : (((76 : UInt8).toNat : Int) != 76) = false := rfl
          go_wp2
          go_roundw
          case rel => exact ⟨k + 1, by go_num, by rw [← HZ.out]; omega, N.out, rfl⟩
          case measure => (simp [intOf] <;> omega)
        · have q1 : (((82 : UInt8).toNat : Int) == 76) = false := rfl
          have q2 : (((82 : UInt8).toNat : Int) != 76) = true := rfl
          have q3 : (((82 : UInt8).toNat : Int) == 82) = true := rfl
          have q4 : (((82 : UInt8).toNat : Int) != 82) = false := rfl
          go_wp2
          go_roundw
          case rel => exact ⟨k + 1, by go_num, by rw [← HZ.out]; omega, N.out, rfl⟩
          case measure => (simp [intOf] <;> omega)
      · have NO := Lib.hid (txt_not HB.out (fun e => h1 (Or.inl e)) (fun e => h1 (Or.inr e)))
        have q1 : ((b.toNat : Int) == 76) = false := by rw [byte_test b 76 76 rfl]; simpa using fun e => h1 (Or.inl e)
        have q2 : ((b.toNat : Int) != 76) = true := by simpa [bne] using q1
        have q3 : ((b.toNat : Int) == 82) = false := by rw [byte_test b 82 82 rfl]; simpa using fun e => h1 (Or.inr e)
        have q4 : ((b.toNat : Int) != 82) = true := by simpa [bne] using q3
        clear h1
        go_wp2
        go_ret
        exact ⟨ret_bool NO.out.symm, rfl⟩
    · obtain rfl : k = s.size := by omega
      have ht := T.out
      rw [HZ.out, List.take_length] at ht
      have T2 := Lib.hid ht
      clear ht
      go_wp2
      go_ret
      exact ⟨ret_bool T2.out.symm, rfl⟩
def TlRel (l : List UInt8) (w wr : World) (nv iv : Value) : Prop := ∃ (k : Nat) (z : Int), iv = .int .i64 k ∧ nv = .int .i64 z ∧ z = sumC (l.take k) ∧ k ≤ l.length ∧ wr = w
set_option maxHeartbeats 2000000 in
theorem leftsT (s : ByteArray) (w : World) (hs : s.size ≤ 2000000) : Calls Tryd.prog 15 #[.string s] w fun e w' => e = .returned (.int .i64 (sumC s.data.toList)) ∧ w = w' := by
  have HZ := Lib.hid (size_list s)
  go_enter Tryd.func15, Tryd.ntmps15
  go_wp2
  go_loopw [3, 7] (fun nv iv wr => TlRel s.data.toList w wr nv iv) (fun _ iv _ => s.size - (intOf iv).toNat)
  case atStart => exact ⟨0, 0, rfl, rfl, rfl, Nat.zero_le _, rfl⟩
  case round =>
    obtain ⟨k, z, rfl, rfl, hz, hk, rfl⟩ := hrel
    have hks : k ≤ s.size := by rw [HZ.out]; exact hk
    have hzl := sumC_len (s.data.toList.take k)
    rw [← hz, List.length_take] at hzl
    have hz1 : -2000000 ≤ z := by omega
    have hz2 : z ≤ 2000000 := by omega
    have Z := Lib.hid hz
    clear hz hk hzl
    by_cases hlt : k < s.size
    · have hb := byte_at s k hlt
      obtain ⟨b, hbe⟩ : ∃ b, s[k]'hlt = b := ⟨_, rfl⟩
      rw [hbe] at hb
      have TS := Lib.hid (take_snoc _ _ _ hb)
      clear hb
      by_cases h1 : b = 76
      · have N : Hid (z + 1 = sumC (s.data.toList.take (k + 1))) := Lib.hid (by rw [TS.out, sumC_snoc, Z.out, h1]; rfl)
        subst h1
        have q1 : (((76 : UInt8).toNat : Int) == 76) = true := rfl
        go_wp2
        go_roundw
        case rel => exact ⟨k + 1, z + 1, by go_num, by go_num, N.out, by rw [← HZ.out]; omega, rfl⟩
        case measure => (simp [intOf] <;> omega)
      · have N : Hid (z - 1 = sumC (s.data.toList.take (k + 1))) := Lib.hid (by rw [TS.out, sumC_snoc, Z.out]; unfold addC; rw [if_neg h1]; omega)
        have q1 : ((b.toNat : Int) == 76) = false := by rw [byte_test b 76 76 rfl]; simpa using h1
        clear h1
        go_wp2
        go_roundw
        case rel => exact ⟨k + 1, z - 1, by go_num, by go_num, N.out, by rw [← HZ.out]; omega, rfl⟩
        case measure => (simp [intOf] <;> omega)
    · obtain rfl : k = s.size := by omega
      have hz := Z.out
      rw [HZ.out, List.take_length] at hz
      have Z2 := Lib.hid hz
      clear hz
      go_wp2
      go_ret
      exact ⟨ret_int Z2.out, rfl⟩
def TkRel (l : List UInt8) (w wr : World) (bv iv : Value) : Prop := ∃ (k : Nat) (z : Int), iv = .int .i64 z ∧ z = (k : Int) - 1 ∧ k ≤ l.length ∧ OwnU wr w.heap.size bv (bkT l k) ∧ Below w.heap.size w wr
set_option maxHeartbeats 4000000 in
set_option maxRecDepth 100000 in
theorem backBendsT (s : ByteArray) (w : World) (hs : s.size ≤ 2000000) : Calls Tryd.prog 16 #[.string s] w fun e w' => e = .returned (.string (bs (backT s.data.toList))) ∧ Below w.heap.size w w' := by
  have HZ := Lib.hid (size_list s)
  obtain ⟨i0, hi, hz0, hz1, hz2⟩ := info_of infoU8
  have hmk := mkByt s.size (by omega)
  have M0 := Lib.hid (ownU_made w s.size (by omega))
  go_enter Tryd.func16, Tryd.ntmps16
  go_wp2
  clear hmk
  go_loopw [3, 4] (fun bv iv wr => TkRel s.data.toList w wr bv iv) (fun _ iv _ => (intOf iv + 1).toNat)
  case atStart =>
    exact ⟨s.size, _, rfl, by first | rfl | go_num, by rw [HZ.out]; exact Nat.le_refl _, by rw [HZ.out, bkT_end]; exact M0.out, (Below.refl _ _).alloc (Nat.le_refl _) _⟩
  case round =>
    obtain ⟨k, z, rfl, hz, hk, hO, hBW⟩ := hrel
    have hks : k ≤ s.size := by rw [HZ.out]; exact hk
    have BW := Lib.hid hBW
    have O := Lib.hid hO
    have hwr := hBW.size
    obtain ⟨n, hn⟩ : ∃ n, (bkT s.data.toList k).length = n := ⟨_, rfl⟩
    have hn2 : n ≤ 2000000 := by rw [← hn, bkT_len]; rw [HZ.out] at hs; omega
    obtain ⟨ao, co, e⟩ := hO.form
    rw [hn] at e
    subst e
    have LN := Lib.hid hn
    clear hk hO hBW hn
    by_cases h0 : 0 < k
    · obtain ⟨j, rfl⟩ : ∃ j, k = j + 1 := ⟨k - 1, by omega⟩
      obtain rfl : z = (j : Int) := by omega
      have hlt : j < s.size := by omega
      have hb := byte_at s j hlt
      obtain ⟨b, hbe⟩ : ∃ b, s[j]'hlt = b := ⟨_, rfl⟩
      rw [hbe] at hb
      have hjl : j < s.data.toList.length := by rw [← HZ.out]; exact hlt
      have hst := bkT_step hjl
      have hbj : s.data.toList[j] = b := by rw [List.getElem?_eq_getElem hjl] at hb; exact Option.some.inj hb
      rw [hbj] at hst
      obtain ⟨K, hK⟩ : ∃ K, bkT s.data.toList (j + 1) = K := ⟨_, rfl⟩
      have o2 := O.out
      have ln := LN.out
      rw [hK] at hst o2 ln
      have ST := Lib.hid hst
      have O2 := Lib.hid o2
      have KL := Lib.hid ln
      clear hb hst hbj hK o2 ln O LN hz
      by_cases h1 : b = 76
      · have N : Hid (bkT s.data.toList j = K ++ [82]) := Lib.hid (by rw [ST.out, h1]; rfl)
        subst h1
        have q1 : (((76 : UInt8).toNat : Int) == 76) = true := rfl
        go_wp2_with (at_builtin; refine wpList_append_fresh rfl (.tmp 19) (.tmp 20) 36 rfl w.heap.size 5 i0 (.int .u8 0) 1 1 Tryd.underlying36 hi hz0 hz1 hz2 rfl (by decide) (.slice ao n co) n (K.map bytV) rfl ((O2.out.below ((Below.refl _ _).alloc (Nat.le_refl _) _) (Nat.le_refl _)).at_ KL.out) ⟨wr.heap.size, 0, none⟩ 1 1 [.int .u8 82] rfl rfl (newsU _ _ _ _ (by simp)) (oneU _) (by unfold maxLen; omega) (by omega) (by simp; omega) ?_; intro v5 w5 hown hgrow hfr; have O5 := Lib.hid (OwnU.snocAt (a := 82) rfl KL.out hown); have B5 : Hid (Below w.heap.size w w5) := Lib.hid (BW.out.trans (((Below.refl _ _).alloc (Nat.le_refl _) _).mono hwr) |>.grown hgrow (by simp; omega) (fun q hq => (World.ownsRow.lt O2.out q hq).1)); clear hown hgrow hfr)
        go_roundw
        case rel => exact ⟨j, _, rfl, by go_num, by rw [← HZ.out]; omega, by rw [N.out]; exact O5.out, B5.out⟩
        case measure => (simp [intOf] <;> omega)
      · have N : Hid (bkT s.data.toList j = K ++ [76]) := Lib.hid (by rw [ST.out]; unfold flipT; rw [if_neg h1])
        have q1 : ((b.toNat : Int) == 76) = false := by rw [byte_test b 76 76 rfl]; simpa using h1
        clear h1
        go_wp2_with (at_builtin; refine wpList_append_fresh rfl (.tmp 22) (.tmp 23) 36 rfl w.heap.size 5 i0 (.int .u8 0) 1 1 Tryd.underlying36 hi hz0 hz1 hz2 rfl (by decide) (.slice ao n co) n (K.map bytV) rfl ((O2.out.below ((Below.refl _ _).alloc (Nat.le_refl _) _) (Nat.le_refl _)).at_ KL.out) ⟨wr.heap.size, 0, none⟩ 1 1 [.int .u8 76] rfl rfl (newsU _ _ _ _ (by simp)) (oneU _) (by unfold maxLen; omega) (by omega) (by simp; omega) ?_; intro v5 w5 hown hgrow hfr; have O5 := Lib.hid (OwnU.snocAt (a := 76) rfl KL.out hown); have B5 : Hid (Below w.heap.size w w5) := Lib.hid (BW.out.trans (((Below.refl _ _).alloc (Nat.le_refl _) _).mono hwr) |>.grown hgrow (by simp; omega) (fun q hq => (World.ownsRow.lt O2.out q hq).1)); clear hown hgrow hfr)
        go_roundw
        case rel => exact ⟨j, _, rfl, by go_num, by rw [← HZ.out]; omega, by rw [N.out]; exact O5.out, B5.out⟩
        case measure => (simp [intOf] <;> omega)
    · obtain rfl : k = 0 := by omega
      obtain rfl : z = -1 := by omega
      have CV := convU wr w.heap.size (.slice ao n co) _ n ao co O.out rfl LN.out
      rw [bkT_zero] at CV
      clear O LN hz
      go_wp2
      go_ret
      exact ⟨rfl, BW.out⟩
end Go.Proofs.YtgedcalplfnjmaaDoor
