/-
  DagMany: at every two numbers the call answers true. Conditions: the numbers are of 16 bits.
-/
import Derived.Test.YtnofkddcnjdjnaaDagT
namespace Go.Proofs.Ytnofkddcnjdjnaa
open Go.RowKit Go.Proofs.Ytnofkddcnjdjnaa.DagM

/-- c arcs, the first k of them from 0 to 1. -/
def mny (c k : Nat) : List Arc := (List.range c).map fun i => if i < k then ((0, 1, 0) : Arc) else (0, 0, 0)
theorem mny_len (c k : Nat) : (mny c k).length = c := by simp [mny]
theorem mny_set {c k : Nat} (h : k < c) : (mny c k).set k (0, 1, 0) = mny c (k + 1) := by
  apply List.ext_getElem?
  intro i
  rw [List.getElem?_set]
  unfold mny
  by_cases h2 : i < c
  · by_cases h3 : k = i
    · subst h3; simp [h2]
    · have h4 : (i < k + 1) ↔ (i < k) := by omega
      simp [h2, h3, h4]
  · by_cases h3 : k = i
    · omega
    · simp [h2, h3]
theorem mny_all (c : Nat) : ∀ a ∈ mny c c, a = (0, 1, 0) := by
  intro a ha
  obtain ⟨i, hi, rfl⟩ := List.mem_map.1 ha
  rw [if_pos (by simpa using hi)]
theorem mny_err (k c : Nat) : ordErr k (mny c c) = if 4096 < k ∨ 16384 < c ∨ (k < 2 ∧ 0 < c) then 2 else 0 := by
  split
  · rename_i h
    unfold ordErr
    rw [if_neg]
    intro hm
    have := (mayB_iff _ _).1 hm
    have h1 := this.n1
    have h2 := this.len
    rw [mny_len] at h2
    rcases h with h | h | ⟨h, h0⟩
    · omega
    · omega
    · have hin : ((0, 1, 0) : Arc) ∈ mny c c := List.mem_map.2 ⟨0, by simpa using h0, by simp [h0]⟩
      have := this.ok _ hin
      simp only at this
      omega
  · rename_i h
    have hM : May k (mny c c) := ⟨by omega, by omega, by rw [mny_len]; omega, fun a ha => by
      rw [mny_all c a ha]
      have : 0 < c := by
        rcases Nat.eq_zero_or_pos c with h0 | h0
        · subst h0; simp [mny] at ha
        · exact h0
      simp only
      omega⟩
    exact ord_rises hM (fun i => (i : Int)) (fun a ha => by rw [mny_all c a ha]; decide)
theorem infoA : (Try.prog.info? 76).map (fun i => (i.zero, i.size, i.bytes)) = some (some (.agg #[.int .i64 0, .int .i64 0, .int .i64 0]), 3, 24) := by kernel_rfl
theorem mkArcs (N : Nat) (hN : N ≤ 20000) (w : World) : (Instr.makeSlice 47 (.int .i64 (N : Int)) (.int .i64 (N : Int))).run Try.prog w = .ok (.slice (some ⟨w.heap.size, 0, none⟩) N N) (w.alloc (.cells (madeCells #[.int .i64 0, .int .i64 0, .int .i64 0] (N * 3)) 76)) := by
  obtain ⟨i, hi, h0, h1, h2⟩ := info_parts infoA
  have h := run_make (P := Try.prog) w 47 76 i _ Try.underlying47 hi h0 .i64 .i64 N N (by omega) (by omega) (by rw [h2]; omega) (by omega)
  rw [h1] at h
  simpa [Value.cells] using h
theorem flat0 (N : Nat) : (madeCells #[.int .i64 0, .int .i64 0, .int .i64 0] (N * 3)).toList = (mny N 0).flatMap encA := by
  apply List.ext_getElem?
  intro j
  by_cases hj : j < N * 3
  · have hk : j / 3 < (mny N 0).length := by rw [mny_len]; omega
    have e := arc_at (mny N 0) (j / 3) hk (j % 3) (by omega)
    have ej : j / 3 * 3 + j % 3 = j := by omega
    rw [ej] at e
    rw [e]
    have hz : (mny N 0)[j / 3] = (0, 0, 0) := by simp [mny]
    rw [hz]
    have h3 : j % 3 = 0 ∨ j % 3 = 1 ∨ j % 3 = 2 := by omega
    rcases h3 with h | h | h <;> simp [madeCells, hj, h, encA]
  · rw [List.getElem?_eq_none (by simp [size_madeCells]; omega), List.getElem?_eq_none (by rw [flat_len encA encA_len, mny_len]; omega)]
def MnyRel (c : Nat) (w wr : World) (iv : Value) : Prop := ∃ k : Nat, iv = .int .i64 k ∧ k ≤ c ∧ Below w.heap.size w wr ∧ OwnA wr w.heap.size (.slice (some ⟨w.heap.size, 0, none⟩) c c) (mny c k)
theorem OwnA.cells3 {w : World} {B g c k : Nat} {L : List Arc} (h : OwnA w B (.slice (some ⟨g, 0, none⟩) c c) L) (hl : L.length = c) (hk : k < L.length) (r : Nat) (hr : r < 3) : w.cell? ⟨g, k * 3 + r, none⟩ = (encA L[k])[r]? := by
  unfold OwnA at h
  rw [hl] at h
  rw [h.cellAt (k * 3 + r) (by omega), arc_at L k hk r hr]
theorem OwnA.fr {w : World} {B g c : Nat} {L : List Arc} (h : OwnA w B (.slice (some ⟨g, 0, none⟩) c c) L) (hl : L.length = c) (j : Nat) : w.frozen? ⟨g, j, none⟩ = false := by
  unfold OwnA at h
  rw [hl] at h
  exact h.frozenAt j
theorem OwnA.put {w : World} {B g c k : Nat} {L : List Arc} (h : OwnA w B (.slice (some ⟨g, 0, none⟩) c c) L) (hl : L.length = c) (hk : k < L.length) (a : Arc) :
    OwnA (((w.setCell ⟨g, k * 3, none⟩ (.int .i64 a.1)).setCell ⟨g, k * 3 + 1, none⟩ (.int .i64 a.2.1)).setCell ⟨g, k * 3 + 2, none⟩ (.int .i64 a.2.2)) B (.slice (some ⟨g, 0, none⟩) c c) (L.set k a) := by
  unfold OwnA at h ⊢
  rw [List.length_set, hl]
  rw [hl] at h
  rw [← flat_set encA encA_len L k hk a]
  exact (((h.stored _ _).1.stored _ _).1.stored _ _).1

set_option maxHeartbeats 2000000 in
set_option maxRecDepth 100000 in
theorem many (n m : Int) (w : World) (hn0 : 0 ≤ n) (hn1 : n ≤ 65535) (hm0 : 0 ≤ m) (hm1 : m ≤ 65535) :
    Calls Try.prog 7 #[.int .u16 n, .int .u16 m] w fun e w' => e = .returned (.bool true) ∧ Below w.heap.size w w' := by
  obtain ⟨k, hk⟩ : ∃ k : Nat, n % 5000 = (k : Int) := ⟨(n % 5000).toNat, by omega⟩
  obtain ⟨c, hc⟩ : ∃ c : Nat, m % 20000 = (c : Int) := ⟨(m % 20000).toNat, by omega⟩
  have hk1 : k < 5000 := by omega
  have hc1 : c < 20000 := by omega
  have hmk := mkArcs c (by omega)
  go_enter Try.func7, Try.ntmps7
  go_wp2
  clear hmk hk hc
  go_loopw [20] (fun iv wr => MnyRel c w wr iv) (fun iv _ => c - (intOf iv).toNat)
  case atStart =>
    refine ⟨0, rfl, by omega, (Below.refl _ _).alloc (Nat.le_refl _) _, ?_⟩
    unfold OwnA
    have h := World.ownsRow_lit w (base := w.heap.size) (e := 76) (size := 3) (madeCells #[.int .i64 0, .int .i64 0, .int .i64 0] (c * 3)) c (Nat.le_refl _) (by unfold maxLen; omega) (by simp [size_madeCells])
    rw [flat0] at h
    rw [mny_len]
    exact h
  case round =>
    obtain ⟨j, rfl, hj, hB, hO⟩ := hrel
    have B := Lib.hid hB
    have O := Lib.hid hO
    have hwz := hB.size
    clear hB hO
    by_cases hlt : j < c
    · have hjl : j < (mny c j).length := by rw [mny_len]; exact hlt
      have e0 := O.out.cells3 (mny_len c j) hjl 0 (by omega)
      have e1 := O.out.cells3 (mny_len c j) hjl 1 (by omega)
      have e2 := O.out.cells3 (mny_len c j) hjl 2 (by omega)
      have f0 := O.out.fr (mny_len c j) (j * 3)
      have f1 := O.out.fr (mny_len c j) (j * 3 + 1)
      have f2 := O.out.fr (mny_len c j) (j * 3 + 2)
      simp only [Nat.add_zero] at e0 e1 e2
      generalize (mny c j)[j] = a at *
      have P := Lib.hid (O.out.put (mny_len c j) hjl (0, 1, 0))
      have hgl : w.heap.size < wr.heap.size := (World.ownsRow.lt O.out w.heap.size rfl).2
      have e0' : wr.cell? ⟨w.heap.size, j * 3, none⟩ = some (.int .i64 a.1) := e0
      have e1' : wr.cell? ⟨w.heap.size, j * 3 + 1, none⟩ = some (.int .i64 a.2.1) := e1
      have e2' : wr.cell? ⟨w.heap.size, j * 3 + 2, none⟩ = some (.int .i64 a.2.2) := e2
      clear hjl e0 e1 e2
      go_wp2
      go_roundw
      case rel =>
        refine ⟨j + 1, by go_num, by omega, ?_, ?_⟩
        · exact ((B.out.setCell (by simp) _).setCell (by simp) _).setCell (by simp) _
        · have h := P.out
          rw [mny_set hlt] at h
          exact h
      case measure => simp [intOf]; omega
    · obtain rfl : j = c := by omega
      have HE := Lib.hid (mny_err k j)
      clear hlt hj
      by_cases h1 : 4096 < k
      · have E2 : Hid (ordErr k (mny j j) = 2) := Lib.hid (by rw [HE.out, if_pos (Or.inl h1)])
        go_wp2_with (first
          | (go_at_call 30; refine (wakes _).mono ?_; rintro e w2 ⟨rfl, hb⟩; have B2 := Lib.hid hb; clear hb)
          | (go_at_call 29; refine (check k _ (mny j j) _ (O.out.below B2.out).arcs).mono ?_; rintro e w3 ⟨rfl, hb⟩; rw [E2.out]; have B3 := Lib.hid hb; clear hb))
        go_ret
        exact ⟨rfl, (B.out.trans (B2.out.mono hwz)).trans (B3.out.mono (by have := B2.out.size; omega))⟩
      · by_cases h2 : 16384 < j
        · have E2 : Hid (ordErr k (mny j j) = 2) := Lib.hid (by rw [HE.out, if_pos (Or.inr (Or.inl h2))])
          go_wp2_with (first
            | (go_at_call 30; refine (wakes _).mono ?_; rintro e w2 ⟨rfl, hb⟩; have B2 := Lib.hid hb; clear hb)
            | (go_at_call 29; refine (check k _ (mny j j) _ (O.out.below B2.out).arcs).mono ?_; rintro e w3 ⟨rfl, hb⟩; rw [E2.out]; have B3 := Lib.hid hb; clear hb))
          go_ret
          exact ⟨rfl, (B.out.trans (B2.out.mono hwz)).trans (B3.out.mono (by have := B2.out.size; omega))⟩
        · by_cases h3 : k < 2
          · by_cases h4 : 0 < j
            · have E2 : Hid (ordErr k (mny j j) = 2) := Lib.hid (by rw [HE.out, if_pos (Or.inr (Or.inr ⟨h3, h4⟩))])
              go_wp2_with (first
                | (go_at_call 30; refine (wakes _).mono ?_; rintro e w2 ⟨rfl, hb⟩; have B2 := Lib.hid hb; clear hb)
                | (go_at_call 29; refine (check k _ (mny j j) _ (O.out.below B2.out).arcs).mono ?_; rintro e w3 ⟨rfl, hb⟩; rw [E2.out]; have B3 := Lib.hid hb; clear hb))
              go_ret
              exact ⟨rfl, (B.out.trans (B2.out.mono hwz)).trans (B3.out.mono (by have := B2.out.size; omega))⟩
            · have E2 : Hid (ordErr k (mny j j) = 0) := Lib.hid (by rw [HE.out, if_neg (by omega)])
              go_wp2_with (first
                | (go_at_call 30; refine (wakes _).mono ?_; rintro e w2 ⟨rfl, hb⟩; have B2 := Lib.hid hb; clear hb)
                | (go_at_call 29; refine (check k _ (mny j j) _ (O.out.below B2.out).arcs).mono ?_; rintro e w3 ⟨rfl, hb⟩; rw [E2.out]; have B3 := Lib.hid hb; clear hb))
              go_ret
              exact ⟨rfl, (B.out.trans (B2.out.mono hwz)).trans (B3.out.mono (by have := B2.out.size; omega))⟩
          · have E2 : Hid (ordErr k (mny j j) = 0) := Lib.hid (by rw [HE.out, if_neg (by omega)])
            go_wp2_with (first
              | (go_at_call 30; refine (wakes _).mono ?_; rintro e w2 ⟨rfl, hb⟩; have B2 := Lib.hid hb; clear hb)
              | (go_at_call 29; refine (check k _ (mny j j) _ (O.out.below B2.out).arcs).mono ?_; rintro e w3 ⟨rfl, hb⟩; rw [E2.out]; have B3 := Lib.hid hb; clear hb))
            go_ret
            exact ⟨rfl, (B.out.trans (B2.out.mono hwz)).trans (B3.out.mono (by have := B2.out.size; omega))⟩
theorem wf_of2 {n : Int} (h : (Lit.int .u16 n).wf = true) : 0 ≤ n ∧ n ≤ 65535 := by
  have h' : IntKind.u16.min ≤ n ∧ n ≤ IntKind.u16.max := by simpa [Lit.wf] using h
  exact h'
end Go.Proofs.Ytnofkddcnjdjnaa
