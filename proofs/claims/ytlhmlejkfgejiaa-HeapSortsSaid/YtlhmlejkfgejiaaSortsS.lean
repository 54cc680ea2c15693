/-
  HeapSorts: the library's Clone, Sort and Reverse at words, over a row of the call's own. Conditions: none.
-/
import Derived.Test.YtlhmlejkfgejiaaSortsM
import Derived.Test.YtlhmlejkfgejiaaShelf
import Derived.Sort.OwnSorted
namespace Go.Proofs.Ytlhmlejkfgejiaa
open Go.RowKit Go.Sort Go.Proofs.Ytlhmlejkfgejiaa.HeapM Go.Proofs.Ytlhmlejkfgejiaa.StabM Go.Proofs.Ytlhmlejkfgejiaa.Stab

/-- The words ss in a row of the call's own, from B on. -/
def OwnW (w : World) (B : Nat) (v : Value) (ss : List (List UInt8)) : Prop := w.ownsRow B 9 1 v ss.length (ss.map encStr)
theorem sortW (B : Nat) (v : Value) (ss : List (List UInt8)) (w : World) (h : OwnW w B v ss) (hs : ss.length ≤ 1000000) :
    Calls Try.prog 22 #[v] w fun e w' => e = .returned (.tuple #[]) ∧ OwnW w' B v (ss.mergeSort fun x y => decide (x ≤ y)) ∧ w.grownBy w' v.ownBlock := by
  by_cases h0 : ss.length = 0
  · obtain rfl : ss = [] := List.eq_nil_of_length_eq_zero h0
    obtain ⟨ao, cap, rfl⟩ := ownsRow_slice h
    refine (Go.Proofs.Try.slices_Sort_string_none ao cap w).mono ?_
    rintro e w' ⟨rfl, rfl⟩
    exact ⟨rfl, by simpa using h, World.grownBy.refl _ _⟩
  · rcases h.2 with ⟨_, h2⟩ | ⟨gg, cap, cur, rfl, hbase, hb, h1, h2, h3, h4⟩
    · exact absurd h2 h0
    · refine (Go.Proofs.Try.slices_Sort_string gg 0 cap ss w (holds_of_block hb (by simpa using h4)) (Array.getElem?_eq_some_iff.1 hb).1 (by omega)).mono ?_
      rintro e w' ⟨rfl, n, os, rfl⟩
      refine ⟨rfl, ?_, grownBy_sorted _⟩
      have hl : (ss.mergeSort fun x y => decide (x ≤ y)).length = ss.length := by simp
      unfold OwnW
      rw [hl]
      exact ownsRow_sorted hl hbase hb h1 h2 h3
theorem revW (B : Nat) (v : Value) (ss : List (List UInt8)) (w : World) (h : OwnW w B v ss) (hs : ss.length ≤ 1000000) :
    Calls Try.prog 23 #[v] w fun e w' => e = .returned (.tuple #[]) ∧ OwnW w' B v ss.reverse ∧ w.grownBy w' v.ownBlock := by
  by_cases h0 : ss.length = 0
  · obtain rfl : ss = [] := List.eq_nil_of_length_eq_zero h0
    obtain ⟨ao, cap, rfl⟩ := ownsRow_slice h
    refine (Go.Proofs.Try.slices_Reverse_string_empty ao cap w).mono ?_
    rintro e w' ⟨rfl, rfl⟩
    exact ⟨rfl, by simpa using h, World.grownBy.refl _ _⟩
  · rcases h.2 with ⟨_, h2⟩ | ⟨gg, cap, cur, rfl, hbase, hb, h1, h2, h3, h4⟩
    · exact absurd h2 h0
    · refine (Go.Proofs.Try.slices_Reverse_string gg 0 cap ss w (holds_of_block hb (by simpa using h4)) (by omega)).mono ?_
      rintro e w' ⟨rfl, n, rfl⟩
      have e0 : putRow encStr (Sort.ahead w n) gg 0 ss.reverse.toArray = grow (putRow encStr (Sort.ahead w n) gg 0 ss.reverse.toArray) #[] := (grow_empty _).symm
      rw [e0]
      refine ⟨rfl, ?_, grownBy_sorted _⟩
      have hl : ss.reverse.length = ss.length := by simp
      unfold OwnW
      rw [hl]
      exact ownsRow_sorted hl hbase hb h1 h2 h3
theorem word_mk (x : ByteArray) : (⟨x.toList.toArray⟩ : ByteArray) = x := by
  rw [ByteArray.toList_eq]
theorem cloneW (A : Option Addr) (n cap : Nat) (D : Nat → ByteArray) (w : World) (hn : n ≤ 1000000) (hA : 0 < n → ∃ b o, A = some ⟨b, o, none⟩ ∧ ∀ k, k < n → w.cell? ⟨b, o + k, none⟩ = some (.string (D k))) :
    Calls Try.prog 20 #[.slice A n cap] w fun e w' => ∃ v, e = .returned v ∧ OwnW w' w.heap.size v ((List.range n).map fun k => (D k).toList) ∧ Below w.heap.size w w' := by
  by_cases h0 : n = 0
  · subst h0
    cases A with
    | none =>
      refine (Go.Proofs.Try.slices_Clone_string_nil 0 cap w).mono ?_
      rintro e w' ⟨rfl, rfl⟩
      exact ⟨_, rfl, World.ownsRow_nil _ _ _ _, Below.refl _ _⟩
    | some a =>
      refine (Go.Proofs.Try.slices_Clone_string_zero a cap w).mono ?_
      rintro e w' ⟨v', rfl, ho, _, hb⟩
      exact ⟨_, rfl, by simpa [OwnW] using ho, hb⟩
  · obtain ⟨b, o, rfl, hc⟩ := hA (by omega)
    refine (Go.Proofs.Try.slices_Clone_string b o n cap ((List.range n).map D) w (by simp) (by omega) (fun j hj => ?_)).mono ?_
    · have hj' : j < n := by simpa using hj
      rw [hc j hj']
      simp [List.getD_eq_getElem?_getD, hj']
    · rintro e w' ⟨v', rfl, ho, _, hb⟩
      refine ⟨_, rfl, ?_, hb⟩
      have e1 : (List.take n ((List.range n).map D)).map Value.string = ((List.range n).map fun k => (D k).toList).map encStr := by
        rw [List.take_of_length_le (by simp), List.map_map, List.map_map]
        exact List.map_congr_left (fun k _ => by simp [encStr, word_mk])
      unfold OwnW
      rw [← e1]
      simpa using ho

theorem foot_neW {w : World} {p : Nat} {v lv : Value} {L : List ByteArray} {ss : List (List UInt8)} {c : Int} {B : Nat} {lt : ByteArray → ByteArray → Bool} {fn : Nat} (h : HS.Is lt fn p w v L c) (h' : OwnW w B lv ss) : ∀ b, HS.Foot p v b → lv.ownBlock ≠ some b := by
  obtain ⟨l, h, _⟩ := h
  rintro b (rfl | hb)
  · intro e
    rcases h'.2 with ⟨rfl, _⟩ | ⟨g', cap', cur', rfl, _, hh', _⟩
    · simp [Value.ownBlock] at e
    · simp only [Value.ownBlock, Option.some.injEq] at e
      subst e
      rw [h.blk] at hh'
      injection hh' with hh'
      injection hh' with _ ht
      exact absurd ht (by decide)
  · exact row_ne h.row h' (by decide) b hb
theorem lenW {p : Nat} {v : Value} {L : List ByteArray} {c : Int} {w : World} {lt : ByteArray → ByteArray → Bool} {fn : Nat} (h : HS.Is lt fn p w v L c) (n : Int) (hn : (L.length : Int) = n) :
    Calls Try.prog 25 #[.pointer (some ⟨p, 0, none⟩)] w fun e w' => e = .returned (.int .i64 n) ∧ w = w' := by
  subst hn
  exact HS.len p v L c w h
/-- Where the heap of words and the list of words stand. -/
structure DuoW (w0 wr : World) (p : Nat) (v : Value) (L : List ByteArray) (c : Int) (l : Value) (K : List (List UInt8)) : Prop where
  i1 : HS.Is gtS 19 p wr v L c
  m1 : Mine w0.heap.size w0 wr p v
  rl : OwnW wr w0.heap.size l K
section
variable {w0 wr w' : World} {p : Nat} {v l : Value} {L : List ByteArray} {K : List (List UInt8)} {c : Int}
theorem DuoW.below (h : DuoW w0 wr p v L c l K) (o : Below wr.heap.size wr w') : DuoW w0 w' p v L c l K :=
  ⟨h.i1.below o, h.m1.quiet o, ownsRow_out (S := fun _ => False) h.rl (Out.ofBelow o) (fun _ _ e => e)⟩
theorem DuoW.push {v3 : Value} {L' : List ByteArray} {c' : Int} (h : DuoW w0 wr p v L c l K) (i3 : HS.Is gtS 19 p w' v3 L' c') (o3 : Out (HS.Foot p v) wr w') (f3 : ∀ b, v3.ownBlock = some b → v.ownBlock = some b ∨ wr.heap.size ≤ b) :
    DuoW w0 w' p v3 L' c' l K := ⟨i3, h.m1.step o3 f3, ownsRow_out h.rl o3 (fun b hb hf => foot_neW h.i1 h.rl b hf hb)⟩
theorem DuoW.list {K' : List (List UInt8)} (h : DuoW w0 wr p v L c l K) (g : wr.grownBy w' l.ownBlock) (r : OwnW w' w0.heap.size l K') : DuoW w0 w' p v L c l K' := by
  have o : Out (fun b => l.ownBlock = some b) wr w' := (Out.refl _ wr).grown g (fun _ _ e => e)
  exact ⟨h.i1.out o (foot_neW h.i1 h.rl), h.m1.other o (fun b _ hb => (h.rl.lt b hb).1), r⟩
end
def Sor3 (q : Nat) (lv : Value) (ss : List (List UInt8)) (w wr : World) (iv : Value) : Prop :=
  ∃ (k : Nat) (v : Value), iv = .int .i64 k ∧ k ≤ ss.length ∧ DuoW w wr q v ((ss.take k).map fun l => ⟨l.toArray⟩) k lv ss
def Sor4 (q : Nat) (c : Int) (lv : Value) (ss : List (List UInt8)) (w wr : World) (iv : Value) : Prop :=
  ∃ (k : Nat) (v : Value) (R : List ByteArray), iv = .int .i64 k ∧ k ≤ ss.length ∧ DuoW w wr q v R c lv ss ∧ PopSeq gtS R ((ss.drop k).map fun l => ⟨l.toArray⟩)
/-- What is popped of the words: they, sorted and turned round. -/
theorem pops_words (ss : List (List UInt8)) : PopSeq gtS (ss.map fun l => (⟨l.toArray⟩ : ByteArray)) ((ss.mergeSort fun x y => decide (x ≤ y)).reverse.map fun l => ⟨l.toArray⟩) := by
  obtain ⟨h1, h2⟩ := words_desc ss
  refine pops_total ordG (fun x y h k => ?_) (h1.map _) (List.pairwise_map.2 (h2.imp fun {a b} h => gt_false (by simpa [ByteArray.toList_eq] using h)))
  rw [gtS_eq, ltS, bytesLess_eq, decide_eq_false_iff_not, List.not_lt] at h k
  have e : x.toList = y.toList := List.le_antisymm h k
  rw [← word_mk x, e, word_mk]
end Go.Proofs.Ytlhmlejkfgejiaa
