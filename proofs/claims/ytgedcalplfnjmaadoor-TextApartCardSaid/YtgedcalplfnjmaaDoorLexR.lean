/-
  The reference's Lines, Words and Number answer what the program's do. Conditions: none.
-/
import Derived.Test.YtgedcalplfnjmaaDoorLexB
import Derived.Test.YtgedcalplfnjmaaDoorHeapStep
import Derived.Test.YtgedcalplfnjmaaDoorAppend
import Derived.IntWalk
namespace Go.Proofs.YtgedcalplfnjmaaDoor
open Go.RowKit Go.Proofs.YtgedcalplfnjmaaDoor.LexM

def encT7 (p : List UInt8) : Value := .string (bs p)
/-- Words in a row of the call's own. -/
def OwnS (w : World) (B : Nat) (v : Value) (L : List (List UInt8)) : Prop := w.ownsRow B 9 1 v L.length (L.map encT7)
theorem infoT7 : (Tryd.prog.info? 9).map (fun i => (i.zero, i.size, i.bytes)) = some (some (.string ByteArray.empty), 1, 16) := by kernel_rfl
theorem info_partsS : ∃ i, Tryd.prog.info? 9 = some i ∧ i.zero = some (.string ByteArray.empty) ∧ i.size = 1 ∧ i.bytes = 16 := by
  have h := infoT7
  cases e : Tryd.prog.info? 9 with
  | none => rw [e] at h; cases h
  | some i =>
    rw [e] at h
    simp only [Option.map_some, Option.some.injEq, Prod.mk.injEq] at h
    exact ⟨i, rfl, h.1, h.2.1, h.2.2⟩
theorem OwnS.form {w : World} {B : Nat} {v : Value} {l : List (List UInt8)} (h : OwnS w B v l) : ∃ ao cap, v = .slice ao l.length cap := by
  rcases h.2 with ⟨h1, h2⟩ | ⟨_, _, _, h, _⟩
  · exact ⟨none, 0, by rw [h2]; exact h1⟩
  · exact ⟨_, _, h⟩
theorem OwnS.below {w w' : World} {B C : Nat} {v : Value} {l : List (List UInt8)} (h : OwnS w B v l) (o : Below C w w') (hC : w.heap.size ≤ C) : OwnS w' B v l :=
  ownsRow_out (S := fun _ => False) h (Out.ofBelow (o.mono hC)) (fun _ _ e => e)
theorem OwnS.strs {w : World} {B : Nat} {v : Value} {l : List (List UInt8)} (h : OwnS w B v l) : StrsAt w v l := by
  have h' := h
  rcases h.2 with ⟨rfl, h2⟩ | ⟨g, cap, cur, rfl, _, hg, hn, hr⟩
  · exact ⟨none, 0, by rw [h2], by omega, fun h => absurd h (by omega)⟩
  · refine ⟨_, cap, rfl, hn, fun _ => ⟨g, 0, rfl, (Array.getElem?_eq_some_iff.1 hg).1, fun k hk => ?_⟩⟩
    rw [Nat.zero_add, h'.cellAt k (by simpa using hk)]
    simp [hk, encT7]
theorem newsT7 (w : World) (t : TypeId) (x : ByteArray) (b : Nat) (hb : w.heap.size = b) : ∀ j z, [Value.string x][j]? = some z → (w.alloc (.cells #[.string x] t)).cell? ((⟨b, 0, none⟩ : Addr).add j) = some z := by
  intro j z hz
  have hj : j = 0 := by have := List.getElem?_eq_some_iff.1 hz; simp at this; omega
  subst hj hb
  simp at hz
  subst hz
  go_simp
theorem oneT7 (x : ByteArray) : ∀ z ∈ [Value.string x], z.oneCell' = true := by
  intro z hz
  simp at hz
  subst hz
  rfl
theorem str_app {w0 w w' : World} {B : Nat} {v v' : Value} {K : List (List UInt8)} {a : List UInt8} {x : ByteArray} (hx : x = bs a) (hB : Below B w0 w) (hB0 : B ≤ w0.heap.size) (hO : OwnS w B v K) (hown : w'.ownsRow B 9 1 v' (K.length + 1) (K.map encT7 ++ [.string x])) (hgrow : w.grownBy w' v.ownBlock) :
    OwnS w' B v' (K ++ [a]) ∧ Below B w0 w' := by
  subst hx
  refine ⟨?_, hB.grown hgrow (Nat.le_trans hB0 hB.size) (fun k hk => (World.ownsRow.lt hO k hk).1)⟩
  unfold OwnS
  rw [List.length_append, List.map_append]
  exact hown

theorem extract_bs (s : ByteArray) (f k : Nat) : s.extract f k = bs ((s.data.toList.take k).drop f) := by
  rw [← bs_list (s.extract f k), Lib.extract_data, List.drop_take]
theorem byte_at (s : ByteArray) (k : Nat) (h : k < s.size) : s.data.toList[k]? = some (s[k]'h) := by
  have h2 : k < s.data.toList.length := by rw [← size_list]; exact h
  rw [List.getElem?_eq_getElem h2]; rfl
theorem byte_test (b c : UInt8) (n : Int) (hn : (c.toNat : Int) = n) : ((b.toNat : Int) == n) = decide (b = c) := by
  subst hn
  rw [Bool.eq_iff_iff, beq_iff_eq, decide_eq_true_eq]
  exact ⟨fun h => UInt8.toNat_inj.1 (by omega), fun h => by rw [h]⟩

/-- Where a search for pieces stands: before byte k, the piece under way begins at f. -/
structure PcAt (c : UInt8) (l : List UInt8) (k f : Nat) (L : List (List UInt8)) : Prop where
  le : f ≤ k
  le2 : k ≤ l.length
  done : (ps c (l.take k)).1 = L
  last : (ps c (l.take k)).2 = (l.take k).drop f
theorem PcAt.start (c : UInt8) (l : List UInt8) : PcAt c l 0 0 [] := ⟨Nat.le_refl _, Nat.zero_le _, by simp [ps_nil], by simp [ps_nil]⟩
theorem PcAt.sep {c : UInt8} {l : List UInt8} {k f : Nat} {L : List (List UInt8)} (h : PcAt c l k f L) (hk : l[k]? = some c) : PcAt c l (k + 1) (k + 1) (L ++ [(l.take k).drop f]) := by
  have hl := (List.getElem?_eq_some_iff.1 hk).1
  have e := take_snoc l k c hk
  refine ⟨Nat.le_refl _, hl, ?_, ?_⟩
  · rw [e, ps_snoc, if_pos rfl, h.done, h.last]
  · rw [e, ps_snoc, if_pos rfl, ← e]
    rw [List.drop_eq_nil_of_le (by rw [List.length_take]; omega)]
theorem PcAt.other {c b : UInt8} {l : List UInt8} {k f : Nat} {L : List (List UInt8)} (h : PcAt c l k f L) (hk : l[k]? = some b) (hb : b ≠ c) : PcAt c l (k + 1) f L := by
  have hl := (List.getElem?_eq_some_iff.1 hk).1
  have e := take_snoc l k b hk
  refine ⟨by have := h.le; omega, hl, ?_, ?_⟩
  · rw [e, ps_other c _ b hb, h.done]
  · rw [e, ps_other c _ b hb, h.last, List.drop_append_of_le_length (by rw [List.length_take]; have := h.le; omega)]
theorem PcAt.end_ {c : UInt8} {l : List UInt8} {f : Nat} {L : List (List UInt8)} (h : PcAt c l l.length f L) : ps c l = (L, l.drop f) := by
  have h1 := h.done
  have h2 := h.last
  rw [List.take_length] at h1 h2
  exact Prod.ext h1 h2
theorem ps_count (c : UInt8) (l : List UInt8) : (ps c l).1.length ≤ l.length := by
  have h := congrArg List.length (pieces_ps c l)
  rw [pieces_length, List.length_append] at h
  have := List.count_le_length (a := c) (l := l)
  simp at h
  omega

def RlRel (l : List UInt8) (w wr : World) (lv fv iv : Value) : Prop := ∃ (k f : Nat) (L : List (List UInt8)), iv = .int .i64 k ∧ fv = .int .i64 f ∧ PcAt 10 l k f L ∧ OwnS wr w.heap.size lv L ∧ Below w.heap.size w wr

end Go.Proofs.YtgedcalplfnjmaaDoor
