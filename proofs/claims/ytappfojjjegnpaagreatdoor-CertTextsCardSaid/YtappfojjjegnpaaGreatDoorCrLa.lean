/-
  Rows of arcs and of ints out of literals and out of rows of the call's own; Equal; wakes answers true. Conditions: none.
  Arguments that are slices: each element's cells, whatever its type; ints; structs of ints. Conditions: none (a slice of nothing is told apart).
  Make: a graph whose arcs lead from the less node to the greater one. Conditions: it is asked for 1 to 100 nodes.
  The laws' arguments opened: a struct of a byte and a slice of triples of bytes; a slice of ints. Conditions: none.
  An argument that is a slice of pairs of bytes, opened; an array of three bytes. Conditions: none.
  wakes of flow's laws answers true. Conditions: what Solve and Supply are asked to leave.
  Least costs of graphs that are scaled, longer by an arc, turned, laid side by side. Plain mathematics. Conditions: none.
  A right flow with something sent another way is a right flow. Plain mathematics. Conditions: none.
  An arc's weight stored in a row of the call's own; arcs with all weights k times as great. Conditions: none.
-/
import Derived.Test.YtappfojjjegnpaaGreatDoorCqG
import Derived.Test.YtappfojjjegnpaaGreatDoorCqE
import Derived.Test.YtappfojjjegnpaaGreatDoorBase
import Derived.Deep.Slices
import Derived.Lib.SmallJoins
import Derived.Test.YtappfojjjegnpaaGreatDoorCqF
import Derived.Test.YtappfojjjegnpaaGreatDoorCqM
namespace Go.Proofs.YtappfojjjegnpaaGreatDoor
open Go.RowKit Go.Proofs.YtappfojjjegnpaaGreatDoor.DagM

def encA (a : Arc) : List Value := [.int .i64 a.1, .int .i64 a.2.1, .int .i64 a.2.2]
theorem encA_len (a : Arc) : (encA a).length = 3 := rfl
theorem encA_one (a : Arc) : ∀ u ∈ encA a, u.oneCell' = true := by
  intro u hu
  simp [encA] at hu
  rcases hu with rfl | rfl | rfl <;> rfl
/-- The arcs L in a row of the call's own, from B on. -/
def OwnA (w : World) (B : Nat) (v : Value) (L : List Arc) : Prop := w.ownsRow B 50 3 v L.length (L.flatMap encA)
theorem arc_at (L : List Arc) (k : Nat) (h : k < L.length) (r : Nat) (hr : r < 3) : (L.flatMap encA)[k * 3 + r]? = (encA L[k])[r]? := by
  have hlen := flat_len encA encA_len L
  have h1 := flat_get encA encA_len L k r h hr
  have h2 : k * 3 + r < (L.flatMap encA).length := by rw [hlen]; omega
  rw [List.getD_eq_getElem?_getD, List.getD_eq_getElem?_getD, List.getD_eq_getElem?_getD, List.getElem?_eq_getElem h2, List.getElem?_eq_getElem h] at h1
  simp only [Option.getD_some] at h1
  rw [List.getElem?_eq_getElem h2, h1, List.getElem?_eq_getElem (by rw [encA_len]; exact hr)]
  rfl
theorem OwnA.form {w : World} {B : Nat} {v : Value} {l : List Arc} (h : OwnA w B v l) : ∃ ao cap, v = .slice ao l.length cap := by
  rcases h.2 with ⟨h1, h2⟩ | ⟨_, _, _, h, _⟩
  · exact ⟨none, 0, by rw [h2]; exact h1⟩
  · exact ⟨_, _, h⟩
theorem OwnA.arcs {w : World} {B : Nat} {v : Value} {L : List Arc} (h : OwnA w B v L) : ArcsAt w v L := by
  have h' := h
  rcases h.2 with ⟨rfl, h2⟩ | ⟨g, cap, cur, rfl, _, hg, hn, hr⟩
  · exact ⟨none, 0, by rw [h2], by omega, fun h => absurd h (by omega)⟩
  · refine ⟨_, cap, rfl, hn, fun _ => ⟨g, 0, rfl, (Array.getElem?_eq_some_iff.1 hg).1, fun k hk => ?_⟩⟩
    have e : ∀ r, r < 3 → w.cell? ⟨g, k * 3 + r, none⟩ = (encA L[k])[r]? := fun r hr => by
      rw [h'.cellAt (k * 3 + r) (by omega), arc_at L k hk r hr]
    have e0 := e 0 (by omega)
    have e1 := e 1 (by omega)
    have e2 := e 2 (by omega)
    simp only [Nat.zero_add, Nat.add_zero] at e0 e1 e2 ⊢
    exact ⟨e0, e1, e2⟩
theorem OwnA.below {w w' : World} {B : Nat} {v : Value} {l : List Arc} (h : OwnA w B v l) (o : Below w.heap.size w w') : OwnA w' B v l := ownsRow_out (S := fun _ => False) h (Out.ofBelow o) (fun _ _ e => e)
theorem OwnA.snoc {w : World} {B : Nat} {v : Value} {l : List Arc} {a : Arc} (h : w.ownsRow B 50 3 v (l.length + 1) (l.flatMap encA ++ encA a)) : OwnA w B v (l ++ [a]) := by
  unfold OwnA
  have e : (l ++ [a]).flatMap encA = l.flatMap encA ++ encA a := by simp
  rw [List.length_append, e]
  exact h
theorem lit_cell (w : World) (xs : List Value) (T j : Nat) : (w.alloc (.cells xs.toArray T)).cell? ⟨w.heap.size, j, none⟩ = xs[j]? := by
  simp
theorem arcs_lit (L : List Arc) (w : World) (T cap : Nat) (hc : L.length ≤ cap) : ArcsAt (w.alloc (.cells (L.flatMap encA).toArray T)) (.slice (some ⟨w.heap.size, 0, none⟩) L.length cap) L := by
  refine ⟨_, cap, rfl, hc, fun _ => ⟨w.heap.size, 0, rfl, by simp, fun k hk => ?_⟩⟩
  rw [lit_cell, lit_cell, lit_cell]
  have e0 := arc_at L k hk 0 (by omega)
  have e1 := arc_at L k hk 1 (by omega)
  have e2 := arc_at L k hk 2 (by omega)
  simp only [Nat.zero_add, Nat.add_zero] at e0 e1 e2 ⊢
  exact ⟨e0, e1, e2⟩
theorem ints_lit (x : List Int) (w : World) (T cap : Nat) (hc : x.length ≤ cap) : IntsAt (w.alloc (.cells (x.map (Value.int .i64)).toArray T)) (.slice (some ⟨w.heap.size, 0, none⟩) x.length cap) x := by
  refine ⟨_, cap, rfl, hc, fun _ => ⟨w.heap.size, 0, rfl, by simp, fun k hk => ?_⟩⟩
  rw [lit_cell]
  simp [hk]

theorem equalI (v u : Value) (x y : List Int) (w : World) (hX : IntsAt w v x) (hY : IntsAt w u y) (hx : x.length ≤ 1000000) (hy : y.length ≤ 1000000) :
    Calls Tryz.prog 9 #[v, u] w fun e w' => e = .returned (.bool (x == y)) ∧ Below w.heap.size w w' := by
  obtain ⟨A, cap, rfl, _, hA⟩ := hX
  obtain ⟨A', cap', rfl, _, hA'⟩ := hY
  by_cases h0 : x.length = y.length
  · by_cases h1 : x.length = 0
    · have h2 : y.length = 0 := by omega
      obtain rfl := List.eq_nil_of_length_eq_zero h1
      obtain rfl := List.eq_nil_of_length_eq_zero h2
      refine (Go.Proofs.Tryz.slices_Equal_int_empty A A' cap 0 cap' w (by omega)).mono ?_
      rintro e w' ⟨rfl, rfl⟩
      exact ⟨rfl, Below.refl _ _⟩
    · obtain ⟨b, o, rfl, _, hc⟩ := hA (by omega)
      obtain ⟨b', o', rfl, _, hc'⟩ := hA' (by omega)
      refine (Go.Proofs.Tryz.slices_Equal_int b o x.length cap b' o' y.length cap' x y w (Nat.le_refl _) (Nat.le_refl _) (by omega) (by omega) (fun j hj => ?_) (fun j hj => ?_)).mono ?_
      · rw [hc j hj]; simp [List.getD_eq_getElem?_getD, hj]
      · rw [hc' j hj]; simp [List.getD_eq_getElem?_getD, hj]
      · rintro e w' ⟨rfl, q, rfl⟩
        rw [List.take_length, List.take_length]
        exact ⟨rfl, belowN (Below.refl _ _) q⟩
  · refine (Go.Proofs.Tryz.slices_Equal_int_lens A A' x.length cap y.length cap' w h0).mono ?_
    rintro e w' ⟨rfl, rfl⟩
    refine ⟨ret_bool ?_, Below.refl _ _⟩
    have : x ≠ y := fun e => h0 (by rw [e])
    simpa using this

theorem ord_ex : ordErr 3 [(2, 0, 0), (2, 1, 0)] = 0 ∧ castI (ordRes 3 [(2, 0, 0), (2, 1, 0)]) = [2, 0, 1] := by decide +kernel
theorem cost_ex : costVal 2 [(1, 0, 3)] [5, 1] = 12 ∧ costErr 2 [(1, 0, 3)] [5, 1] = 0 := by decide +kernel
theorem loop_ex : ordErr 1 [(0, 0, 0)] = 11 := by decide +kernel
theorem rk_ex : castI (rkL [5, 9, 5, -2]) = [1, 2, 1, 0] := by
  have e1 : rk [5, 9, 5, -2] 5 = 1 := (rk_of (l := [-2]) (by decide) (fun y => by simp; omega)).symm
  have e2 : rk [5, 9, 5, -2] 9 = 2 := (rk_of (l := [-2, 5]) (by decide) (fun y => by simp; omega)).symm
  have e3 : rk [5, 9, 5, -2] (-2) = 0 := (rk_of (l := []) (by decide) (fun y => by simp; omega)).symm
  simp [castI, rkL, e1, e2, e3]


end Go.Proofs.YtappfojjjegnpaaGreatDoor

namespace Go.Proofs.YtappfojjjegnpaaGreatDoor
open Go.RowKit Go.ChangeShapes Go.WideShapes Go.Deep

section
variable {H : Type} {enc : TypeId × Value → H} {P : Program} {w : World} {spare : Nat → Bool} {held : Bool}

theorem add_lit (b o s : Nat) : (⟨b, o, none⟩ : Addr).add s = ⟨b, o + s, none⟩ := by unfold Addr.add; split <;> simp_all

/-- A slice argument of n elements of K cells each at ⟨b, o⟩; R says what each element's cells are. -/
structure RowAt (w : World) (K b o n cap : Nat) (R : Nat → List Value → Prop) : Prop where
  pos : 0 < n
  le : n ≤ cap
  max : cap ≤ maxLen
  lt : b < w.heap.size
  at_ : ∀ i, i < n → ∃ cs : List Value, cs.length = K ∧ (∀ j, j < K → w.cell? ⟨b, o + i * K + j, none⟩ = cs[j]?) ∧ R i cs

/-- Nothing, or a row whose elements read by their type. -/
theorem open_rows {r : Reach} {b0 : Nat} {t e : TypeId} {v : Value} {d : DataW H} {p : List MemPlace} {K : Nat} (ht : P.underlying t = some (.slice e)) (hc : P.cellsOf e = K) (hK : 0 < K)
    (hv : Value.okWide P w r b0 t v) (h : DataW.Trod enc P w 0 spare held t v d p) :
    (∃ A cap, v = .slice A 0 cap) ∨
    ∃ b o n cap, v = .slice (some ⟨b, o, none⟩) n cap ∧ RowAt w K b o n cap fun _ cs => ∃ fuel x, DataW.trod enc P w 0 spare held fuel e cs = some x := by
  subst hc
  obtain ⟨a, n, cap, rfl⟩ := okWide_slice ht hv
  obtain ⟨fuel, hf⟩ := h
  rcases open_slice ht hf with ⟨h0, _⟩ | ⟨a', len, cap', m, k, D, Pl, hcs, _, hl, hm, hmm, _, hi⟩
  · have h1 : [Value.slice a n cap] = [.slice none 0 0] := h0
    simp only [List.cons.injEq, Value.slice.injEq, and_true] at h1
    obtain ⟨rfl, rfl, rfl⟩ := h1
    exact Or.inl ⟨_, _, rfl⟩
  · have h1 : [Value.slice a n cap] = [.slice (some a') len cap'] := hcs
    simp only [List.cons.injEq, Value.slice.injEq, and_true] at h1
    obtain ⟨rfl, rfl, rfl⟩ := h1
    by_cases h0 : n = 0
    · subst h0
      exact Or.inl ⟨_, _, rfl⟩
    · have hnm : n ≤ m := by rw [hmm]; split <;> omega
      have hspot : a'.spot = none := by
        obtain ⟨cs', hc, _⟩ := hi 0 (by omega)
        obtain ⟨_, hlen, hat⟩ := World.cells?_some hc
        have := hat 0 hK
        rw [List.getElem?_eq_getElem (by omega)] at this
        have := World.cell?_spot this
        unfold Addr.add at this
        split at this <;> simp_all
      obtain ⟨b, o, spot⟩ := a'
      have e0 : spot = none := hspot
      subst e0
      have hcell : ∀ i, i < n → ∃ cs : List Value, cs.length = P.cellsOf e ∧ (∀ j, j < P.cellsOf e → w.cell? ⟨b, o + i * P.cellsOf e + j, none⟩ = cs[j]?) ∧ ∃ fuel x, DataW.trod enc P w 0 spare held fuel e cs = some x := by
        intro i hin
        obtain ⟨cs', hc, ht'⟩ := hi i (by omega)
        obtain ⟨_, hlen, hat⟩ := World.cells?_some hc
        refine ⟨cs', hlen, fun j hj => ?_, _, _, ht'⟩
        rw [← hat j hj, add_lit, add_lit]
      refine Or.inr ⟨b, o, n, cap, rfl, by omega, hl, hm, ?_, hcell⟩
      obtain ⟨cs', hlen, hat, _⟩ := hcell 0 (by omega)
      have := hat 0 hK
      rw [List.getElem?_eq_getElem (by omega)] at this
      exact lt_of_cell this

/-- An element that is an int. -/
theorem elem_int {fuel : Nat} {e : TypeId} {k : IntKind} {cs : List Value} {x : DataW H × List MemPlace} (he : P.underlying e = some (.int k)) (h : DataW.trod enc P w 0 spare held fuel e cs = some x) : ∃ n, cs = [.int k n] ∧ (Lit.int k n).wf = true := by
  obtain ⟨n, h1, _, h2⟩ := DataW.trod_int he h
  exact ⟨n, h1, h2⟩
/-- A field of an element that is a struct. -/
theorem elem_field {fuel : Nat} {e : TypeId} {fs : Array Field} {cs : List Value} {x : DataW H × List MemPlace} (he : P.underlying e = some (.struct fs)) (h : DataW.trod enc P w 0 spare held fuel e cs = some x) (i : Nat) (f : Field) (hf : fs[i]? = some f) :
    ∃ fuel y, DataW.trod enc P w 0 spare held fuel f.type ((cs.drop f.offset).take (P.cellsOf f.type)) = some y := by
  obtain ⟨xs, n, _, _, _, hl, hg⟩ := DataW.trod_struct he h
  have hi : i < xs.length := by rw [hl]; exact (Array.getElem?_eq_some_iff.1 hf).1
  exact ⟨n, xs[i], by rw [hg i f hf, List.getElem?_eq_getElem hi]⟩
end
end Go.Proofs.YtappfojjjegnpaaGreatDoor

namespace Go.Proofs.YtappfojjjegnpaaGreatDoor
open Go.RowKit Go.Proofs.YtappfojjjegnpaaGreatDoor.DagM

/-- What Make's slice of triples reads as. -/
structure TriAt (w : World) (A : Option Addr) (n : Nat) (D : Nat → Int × Int × Int) : Prop where
  at_ : 0 < n → ∃ b o, A = some ⟨b, o, none⟩ ∧ b < w.heap.size ∧ ∀ k, k < n → w.cell? ⟨b, o + k * 3, none⟩ = some (.int .u8 (D k).1) ∧ w.cell? ⟨b, o + k * 3 + 1, none⟩ = some (.int .u8 (D k).2.1) ∧ w.cell? ⟨b, o + k * 3 + 2, none⟩ = some (.int .u8 (D k).2.2)
  r : ∀ k, k < n → (0 ≤ (D k).1 ∧ (D k).1 ≤ 255) ∧ (0 ≤ (D k).2.1 ∧ (D k).2.1 ≤ 255) ∧ 0 ≤ (D k).2.2 ∧ (D k).2.2 ≤ 255
/-- A graph of arcs that rise. -/
structure Rise (n : Nat) (K : List Arc) : Prop where
  n1 : 1 ≤ n
  len : K.length ≤ 40
  ok : ∀ a ∈ K, 0 ≤ a.1 ∧ a.1 < a.2.1 ∧ a.2.1 < n ∧ 0 ≤ a.2.2 ∧ a.2.2 ≤ 7
theorem Rise.may {n : Nat} {K : List Arc} (h : Rise n K) (hn : n ≤ 4096) : May n K := ⟨by omega, by omega, by have := h.len; omega, fun a ha => by have := h.ok a ha; omega⟩
theorem Rise.ord {n : Nat} {K : List Arc} (h : Rise n K) (hn : n ≤ 4096) : ordErr n K = 0 := ord_rises (h.may hn) (fun i => (i : Int)) (fun a ha => by have := h.ok a ha; omega)
def Makes (most : Nat) (w : World) (e : Ending) (w' : World) : Prop := ∃ (n : Nat) (v : Value) (K : List Arc), e = .returned (.tuple #[.int .i64 n, v]) ∧ n ≤ most ∧ Rise n K ∧ OwnA w' w.heap.size v K ∧ Below w.heap.size w w'
def MkRel (len n : Nat) (w0 wr : World) (lv iv : Value) : Prop := ∃ (k : Nat) (K : List Arc), iv = .int .i64 k ∧ k ≤ len ∧ k ≤ 40 ∧ K.length ≤ k ∧ Rise n K ∧ Below w0.heap.size w0 wr ∧ OwnA wr w0.heap.size lv K
theorem OwnA.base {w : World} {B B' : Nat} {v : Value} {l : List Arc} (h : OwnA w B v l) (hb : B' ≤ B) : OwnA w B' v l := by
  refine ⟨h.1, ?_⟩
  rcases h.2 with h2 | ⟨g, cap, cur, hv, hg, r⟩
  · exact Or.inl h2
  · exact Or.inr ⟨g, cap, cur, hv, Nat.le_trans hb hg, r⟩
theorem infoA3 : (Tryz.prog.info? 50).map (fun i => (i.zero, i.size, i.bytes)) = some (some (.agg #[.int .i64 0, .int .i64 0, .int .i64 0]), 3, 24) := by kernel_rfl
theorem newsA (w : World) (T : TypeId) (a : Arc) (b : Nat) (hb : w.heap.size = b) : ∀ j z, (encA a)[j]? = some z → (w.alloc (.cells (encA a).toArray T)).cell? ((⟨b, 0, none⟩ : Addr).add j) = some z := by
  intro j z hz
  subst hb
  have e : ((⟨w.heap.size, 0, none⟩ : Addr).add j) = ⟨w.heap.size, j, none⟩ := by
    by_cases hj : j = 0
    · subst hj; rfl
    · simp [Addr.add, hj]
  rw [e, lit_cell]
  exact hz
/-- An append of one arc onto a row of the call's own: what it leaves. -/
theorem arc_app {w0 w w' : World} {v v' : Value} {K : List Arc} {a : Arc} (hB : Below w0.heap.size w0 w) (hO : OwnA w w0.heap.size v K) (hown : w'.ownsRow w0.heap.size 50 3 v' (K.length + 1) (K.flatMap encA ++ encA a)) (hgrow : w.grownBy w' v.ownBlock) :
    OwnA w' w0.heap.size v' (K ++ [a]) ∧ Below w0.heap.size w0 w' :=
  ⟨OwnA.snoc hown, hB.trans (((Out.refl _ w).grown (S := fun b => v.ownBlock = some b) hgrow (fun _ _ e => e)).below hB.size (fun i _ e => (World.ownsRow.lt hO i e).1))⟩
theorem Rise.snoc {n : Nat} {K : List Arc} (h : Rise n K) (hl : K.length < 40) {a b c : Nat} (hab : a < b) (hb : b < n) (hc : c ≤ 7) : Rise n (K ++ [((a : Int), (b : Int), (c : Int))]) :=
  ⟨h.n1, by simp; omega, fun x hx => by
    rcases List.mem_append.1 hx with hx | hx
    · exact h.ok x hx
    · obtain rfl := List.mem_singleton.1 hx
      simp only
      omega⟩


end Go.Proofs.YtappfojjjegnpaaGreatDoor

namespace Go.Proofs.YtappfojjjegnpaaGreatDoor
open Go.RowKit Go.ChangeShapes Go.WideShapes Go.Deep

theorem TriAt.below {w w' : World} {A : Option Addr} {n : Nat} {D : Nat → Int × Int × Int} (h : TriAt w A n D) (o : Below w.heap.size w w') : TriAt w' A n D := by
  refine ⟨fun h0 => ?_, h.r⟩
  obtain ⟨b, o', e, hb, hc⟩ := h.at_ h0
  refine ⟨b, o', e, Nat.lt_of_lt_of_le hb o.size, fun k hk => ?_⟩
  rw [o.cell (p := ⟨b, o' + k * 3, none⟩) hb, o.cell (p := ⟨b, o' + k * 3 + 1, none⟩) hb, o.cell (p := ⟨b, o' + k * 3 + 2, none⟩) hb]
  exact hc k hk
section
variable {H : Type} {enc : TypeId × Value → H} {P : Program} {w : World} {spare : Nat → Bool} {held : Bool}
/-- Nothing, or a row whose elements read by their type: of one cell that reads as a slice. -/
theorem rows_of {t e : TypeId} {fuel : Nat} {v : Value} {x : DataW H × List MemPlace} {K : Nat} (ht : P.underlying t = some (.slice e)) (hc : P.cellsOf e = K) (hK : 0 < K)
    (hf : DataW.trod enc P w 0 spare held fuel t [v] = some x) :
    (∃ A cap, v = .slice A 0 cap) ∨
    ∃ b o n cap, v = .slice (some ⟨b, o, none⟩) n cap ∧ RowAt w K b o n cap fun _ cs => ∃ fuel x, DataW.trod enc P w 0 spare held fuel e cs = some x := by
  subst hc
  rcases open_slice ht hf with ⟨h0, _⟩ | ⟨a', len, cap', m, k, D, Pl, hcs, _, hl, hm, hmm, _, hi⟩
  · simp only [List.cons.injEq, and_true] at h0
    exact Or.inl ⟨_, _, h0⟩
  · simp only [List.cons.injEq, and_true] at hcs
    subst hcs
    by_cases h0 : len = 0
    · subst h0
      exact Or.inl ⟨_, _, rfl⟩
    · have hnm : len ≤ m := by rw [hmm]; split <;> omega
      have hspot : a'.spot = none := by
        obtain ⟨cs', hc, _⟩ := hi 0 (by omega)
        obtain ⟨_, hlen, hat⟩ := World.cells?_some hc
        have := hat 0 hK
        rw [List.getElem?_eq_getElem (by omega)] at this
        have := World.cell?_spot this
        unfold Addr.add at this
        split at this <;> simp_all
      obtain ⟨b, o, spot⟩ := a'
      have e0 : spot = none := hspot
      subst e0
      have hcell : ∀ i, i < len → ∃ cs : List Value, cs.length = P.cellsOf e ∧ (∀ j, j < P.cellsOf e → w.cell? ⟨b, o + i * P.cellsOf e + j, none⟩ = cs[j]?) ∧ ∃ fuel x, DataW.trod enc P w 0 spare held fuel e cs = some x := by
        intro i hin
        obtain ⟨cs', hc, ht'⟩ := hi i (by omega)
        obtain ⟨_, hlen, hat⟩ := World.cells?_some hc
        refine ⟨cs', hlen, fun j hj => ?_, _, _, ht'⟩
        rw [← hat j hj, add_lit, add_lit]
      refine Or.inr ⟨b, o, len, cap', rfl, by omega, hl, hm, ?_, hcell⟩
      obtain ⟨cs', hlen, hat, _⟩ := hcell 0 (by omega)
      have := hat 0 hK
      rw [List.getElem?_eq_getElem (by omega)] at this
      exact lt_of_cell this
end
theorem wf_u8 {n : Int} (h : (Lit.int .u8 n).wf = true) : 0 ≤ n ∧ n ≤ 255 := by
  have h' : IntKind.u8.min ≤ n ∧ n ≤ IntKind.u8.max := by simpa [Lit.wf] using h
  exact h'
theorem wf_i16 {n : Int} (h : (Lit.int .i16 n).wf = true) : -32768 ≤ n ∧ n ≤ 32767 := by
  have h' : IntKind.i16.min ≤ n ∧ n ≤ IntKind.i16.max := by simpa [Lit.wf] using h
  exact h'


set_option maxRecDepth 100000 in
theorem ints_open {H : Type} {enc : TypeId × Value → H} {w : World} {v : Value} {d : DataW H} {p : List MemPlace} {spare : Nat → Bool} {held : Bool} {b0 : Nat}
    (hv : Value.okWide Tryz.prog w .any b0 22 v) (h : DataW.Trod enc Tryz.prog w 0 spare held 22 v d p) : ∃ x : List Int, IntsAt w v x := by
  rcases open_rows Tryz.underlying22 (K := 1) (by kernel_rfl) (by decide) hv h with ⟨A, cap, rfl⟩ | ⟨b, o, n, cap, rfl, R⟩
  · exact ⟨[], A, cap, rfl, by simp, fun h => absurd h (by simp)⟩
  · have each : ∀ i, i < n → ∃ q : Int, w.cell? ⟨b, o + i, none⟩ = some (.int .i64 q) := by
      intro i hi
      obtain ⟨cs, hlen, hat, fuel, x, hx⟩ := R.at_ i hi
      match cs, hlen with
      | [c0], _ =>
        obtain ⟨n0, e0, f0⟩ := elem_int Tryz.underlying3 hx
        simp only [List.cons.injEq, and_true] at e0
        subst e0
        have h0 := hat 0 (by omega)
        rw [Nat.mul_one, Nat.add_zero] at h0
        exact ⟨n0, h0⟩
    obtain ⟨D, hD⟩ := choose_lt each
    refine ⟨(List.range n).map D, some ⟨b, o, none⟩, cap, by simp, by simpa using R.le, fun _ => ⟨b, o, rfl, R.lt, fun k hk => ?_⟩⟩
    have hk' : k < n := by simpa using hk
    rw [hD k hk']
    simp

end Go.Proofs.YtappfojjjegnpaaGreatDoor

namespace Go.Proofs.YtappfojjjegnpaaGreatDoor
open Go.RowKit Go.ChangeShapes Go.WideShapes Go.Deep

/-- What a slice of pairs reads as. -/
structure DuoAt (w : World) (A : Option Addr) (n cap : Nat) (D : Nat → Int × Int) : Prop where
  le : n ≤ cap
  max : cap ≤ maxLen
  at_ : 0 < n → ∃ b o, A = some ⟨b, o, none⟩ ∧ b < w.heap.size ∧ ∀ k, k < n → w.cell? ⟨b, o + k * 2, none⟩ = some (.int .u8 (D k).1) ∧ w.cell? ⟨b, o + k * 2 + 1, none⟩ = some (.int .u8 (D k).2)
  r : ∀ k, k < n → (0 ≤ (D k).1 ∧ (D k).1 ≤ 255) ∧ 0 ≤ (D k).2 ∧ (D k).2 ≤ 255
theorem DuoAt.below {w w' : World} {A : Option Addr} {n cap : Nat} {D : Nat → Int × Int} (h : DuoAt w A n cap D) (o : Below w.heap.size w w') : DuoAt w' A n cap D := by
  refine ⟨h.le, h.max, fun h0 => ?_, h.r⟩
  obtain ⟨b, o', e, hb, hc⟩ := h.at_ h0
  refine ⟨b, o', e, Nat.lt_of_lt_of_le hb o.size, fun k hk => ?_⟩
  rw [o.cell (p := ⟨b, o' + k * 2, none⟩) hb, o.cell (p := ⟨b, o' + k * 2 + 1, none⟩) hb]
  exact hc k hk



end Go.Proofs.YtappfojjjegnpaaGreatDoor

namespace Go.Proofs.YtappfojjjegnpaaGreatDoor
open Go.RowKit Go.Proofs.YtappfojjjegnpaaGreatDoor.DagM


theorem wk5_ord : ordErr 3 [(0, 1, 3), (1, 2, 1), (0, 2, 2)] = 0 := by decide +kernel
theorem wk5_sup : (List.range 3).map (fun (u : Nat) => supF [(0, 1, 3), (1, 2, 1), (0, 2, 2)] u) = [5, -2, -3] := by decide +kernel
theorem loop5 : ordErr 1 [(0, 0, 0)] = 11 := by decide +kernel

theorem arcs_lit_at (L : List Arc) (w : World) (T cap n : Nat) (hn : w.heap.size = n) (hc : L.length ≤ cap) : ArcsAt (w.alloc (.cells (L.flatMap encA).toArray T)) (.slice (some ⟨n, 0, none⟩) L.length cap) L := by
  subst hn
  exact arcs_lit L w T cap hc
theorem ints_lit_at (x : List Int) (w : World) (T cap n : Nat) (hn : w.heap.size = n) (hc : x.length ≤ cap) : IntsAt (w.alloc (.cells (x.map (Value.int .i64)).toArray T)) (.slice (some ⟨n, 0, none⟩) x.length cap) x := by
  subst hn
  exact ints_lit x w T cap hc


end Go.Proofs.YtappfojjjegnpaaGreatDoor

namespace Go.Proofs.YtappfojjjegnpaaGreatDoor.DagM

variable {n m : Nat} {K L : List Arc} {x y f g : List Int} {u v : Int}
/-- All weights k times as great. -/
def timesA (k : Int) (L : List Arc) : List Arc := L.map fun a => (a.1, a.2.1, a.2.2 * k)
theorem times_fit (k : Int) : fitB x (timesA k L) = fitB x L := by
  unfold fitB timesA
  rw [List.all_map]
  rfl
theorem times_cost (k : Int) : costSum x (timesA k L) = k * costSum x L := by
  unfold costSum timesA
  rw [List.map_map]
  induction L with
  | nil => simp
  | cons a L ih =>
    simp only [List.map_cons, List.sum_cons, ih, Int.mul_add]
    congr 1
    simp only [Function.comp, costA]
    rw [Int.mul_comm a.2.2 k, Int.mul_assoc]


/-- All arcs turned. -/
def turnA (L : List Arc) : List Arc := L.map fun a => (a.2.1, a.1, a.2.2)
theorem val_neg {i : Int} (h : i.toNat < x.length) : val (x.map fun c => -c) i = - val x i := by
  simp [val, List.getD_eq_getElem?_getD, h]
theorem turn_fit (hx : ∀ a ∈ L, a.1.toNat < x.length ∧ a.2.1.toNat < x.length) (h : fitB x L = true) : fitB (x.map fun c => -c) (turnA L) = true := by
  unfold fitB turnA at *
  rw [List.all_eq_true] at *
  intro b hb
  obtain ⟨a, ha, rfl⟩ := List.mem_map.1 hb
  have h1 := h a ha
  have h2 := hx a ha
  simp only [fitA, decide_eq_true_eq] at h1 ⊢
  rw [val_neg h2.1, val_neg h2.2]
  omega
theorem turn_cost (hx : ∀ a ∈ L, a.1.toNat < x.length ∧ a.2.1.toNat < x.length) : costSum (x.map fun c => -c) (turnA L) = costSum x L := by
  unfold costSum turnA
  rw [List.map_map]
  congr 1
  refine List.map_congr_left fun a ha => ?_
  have h2 := hx a ha
  simp only [Function.comp, costA]
  rw [val_neg h2.1, val_neg h2.2]
  congr 1
  omega
theorem turn_turn : turnA (turnA L) = L := by
  unfold turnA
  rw [List.map_map]
  conv => rhs; rw [← List.map_id L]
  rfl
theorem ends_in {z : List Int} (hl : z.length = n) (hE : ∀ a ∈ L, 0 ≤ a.1 ∧ a.1 < n ∧ 0 ≤ a.2.1 ∧ a.2.1 < n) : ∀ a ∈ L, a.1.toNat < z.length ∧ a.2.1.toNat < z.length := fun a ha => by have := hE a ha; omega

/-- A graph moved by n nodes. -/
def moveA (n : Nat) (L : List Arc) : List Arc := L.map fun a => ((n : Int) + a.1, (n : Int) + a.2.1, a.2.2)
theorem move_cost (z : List Int) (hE : ∀ a ∈ L, 0 ≤ a.1 ∧ 0 ≤ a.2.1) : costSum z (moveA n L) = costSum (z.drop n) L ∧ fitB z (moveA n L) = fitB (z.drop n) L := by
  have hv : ∀ i : Int, 0 ≤ i → val z ((n : Int) + i) = val (z.drop n) i := fun i h0 => by
    have e : ((n : Int) + i).toNat = n + i.toNat := by omega
    simp [val, List.getD_eq_getElem?_getD, e]
  constructor
  · unfold costSum moveA
    rw [List.map_map]
    congr 1
    refine List.map_congr_left fun a ha => ?_
    have := hE a ha
    simp only [Function.comp, costA]
    rw [hv _ this.1, hv _ this.2]
  · unfold fitB moveA
    rw [List.all_map, Bool.eq_iff_iff, List.all_eq_true, List.all_eq_true]
    refine ⟨fun h a ha => ?_, fun h a ha => ?_⟩
    · have h1 := h a ha
      have := hE a ha
      simp only [Function.comp, fitA, decide_eq_true_eq] at h1 ⊢
      rwa [hv _ this.1, hv _ this.2] at h1
    · have h1 := h a ha
      have := hE a ha
      simp only [Function.comp, fitA, decide_eq_true_eq] at h1 ⊢
      rwa [hv _ this.1, hv _ this.2]
theorem first_cost (z : List Int) (hE : ∀ a ∈ L, 0 ≤ a.1 ∧ a.1 < n ∧ 0 ≤ a.2.1 ∧ a.2.1 < n) : costSum (z.take n) L = costSum z L ∧ fitB (z.take n) L = fitB z L := by
  have hv : ∀ i : Int, 0 ≤ i → i < n → val (z.take n) i = val z i := fun i h0 h1 => by
    have : i.toNat < n := by omega
    simp [val, List.getD_eq_getElem?_getD, this]
  constructor
  · unfold costSum
    congr 1
    refine List.map_congr_left fun a ha => ?_
    have := hE a ha
    simp only [costA]
    rw [hv _ this.1 this.2.1, hv _ this.2.2.1 this.2.2.2]
  · unfold fitB
    rw [Bool.eq_iff_iff, List.all_eq_true, List.all_eq_true]
    refine ⟨fun h a ha => ?_, fun h a ha => ?_⟩
    · have h1 := h a ha
      have := hE a ha
      simp only [fitA, decide_eq_true_eq] at h1 ⊢
      rwa [hv _ this.1 this.2.1, hv _ this.2.2.1 this.2.2.2] at h1
    · have h1 := h a ha
      have := hE a ha
      simp only [fitA, decide_eq_true_eq] at h1 ⊢
      rwa [hv _ this.1 this.2.1, hv _ this.2.2.1 this.2.2.2]
theorem cost_app (z : List Int) (K L : List Arc) : costSum z (K ++ L) = costSum z K + costSum z L := by unfold costSum; rw [List.map_append, List.sum_append]
theorem fit_app (z : List Int) (K L : List Arc) : fitB z (K ++ L) = (fitB z K && fitB z L) := by unfold fitB; rw [List.all_append]

end Go.Proofs.YtappfojjjegnpaaGreatDoor.DagM

namespace Go.Proofs.YtappfojjjegnpaaGreatDoor.DagM
variable {n : Nat} {L : List Arc} {f : List Int}

theorem netP_add (v : Int) (a : Arc) (c d : Int) : netP v (a, c + d) = netP v (a, c) + netP v (a, d) := by
  unfold netP
  simp only
  split <;> split <;> omega
theorem netF_set (v d : Int) : ∀ (L : List Arc) (f : List Int) (j : Nat) (hj : j < f.length) (hl : j < L.length), netF L (f.set j (f[j] + d)) v = netF L f v + netP v (L[j], d) := by
  intro L
  induction L with
  | nil => intro f j _ hl; simp at hl
  | cons a L ih =>
    intro f j hj hl
    cases f with
    | nil => simp at hj
    | cons c f =>
      cases j with
      | zero =>
        simp only [List.set_cons_zero, List.getElem_cons_zero, netF_cons, netP_add]
        omega
      | succ j =>
        simp only [List.set_cons_succ, List.getElem_cons_succ, netF_cons]
        rw [ih f j (by simpa using hj) (by simpa using hl)]
        omega
/-- A flow told by a function. -/
def flL (L : List Arc) (s : Nat → Int) : List Int := (List.range L.length).map s
theorem flL_set (L : List Arc) (s : Nat → Int) (j : Nat) (c : Int) : flL L (fun u => if u = j then c else s u) = (flL L s).set j c := by
  unfold flL
  refine List.ext_getElem (by simp) fun i h1 h2 => ?_
  simp only [List.getElem_map, List.getElem_range, List.getElem_set]
  by_cases e : i = j
  · simp [e]
  · have : ¬ j = i := fun k => e k.symm
    simp [e, this]
theorem flL_get (L : List Arc) (s : Nat → Int) (j : Nat) (h : j < (flL L s).length) : (flL L s)[j] = s j := by simp [flL]
theorem flL_len (L : List Arc) (s : Nat → Int) : (flL L s).length = L.length := by simp [flL]
theorem net_bump (s : Nat → Int) {j : Nat} (hj : j < L.length) (d v : Int) : netF L (flL L (fun u => if u = j then s j + d else s u)) v = netF L (flL L s) v + netP v (L[j], d) := by
  rw [flL_set]
  have h := netF_set v d L (flL L s) j (by rw [flL_len]; exact hj) hj
  rw [flL_get] at h
  exact h
/-- One unit from j's way to the way by i and k. -/
def sent (s : Nat → Int) (j i k : Nat) : Nat → Int :=
  let s1 : Nat → Int := fun u => if u = j then s j + -1 else s u
  let s2 : Nat → Int := fun u => if u = i then s1 i + 1 else s1 u
  fun u => if u = k then s2 k + 1 else s2 u
theorem sent_right {s : Nat → Int} (h : RightF n L (flL L s)) {j i k : Nat} (hj : j < L.length) (hi : i < L.length) (hk : k < L.length) (h0 : 0 < s j) (hji : j ≠ i) (hjk : j ≠ k)
    (h1 : L[i].1 = L[j].1) (h2 : L[k].2.1 = L[j].2.1) (h3 : L[i].2.1 = L[k].1) : RightF n L (flL L (sent s j i k)) := by
  have nn : ∀ u, u < L.length → 0 ≤ s u := fun u hu => by
    have := h.nn ((flL L s)[u]'(by rw [flL_len]; exact hu)) (List.getElem_mem _)
    rwa [flL_get] at this
  refine ⟨flL_len _ _, fun y hy => ?_, fun v hv => ?_⟩
  · obtain ⟨u, hu, rfl⟩ := List.mem_iff_getElem.1 hy
    rw [flL_get]
    have hu' : u < L.length := by simpa [flL] using hu
    have e0 := nn u hu'
    have ei := nn i hi
    have ek := nn k hk
    unfold sent
    simp only
    have hij : ¬ i = j := fun e => hji e.symm
    have hkj : ¬ k = j := fun e => hjk e.symm
    by_cases a : u = k
    · subst a
      by_cases b : u = i
      · subst b; simp [hij]; omega
      · simp [b, hkj]; omega
    · by_cases b : u = i
      · subst b; simp [a, hij]; omega
      · by_cases c : u = j
        · subst c; simp [a, b]; omega
        · simp [a, b, c]; exact e0
  · rw [← h.net v hv]
    obtain ⟨s1, e1⟩ : ∃ s1 : Nat → Int, s1 = fun u => if u = j then s j + -1 else s u := ⟨_, rfl⟩
    obtain ⟨s2, e2⟩ : ∃ s2 : Nat → Int, s2 = fun u => if u = i then s1 i + 1 else s1 u := ⟨_, rfl⟩
    have e0 : sent s j i k = fun u => if u = k then s2 k + 1 else s2 u := by subst e2 e1; rfl
    rw [e0, net_bump s2 hk, e2, net_bump s1 hi, e1, net_bump s hj]
    unfold netP
    simp only [h1, h2, h3]
    split <;> split <;> split <;> omega
/-- No number of a right flow is more than what coordinates that fit cost. -/
theorem right_near {y : List Int} {s : Nat → Int} (hE : ∀ a ∈ L, 0 ≤ a.1 ∧ a.1 < n ∧ 0 ≤ a.2.1 ∧ a.2.1 < n) (h : RightF n L (flL L s)) (hf : fitB y L = true) {u : Nat} (hu : u < L.length) : 0 ≤ s u ∧ s u ≤ costSum y L := by
  have hw := weak hE h hf
  have hm : s u ∈ flL L s := by
    have := List.getElem_mem (l := flL L s) (n := u) (by rw [flL_len]; exact hu)
    rwa [flL_get] at this
  have le : ∀ l : List Int, (∀ c ∈ l, 0 ≤ c) → ∀ c ∈ l, c ≤ l.sum := by
    intro l
    induction l with
    | nil => intro _ c hc; simp at hc
    | cons a l ih =>
      intro h0 c hc
      have ha := h0 a (by simp)
      have hs : 0 ≤ l.sum := by
        have := sum_take_le l (fun d hd => h0 d (by simp [hd])) l.length
        rw [List.take_length] at this
        omega
      rw [List.sum_cons]
      rcases List.mem_cons.1 hc with e | e
      · subst e; omega
      · have := ih (fun d hd => h0 d (by simp [hd])) c e; omega
  exact ⟨h.nn _ hm, Int.le_trans (le _ h.nn _ hm) hw⟩
/-- What the weights are is a right flow. -/
theorem wts_right {n' : Int} (hM : May n' L) (s : Nat → Int) (hs : flL L s = wts L) : RightF n L (flL L s) :=
  ⟨flL_len _ _, by rw [hs]; exact (wts_near hM).1, fun v _ => by rw [hs]; rfl⟩
end Go.Proofs.YtappfojjjegnpaaGreatDoor.DagM

namespace Go.Proofs.YtappfojjjegnpaaGreatDoor
open Go.RowKit Go.Proofs.YtappfojjjegnpaaGreatDoor.DagM

theorem flat_weight (L : List Arc) (i : Nat) (z : Int) (h : i < L.length) : (L.set i (L[i].1, L[i].2.1, z)).flatMap encA = (L.flatMap encA).set (i * 3 + 2) (.int .i64 z) := by
  induction L generalizing i with
  | nil => simp at h
  | cons a L ih =>
    cases i with
    | zero => simp [encA]
    | succ i =>
      have hi : i < L.length := by simpa using h
      have e : (i + 1) * 3 + 2 = (i * 3 + 2) + 1 + 1 + 1 := by omega
      rw [e]
      simp only [List.set_cons_succ, List.getElem_cons_succ, List.flatMap_cons, encA, List.cons_append, List.nil_append]
      rw [ih i hi]
theorem OwnA.weigh {w : World} {B g cap : Nat} {L : List Arc} (h : OwnA w B (.slice (some ⟨g, 0, none⟩) L.length cap) L) (i : Nat) (z : Int) (hi : i < L.length) : OwnA (w.setCell ⟨g, i * 3 + 2, none⟩ (.int .i64 z)) B (.slice (some ⟨g, 0, none⟩) L.length cap) (L.set i (L[i].1, L[i].2.1, z)) := by
  have h2 := (World.ownsRow.stored h (i * 3 + 2) (.int .i64 z)).1
  unfold OwnA
  rw [List.length_set, flat_weight L i z hi]
  exact h2
/-- The first k of them have the new weight. -/
def partA (c : Int) (K : List Arc) (k : Nat) : List Arc := timesA c (K.take k) ++ K.drop k
theorem partA_len (c : Int) (K : List Arc) (k : Nat) : (partA c K k).length = K.length := by simp [partA, timesA]; omega
theorem partA_at (c : Int) (K : List Arc) (k : Nat) (h : k < K.length) : (partA c K k)[k]'(by rw [partA_len]; exact h) = K[k] := by
  unfold partA
  rw [List.getElem_append_right (by simp [timesA]; omega)]
  simp [timesA, Nat.min_eq_left (Nat.le_of_lt h)]
theorem partA_next (c : Int) (K : List Arc) (k : Nat) (h : k < K.length) : (partA c K k).set k (K[k].1, K[k].2.1, K[k].2.2 * c) = partA c K (k + 1) := by
  unfold partA timesA
  have hl : ((K.take k).map fun a => (a.1, a.2.1, a.2.2 * c)).length = k := by simp; omega
  rw [List.set_append_right _ _ (by rw [hl]; exact Nat.le_refl _), hl, Nat.sub_self, List.drop_eq_getElem_cons h, List.set_cons_zero, List.take_succ_eq_append_getElem h, List.map_append, List.append_assoc]
  rfl
theorem partA_all (c : Int) (K : List Arc) : partA c K K.length = timesA c K := by simp [partA]
end Go.Proofs.YtappfojjjegnpaaGreatDoor
