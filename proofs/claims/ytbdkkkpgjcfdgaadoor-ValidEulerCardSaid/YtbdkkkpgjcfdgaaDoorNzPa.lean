/-
  Rows of bools and of edges in memory; the small calls of package parse: is it a vertex, are these bends, which direction, which vertex. Conditions: texts of at most 2000000 bytes where they are split.
  What the program's readEdge answers. Conditions: texts of at most 2000000 bytes.
  What the program's readBoxes answers; what is read so far, in memory. Conditions: texts of at most 2000000 bytes.
  What is read so far, in memory; addVertices. Conditions: texts of at most 2000000 bytes.
  addEdge, add: what they answer and leave. Conditions: texts of at most 1500000 bytes.
  add, Parse: what they answer. Conditions: none.
  Parse: what it answers. Conditions: the library's tables are laid.
-/
import Derived.Test.YtbdkkkpgjcfdgaaDoorNzL
import Derived.Test.YtbdkkkpgjcfdgaaDoorNzC
import Derived.Test.YtbdkkkpgjcfdgaaDoorNzPm
import Derived.Shelf.Strings.SlTrimAscii
import Derived.Lib.OthersKept
namespace Go.Proofs.YtbdkkkpgjcfdgaaDoor
open Go.RowKit Go.Proofs.YtbdkkkpgjcfdgaaDoor.LexM Go.Proofs.YtbdkkkpgjcfdgaaDoor.ParM

/-- The bools B in memory. -/
def BlsAt (w : World) (v : Value) (B : List Bool) : Prop :=
  ∃ A cap, v = .slice A B.length cap ∧ B.length ≤ cap ∧ (0 < B.length → ∃ b o, A = some ⟨b, o, none⟩ ∧ b < w.heap.size ∧ ∀ k (h : k < B.length), w.cell? ⟨b, o + k, none⟩ = some (.bool B[k]))
theorem BlsAt.below {C : Nat} {w w' : World} {v : Value} {B : List Bool} (h : BlsAt w v B) (hb : Below C w w') (hC : w.heap.size ≤ C) : BlsAt w' v B := by
  obtain ⟨A, cap, rfl, hc, hA⟩ := h
  refine ⟨A, cap, rfl, hc, fun h0 => ?_⟩
  obtain ⟨b, o, e, hlt, h⟩ := hA h0
  refine ⟨b, o, e, Nat.lt_of_lt_of_le hlt hb.size, fun k hk => ?_⟩
  rw [hb.cell (p := ⟨b, o + k, none⟩) (Nat.lt_of_lt_of_le hlt hC)]
  exact h k hk
theorem BlsAt.nil (w : World) : BlsAt w (.slice none 0 0) [] := ⟨none, 0, rfl, Nat.le_refl _, fun h => absurd h (by simp)⟩
theorem BlsAt.form {w : World} {v : Value} {B : List Bool} (h : BlsAt w v B) : ∃ A cap, v = .slice A B.length cap := by
  obtain ⟨A, cap, rfl, _⟩ := h; exact ⟨A, cap, rfl⟩
/-- The edges E in memory: four cells each. -/
def EdsAt (w : World) (v : Value) (E : List Edg) : Prop :=
  ∃ A cap, v = .slice A E.length cap ∧ E.length ≤ cap ∧ (0 < E.length → ∃ b o, A = some ⟨b, o, none⟩ ∧ b < w.heap.size ∧ ∀ k (h : k < E.length),
    w.cell? ⟨b, o + k * 4, none⟩ = some (.int .i64 E[k].1) ∧ w.cell? ⟨b, o + k * 4 + 1, none⟩ = some (.int .i64 E[k].2.1) ∧ w.cell? ⟨b, o + k * 4 + 2, none⟩ = some (.int .i64 E[k].2.2.1) ∧ w.cell? ⟨b, o + k * 4 + 3, none⟩ = some (.string (bs E[k].2.2.2)))
theorem EdsAt.below {C : Nat} {w w' : World} {v : Value} {E : List Edg} (h : EdsAt w v E) (hb : Below C w w') (hC : w.heap.size ≤ C) : EdsAt w' v E := by
  obtain ⟨A, cap, rfl, hc, hA⟩ := h
  refine ⟨A, cap, rfl, hc, fun h0 => ?_⟩
  obtain ⟨b, o, e, hlt, h⟩ := hA h0
  refine ⟨b, o, e, Nat.lt_of_lt_of_le hlt hb.size, fun k hk => ?_⟩
  have hl : ∀ j, w'.cell? ⟨b, j, none⟩ = w.cell? ⟨b, j, none⟩ := fun j => hb.cell (p := ⟨b, j, none⟩) (Nat.lt_of_lt_of_le hlt hC)
  rw [hl, hl, hl, hl]
  exact h k hk
theorem EdsAt.nil (w : World) : EdsAt w (.slice none 0 0) [] := ⟨none, 0, rfl, Nat.le_refl _, fun h => absurd h (by simp)⟩
theorem EdsAt.form {w : World} {v : Value} {E : List Edg} (h : EdsAt w v E) : ∃ A cap, v = .slice A E.length cap := by
  obtain ⟨A, cap, rfl, _⟩ := h; exact ⟨A, cap, rfl⟩
def encE (e : Edg) : List Value := [.int .i64 e.1, .int .i64 e.2.1, .int .i64 e.2.2.1, .string (bs e.2.2.2)]
def valE (e : Edg) : Value := .agg #[.int .i64 e.1, .int .i64 e.2.1, .int .i64 e.2.2.1, .string (bs e.2.2.2)]
theorem encE_len (e : Edg) : (encE e).length = 4 := rfl
theorem encE_one (e : Edg) : ∀ u ∈ encE e, u.oneCell' = true := by
  intro u hu
  simp [encE] at hu
  rcases hu with rfl | rfl | rfl | rfl <;> rfl
/-- In rows of the call's own. -/
def OwnE (w : World) (B : Nat) (v : Value) (E : List Edg) : Prop := w.ownsRow B 75 4 v E.length (E.flatMap encE)
def OwnB (w : World) (B : Nat) (v : Value) (L : List Bool) : Prop := w.ownsRow B 4 1 v L.length (L.map Value.bool)
theorem edg_at (L : List Edg) (k : Nat) (h : k < L.length) (r : Nat) (hr : r < 4) : (L.flatMap encE)[k * 4 + r]? = (encE L[k])[r]? := by
  have hlen := flat_len encE encE_len L
  have hI : Inhabited Edg := ⟨noE⟩
  have h1 := flat_get encE encE_len L k r h hr
  have h2 : k * 4 + r < (L.flatMap encE).length := by rw [hlen]; omega
  rw [List.getD_eq_getElem?_getD, List.getD_eq_getElem?_getD, List.getD_eq_getElem?_getD, List.getElem?_eq_getElem h2, List.getElem?_eq_getElem h] at h1
  simp only [Option.getD_some] at h1
  rw [List.getElem?_eq_getElem h2, h1, List.getElem?_eq_getElem (by rw [encE_len]; exact hr)]
  rfl
theorem OwnE.form {w : World} {B : Nat} {v : Value} {l : List Edg} (h : OwnE w B v l) : ∃ ao cap, v = .slice ao l.length cap := by
  rcases h.2 with ⟨h1, h2⟩ | ⟨_, _, _, h, _⟩
  · exact ⟨none, 0, by rw [h2]; exact h1⟩
  · exact ⟨_, _, h⟩
theorem OwnE.eds {w : World} {B : Nat} {v : Value} {L : List Edg} (h : OwnE w B v L) : EdsAt w v L := by
  have h' := h
  rcases h.2 with ⟨rfl, h2⟩ | ⟨g, cap, cur, rfl, _, hg, hn, hr⟩
  · exact ⟨none, 0, by rw [h2], by omega, fun h => absurd h (by omega)⟩
  · refine ⟨_, cap, rfl, hn, fun _ => ⟨g, 0, rfl, (Array.getElem?_eq_some_iff.1 hg).1, fun k hk => ?_⟩⟩
    have e : ∀ r, r < 4 → w.cell? ⟨g, k * 4 + r, none⟩ = (encE L[k])[r]? := fun r hr => by
      rw [h'.cellAt (k * 4 + r) (by omega), edg_at L k hk r hr]
    have e0 := e 0 (by omega)
    have e1 := e 1 (by omega)
    have e2 := e 2 (by omega)
    have e3 := e 3 (by omega)
    simp only [Nat.zero_add, Nat.add_zero] at e0 e1 e2 e3 ⊢
    exact ⟨e0, e1, e2, e3⟩
theorem OwnE.below {w w' : World} {B C : Nat} {v : Value} {l : List Edg} (h : OwnE w B v l) (o : Below C w w') (hC : w.heap.size ≤ C) : OwnE w' B v l := ownsRow_out (S := fun _ => False) h (Out.ofBelow (o.mono hC)) (fun _ _ e => e)
theorem OwnE.snoc {w : World} {B : Nat} {v : Value} {l : List Edg} {a : Edg} (h : w.ownsRow B 75 4 v (l.length + 1) (l.flatMap encE ++ encE a)) : OwnE w B v (l ++ [a]) := by
  unfold OwnE
  have e : (l ++ [a]).flatMap encE = l.flatMap encE ++ encE a := by simp
  rw [List.length_append, e]
  exact h
theorem OwnB.form {w : World} {B : Nat} {v : Value} {l : List Bool} (h : OwnB w B v l) : ∃ ao cap, v = .slice ao l.length cap := by
  rcases h.2 with ⟨h1, h2⟩ | ⟨_, _, _, h, _⟩
  · exact ⟨none, 0, by rw [h2]; exact h1⟩
  · exact ⟨_, _, h⟩
theorem OwnB.bls {w : World} {B : Nat} {v : Value} {l : List Bool} (h : OwnB w B v l) : BlsAt w v l := by
  have h' := h
  rcases h.2 with ⟨rfl, h2⟩ | ⟨g, cap, cur, rfl, _, hg, hn, hr⟩
  · exact ⟨none, 0, by rw [h2], by omega, fun h => absurd h (by omega)⟩
  · refine ⟨_, cap, rfl, hn, fun _ => ⟨g, 0, rfl, (Array.getElem?_eq_some_iff.1 hg).1, fun k hk => ?_⟩⟩
    rw [Nat.zero_add, h'.cellAt k (by simpa using hk)]
    simp [hk]
theorem OwnB.below {w w' : World} {B C : Nat} {v : Value} {l : List Bool} (h : OwnB w B v l) (o : Below C w w') (hC : w.heap.size ≤ C) : OwnB w' B v l := ownsRow_out (S := fun _ => False) h (Out.ofBelow (o.mono hC)) (fun _ _ e => e)
theorem OwnB.snoc {w : World} {B : Nat} {v : Value} {l : List Bool} {a : Bool} (h : w.ownsRow B 4 1 v (l.length + 1) (l.map Value.bool ++ [.bool a])) : OwnB w B v (l ++ [a]) := by
  unfold OwnB
  rw [List.length_append, List.map_append]
  exact h
theorem infoE4 : (Tryd.prog.info? 75).map (fun i => (i.zero, i.size, i.bytes)) = some (some (.agg #[.int .i64 0, .int .i64 0, .int .i64 0, .string ByteArray.empty]), 4, 40) := by kernel_rfl
theorem infoBl : (Tryd.prog.info? 4).map (fun i => (i.zero, i.size, i.bytes)) = some (some (.bool false), 1, 1) := by kernel_rfl
theorem info_of {P : Program} {t : TypeId} {z : Value} {n b : Nat} (h : (P.info? t).map (fun i => (i.zero, i.size, i.bytes)) = some (some z, n, b)) : ∃ i, P.info? t = some i ∧ i.zero = some z ∧ i.size = n ∧ i.bytes = b := by
  cases e : P.info? t with
  | none => rw [e] at h; cases h
  | some i =>
    rw [e] at h
    simp only [Option.map_some, Option.some.injEq, Prod.mk.injEq] at h
    exact ⟨i, rfl, h.1, h.2.1, h.2.2⟩

/-! The small calls. -/
theorem trim_turns (l : List UInt8) : Lib.trimS l [76, 82] = [] ↔ isTurns l = true := by
  have all : ∀ l : List UInt8, l.dropWhile (([76, 82] : List UInt8).contains ·) = [] ↔ isTurns l = true := by
    intro l
    induction l with
    | nil => simp [isTurns]
    | cons b t ih =>
      rw [List.dropWhile_cons]
      have hb : ([76, 82] : List UInt8).contains b = (decide (b = 76) || decide (b = 82)) := by
        rw [Bool.eq_iff_iff]; simp
      rw [hb]
      cases h : (decide (b = 76) || decide (b = 82)) with
      | true => rw [if_pos rfl, ih]; simp only [isTurns, List.all_cons, h, Bool.true_and]
      | false => simp [isTurns, h]
  have rev : isTurns l.reverse = isTurns l := by unfold isTurns; rw [List.all_reverse]
  unfold Lib.trimS Lib.trimLeftS Lib.trimRightS
  constructor
  · intro h
    have h1 := (all _).1 h
    -- what is left of the right trimming ends with no such letter, or is nothing
    cases hr : l.reverse.dropWhile (([76, 82] : List UInt8).contains ·) with
    | nil => rw [← rev]; exact (all _).1 hr
    | cons b t =>
      exfalso
      rw [hr] at h1
      have hb := List.head_dropWhile_not (p := (([76, 82] : List UInt8).contains ·)) (l := l.reverse) (by rw [hr]; simp)
      simp only [hr, List.head_cons] at hb
      have h2 := List.all_eq_true.1 h1 b (by simp)
      have hb2 : ([76, 82] : List UInt8).contains b = (decide (b = 76) || decide (b = 82)) := by
        rw [Bool.eq_iff_iff]; simp
      rw [hb2, h2] at hb
      cases hb
  · intro h
    have h1 : l.reverse.dropWhile (([76, 82] : List UInt8).contains ·) = [] := (all _).2 (by rw [rev]; exact h)
    rw [h1]; rfl



def dirV (l : List UInt8) : Int := if dirOf l = -1 then 0 else dirOf l
def dirK (l : List UInt8) : Bool := !decide (dirOf l = -1)
theorem dir_one (c : UInt8) : dirOf [c] = ofC c := by
  unfold dirOf ofC
  simp

def vtxV (n : Nat) (p : List UInt8) : Int := if vtxE n p = 0 then numVal p 9999999 else 0

end Go.Proofs.YtbdkkkpgjcfdgaaDoor

namespace Go.Proofs.YtbdkkkpgjcfdgaaDoor
open Go.RowKit Go.Proofs.YtbdkkkpgjcfdgaaDoor.LexM Go.Proofs.YtbdkkkpgjcfdgaaDoor.ParM



/-- An edge's box that is still empty, and words beside it. -/
structure EdSt (w wk : World) (g o : Nat) (L : List (List UInt8)) : Prop where
  below : Below w.heap.size w wk
  blk : wk.heap[w.heap.size]? = some (.cells #[.int .i64 0, .int .i64 0, .int .i64 0, .string ByteArray.empty] 75 (0, 0))
  gl : g < wk.heap.size
  cell : ∀ k (h : k < L.length), wk.cell? ⟨g, o + k, none⟩ = some (.string (bs L[k]))
theorem EdSt.step {w wk wl : World} {g o : Nat} {L : List (List UInt8)} (h : EdSt w wk g o L) (b : Below wk.heap.size wk wl) : EdSt w wl g o L := by
  have hlt : w.heap.size < wk.heap.size := (Array.getElem?_eq_some_iff.1 h.blk).1
  refine ⟨h.below.trans (b.mono h.below.size), by rw [b.block _ hlt]; exact h.blk, Nat.lt_of_lt_of_le h.gl b.size, fun k hk => ?_⟩
  rw [b.cell (p := ⟨g, o + k, none⟩) h.gl]; exact h.cell k hk
theorem EdSt.c0 {w wk : World} {g o : Nat} {L : List (List UInt8)} (h : EdSt w wk g o L) : wk.cell? ⟨w.heap.size, 0, none⟩ = some (.int .i64 0) ∧ wk.cell? ⟨w.heap.size, 1, none⟩ = some (.int .i64 0) ∧ wk.cell? ⟨w.heap.size, 2, none⟩ = some (.int .i64 0) ∧ wk.cell? ⟨w.heap.size, 3, none⟩ = some (.string ByteArray.empty) := by
  have h := h.blk
  refine ⟨?_, ?_, ?_, ?_⟩ <;> simp [World.cell?, h]
theorem EdSt.fr {w wk : World} {g o : Nat} {L : List (List UInt8)} (h : EdSt w wk g o L) (j : Nat) : wk.frozen? ⟨w.heap.size, j, none⟩ = false := by
  have h := h.blk
  simp only [World.frozen?, h]; simp
theorem EdSt.lt {w wk : World} {g o : Nat} {L : List (List UInt8)} (h : EdSt w wk g o L) : w.heap.size < wk.heap.size := (Array.getElem?_eq_some_iff.1 h.blk).1
/-- The box filled. -/
theorem edge_set {w wk : World} {b : Nat} {T : TypeId} {c0 c1 c2 c3 : Value} (h : wk.heap[b]? = some (.cells #[c0, c1, c2, c3] T (0, 0))) (hb : w.heap.size ≤ b) (hw : Below w.heap.size w wk) (v0 v1 v2 v3 : Value) {w6 : World}
    (e : ((((wk.setCell ⟨b, 0, none⟩ v0).setCell ⟨b, 1, none⟩ v1).setCell ⟨b, 2, none⟩ v2).setCell ⟨b, 3, none⟩ v3) = w6) :
    w6.cell? ⟨b, 0, none⟩ = some v0 ∧ w6.cell? ⟨b, 1, none⟩ = some v1 ∧ w6.cell? ⟨b, 2, none⟩ = some v2 ∧ w6.cell? ⟨b, 3, none⟩ = some v3 ∧ Below w.heap.size w w6 := by
  subst e
  have hc := heap_setCell_at (heap_setCell_at (heap_setCell_at (heap_setCell_at h 0 v0) 1 v1) 2 v2) 3 v3
  have ho : Out (fun x => x = b) wk ((((wk.setCell ⟨b, 0, none⟩ v0).setCell ⟨b, 1, none⟩ v1).setCell ⟨b, 2, none⟩ v2).setCell ⟨b, 3, none⟩ v3) := ((((Out.refl _ wk).setIn _ _).setIn _ _).setIn _ _).setIn _ _
  have hx : ∀ j v, ((((#[c0, c1, c2, c3].setIfInBounds 0 v0).setIfInBounds 1 v1).setIfInBounds 2 v2).setIfInBounds 3 v3)[j]? = some v → ((((wk.setCell ⟨b, 0, none⟩ v0).setCell ⟨b, 1, none⟩ v1).setCell ⟨b, 2, none⟩ v2).setCell ⟨b, 3, none⟩ v3).cell? ⟨b, j, none⟩ = some v := fun j v hv => by
    simp only [World.cell?, hc]
    exact hv
  exact ⟨hx 0 v0 rfl, hx 1 v1 rfl, hx 2 v2 rfl, hx 3 v3 rfl, hw.trans (ho.below hw.size (fun i _ e => by omega))⟩

def EdgP (n : Nat) (l : List UInt8) (w : World) (e : Ending) (w' : World) : Prop := e = .returned (.tuple #[valE (edgV n l), .int .i64 (edgE n l)]) ∧ Below w.heap.size w w'
theorem bs_nil : bs [] = ByteArray.empty := rfl
theorem edg_bad {n : Nat} {l : List UInt8} (h : (wdL l).length < 3 ∨ 4 < (wdL l).length) : edgE n l = 4 ∧ edgV n l = noE := by
  unfold edgE edgV
  split
  · rename_i e; rw [e] at h; simp at h
  · rename_i e; rw [e] at h; simp at h
  · exact ⟨rfl, rfl⟩

/-- What is answered, said of the words. -/
theorem edg_words {n : Nat} {l : List UInt8} {L : List (List UInt8)} (hL : wdL l = L) (h3 : 3 ≤ L.length) (h4 : L.length ≤ 4) (t : List UInt8) (ht : t = L.getD 3 []) :
    edgE n l = edgW n (L.getD 0 []) (L.getD 1 []) (L.getD 2 []) t ∧ edgV n l = edgX n (L.getD 0 []) (L.getD 1 []) (L.getD 2 []) t := by
  subst ht
  unfold edgE edgV
  rw [hL]
  match L, h3, h4 with
  | [a, d, b], _, _ => exact ⟨rfl, rfl⟩
  | [a, d, b, t], _, _ => exact ⟨rfl, rfl⟩
theorem edgX_no {n : Nat} {a d b t : List UInt8} {z : Int} (h : edgW n a d b t = z) (hz : z ≠ 0) : edgX n a d b t = noE := by unfold edgX; rw [if_neg (by rw [h]; exact hz)]

theorem wdL_short {l : List UInt8} : ∀ p ∈ wdL l, p.length ≤ l.length := by
  intro p hp
  unfold wdL at hp
  split at hp
  · have hg : glue 32 (pieces 32 l) = l ++ [32] := by
      have h2 : glue 32 [(ps 32 l).2] = (ps 32 l).2 ++ [32] := by simp [glue]
      rw [pieces_ps, glue_append, h2, ← List.append_assoc, glue_ps]
    obtain ⟨a, b, e⟩ := List.append_of_mem hp
    have h2 := congrArg List.length hg
    rw [e, glue_append] at h2
    simp [glue] at h2
    omega
  · simp at hp

end Go.Proofs.YtbdkkkpgjcfdgaaDoor

namespace Go.Proofs.YtbdkkkpgjcfdgaaDoor
open Go.RowKit Go.Proofs.YtbdkkkpgjcfdgaaDoor.LexM Go.Proofs.YtbdkkkpgjcfdgaaDoor.ParM

theorem mkBls (N : Nat) (hN : N ≤ 2000000) (w : World) : (Instr.makeSlice 26 (.int .i64 0) (.int .i64 (N : Int))).run Tryd.prog w = .ok (.slice (some ⟨w.heap.size, 0, none⟩) 0 N) (w.alloc (.cells (madeCells #[.bool false] N) 4)) := by
  obtain ⟨i, hi, hz, hs, hb⟩ := info_of infoBl
  have h := run_make (P := Tryd.prog) w 26 4 i (.bool false) Tryd.underlying26 hi hz .i64 .i64 0 (N : Int) (by decide) (by omega) (by rw [hb]; omega) (by omega)
  rw [hs, Nat.mul_one] at h
  simp only [Int.toNat_zero, Int.toNat_natCast] at h
  exact h
theorem newsB (w : World) (t : TypeId) (x : Bool) (b : Nat) (hb : w.heap.size = b) : ∀ j z, [Value.bool x][j]? = some z → (w.alloc (.cells #[.bool x] t)).cell? ((⟨b, 0, none⟩ : Addr).add j) = some z := by
  intro j z hz
  have hj : j = 0 := by have := List.getElem?_eq_some_iff.1 hz; simp at this; omega
  subst hj hb
  simp at hz
  subst hz
  go_simp
theorem oneB (x : Bool) : ∀ z ∈ [Value.bool x], z.oneCell' = true := by
  intro z hz
  simp at hz
  subst hz
  rfl
theorem row_ne_iter {w : World} {B n k it p : Nat} {e : TypeId} {v : Value} {xs : List Value} {s : ByteArray} (h : w.ownsRow B e k v n xs) (hi : w.heap[it]? = some (.stringIter s p)) : v.ownBlock ≠ some it := by
  intro hc
  rcases h.2 with ⟨rfl, _⟩ | ⟨g, cap, cur, rfl, _, hg, _⟩
  · cases hc
  · have : g = it := by simpa [Value.ownBlock] using hc
    subst this; rw [hg] at hi; cases hi
theorem OwnB.at_ {w : World} {B n : Nat} {v : Value} {l : List Bool} (h : OwnB w B v l) (e : l.length = n) : w.ownsRow B 4 1 v n (l.map Value.bool) := by subst e; exact h
theorem OwnB.snocAt {w : World} {B n : Nat} {v : Value} {l : List Bool} {a : Bool} (e : l.length = n) (h : w.ownsRow B 4 1 v (n + 1) (l.map Value.bool ++ [.bool a])) : OwnB w B v (l ++ [a]) := by subst e; exact OwnB.snoc h
/-- Where readBoxes stands: behind k letters. -/
structure BxIn (s : ByteArray) (w wr : World) (bv : Value) (k : Nat) : Prop where
  le : k ≤ s.size
  good : isBox (s.data.toList.take k) = true
  iter : wr.heap[w.heap.size + 1]? = some (.stringIter s k)
  own : OwnB wr w.heap.size bv (boxesOf (s.data.toList.take k))
  below : Below w.heap.size w wr
theorem BxIn.len {s : ByteArray} {w wr : World} {bv : Value} {k : Nat} (h : BxIn s w wr bv k) : (boxesOf (s.data.toList.take k)).length = k := by
  have := h.le
  have := size_list s
  simp [boxesOf]; omega
def isBx (l : List UInt8) : Bool := decide (l = [45]) || isBox l
def bxV (l : List UInt8) : List Bool := if l = [45] then [] else if isBox l = true then boxesOf l else []
def BoxP (l : List UInt8) (w : World) (e : Ending) (w' : World) : Prop := ∃ v, e = .returned (.tuple #[v, .bool (isBx l)]) ∧ OwnB w' w.heap.size v (bxV l) ∧ Below w.heap.size w w'
theorem not_box {l : List UInt8} {b : UInt8} (hb : b ∈ l) (h1 : b ≠ 112) (h2 : b ≠ 98) : isBox l = false := by
  rw [Bool.eq_false_iff]
  intro hc
  have := List.all_eq_true.1 hc b hb
  simp [h1, h2] at this
theorem box_snoc {l : List UInt8} {b : UInt8} (h : isBox l = true) (hb : b = 112 ∨ b = 98) : isBox (l ++ [b]) = true := by
  unfold isBox at h ⊢
  rw [List.all_append, h]
  rcases hb with rfl | rfl <;> decide
theorem boxesOf_snoc (l : List UInt8) (b : UInt8) : boxesOf (l ++ [b]) = boxesOf l ++ [decide (b = 98)] := by simp [boxesOf]
/-- The iterator moved on. -/
theorem BxIn.moved {s : ByteArray} {w wr : World} {bv : Value} {k : Nat} (h : BxIn s w wr bv k) (k2 : Nat) :
    (wr.iterAt (w.heap.size + 1) s k2).heap[w.heap.size + 1]? = some (.stringIter s k2) ∧ OwnB (wr.iterAt (w.heap.size + 1) s k2) w.heap.size bv (boxesOf (s.data.toList.take k)) ∧ Below w.heap.size w (wr.iterAt (w.heap.size + 1) s k2) ∧ (wr.iterAt (w.heap.size + 1) s k2).heap.size = wr.heap.size := by
  have hn := row_ne_iter h.own h.iter
  refine ⟨Lib.iterAt_heap wr _ s k k2 h.iter, ownsRow_block h.own (fun b hb => ?_), Lib.below_iterAt h.below (by omega) s k2, Lib.iterAt_size _ _ _ _⟩
  exact Lib.iterAt_other wr _ b s k2 (fun e => hn (by rw [hb, e]))

end Go.Proofs.YtbdkkkpgjcfdgaaDoor

namespace Go.Proofs.YtbdkkkpgjcfdgaaDoor
open Go.RowKit Go.Proofs.YtbdkkkpgjcfdgaaDoor.LexM Go.Proofs.YtbdkkkpgjcfdgaaDoor.ParM

theorem own_kind {w : World} {B k n p : Nat} {e T : TypeId} {v : Value} {xs : List Value} {cur : Array Value} {fz : Nat × Nat} (h : w.ownsRow B e k v n xs) (hp : w.heap[p]? = some (.cells cur T fz)) (hT : T ≠ e) : v.ownBlock ≠ some p := by
  intro hc
  rcases h.2 with ⟨rfl, _⟩ | ⟨g, cap, c2, rfl, _, hg, _⟩
  · cases hc
  · have : g = p := by simpa [Value.ownBlock] using hc
    subst this; rw [hg] at hp
    simp only [Option.some.injEq, Obj.cells.injEq] at hp
    exact hT hp.2.1.symm
theorem own_base {w : World} {B C k n : Nat} {e : TypeId} {v : Value} {xs : List Value} (h : w.ownsRow B e k v n xs) (hC : C ≤ B) : w.ownsRow C e k v n xs := by
  refine ⟨h.1, ?_⟩
  rcases h.2 with q | ⟨g, cap, cur, hv, hg, r⟩
  · exact Or.inl q
  · exact Or.inr ⟨g, cap, cur, hv, by omega, r⟩




section
variable {w0 w w' : World} {p : Nat} {bg en : Bool} {bv ev : Value} {B : List Bool} {E : List Edg} {b : Nat}






theorem below_set (hb : Below w0.heap.size w0 w) (hp : w0.heap.size ≤ p) (j : Nat) (u : Value) : Below w0.heap.size w0 (w.setCell ⟨p, j, none⟩ u) :=
  hb.trans ((((Out.refl (fun x => x = p) w).setIn j u).below hb.size (fun i _ e => by omega)))





end

theorem fst_bad {l : List UInt8} (h : (wdL l).length ≠ 2) : fstE l = 4 := by
  unfold fstE
  split
  · rename_i e; rw [e] at h; simp at h
  · rfl
theorem fst_two {l a p : List UInt8} (h : wdL l = [a, p]) : fstE l = (if a = shapeW then fstW p else 4) ∧ fstB l = (if a = shapeW ∧ fstW p = 0 then fstV p else []) := by
  unfold fstE fstB; rw [h]; exact ⟨rfl, rfl⟩
theorem fstW_bx {p : List UInt8} : fstW p = (if isBx p = true then (if 4096 < (bxV p).length then 6 else 0) else 4) ∧ (isBx p = true → fstV p = bxV p) := by
  unfold fstW isBx bxV fstV
  by_cases h : p = [45]
  · rw [if_pos h, if_pos h, if_pos h, decide_eq_true h]; exact ⟨rfl, fun _ => rfl⟩
  · rw [if_neg h, if_neg h, if_neg h, decide_eq_false h, Bool.false_or]
    cases hb : isBox p with
    | true => simp [boxesOf]
    | false => simp


end Go.Proofs.YtbdkkkpgjcfdgaaDoor

namespace Go.Proofs.YtbdkkkpgjcfdgaaDoor
open Go.RowKit Go.Proofs.YtbdkkkpgjcfdgaaDoor.LexM Go.Proofs.YtbdkkkpgjcfdgaaDoor.ParM

theorem newsE (w : World) (T : TypeId) (a : Edg) (b : Nat) (hb : w.heap.size = b) : ∀ j z, (encE a)[j]? = some z → (w.alloc (.cells (encE a).toArray T)).cell? ((⟨b, 0, none⟩ : Addr).add j) = some z := by
  intro j z hz
  subst hb
  have e : ((⟨w.heap.size, 0, none⟩ : Addr).add j) = ⟨w.heap.size, j, none⟩ := by
    by_cases hj : j = 0
    · subst hj; rfl
    · simp [Addr.add, hj]
  rw [e]
  simpa using hz
theorem newsEd (w : World) (T : TypeId) (a : Edg) (b : Nat) (hb : w.heap.size = b) : ∀ j z, (encE a)[j]? = some z → (w.alloc (.cells (encE a).toArray T)).drew.cell? ((⟨b, 0, none⟩ : Addr).add j) = some z := fun j z hz => newsE w T a b hb j z hz
theorem OwnE.at_ {w : World} {B n : Nat} {v : Value} {l : List Edg} (h : OwnE w B v l) (e : l.length = n) : w.ownsRow B 75 4 v n (l.flatMap encE) := by subst e; exact h
theorem OwnE.snocAt {w : World} {B n : Nat} {v : Value} {l : List Edg} {a : Edg} (e : l.length = n) (h : w.ownsRow B 75 4 v (n + 1) (l.flatMap encE ++ encE a)) : OwnE w B v (l ++ [a]) := by subst e; exact OwnE.snoc h

section
variable {w0 w w1 W : World} {p x : Nat} {bg en : Bool} {bv ev v' : Value} {B : List Bool} {E : List Edg} {b : Nat} {a : Edg}


end

/-- What addEdge tells of a line. -/
def adE (n : Nat) (l : List UInt8) (E : List Edg) (b : Nat) : Int := if edgE n l ≠ 0 then edgE n l else if 4096 < E.length + 1 ∨ 4096 < b + (edgV n l).2.2.2.length then 6 else 0


end Go.Proofs.YtbdkkkpgjcfdgaaDoor

namespace Go.Proofs.YtbdkkkpgjcfdgaaDoor
open Go.RowKit Go.Proofs.YtbdkkkpgjcfdgaaDoor.LexM Go.Proofs.YtbdkkkpgjcfdgaaDoor.ParM

/-! What is read so far, as one thing: begun, ended, boxes, edges, bends. -/
abbrev Stt := Bool × Bool × List Bool × List Edg × Nat
def adC (st : Stt) (l : List UInt8) : Int := if st.2.1 = true then 4 else if st.1 = false then fstE l else if l = endW then 0 else adE st.2.2.1.length l st.2.2.2.1 st.2.2.2.2
def nxS (st : Stt) (l : List UInt8) : Stt := if st.1 = false then (true, false, fstB l, st.2.2.2.1, st.2.2.2.2) else if l = endW then (true, true, st.2.2.1, st.2.2.2.1, st.2.2.2.2)
  else (true, false, st.2.2.1, st.2.2.2.1 ++ [edgV st.2.2.1.length l], st.2.2.2.2 + (edgV st.2.2.1.length l).2.2.2.length)
def go3 : Stt → List (List UInt8) → Nat → Int × Int × List Bool × List Edg
  | st, [], i => if st.2.1 = true then (0, 0, st.2.2.1, st.2.2.2.1) else (4, (i : Int) + 1, [], [])
  | st, l :: T, i => if adC st l ≠ 0 then (adC st l, (i : Int) + 1, [], []) else go3 (nxS st l) T (i + 1)
theorem go3_go (B : List Bool) : ∀ (T : List (List UInt8)) (i : Nat) (E : List Edg) (b : Nat),
    go3 (true, false, B, E, b) T i = ((goE B.length T i E b).1, (goE B.length T i E b).2.1, if (goE B.length T i E b).1 = 0 then B else [], (goE B.length T i E b).2.2)
  | [], i, E, b => by simp [go3, goE]
  | l :: T, i, E, b => by
    rw [go3, goE]
    by_cases he : l = endW
    · have h1 : adC (true, false, B, E, b) l = 0 := by simp [adC, he]
      have h2 : nxS (true, false, B, E, b) l = (true, true, B, E, b) := by simp [nxS, he]
      rw [h1, h2, if_neg (by simp), if_pos he]
      cases T with
      | nil => simp [go3]
      | cons x T =>
        have h3 : adC (true, true, B, E, b) x = 4 := by simp [adC]
        rw [go3, h3, if_pos (by decide), if_neg (by simp)]
        simp; omega
    · have h1 : adC (true, false, B, E, b) l = adE B.length l E b := by simp [adC, he]
      have h2 : nxS (true, false, B, E, b) l = (true, false, B, E ++ [edgV B.length l], b + (edgV B.length l).2.2.2.length) := by simp [nxS, he]
      rw [h1, h2, if_neg he]
      by_cases hz : edgE B.length l ≠ 0
      · have h3 : adE B.length l E b = edgE B.length l := by unfold adE; rw [if_pos hz]
        rw [h3, if_pos hz, if_pos hz, if_neg hz]
      · have h3 : adE B.length l E b = if 4096 < E.length + 1 ∨ 4096 < b + (edgV B.length l).2.2.2.length then 6 else 0 := by unfold adE; rw [if_neg hz]
        rw [h3, if_neg hz]
        split
        · simp
        · rw [if_neg (by simp), go3_go B T (i + 1)]
theorem par_go3 {s : List UInt8} (h0 : lnE s = 0) : par s = go3 (false, false, [], [], 0) (lnL s) 0 := by
  unfold par
  rw [h0, if_neg (by simp)]
  generalize lnL s = L
  cases L with
  | nil => simp [go3]
  | cons l T =>
    have h1 : adC (false, false, [], [], 0) l = fstE l := by simp [adC]
    have h2 : nxS (false, false, [], [], 0) l = (true, false, fstB l, [], 0) := by simp [nxS]
    rw [go3, h1, h2, go3_go]
    by_cases hz : fstE l = 0
    · simp [hz]
    · simp [hz]
def okS (st : Stt) : Prop := st.2.2.2.1.length ≤ 4096 ∧ st.2.2.2.2 ≤ 4096
theorem okS_next {st : Stt} {l : List UInt8} (h : okS st) (h0 : adC st l = 0) : okS (nxS st l) := by
  obtain ⟨bg, en, B, E, b⟩ := st
  obtain ⟨h1, h2⟩ := h
  simp only at h1 h2
  unfold nxS
  unfold adC at h0
  simp only at h0 ⊢
  cases bg with
  | false => exact ⟨h1, h2⟩
  | true =>
    rw [if_neg (by simp)]
    by_cases he : l = endW
    · rw [if_pos he]; exact ⟨h1, h2⟩
    · rw [if_neg he]
      cases en with
      | true => simp at h0
      | false =>
        rw [if_neg (by simp), if_neg (by simp), if_neg he] at h0
        unfold adE at h0
        split at h0
        · rename_i hz; exact absurd h0 hz
        · split at h0
          · cases h0
          · rename_i hm
            unfold okS
            simp only [List.length_append, List.length_singleton]
            omega




end Go.Proofs.YtbdkkkpgjcfdgaaDoor

namespace Go.Proofs.YtbdkkkpgjcfdgaaDoor
open Go.RowKit Go.Proofs.YtbdkkkpgjcfdgaaDoor.LexM Go.Proofs.YtbdkkkpgjcfdgaaDoor.ParM

/-- What Parse leaves. -/
def ParP (l : List UInt8) (w : World) (e : Ending) (w' : World) : Prop := ∃ bv ev, e = .returned (.tuple #[.agg #[bv, ev], .int .i64 (par l).2.1, .int .i64 (par l).1]) ∧ BlsAt w' bv (par l).2.2.1 ∧ EdsAt w' ev (par l).2.2.2 ∧ Below w.heap.size w w'
/-- A shape's box filled. -/
theorem shape_set {w wk : World} {b : Nat} {T : TypeId} {c0 c1 : Value} (h : wk.heap[b]? = some (.cells #[c0, c1] T (0, 0))) (hb : w.heap.size ≤ b) (hw : Below w.heap.size w wk) (v0 v1 : Value) {w6 : World}
    (e : ((wk.setCell ⟨b, 0, none⟩ v0).setCell ⟨b, 1, none⟩ v1) = w6) :
    w6.cell? ⟨b, 0, none⟩ = some v0 ∧ w6.cell? ⟨b, 1, none⟩ = some v1 ∧ Below w.heap.size w w6 ∧ Out (fun x => x = b) wk w6 := by
  subst e
  have hc := heap_setCell_at (heap_setCell_at h 0 v0) 1 v1
  have ho : Out (fun x => x = b) wk ((wk.setCell ⟨b, 0, none⟩ v0).setCell ⟨b, 1, none⟩ v1) := ((Out.refl _ wk).setIn _ _).setIn _ _
  have hx : ∀ j v, ((#[c0, c1].setIfInBounds 0 v0).setIfInBounds 1 v1)[j]? = some v → ((wk.setCell ⟨b, 0, none⟩ v0).setCell ⟨b, 1, none⟩ v1).cell? ⟨b, j, none⟩ = some v := fun j v hv => by
    simp only [World.cell?, hc]
    exact hv
  exact ⟨hx 0 v0 rfl, hx 1 v1 rfl, hw.trans (ho.below hw.size (fun i _ e => by omega)), ho⟩
/-- The result's box is still empty. -/
structure RcAt (w wk : World) : Prop where
  below : Below w.heap.size w wk
  blk : wk.heap[w.heap.size]? = some (.cells #[.slice none 0 0, .slice none 0 0] 36 (0, 0))
theorem RcAt.step {w wk wl : World} (h : RcAt w wk) (b : Below wk.heap.size wk wl) : RcAt w wl := by
  have hlt : w.heap.size < wk.heap.size := (Array.getElem?_eq_some_iff.1 h.blk).1
  exact ⟨h.below.trans (b.mono h.below.size), by rw [b.block _ hlt]; exact h.blk⟩
theorem RcAt.c {w wk : World} (h : RcAt w wk) : wk.cell? ⟨w.heap.size, 0, none⟩ = some (.slice none 0 0) ∧ wk.cell? ⟨w.heap.size, 1, none⟩ = some (.slice none 0 0) ∧ wk.frozen? ⟨w.heap.size, 0, none⟩ = false ∧ wk.frozen? ⟨w.heap.size, 1, none⟩ = false ∧ w.heap.size < wk.heap.size := by
  have h1 := h.blk
  refine ⟨by simp [World.cell?, h1], by simp [World.cell?, h1], ?_, ?_, (Array.getElem?_eq_some_iff.1 h1).1⟩
  · simp only [World.frozen?, h1]; simp
  · simp only [World.frozen?, h1]; simp
theorem par_long {s : List UInt8} (h : lnE s ≠ 0) : par s = (lnE s, 0, [], []) := by unfold par; rw [if_pos h]
theorem lnL_short {l : List UInt8} : ∀ p ∈ lnL l, p.length ≤ l.length := by
  intro p hp
  unfold lnL at hp
  split at hp
  · obtain ⟨a, b, e⟩ := List.append_of_mem hp
    have h := congrArg List.length (glue_ps 10 l)
    rw [e, glue_append] at h
    simp [glue] at h
    omega
  · simp at hp
theorem lnE_zero {l : List UInt8} (h : lnE l = 0) : l.length ≤ 1048576 := by
  unfold lnE at h
  split at h
  · cases h
  · omega
theorem StrsAt.nth8 {w : World} {v : Value} {L : List (List UInt8)} (h : StrsAt w v L) {i : Nat} (hi : i < L.length) : ∃ b o cap, v = .slice (some ⟨b, o, none⟩) L.length cap ∧ b < w.heap.size ∧ w.cell? ⟨b, o + i, none⟩ = some (.string (bs L[i])) := by
  obtain ⟨A, cap, rfl, _, hA⟩ := h
  obtain ⟨b, o, rfl, hb, hc⟩ := hA (by omega)
  exact ⟨b, o, cap, rfl, hb, hc i hi⟩


end Go.Proofs.YtbdkkkpgjcfdgaaDoor
