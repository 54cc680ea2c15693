/-
  The small calls of package norm: a direction behind a bend, the contrary one, the one in which an edge comes; the next cell. Conditions: directions from 0 to 3; bends of letters.
  The ends of a shape's vertices in memory, side by side, each side's in a row of its own; one more put to a side. Conditions: at most 100000 ends on a side.
  The ends of a shape's vertices, side by side: what endsOf answers. Conditions: a shape that may be written.
  Has a point two ends on one side? Does an edge without bends go from a point to itself? What the code answers. Conditions: a shape that may be written; its ends side by side.
  A layout under way in memory: its count, the first cells, the edges' ways, each in a row of its own; what a store leaves; the next cell taken. Conditions: none.
  A point's ends told in their edges' ways. Conditions: the ends are a shape's that may be written; at most 100000 cells.
  A box's corners and ends as cells; the boxes of a layout in memory. Conditions: the ends are a shape's that may be written; at most 100000 cells.
  A shape's cells laid out one behind the other: what lay answers. Conditions: a shape that may be written; its ends side by side.
  A shape's cells laid out: mathematics of the numbers, one first cell more in memory. Conditions: none.
-/
import Derived.Test.YtbdkkkpgjcfdgaaDoorVzN1
import Derived.Test.YtbdkkkpgjcfdgaaDoorNzDa
import Derived.Laws.RangeString
import Derived.Laws.MakeOwn
import Derived.Laws.OwnMore
import Derived.BigRegion
import Derived.Deep.RegionLaw
import Derived.Deep.DeepCutAuto
import Derived.StillTailTactics
import Derived.Test.YtbdkkkpgjcfdgaaDoorNzPa
namespace Go.Proofs.YtbdkkkpgjcfdgaaDoor
open Go.RowKit Go.Proofs.YtbdkkkpgjcfdgaaDoor.LexM Go.Proofs.YtbdkkkpgjcfdgaaDoor.ParM Go.Proofs.YtbdkkkpgjcfdgaaDoor.GrM Go.Proofs.YtbdkkkpgjcfdgaaDoor.NmM



/-- Letters alone. -/
def Asc (l : List UInt8) : Prop := ∀ b ∈ l, b.toNat < 128
def ComR (d : Int) (l : List UInt8) (s : ByteArray) (wb wr : World) (dv : Value) : Prop := ∃ (k z : Nat), dv = .int .i64 z ∧ (z : Int) = lastT d (l.take k) ∧ k ≤ l.length ∧ wr = wb.iter s k

end Go.Proofs.YtbdkkkpgjcfdgaaDoor

namespace Go.Proofs.YtbdkkkpgjcfdgaaDoor
open Go.RowKit Go.Proofs.YtbdkkkpgjcfdgaaDoor.LexM Go.Proofs.YtbdkkkpgjcfdgaaDoor.ParM Go.Proofs.YtbdkkkpgjcfdgaaDoor.GrM Go.Proofs.YtbdkkkpgjcfdgaaDoor.NmM

/-- An end: whose it is, where it stands. -/
def encN (x : Int × Int) : List Value := [.int .i64 x.1, .int .i64 x.2]
theorem encN_len (x : Int × Int) : (encN x).length = 2 := rfl
theorem encN_one (x : Int × Int) : ∀ u ∈ encN x, u.oneCell' = true := by
  intro u hu
  simp [encN] at hu
  rcases hu with rfl | rfl <;> rfl

theorem fn_set {α : Type} (N : Nat) (V : Nat → α) (u : Nat) (x : α) : (List.range N).map (fun v => if v = u then x else V v) = ((List.range N).map V).set u x := by
  apply List.ext_getElem?
  intro i
  rw [List.getElem?_set]
  by_cases h : i < N
  · by_cases e : u = i
    · subst e; simp [h]
    · simp [h, e, Ne.symm e]
  · by_cases e : u = i
    · subst e; simp [h]
    · simp [h, e]

section
variable {B : Nat} {w w' : World} {g N : Nat} {V : Nat → Value} {R : Nat → List (Int × Int)}





end

theorem newsT (w : World) (t : TypeId) (x : Int × Int) (b : Nat) (hb : w.heap.size = b) : ∀ j z, (encN x)[j]? = some z → ((w.alloc (.cells #[.int .i64 x.1, .int .i64 x.2] t)).drew).cell? ((⟨b, 0, none⟩ : Addr).add j) = some z := by
  intro j z hz
  have hj : j < 2 := by have := (List.getElem?_eq_some_iff.1 hz).1; exact this
  subst hb
  have hc : j = 0 ∨ j = 1 := by omega
  rcases hc with rfl | rfl <;> simp [encN] at hz <;> subst hz <;> go_simp



end Go.Proofs.YtbdkkkpgjcfdgaaDoor

namespace Go.Proofs.YtbdkkkpgjcfdgaaDoor
open Go.RowKit Go.Proofs.YtbdkkkpgjcfdgaaDoor.LexM Go.Proofs.YtbdkkkpgjcfdgaaDoor.ParM Go.Proofs.YtbdkkkpgjcfdgaaDoor.GrM Go.Proofs.YtbdkkkpgjcfdgaaDoor.NmM

/-- An end's edge, its place in the edge's way. -/
def endP (E : List Edg) (t : Int) : Int × Int := (t / 2, if t % 2 = 0 then 0 else ((E.getD (t / 2).toNat noE).2.2.2.length : Int) + 1)
/-- The rows of ends, of the first so many edges. -/
def enR (E : List Edg) (k : Nat) (p : Nat) : List (Int × Int) := (onK E ((p / 4 : Nat) : Int) ((p % 4 : Nat) : Int) k).map (endP E)
theorem enR_zero (E : List Edg) : enR E 0 = fun _ => [] := rfl
theorem enR_len (E : List Edg) (k p : Nat) : (enR E k p).length ≤ 2 * k := by unfold enR; rw [List.length_map]; exact onK_len _ _ _ _
theorem enR_step {E : List Edg} {k a b d s : Nat} (he : (E.getD k noE).1 = (a : Int)) (he2 : (E.getD k noE).2.1 = (b : Int)) (hd : (E.getD k noE).2.2.1 = (d : Int)) (hs : sideT (E.getD k noE) = (s : Int)) (hd4 : d < 4) (hs4 : s < 4) :
    enR E (k + 1) = fun p => if p = b * 4 + s then (if b * 4 + s = a * 4 + d then enR E k (a * 4 + d) ++ [((k : Int), 0)] else enR E k (b * 4 + s)) ++ [((k : Int), ((E.getD k noE).2.2.2.length : Int) + 1)]
      else if p = a * 4 + d then enR E k (a * 4 + d) ++ [((k : Int), 0)] else enR E k p := by
  funext p
  have e0 : endP E (2 * (k : Int)) = ((k : Int), 0) := by
    unfold endP
    rw [if_pos (by omega), show 2 * (k : Int) / 2 = k by omega]
  have e1 : endP E (2 * (k : Int) + 1) = ((k : Int), ((E.getD k noE).2.2.2.length : Int) + 1) := by
    unfold endP
    rw [if_neg (by omega), show (2 * (k : Int) + 1) / 2 = k by omega, Int.toNat_natCast]
  have key : enR E (k + 1) p = enR E k p ++ (if p = a * 4 + d then [((k : Int), (0 : Int))] else []) ++ (if p = b * 4 + s then [((k : Int), ((E.getD k noE).2.2.2.length : Int) + 1)] else []) := by
    unfold enR
    rw [onK, List.map_append, List.append_assoc]
    congr 1
    unfold on1
    rw [List.map_append, he, he2, hd, hs]
    congr 1
    · by_cases h : p = a * 4 + d
      · rw [if_pos h, if_pos ⟨by omega, by omega⟩]
        simp [e0]
      · rw [if_neg h, if_neg (by omega)]; rfl
    · by_cases h : p = b * 4 + s
      · rw [if_pos h, if_pos ⟨by omega, by omega⟩]
        simp [e1]
      · rw [if_neg h, if_neg (by omega)]; rfl
  rw [key]
  by_cases h : p = b * 4 + s
  · subst h
    rw [if_pos rfl, if_pos rfl]
    by_cases h2 : b * 4 + s = a * 4 + d
    · rw [if_pos h2, if_pos h2, h2]
    · rw [if_neg h2, if_neg h2, List.append_nil]
  · rw [if_neg h, if_neg h, List.append_nil]
    by_cases h2 : p = a * 4 + d
    · subst h2; rw [if_pos rfl, if_pos rfl]
    · rw [if_neg h2, if_neg h2, List.append_nil]


theorem made_four (N : Nat) (z : Value) : (madeCells #[z, z, z, z] (N * 4)).toList = (List.range (N * 4)).map fun _ => z := by
  apply List.ext_getElem?
  intro i
  by_cases h : i < N * 4
  · have hm : i % 4 = 0 ∨ i % 4 = 1 ∨ i % 4 = 2 ∨ i % 4 = 3 := by omega
    rcases hm with e | e | e | e <;> simp [madeCells, h, e]
  · simp [madeCells, h]

theorem bend_mem : ∀ {E : List Edg} {e : Edg}, e ∈ E → e.2.2.2.length ≤ bendsOf E
  | [], e, h => by cases h
  | x :: E, e, h => by
    have e1 : bendsOf (x :: E) = x.2.2.2.length + bendsOf E := by simp [bendsOf]
    rcases List.mem_cons.1 h with rfl | h
    · omega
    · have := bend_mem h; omega
theorem bend_le {E : List Edg} {e : Edg} (h : bendsOf E ≤ 4096) (he : e ∈ E) : e.2.2.2.length ≤ 4096 := Nat.le_trans (bend_mem he) h
theorem asc_turns {l : List UInt8} (h : isTurns l = true) : Asc l := fun b hb => by
  have h1 := List.all_eq_true.1 h b hb
  simp only [Bool.or_eq_true, decide_eq_true_eq] at h1
  rcases h1 with rfl | rfl <;> decide




end Go.Proofs.YtbdkkkpgjcfdgaaDoor

namespace Go.Proofs.YtbdkkkpgjcfdgaaDoor
open Go.RowKit Go.Proofs.YtbdkkkpgjcfdgaaDoor.LexM Go.Proofs.YtbdkkkpgjcfdgaaDoor.ParM Go.Proofs.YtbdkkkpgjcfdgaaDoor.GrM Go.Proofs.YtbdkkkpgjcfdgaaDoor.NmM


theorem enR_full {E : List Edg} {v d : Nat} (hd : d < 4) : enR E E.length (v * 4 + d) = (onL E (v : Int) (d : Int)).map (endP E) := by
  unfold enR onL
  rw [show (v * 4 + d) / 4 = v by omega, show (v * 4 + d) % 4 = d by omega]






def CrR (B : List Bool) (E : List Edg) (nB : Nat) (w2 wr : World) (iv : Value) : Prop := ∃ k : Nat, iv = .int .i64 k ∧ k ≤ nB ∧ NoTwo B E k ∧ wr = w2

def StR (B : List Bool) (E : List Edg) (nE : Nat) (wb wr : World) (iv : Value) : Prop := ∃ k : Nat, iv = .int .i64 k ∧ k ≤ nE ∧ NoSelf B E k ∧ Below wb.heap.size wb wr

end Go.Proofs.YtbdkkkpgjcfdgaaDoor

namespace Go
/-- Append with room: in place. -/
theorem run_append_in {P : Program} (w : World) (base : Nat) (t ty e : TypeId) (i : TypeInfo) (z : Value) (size bytes : Nat) (ht : P.underlying t = some (.slice e)) (hi : P.info? e = some i) (hz : i.zero = some z)
    (hsize : i.size = size) (hby : i.bytes = bytes) (hzs : z.cells.size = size) (hsz : 0 < size)
    (g n cap : Nat) (xs : List Value) (hown : w.ownsRow base e size (.slice (some ⟨g, 0, none⟩) n cap) n xs)
    (a : Addr) (m c : Nat) (news : List Value) (hl : news.length = m * size) (hnews : ∀ j u, news[j]? = some u → w.cell? (a.add j) = some u) (h1 : ∀ u ∈ news, u.oneCell' = true)
    (h63 : n + m ≤ maxLen) (hbytes : (n + m) * bytes ≤ 140737488355328) (hbase : base ≤ w.heap.size) (hroom : n + m ≤ cap) :
    ∃ w', (Builtin.append_ #[t, t] ty #[.slice (some ⟨g, 0, none⟩) n cap, .slice (some a) m c]).run P w = .ok (.slice (some ⟨g, 0, none⟩) (n + m) cap) w' ∧ w'.ownsRow base e size (.slice (some ⟨g, 0, none⟩) (n + m) cap) (n + m) (xs ++ news) ∧ w.grownBy w' (some g) := by
  obtain ⟨v', w', hrun, r1, r2, _⟩ := run_append_own (P := P) w base t ty e i z size bytes ht hi hz hsize hby hzs hsz _ n xs hown a m c news hl hnews h1 h63 hbytes hbase
  have same : ∀ {v2 : Value} {w2 : World}, (Builtin.append_ #[t, t] ty #[.slice (some ⟨g, 0, none⟩) n cap, .slice (some a) m c]).run P w = .ok v2 w2 → v' = v2 := fun h => by
    rw [hrun] at h
    injection h
  rcases hown.2 with ⟨hv, hn⟩ | ⟨g', cap', cur, hv, hbg, hg, hnc, hcm, hcs, htake⟩
  · simp at hv
  · simp only [Value.slice.injEq, Option.some.injEq, Addr.mk.injEq, and_true, true_and] at hv
    obtain ⟨rfl, rfl⟩ := hv
    subst hsize
    have hfit : ∀ j, j < news.length → n * i.size + j < cur.size := fun j hj => by
      rw [hcs]
      have := Nat.mul_le_mul_right i.size hroom
      rw [Nat.add_mul] at this
      omega
    have hr := run_append_room_cells (P := P) w t ty e i ht hi g 0 n cap a m c news hl hnews h1 hroom
      (fun j hj => by rw [Nat.zero_add, cell_of_row w g _ cur e (0, 0) hg, Array.getElem?_eq_getElem (hfit j hj)]; rfl) (fun j _ => frozen_of_row w g _ cur e hg)
    have := same hr
    subst this
    exact ⟨w', hrun, r1, r2⟩
end Go
namespace Go.Proofs.YtbdkkkpgjcfdgaaDoor
open Go.RowKit Go.Proofs.YtbdkkkpgjcfdgaaDoor.LexM Go.Proofs.YtbdkkkpgjcfdgaaDoor.ParM Go.Proofs.YtbdkkkpgjcfdgaaDoor.GrM Go.Proofs.YtbdkkkpgjcfdgaaDoor.NmM


section
variable {B s0 nE : Nat} {ln : Nat → Nat} {lb ob fb cF : Nat} {w w' : World} {cnt nF : Nat} {F : List Int} {xv : Value} {W : Nat → List Int}








theorem out_set (w : World) (p : Addr) (u : Value) : Out (fun b => b = p.block) w (w.setCell p u) := Out.setCell (S := fun b => b = p.block) (Out.refl _ w) (p := p) (fun _ => rfl) u



end

end Go.Proofs.YtbdkkkpgjcfdgaaDoor

namespace Go.Proofs.YtbdkkkpgjcfdgaaDoor
open Go.RowKit Go.Proofs.YtbdkkkpgjcfdgaaDoor.LexM Go.Proofs.YtbdkkkpgjcfdgaaDoor.ParM Go.Proofs.YtbdkkkpgjcfdgaaDoor.GrM Go.Proofs.YtbdkkkpgjcfdgaaDoor.NmM

/-- How many bends an edge has. -/
def nbE (E : List Edg) (i : Nat) : Nat := (E.getD i noE).2.2.2.length
/-- A way whose bends are not told yet. -/
def wayZ (en : List Int) (nb i : Nat) : List Int := en.getD (2 * i) 0 :: (List.replicate nb 0 ++ [en.getD (2 * i + 1) 0])
theorem wayZ_len (en : List Int) (nb i : Nat) : (wayZ en nb i).length = nb + 2 := by simp [wayZ]
theorem getD_setI (L : List Int) (i j : Nat) (x : Int) (h : i < L.length) : (L.set i x).getD j 0 = if j = i then x else L.getD j 0 := getD_set L i j x h
theorem wayZ_put (E : List Edg) (en : List Int) (q : Nat) (c : Int) (hl : en.length = 2 * E.length) (hq : q < E.length) :
    ((fun j => if j = q then (wayZ en (nbE E q) q).set 0 c else wayZ en (nbE E j) j) = fun j => wayZ (en.set (2 * q) c) (nbE E j) j) ∧
    ((fun j => if j = q then (wayZ en (nbE E q) q).set (nbE E q + 1) c else wayZ en (nbE E j) j) = fun j => wayZ (en.set (2 * q + 1) c) (nbE E j) j) := by
  constructor
  · funext j
    unfold wayZ
    rw [getD_setI _ _ _ _ (by omega), getD_setI _ _ _ _ (by omega), if_neg (c := 2 * j + 1 = 2 * q) (by omega)]
    by_cases h : j = q
    · subst h; rw [if_pos rfl, if_pos rfl]; rfl
    · rw [if_neg h, if_neg (by omega)]
  · funext j
    unfold wayZ
    rw [getD_setI _ _ _ _ (by omega), getD_setI _ _ _ _ (by omega), if_neg (c := 2 * j = 2 * q + 1) (by omega)]
    by_cases h : j = q
    · subst h
      rw [if_pos rfl, if_pos rfl, List.set_cons_succ, List.set_append_right _ _ (by simp)]
      simp
    · rw [if_neg h, if_neg (by omega)]
/-- An end of a side: its edge, its place, and what telling it is. -/
theorem on_end {E : List Edg} {v d : Int} {i : Nat} (hi : i < (onL E v d).length) : ∃ q p : Nat, q < E.length ∧ endP E ((onL E v d).getD i 0) = ((q : Int), (p : Int)) ∧ p < nbE E q + 2 ∧
    ∀ (en : List Int) (c : Int), en.length = 2 * E.length → ((fun j => if j = q then (wayZ en (nbE E q) q).set p c else wayZ en (nbE E j) j) = fun j => wayZ (en.set ((onL E v d).getD i 0).toNat c) (nbE E j) j) := by
  have hmem : (onL E v d).getD i 0 ∈ onL E v d := by
    rw [List.getD_eq_getElem?_getD, List.getElem?_eq_getElem hi]
    exact List.getElem_mem _
  obtain ⟨q, hq, h1⟩ := onK_mem.1 hmem
  generalize (onL E v d).getD i 0 = t at *
  rcases on1_mem.1 h1 with ⟨e, _⟩ | ⟨e, _⟩
  · subst e
    refine ⟨q, 0, hq, ?_, by omega, fun en c hl => ?_⟩
    · unfold endP
      rw [if_pos (by omega), show 2 * (q : Int) / 2 = q by omega]; rfl
    · rw [show (2 * (q : Int)).toNat = 2 * q by omega]
      exact (wayZ_put E en q c hl hq).1
  · subst e
    refine ⟨q, nbE E q + 1, hq, ?_, by omega, fun en c hl => ?_⟩
    · unfold endP nbE
      rw [if_neg (by omega), show (2 * (q : Int) + 1) / 2 = q by omega, Int.toNat_natCast]
      simp
    · rw [show (2 * (q : Int) + 1).toNat = 2 * q + 1 by omega]
      exact (wayZ_put E en q c hl hq).2


theorem ptE_n {l : List Int} {c : Int} {s : NSt} : ∀ i, (ptE l c s i).n = s.n ∧ (ptE l c s i).en.length = s.en.length
  | 0 => ⟨rfl, rfl⟩
  | i + 1 => by
    obtain ⟨h1, h2⟩ := ptE_n (l := l) (c := c) (s := s) i
    refine ⟨h1, ?_⟩
    show ((ptE l c s i).en.set _ _).length = _
    rw [List.length_set, h2]
theorem ptK_n {E : List Edg} {v c : Int} {s : NSt} : ∀ d, (ptK E v c s d).n = s.n ∧ (ptK E v c s d).en.length = s.en.length
  | 0 => ⟨rfl, rfl⟩
  | d + 1 => by
    obtain ⟨h1, h2⟩ := ptK_n (E := E) (v := v) (c := c) (s := s) d
    obtain ⟨h3, h4⟩ := ptE_n (l := onL E v d) (c := c) (s := ptK E v c s d) (onL E v d).length
    exact ⟨h3.trans h1, h4.trans h2⟩
/-- What a part of the layout leaves: all but the layout's own blocks as it was. -/
def Kept (B m : Nat) (w w' : World) : Prop := Out (fun b => B ≤ b ∧ b < m) w w'
theorem Kept.refl (B m : Nat) (w : World) : Kept B m w w := Out.refl _ w
theorem Kept.trans {B m : Nat} {a b c : World} (h : Kept B m a b) (k : Kept B m b c) : Kept B m a c := Out.trans h k (fun _ _ e => e)
theorem Kept.ofB {B m : Nat} {w w' : World} (h : Below w.heap.size w w') : Kept B m w w' := Out.ofBelow h
theorem Kept.set {B m : Nat} {a w : World} (h : Kept B m a w) {p : Addr} (h1 : B ≤ p.block) (h2 : p.block < m) (u : Value) : Kept B m a (w.setCell p u) := Out.setCell (S := fun b => B ≤ b ∧ b < m) h (p := p) (fun _ => ⟨h1, h2⟩) u
theorem Kept.below {B m : Nat} {w w' : World} (h : Kept B m w w') (hB : B ≤ w.heap.size) : Below B w w' := Out.below h hB (fun _ _ e => e.1)




end Go.Proofs.YtbdkkkpgjcfdgaaDoor

namespace Go.Proofs.YtbdkkkpgjcfdgaaDoor
open Go.RowKit Go.Proofs.YtbdkkkpgjcfdgaaDoor.LexM Go.Proofs.YtbdkkkpgjcfdgaaDoor.ParM Go.Proofs.YtbdkkkpgjcfdgaaDoor.GrM Go.Proofs.YtbdkkkpgjcfdgaaDoor.NmM

/-- So many cells, one behind the other. -/
def celR (a n : Nat) : List Int := (List.range n).map fun j => ((a + j : Nat) : Int)
theorem celR_len (a n : Nat) : (celR a n).length = n := by simp [celR]
theorem celR_more (a n : Nat) : celR a (n + 1) = celR a n ++ [((a + n : Nat) : Int)] := by simp [celR, List.range_succ]
/-- A box: its vertex, the rows of its ends. -/
structure BxQ where
  v : Nat
  s : Nat → Value
def encX (cf : Nat → Nat) (q : BxQ) : List Value := [.int .i64 (cf q.v), .int .i64 ((cf q.v + 1 : Nat) : Int), .int .i64 ((cf q.v + 2 : Nat) : Int), .int .i64 ((cf q.v + 3 : Nat) : Int), q.s 0, q.s 1, q.s 2, q.s 3]
theorem encX_len (cf : Nat → Nat) (q : BxQ) : (encX cf q).length = 8 := rfl
/-- The ends of a box's side, as cells. -/
def sdC (E : List Edg) (v c d : Nat) : List Int := celR (c + 4 + sidesK E (v : Int) d) (onL E (v : Int) (d : Int)).length

section
variable {m B : Nat} {E : List Edg} {cf : Nat → Nat} {w w' : World} {xv : Value} {X : List BxQ}


end

/-- A box under way: so many of its corners told. -/
def corA (c i : Nat) : Array Value := #[.int .i64 (if 0 < i then (c : Int) else 0), .int .i64 (if 1 < i then ((c + 1 : Nat) : Int) else 0), .int .i64 (if 2 < i then ((c + 2 : Nat) : Int) else 0), .int .i64 (if 3 < i then ((c + 3 : Nat) : Int) else 0), .slice none 0 0, .slice none 0 0, .slice none 0 0, .slice none 0 0]
theorem corA_set {c i : Nat} (hi : i < 4) : (corA c i).setIfInBounds i (.int .i64 ((c + i : Nat) : Int)) = corA c (i + 1) := by
  have hc : i = 0 ∨ i = 1 ∨ i = 2 ∨ i = 3 := by omega
  rcases hc with rfl | rfl | rfl | rfl <;> simp [corA]
def boxA (c : Nat) (S : Nat → Value) : Array Value := #[.int .i64 c, .int .i64 ((c + 1 : Nat) : Int), .int .i64 ((c + 2 : Nat) : Int), .int .i64 ((c + 3 : Nat) : Int), S 0, S 1, S 2, S 3]
theorem corA_all (c : Nat) : corA c 4 = boxA c (fun _ => .slice none 0 0) := by simp [corA, boxA]
theorem boxA_set {c d : Nat} {S : Nat → Value} (hd : d < 4) (v : Value) : (boxA c S).setIfInBounds (4 + d) v = boxA c (fun e => if e = d then v else S e) := by
  have hc : d = 0 ∨ d = 1 ∨ d = 2 ∨ d = 3 := by omega
  rcases hc with rfl | rfl | rfl | rfl <;> simp [boxA]
theorem boxA_at {c d : Nat} {S : Nat → Value} (hd : d < 4) : (boxA c S)[4 + d]? = some (S d) := by
  have hc : d = 0 ∨ d = 1 ∨ d = 2 ∨ d = 3 := by omega
  rcases hc with rfl | rfl | rfl | rfl <;> simp [boxA]
theorem corA_at {c i j : Nat} (hj : j < 4) : ∃ u, (corA c i)[j]? = some u := by
  have hc : j = 0 ∨ j = 1 ∨ j = 2 ∨ j = 3 := by omega
  rcases hc with rfl | rfl | rfl | rfl <;> exact ⟨_, rfl⟩
/-- What a side of a box leaves. -/
def KeptX (B m bb : Nat) (w w' : World) : Prop := Out (fun b => (B ≤ b ∧ b < m) ∨ b = bb) w w'
theorem KeptX.refl (B m bb : Nat) (w : World) : KeptX B m bb w w := Out.refl _ w
theorem KeptX.trans {B m bb : Nat} {a b c : World} (h : KeptX B m bb a b) (k : KeptX B m bb b c) : KeptX B m bb a c := Out.trans h k (fun _ _ e => e)
theorem KeptX.ofB {B m bb : Nat} {w w' : World} (h : Below w.heap.size w w') : KeptX B m bb w w' := Out.ofBelow h
theorem KeptX.ofK {B m bb : Nat} {w w' : World} (h : Kept B m w w') : KeptX B m bb w w' := Out.mono h (fun _ _ e => Or.inl e)
theorem KeptX.toK {B m bb : Nat} {a w w' : World} (h : Kept B m a w) (k : KeptX B m bb w w') (hb : a.heap.size ≤ bb) : Kept B m a w' := Out.trans (S := fun b => B ≤ b ∧ b < m) h k (fun i hi e => by rcases e with e | e; exact e; omega)
theorem KeptX.set {B m bb : Nat} {a w : World} (h : KeptX B m bb a w) (j : Nat) (u : Value) : KeptX B m bb a (w.setCell ⟨bb, j, none⟩ u) := Out.setCell (S := fun b => (B ≤ b ∧ b < m) ∨ b = bb) h (p := ⟨bb, j, none⟩) (fun _ => Or.inr rfl) u






theorem chK_m {way : Int} {l : List Int} {s : NSt} {c : Int} : ∀ i, (chK way l s c i).1.n = s.n + i ∧ (chK way l s c i).1.en.length = s.en.length
  | 0 => ⟨rfl, rfl⟩
  | i + 1 => by
    obtain ⟨h1, h2⟩ := chK_m (way := way) (l := l) (s := s) (c := c) i
    refine ⟨?_, ?_⟩
    · show (chK way l s c i).1.n + 1 = _
      omega
    · show ((chK way l s c i).1.en.set _ _).length = _
      rw [List.length_set, h2]
theorem bxK_m {E : List Edg} {v : Int} {c : Nat} {s : NSt} : ∀ d, (bxK E v c s d).n = s.n + sidesK E v d ∧ (bxK E v c s d).en.length = s.en.length
  | 0 => ⟨rfl, rfl⟩
  | d + 1 => by
    obtain ⟨h1, h2⟩ := bxK_m (E := E) (v := v) (c := c) (s := s) d
    obtain ⟨h3, h4⟩ := chK_m (way := wyC d) (l := onL E v d) (s := bxK E v c s d) (c := frC c d) (onL E v d).length
    refine ⟨?_, h4.trans h2⟩
    show (chK (wyC d) (onL E v d) (bxK E v c s d) (frC c d) (onL E v d).length).1.n = _
    rw [h3, h1, sidesK]; omega
theorem newsX (w : World) (t : TypeId) (x0 x1 x2 x3 x4 x5 x6 x7 : Value) (b : Nat) (hb : w.heap.size = b) : ∀ j z, [x0, x1, x2, x3, x4, x5, x6, x7][j]? = some z → ((w.alloc (.cells #[x0, x1, x2, x3, x4, x5, x6, x7] t)).drew).cell? ((⟨b, 0, none⟩ : Addr).add j) = some z := by
  intro j z hz
  have hj : j < 8 := by have := (List.getElem?_eq_some_iff.1 hz).1; exact this
  subst hb
  have hc : j = 0 ∨ j = 1 ∨ j = 2 ∨ j = 3 ∨ j = 4 ∨ j = 5 ∨ j = 6 ∨ j = 7 := by omega
  rcases hc with rfl | rfl | rfl | rfl | rfl | rfl | rfl | rfl <;> simp at hz <;> subst hz <;> go_simp

end Go.Proofs.YtbdkkkpgjcfdgaaDoor

namespace Go.Proofs.YtbdkkkpgjcfdgaaDoor
open Go.RowKit Go.Proofs.YtbdkkkpgjcfdgaaDoor.LexM Go.Proofs.YtbdkkkpgjcfdgaaDoor.ParM Go.Proofs.YtbdkkkpgjcfdgaaDoor.GrM Go.Proofs.YtbdkkkpgjcfdgaaDoor.NmM

theorem mkZ0 (N : Nat) (hN : N ≤ 10000) (w : World) : (Instr.makeSlice 41 (.int .i64 0) (.int .i64 (N : Int))).run Tryd.prog w = .ok (.slice (some ⟨w.heap.size, 0, none⟩) 0 N) (w.alloc (.cells (madeCells #[.int .i64 0] N) 3)) := by
  obtain ⟨i, hi, h0, h1, h2⟩ := info_z
  have h := run_make (P := Tryd.prog) w 41 3 i _ Tryd.underlying41 hi h0 .i64 .i64 0 N (by omega) (by omega) (by rw [h2]; omega) (by omega)
  rw [h1] at h
  simpa [Value.cells] using h
theorem mkZN (N : Nat) (hN : N ≤ 10000) (w : World) : (Instr.makeSlice 41 (.int .i64 (N : Int)) (.int .i64 (N : Int))).run Tryd.prog w = .ok (.slice (some ⟨w.heap.size, 0, none⟩) N N) (w.alloc (.cells (madeCells #[.int .i64 0] N) 3)) := by
  obtain ⟨i, hi, h0, h1, h2⟩ := info_z
  have h := run_make (P := Tryd.prog) w 41 3 i _ Tryd.underlying41 hi h0 .i64 .i64 N N (by omega) (by omega) (by rw [h2]; omega) (by omega)
  rw [h1] at h
  simpa [Value.cells] using h
theorem info_zz : ∃ i, Tryd.prog.info? 41 = some i ∧ i.zero = some (.slice none 0 0) ∧ i.size = 1 ∧ i.bytes = 24 := by
  have h : (Tryd.prog.info? 41).map (fun i => (i.zero, i.size, i.bytes)) = some (some (.slice none 0 0), 1, 24) := by kernel_rfl
  cases e : Tryd.prog.info? 41 with
  | none => rw [e] at h; cases h
  | some i =>
    rw [e] at h
    simp only [Option.map_some, Option.some.injEq, Prod.mk.injEq] at h
    exact ⟨i, rfl, h.1, h.2.1, h.2.2⟩
theorem mkZZ (N : Nat) (hN : N ≤ 10000) (w : World) : (Instr.makeSlice 43 (.int .i64 (N : Int)) (.int .i64 (N : Int))).run Tryd.prog w = .ok (.slice (some ⟨w.heap.size, 0, none⟩) N N) (w.alloc (.cells (madeCells #[.slice none 0 0] N) 41)) := by
  obtain ⟨i, hi, h0, h1, h2⟩ := info_zz
  have h := run_make (P := Tryd.prog) w 43 41 i _ Tryd.underlying43 hi h0 .i64 .i64 N N (by omega) (by omega) (by rw [h2]; omega) (by omega)
  rw [h1] at h
  simpa [Value.cells] using h
theorem made_row {w : World} {B g N : Nat} {z : Value} {t : TypeId} (hg : B ≤ g) (h : w.heap[g]? = some (.cells (madeCells #[z] N) t (0, 0))) (hN : N ≤ 10000) : w.ownsRow B t 1 (.slice (some ⟨g, 0, none⟩) N N) N (List.replicate N z) := by
  refine ⟨by simp, Or.inr ⟨g, N, _, rfl, hg, h, Nat.le_refl _, by unfold maxLen; omega, by simp [size_madeCells], ?_⟩⟩
  rw [toList_madeCells_one, List.take_of_length_le (by simp)]
theorem made_row0 {w : World} {B g N : Nat} {z : Value} {t : TypeId} (hg : B ≤ g) (h : w.heap[g]? = some (.cells (madeCells #[z] N) t (0, 0))) (hN : N ≤ 10000) : w.ownsRow B t 1 (.slice (some ⟨g, 0, none⟩) 0 N) 0 [] :=
  ownsRow_shorter (made_row hg h hN) (Nat.zero_le _)




end Go.Proofs.YtbdkkkpgjcfdgaaDoor

namespace Go
theorem wpList_append_in {P : Program} {w : World} {ops : Array Oper} {rest : List Oper} {o : Oper} {a : Act} {Q : Exit → Act → World → Prop} (hgd : o.guard = none) (s x : Operand) (t : TypeId)
    (hop : o.op = Op.call { callee := Callee.builtin Builtin.append, args := #[s, x], argTypes := #[t, t] })
    (base : Nat) (e : TypeId) (i : TypeInfo) (z : Value) (size bytes : Nat) (h1 : P.underlying t = some (.slice e)) (h2 : P.info? e = some i) (h3 : i.zero = some z) (h4 : i.size = size) (h5 : i.bytes = bytes) (h6 : z.cells.size = size) (h7 : 0 < size)
    (g n cap : Nat) (xs : List Value) (hs : a.eval s = .slice (some ⟨g, 0, none⟩) n cap) (hown : w.ownsRow base e size (.slice (some ⟨g, 0, none⟩) n cap) n xs)
    (ad : Addr) (m c : Nat) (news : List Value) (hx : a.eval x = .slice (some ad) m c) (hn : news.length = m * size) (hc : ∀ j u, news[j]? = some u → w.cell? (ad.add j) = some u) (h1c : ∀ u ∈ news, u.oneCell' = true)
    (b1 : n + m ≤ maxLen) (b2 : (n + m) * bytes ≤ 140737488355328) (hb : base ≤ w.heap.size) (hroom : n + m ≤ cap)
    (hK : ∀ w', w'.ownsRow base e size (.slice (some ⟨g, 0, none⟩) (n + m) cap) (n + m) (xs ++ news) → w.grownBy w' (some g) → wpList P ops Q rest (a.put o.dst (.slice (some ⟨g, 0, none⟩) (n + m) cap)) w') :
    wpList P ops Q (o :: rest) a w := by
  refine wpList_plain hgd fun _ hKK => ?_
  obtain ⟨w', hrun, r1, r2⟩ := run_append_in (P := P) w base t o.type e i z size bytes h1 h2 h3 h4 h5 h6 h7 g n cap xs hown ad m c news hn hc h1c b1 b2 hb hroom
  unfold Oper.wp
  simp [execOp, hop, resolve, invoke, builtin, hs, hx, hrun, Result.andThen]
  exact hKK _ _ (hK w' r1 r2)
end Go
namespace Go.Proofs.YtbdkkkpgjcfdgaaDoor
open Go.RowKit Go.Proofs.YtbdkkkpgjcfdgaaDoor.LexM Go.Proofs.YtbdkkkpgjcfdgaaDoor.ParM Go.Proofs.YtbdkkkpgjcfdgaaDoor.GrM Go.Proofs.YtbdkkkpgjcfdgaaDoor.NmM

/-- The vertices that are boxes. -/
def boxK (B : List Bool) (k : Nat) : List Nat := (List.range k).filter fun v => B.getD v false
theorem boxK_next (B : List Bool) (k : Nat) : boxK B (k + 1) = if B.getD k false = true then boxK B k ++ [k] else boxK B k := by
  unfold boxK
  rw [List.range_succ, List.filter_append]
  by_cases h : B.getD k false = true
  · have h' : B[k]?.getD false = true := by rw [List.getD_eq_getElem?_getD] at h; exact h
    rw [if_pos h]; simp [h']
  · have h' : B[k]?.getD false = false := by rw [List.getD_eq_getElem?_getD] at h; simpa using h
    rw [if_neg h]; simp [h']
theorem boxK_len (B : List Bool) (k : Nat) : (boxK B k).length ≤ k := by
  unfold boxK
  have := List.length_filter_le (fun v => B.getD v false) (List.range k)
  simpa using this
theorem vxK_m (B : List Bool) (E : List Edg) : ∀ k, (vxK B E k).1.n = cntV B E k ∧ (vxK B E k).1.en.length = 2 * E.length ∧ (vxK B E k).2.length = k
  | 0 => ⟨rfl, by simp [vxK], rfl⟩
  | k + 1 => by
    obtain ⟨h1, h2, h3⟩ := vxK_m B E k
    rw [vxK]
    refine ⟨?_, ?_, by rw [List.length_append, h3]; rfl⟩
    · show (if B.getD k false = true then bxN E k (vxK B E k).1 else ptN E k (vxK B E k).1).n = _
      rw [cntV]
      unfold vtxC
      by_cases h : B.getD k false = true
      · rw [if_pos h, if_pos h]
        show (bxK E k (vxK B E k).1.n { (vxK B E k).1 with L := (vxK B E k).1.L ++ newG 4, n := (vxK B E k).1.n + 4 } 4).n = _
        rw [(bxK_m 4).1]
        show (vxK B E k).1.n + 4 + _ = _
        omega
      · rw [if_neg h, if_neg h]
        show (ptK E k (vxK B E k).1.n (moN (vxK B E k).1) 4).n = _
        rw [(ptK_n 4).1]
        show (vxK B E k).1.n + 1 = _
        omega
    · show (if B.getD k false = true then bxN E k (vxK B E k).1 else ptN E k (vxK B E k).1).en.length = _
      by_cases h : B.getD k false = true
      · rw [if_pos h]
        exact (bxK_m 4).2.trans h2
      · rw [if_neg h]
        exact (ptK_n 4).2.trans h2
/-- How many bends the first so many edges have. -/
def bndK (E : List Edg) : Nat → Nat
  | 0 => 0
  | i + 1 => bndK E i + nbE E i
theorem bndK_take (E : List Edg) : ∀ i, i ≤ E.length → bndK E i = bendsOf (E.take i)
  | 0, _ => by simp [bndK, bendsOf]
  | i + 1, h => by
    have hi : i < E.length := by omega
    rw [bndK, bndK_take E i (by omega), List.take_succ_eq_append_getElem hi, bendsOf_snoc]
    unfold nbE
    rw [List.getD_eq_getElem?_getD, List.getElem?_eq_getElem hi]; rfl
theorem bndK_all (E : List Edg) : bndK E E.length = bendsOf E := by rw [bndK_take E _ (Nat.le_refl _), List.take_length]
theorem bndK_le {E : List Edg} {i : Nat} (h : i ≤ E.length) : bndK E i ≤ bndK E E.length := by
  have mono : ∀ d, bndK E i ≤ bndK E (i + d) := fun d => by
    induction d with
    | zero => exact Nat.le_refl _
    | succ d ih => rw [show i + (d + 1) = (i + d) + 1 by omega, bndK]; omega
  have := mono (E.length - i)
  rwa [show i + (E.length - i) = E.length by omega] at this
theorem nbE_le {E : List Edg} (h : bendsOf E ≤ 4096) (i : Nat) : nbE E i ≤ 4096 := by
  unfold nbE
  by_cases hi : i < E.length
  · have e : E.getD i noE = E[i] := by rw [List.getD_eq_getElem?_getD, List.getElem?_eq_getElem hi]; rfl
    rw [e]
    exact bend_le h (List.getElem_mem hi)
  · rw [List.getD_eq_getElem?_getD, List.getElem?_eq_none (by omega)]
    show noE.2.2.2.length ≤ 4096
    simp [noE]
/-- A way whose first so many bends are told; one that is told whole. -/
def wayP (en : List Int) (nb n b i : Nat) : List Int := en.getD (2 * i) 0 :: ((celR n b ++ List.replicate (nb - b) 0) ++ [en.getD (2 * i + 1) 0])
def wayF (en : List Int) (nb n i : Nat) : List Int := en.getD (2 * i) 0 :: (celR n nb ++ [en.getD (2 * i + 1) 0])
theorem wayP_zero (en : List Int) (nb n i : Nat) : wayP en nb n 0 i = wayZ en nb i := by simp [wayP, wayZ, celR]
theorem wayP_all (en : List Int) (nb n i : Nat) : wayP en nb n nb i = wayF en nb n i := by simp [wayP, wayF]
theorem wayP_len {en : List Int} {nb n b i : Nat} (h : b ≤ nb) : (wayP en nb n b i).length = nb + 2 := by simp [wayP, celR_len]; omega
theorem wayP_set {en : List Int} {nb n b i : Nat} (h : b < nb) : (wayP en nb n b i).set (b + 1) ((n + b : Nat) : Int) = wayP en nb n (b + 1) i := by
  unfold wayP
  rw [List.set_cons_succ, List.set_append_left _ _ (by simp [celR_len]; omega), List.set_append_right _ _ (by simp [celR_len])]
  rw [celR_len, Nat.sub_self, celR_more, show nb - b = (nb - (b + 1)) + 1 by omega, List.replicate_succ, List.set_cons_zero]
  simp
/-- The ways, those of the first so many edges told. -/
def wayW (E : List Edg) (en : List Int) (nv i : Nat) (j : Nat) : List Int := if j < i then wayF en (nbE E j) (nv + bndK E j) j else wayZ en (nbE E j) j
theorem wayW_zero (E : List Edg) (en : List Int) (nv : Nat) : wayW E en nv 0 = fun j => wayZ en (nbE E j) j := by
  funext j; unfold wayW; rw [if_neg (by omega)]
theorem wayW_next (E : List Edg) (en : List Int) (nv i : Nat) : (fun j => if j = i then wayP en (nbE E i) (nv + bndK E i) (nbE E i) i else wayW E en nv i j) = wayW E en nv (i + 1) := by
  funext j
  unfold wayW
  by_cases h : j = i
  · subst h; rw [if_pos rfl, if_pos (by omega), wayP_all]
  · rw [if_neg h]
    by_cases h2 : j < i
    · rw [if_pos h2, if_pos (by omega)]
    · rw [if_neg h2, if_neg (by omega)]
theorem wayW_open (E : List Edg) (en : List Int) (nv i : Nat) : (fun j => if j = i then wayP en (nbE E i) (nv + bndK E i) 0 i else wayW E en nv i j) = wayW E en nv i := by
  funext j
  by_cases h : j = i
  · subst h; rw [if_pos rfl, wayP_zero]; unfold wayW; rw [if_neg (by omega)]
  · rw [if_neg h]
section
variable {B s0 nE : Nat} {ln : Nat → Nat} {lb ob fb cF : Nat} {w wa w1 : World} {cnt nF : Nat} {F : List Int} {xv : Value} {W : Nat → List Int}

end
end Go.Proofs.YtbdkkkpgjcfdgaaDoor
