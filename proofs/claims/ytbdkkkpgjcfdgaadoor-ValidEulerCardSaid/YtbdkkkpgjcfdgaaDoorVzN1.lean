/-
  Shapes as cells: the document's answer as mathematics; no program stands here. Conditions: none.
  Shapes as cells, step by step as the document makes them: mathematics; no program stands here. Conditions: none.
  Rows of ints of the call's own; what the reference's Side and On answer. Conditions: at most 4096 edges, of directions, each with at most 1000000 bends.
  What the reference's Count answers. Conditions: at most 4096 vertices, edges and bends; edges of directions.
  What the reference's Wrong answers. Conditions: a shape that may be written.
-/
import Derived.Test.YtbdkkkpgjcfdgaaDoorNzPm
import Derived.Test.YtbdkkkpgjcfdgaaDoorNzPb
import Derived.Test.YtbdkkkpgjcfdgaaDoorNzRm
import Derived.Test.YtbdkkkpgjcfdgaaDoorNzRb
import Derived.Test.YtbdkkkpgjcfdgaaDoorNzT
import Derived.Test.YtbdkkkpgjcfdgaaDoorNzRa
import Derived.IntWalk
import Derived.LoopN
namespace Go.Proofs.YtbdkkkpgjcfdgaaDoor.NmM
open Go.Proofs.YtbdkkkpgjcfdgaaDoor.LexM Go.Proofs.YtbdkkkpgjcfdgaaDoor.ParM Go.Proofs.YtbdkkkpgjcfdgaaDoor.GrM

/-- The side of To on which an edge ends. -/
def sideT (e : Edg) : Int := (lastT e.2.2.1 e.2.2.2 + 2) % 4
/-- An edge's own ends on a side of a vertex. -/
def on1 (v d : Int) (i : Nat) (e : Edg) : List Int :=
  (if e.1 = v ∧ e.2.2.1 = d then [2 * (i : Int)] else []) ++ (if e.2.1 = v ∧ sideT e = d then [2 * (i : Int) + 1] else [])
def onK (E : List Edg) (v d : Int) : Nat → List Int
  | 0 => []
  | k + 1 => onK E v d k ++ on1 v d k (E.getD k noE)
/-- The ends on a side of a vertex. -/
def onL (E : List Edg) (v d : Int) : List Int := onK E v d E.length
theorem on1_len (v d : Int) (i : Nat) (e : Edg) : (on1 v d i e).length ≤ 2 := by
  unfold on1
  rw [List.length_append]
  split <;> split <;> simp
theorem onK_len (E : List Edg) (v d : Int) : ∀ k, (onK E v d k).length ≤ 2 * k
  | 0 => by simp [onK]
  | k + 1 => by
    rw [onK, List.length_append]
    have h1 := onK_len E v d k
    have h2 := on1_len v d k (E.getD k noE)
    omega
theorem onL_len (E : List Edg) (v d : Int) : (onL E v d).length ≤ 2 * E.length := onK_len E v d _
/-- Which ends stand on a side. -/
theorem on1_mem {v d : Int} {i : Nat} {e : Edg} {t : Int} : t ∈ on1 v d i e ↔ (t = 2 * (i : Int) ∧ e.1 = v ∧ e.2.2.1 = d) ∨ (t = 2 * (i : Int) + 1 ∧ e.2.1 = v ∧ sideT e = d) := by
  unfold on1
  rw [List.mem_append]
  constructor
  · rintro (h | h)
    · split at h
      · rename_i hc; exact Or.inl ⟨by simpa using h, hc⟩
      · simp at h
    · split at h
      · rename_i hc; exact Or.inr ⟨by simpa using h, hc⟩
      · simp at h
  · rintro (⟨rfl, h⟩ | ⟨rfl, h⟩)
    · exact Or.inl (by rw [if_pos h]; simp)
    · exact Or.inr (by rw [if_pos h]; simp)
theorem onK_mem {E : List Edg} {v d : Int} {t : Int} : ∀ {k : Nat}, t ∈ onK E v d k ↔ ∃ i, i < k ∧ t ∈ on1 v d i (E.getD i noE)
  | 0 => by simp [onK]
  | k + 1 => by
    rw [onK, List.mem_append, onK_mem (k := k)]
    constructor
    · rintro (⟨i, hi, h⟩ | h)
      · exact ⟨i, by omega, h⟩
      · exact ⟨k, by omega, h⟩
    · rintro ⟨i, hi, h⟩
      by_cases e : i = k
      · subst e; exact Or.inr h
      · exact Or.inl ⟨i, by omega, h⟩
/-- How many ends on the first so many sides of a vertex. -/
def sidesK (E : List Edg) (v : Int) : Nat → Nat
  | 0 => 0
  | d + 1 => sidesK E v d + (onL E v (d : Int)).length
/-- How many cells a vertex has. -/
def vtxC (B : List Bool) (E : List Edg) (v : Nat) : Nat := if B.getD v false = true then 4 + sidesK E v 4 else 1
def cntV (B : List Bool) (E : List Edg) : Nat → Nat
  | 0 => 0
  | k + 1 => cntV B E k + vtxC B E k
def cntN (B : List Bool) (E : List Edg) : Nat := cntV B E B.length + bendsOf E
theorem sidesK_le (E : List Edg) (v : Int) : ∀ d, sidesK E v d ≤ d * (2 * E.length)
  | 0 => by simp [sidesK]
  | d + 1 => by
    rw [sidesK, Nat.add_mul, Nat.one_mul]
    have h1 := sidesK_le E v d
    have h2 := onL_len E v (d : Int)
    omega
theorem cntV_le (B : List Bool) (E : List Edg) : ∀ k, cntV B E k ≤ k * (4 + 8 * E.length)
  | 0 => by simp [cntV]
  | k + 1 => by
    rw [cntV, Nat.add_mul, Nat.one_mul]
    have h1 := cntV_le B E k
    have h2 := sidesK_le E (k : Int) 4
    have h3 : vtxC B E k ≤ 4 + 8 * E.length := by
      unfold vtxC
      split <;> omega
    omega
/-- Has a point two ends on one side? -/
def TwoOn (B : List Bool) (E : List Edg) : Prop := ∃ v d : Nat, v < B.length ∧ d < 4 ∧ B.getD v false = false ∧ 1 < (onL E v d).length
/-- Does an edge without bends go from a point to itself? -/
def SelfT (B : List Bool) (E : List Edg) : Prop := ∃ i, i < E.length ∧ (E.getD i noE).1 = (E.getD i noE).2.1 ∧ (E.getD i noE).2.2.2 = [] ∧ B.getD (E.getD i noE).1.toNat false = false
/-- What is wrong with a shape. -/
noncomputable def wrN (B : List Bool) (E : List Edg) : Int := open Classical in
  if chkS B E ≠ 0 then chkS B E else if 4096 < cntN B E then 6 else if TwoOn B E then 8 else if SelfT B E then 10 else 0
end Go.Proofs.YtbdkkkpgjcfdgaaDoor.NmM

namespace Go.Proofs.YtbdkkkpgjcfdgaaDoor.NmM
open Go.Proofs.YtbdkkkpgjcfdgaaDoor.LexM Go.Proofs.YtbdkkkpgjcfdgaaDoor.ParM Go.Proofs.YtbdkkkpgjcfdgaaDoor.GrM

/-- The cells made so far, and where each end stands (two a edge). -/
structure NSt where
  L : List Int
  n : Nat
  en : List Int
noncomputable def joiN (s : NSt) (a d b o : Int) : NSt := { s with L := (joiO s.L s.n a d b o).2 }
def moN (s : NSt) : NSt := { s with L := s.L ++ freeC, n := s.n + 1 }
def putE (s : NSt) (t c : Int) : NSt := { s with en := s.en.set t.toNat c }
/-- The first so many ends of a side of a box, from a corner on: the cells then, the last cell. -/
noncomputable def chK (way : Int) (l : List Int) (s : NSt) (c : Int) : Nat → NSt × Int
  | 0 => (s, c)
  | i + 1 => (joiN (putE (moN (chK way l s c i).1) (l.getD i 0) (chK way l s c i).1.n) (chK way l s c i).2 way (chK way l s c i).1.n (-1), (chK way l s c i).1.n)
/-- A side's corners, and its way: by the side, from a box's first corner on. -/
def frC (c : Nat) (d : Nat) : Int := if d = 0 then c + 1 else if d = 1 then c + 3 else c
def toC (c : Nat) (d : Nat) : Int := if d = 0 then c + 2 else if d = 1 then c + 2 else if d = 2 then c + 3 else c + 1
def wyC (d : Nat) : Int := if d = 0 then 1 else if d = 1 then 0 else if d = 2 then 1 else 0
noncomputable def sdN (E : List Edg) (v : Int) (c : Nat) (s : NSt) (d : Nat) : NSt :=
  joiN (chK (wyC d) (onL E v d) s (frC c d) (onL E v d).length).1 (chK (wyC d) (onL E v d) s (frC c d) (onL E v d).length).2 (wyC d) (toC c d) (-1)
noncomputable def bxK (E : List Edg) (v : Int) (c : Nat) (s : NSt) : Nat → NSt
  | 0 => s
  | d + 1 => sdN E v c (bxK E v c s d) d
/-- A box's cells. -/
noncomputable def bxN (E : List Edg) (v : Int) (s : NSt) : NSt := bxK E v s.n { s with L := s.L ++ newG 4, n := s.n + 4 } 4
/-- A point's ends. -/
def ptE (l : List Int) (c : Int) (s : NSt) : Nat → NSt
  | 0 => s
  | i + 1 => putE (ptE l c s i) (l.getD i 0) c
def ptK (E : List Edg) (v : Int) (c : Int) (s : NSt) : Nat → NSt
  | 0 => s
  | d + 1 => ptE (onL E v d) c (ptK E v c s d) (onL E v d).length
def ptN (E : List Edg) (v : Int) (s : NSt) : NSt := ptK E v s.n (moN s) 4
/-- The first so many vertices: the cells then, their first ones. -/
noncomputable def vxK (B : List Bool) (E : List Edg) : Nat → NSt × List Int
  | 0 => (⟨[], 0, List.replicate (2 * E.length) 0⟩, [])
  | k + 1 => (if B.getD k false = true then bxN E k (vxK B E k).1 else ptN E k (vxK B E k).1, (vxK B E k).2 ++ [((vxK B E k).1.n : Int)])
/-- The first so many bends of an edge: the cells then, the last cell, the direction, the way. -/
noncomputable def bdK (i : Int) (bl : List UInt8) (s : NSt) (a d : Int) : Nat → NSt × Int × Int × List Int
  | 0 => (s, a, d, [a])
  | k + 1 => (joiN (moN (bdK i bl s a d k).1) (bdK i bl s a d k).2.1 (bdK i bl s a d k).2.2.1 (bdK i bl s a d k).1.n i, (bdK i bl s a d k).1.n,
      ((bdK i bl s a d k).2.2.1 + addT (bl.getD k 0)) % 4, (bdK i bl s a d k).2.2.2 ++ [((bdK i bl s a d k).1.n : Int)])
/-- The first so many edges: the cells then, their ways. -/
noncomputable def egK (E : List Edg) (s : NSt) : Nat → NSt × List (List Int)
  | 0 => (s, [])
  | i + 1 =>
    (joiN (bdK i (E.getD i noE).2.2.2 (egK E s i).1 (s.en.getD (2 * i) 0) (E.getD i noE).2.2.1 (E.getD i noE).2.2.2.length).1
        (bdK i (E.getD i noE).2.2.2 (egK E s i).1 (s.en.getD (2 * i) 0) (E.getD i noE).2.2.1 (E.getD i noE).2.2.2.length).2.1
        (bdK i (E.getD i noE).2.2.2 (egK E s i).1 (s.en.getD (2 * i) 0) (E.getD i noE).2.2.1 (E.getD i noE).2.2.2.length).2.2.1 (s.en.getD (2 * i + 1) 0) i,
     (egK E s i).2 ++ [(bdK i (E.getD i noE).2.2.2 (egK E s i).1 (s.en.getD (2 * i) 0) (E.getD i noE).2.2.1 (E.getD i noE).2.2.2.length).2.2.2 ++ [s.en.getD (2 * i + 1) 0]])
/-! What stays: a list's length, how many ends there are, how many cells. -/
def RightN (s : NSt) (m : Nat) : Prop := s.L.length = s.n * 8 ∧ s.en.length = m
theorem joiO_len {L : List Int} {n : Nat} {x d y o : Int} : (joiO L n x d y o).2.length = L.length := by
  unfold joiO
  split
  · rfl
  · split
    · rfl
    · exact join_len _ _ _ _ _
theorem RightN.joi {s : NSt} {m : Nat} (h : RightN s m) (a d b o : Int) : RightN (joiN s a d b o) m := ⟨joiO_len.trans h.1, h.2⟩
theorem RightN.add {s : NSt} {m : Nat} (h : RightN s m) : RightN (moN s) m := ⟨more_len h.1, h.2⟩
theorem RightN.put {s : NSt} {m : Nat} (h : RightN s m) (t c : Int) : RightN (putE s t c) m := ⟨h.1, by unfold putE; rw [List.length_set]; exact h.2⟩
theorem chK_right {way : Int} {l : List Int} {s : NSt} {c : Int} {m : Nat} (h : RightN s m) : ∀ i, RightN (chK way l s c i).1 m ∧ (chK way l s c i).1.n = s.n + i
  | 0 => ⟨h, rfl⟩
  | i + 1 => by
    obtain ⟨h1, h2⟩ := chK_right (way := way) (l := l) (c := c) h i
    refine ⟨((h1.add.put _ _).joi _ _ _ _), ?_⟩
    show (chK way l s c i).1.n + 1 = _
    omega
theorem sdN_right {E : List Edg} {v : Int} {c : Nat} {s : NSt} {m d : Nat} (h : RightN s m) : RightN (sdN E v c s d) m ∧ (sdN E v c s d).n = s.n + (onL E v d).length := by
  obtain ⟨h1, h2⟩ := chK_right (way := wyC d) (l := onL E v d) (c := frC c d) h (onL E v d).length
  exact ⟨h1.joi _ _ _ _, h2⟩
theorem bxK_right {E : List Edg} {v : Int} {c : Nat} {s : NSt} {m : Nat} (h : RightN s m) : ∀ d, RightN (bxK E v c s d) m ∧ (bxK E v c s d).n = s.n + sidesK E v d
  | 0 => ⟨h, rfl⟩
  | d + 1 => by
    obtain ⟨h1, h2⟩ := bxK_right (v := v) (c := c) (E := E) h d
    obtain ⟨h3, h4⟩ := sdN_right (E := E) (v := v) (c := c) (d := d) h1
    refine ⟨h3, ?_⟩
    show (sdN E v c (bxK E v c s d) d).n = _
    rw [h4, h2, sidesK]
    omega
theorem bxN_right {E : List Edg} {v : Int} {s : NSt} {m : Nat} (h : RightN s m) : RightN (bxN E v s) m ∧ (bxN E v s).n = s.n + 4 + sidesK E v 4 :=
  bxK_right (s := { s with L := s.L ++ newG 4, n := s.n + 4 }) ⟨by show (s.L ++ newG 4).length = _; rw [List.length_append, h.1, new_len]; show _ = (s.n + 4) * 8; omega, h.2⟩ 4
end Go.Proofs.YtbdkkkpgjcfdgaaDoor.NmM

namespace Go.Proofs.YtbdkkkpgjcfdgaaDoor
open Go.RowKit Go.Proofs.YtbdkkkpgjcfdgaaDoor.LexM Go.Proofs.YtbdkkkpgjcfdgaaDoor.ParM Go.Proofs.YtbdkkkpgjcfdgaaDoor.GrM Go.Proofs.YtbdkkkpgjcfdgaaDoor.NmM

/-- A row of ints of the call's own. -/
def OwnZn (w : World) (B : Nat) (v : Value) (x : List Int) (n : Nat) : Prop := x.length = n ∧ w.ownsRow B 3 1 v n (x.map intV)
theorem OwnZn.form {w : World} {B : Nat} {v : Value} {x : List Int} {n : Nat} (h : OwnZn w B v x n) : ∃ ao cap, v = .slice ao n cap := by
  rcases h.2.2 with ⟨h1, h2⟩ | ⟨_, _, _, h, _⟩
  · exact ⟨none, 0, by rw [h2]; exact h1⟩
  · exact ⟨_, _, h⟩
theorem OwnZn.below {w w' : World} {B C : Nat} {v : Value} {x : List Int} {n : Nat} (h : OwnZn w B v x n) (o : Below C w w') (hC : w.heap.size ≤ C) : OwnZn w' B v x n :=
  ⟨h.1, ownsRow_out (S := fun _ => False) h.2 (Out.ofBelow (o.mono hC)) (fun _ _ e => e)⟩
theorem OwnZn.base {w : World} {B C : Nat} {v : Value} {x : List Int} {n : Nat} (h : OwnZn w B v x n) (hC : C ≤ B) : OwnZn w C v x n := by
  refine ⟨h.1, h.2.1, ?_⟩
  rcases h.2.2 with q | ⟨g, cap, cur, hv, hg, r⟩
  · exact Or.inl q
  · exact Or.inr ⟨g, cap, cur, hv, by omega, r⟩
theorem OwnZn.nil (w : World) (B : Nat) : OwnZn w B (.slice none 0 0) [] 0 := ⟨rfl, World.ownsRow_nil _ _ _ _⟩
theorem OwnZn.more {w : World} {B n : Nat} {v : Value} {x : List Int} {y : Int} (hl : x.length = n) (h : w.ownsRow B 3 1 v (n + 1) (x.map intV ++ [intV y])) : OwnZn w B v (x ++ [y]) (n + 1) := by
  refine ⟨by simp [hl], ?_⟩
  rw [List.map_append]
  exact h
theorem OwnZn.at_ {w : World} {B n g cap : Nat} {x : List Int} (h : OwnZn w B (.slice (some ⟨g, 0, none⟩) n cap) x n) {i : Nat} (hi : i < n) : w.cell? ⟨g, i, none⟩ = some (.int .i64 (x.getD i 0)) := by
  rw [World.ownsRow.cellAt h.2 i (by omega), List.getElem?_map, List.getElem?_eq_getElem (by rw [h.1]; exact hi), List.getD_eq_getElem?_getD, List.getElem?_eq_getElem (by rw [h.1]; exact hi)]; rfl
theorem newsZ (w : World) (t : TypeId) (x : Int) (b : Nat) (hb : w.heap.size = b) : ∀ j z, [intV x][j]? = some z → (w.alloc (.cells #[.int .i64 x] t)).cell? ((⟨b, 0, none⟩ : Addr).add j) = some z := by
  intro j z hz
  have hj : j = 0 := by have := List.getElem?_eq_some_iff.1 hz; simp at this; omega
  subst hj hb
  simp at hz
  subst hz
  unfold intV
  go_simp
theorem oneZ (x : Int) : ∀ u ∈ [intV x], u.oneCell' = true := fun u hu => by
  simp at hu
  subst hu
  rfl
theorem info_z : ∃ i, Tryd.prog.info? 3 = some i ∧ i.zero = some (.int .i64 0) ∧ i.size = 1 ∧ i.bytes = 8 := by
  have h : (Tryd.prog.info? 3).map (fun i => (i.zero, i.size, i.bytes)) = some (some (.int .i64 0), 1, 8) := by kernel_rfl
  cases e : Tryd.prog.info? 3 with
  | none => rw [e] at h; cases h
  | some i =>
    rw [e] at h
    simp only [Option.map_some, Option.some.injEq, Prod.mk.injEq] at h
    exact ⟨i, rfl, h.1, h.2.1, h.2.2⟩
theorem refSide (y1 y2 y3 : Int) (y4 : List UInt8) (w : World) (hz : y4.length ≤ 1000000) (h0 : 0 ≤ y3) (h3 : y3 ≤ 3) :
    Calls Tryd.prog 41 #[.agg #[.int .i64 y1, .int .i64 y2, .int .i64 y3, .string (bs y4)]] w fun r w' => r = .returned (.int .i64 (sideT (y1, y2, y3, y4))) ∧ Below w.heap.size w w' := by
  have LA := Lib.hid (fun w => refLast y1 y2 y3 y4 w (by omega) h0 h3)
  have hr := lastT_range y3 y4
  have ST : Hid (sideT (y1, y2, y3, y4) = (lastT y3 y4 + 2) % 4) := Lib.hid rfl
  obtain ⟨z, hz⟩ : ∃ z : Nat, lastT y3 y4 = (z : Int) := ⟨(lastT y3 y4).toNat, by omega⟩
  have hz4 : z ≤ 3 := by omega
  rw [hz] at LA ST
  clear hr hz h0 h3
  generalize bs y4 = sb at *
  go_enter Tryd.func41, Tryd.ntmps41
  go_wp2_with (go_at_call 49; refine (LA.out _).mono ?_; rintro e w1 ⟨rfl, b1⟩; have B1 := Lib.hid b1; clear b1)
  go_ret
  exact ⟨ret_int (by rw [ST.out]), ((Below.refl w.heap.size w).alloc (Nat.le_refl _) _).trans (B1.out.mono (by simp))⟩
/-- Edges that may be gone through. -/
def OkEs (E : List Edg) : Prop := ∀ e ∈ E, 0 ≤ e.2.2.1 ∧ e.2.2.1 ≤ 3 ∧ e.2.2.2.length ≤ 1000000
/-- An edge in a box of its own. -/
def EdB (w : World) (xb : Nat) (f t d : Int) (s : ByteArray) : Prop := w.heap[xb]? = some (.cells #[.int .i64 f, .int .i64 t, .int .i64 d, .string s] 75 (0, 0))
theorem EdB.lt {w : World} {xb : Nat} {f t d : Int} {s : ByteArray} (h : EdB w xb f t d s) : xb < w.heap.size := (Array.getElem?_eq_some_iff.1 h).1
theorem EdB.at_ {w : World} {xb : Nat} {f t d : Int} {s : ByteArray} (h : EdB w xb f t d s) : w.cell? ⟨xb, 0, none⟩ = some (.int .i64 f) ∧ w.cell? ⟨xb, 1, none⟩ = some (.int .i64 t) ∧ w.cell? ⟨xb, 2, none⟩ = some (.int .i64 d) ∧ w.cell? ⟨xb, 3, none⟩ = some (.string s) := by
  unfold EdB at h
  exact ⟨by simp [World.cell?, h], by simp [World.cell?, h], by simp [World.cell?, h], by simp [World.cell?, h]⟩
theorem EdB.out {w w' : World} {S : Nat → Prop} {xb : Nat} {f t d : Int} {s : ByteArray} (h : EdB w xb f t d s) (o : Out S w w') (hn : ¬ S xb) : EdB w' xb f t d s := (o.block xb h.lt hn).trans h
def onT (t : Bool) (x : Int) : List Int := if t = true then [x] else []
theorem onT_t (x : Int) : onT true x = [x] := rfl
theorem onT_f (x : Int) : onT false x = [] := rfl
theorem onK_next {E : List Edg} {v d : Int} {k : Nat} (hk : k < E.length) (t1 t2 : Bool) (h1 : decide (E[k].1 = v ∧ E[k].2.2.1 = d) = t1) (h2 : decide (E[k].2.1 = v ∧ sideT E[k] = d) = t2) :
    onK E v d (k + 1) = (onK E v d k ++ onT t1 (2 * (k : Int))) ++ onT t2 (2 * (k : Int) + 1) := by
  have e : E.getD k noE = E[k] := by rw [List.getD_eq_getElem?_getD, List.getElem?_eq_getElem hk]; rfl
  rw [onK, e, List.append_assoc]
  unfold on1 onT
  congr 1
  congr 1
  · subst h1
    simp only [decide_eq_true_eq]
  · subst h2
    simp only [decide_eq_true_eq]
def OnR (E : List Edg) (v d : Int) (n : Nat) (wb wr : World) (lv iv : Value) : Prop :=
  ∃ (k m : Nat) (A : Option Addr) (c : Nat), iv = .int .i64 k ∧ k ≤ n ∧ m ≤ 2 * k ∧ lv = .slice A m c ∧ OwnZn wr wb.heap.size lv (onK E v d k) m ∧ Below wb.heap.size wb wr
/-- Behind an 'if' that may append one int. -/
def OnC (K : List Int) (m xb : Nat) (f t d : Int) (s : ByteArray) (wb : World) (lv : Value) (w' : World) : Prop :=
  ∃ (A : Option Addr) (c m' : Nat), lv = .slice A m' c ∧ m' ≤ m ∧ OwnZn w' wb.heap.size lv K m' ∧ EdB w' xb f t d s ∧ Below wb.heap.size wb w' ∧ (∀ b, lv.ownBlock = some b → b ≠ xb)
theorem on_app {wb wa w5 : World} {K : List Int} {m xb : Nat} {f t d x : Int} {s : ByteArray} {v v5 : Value} (hK : K.length = m) (hO : OwnZn wa wb.heap.size v K m) (hX : EdB wa xb f t d s) (hB : Below wb.heap.size wb wa) (hne : ∀ b, v.ownBlock = some b → b ≠ xb)
    (hown : w5.ownsRow wb.heap.size 3 1 v5 (m + 1) (K.map intV ++ [intV x])) (hgrow : wa.grownBy w5 v.ownBlock) (hfr : ∀ b, v5.ownBlock = some b → v.ownBlock = some b ∨ wa.heap.size ≤ b) :
    OnC (K ++ [x]) (m + 1) xb f t d s wb v5 w5 := by
  have hZ := OwnZn.more hK hown
  obtain ⟨ao, co, rfl⟩ := hZ.form
  refine ⟨ao, co, m + 1, rfl, Nat.le_refl _, hZ, ?_, hB.grown hgrow hB.size (fun q hq => (World.ownsRow.lt hO.2 q hq).1), fun b hb => ?_⟩
  · exact (hgrow.block xb hX.lt (fun e => hne xb e.symm rfl)).trans hX
  · rcases hfr b hb with h | h
    · exact hne b h
    · have := hX.lt; omega
set_option maxHeartbeats 16000000 in
set_option maxRecDepth 100000 in
theorem refOn (bv ev : Value) (E : List Edg) (v d : Int) (w : World) (hE : EdsAt w ev E) (hl : E.length ≤ 4096) (hok : OkEs E) :
    Calls Tryd.prog 28 #[.agg #[bv, ev], .int .i64 v, .int .i64 d] w fun r w' => (∃ A c n, r = .returned (.slice A n c) ∧ OwnZn w' w.heap.size (.slice A n c) (onL E v d) n ∧ n ≤ 8192) ∧ Below w.heap.size w w' := by
  have HE := Lib.hid hE
  obtain ⟨n, hn⟩ : ∃ n, E.length = n := ⟨_, rfl⟩
  obtain ⟨A0, c0, e⟩ := hE.form
  subst e
  rw [hn] at HE hl ⊢
  have HK := Lib.hid hok
  have HN := Lib.hid hn
  obtain ⟨i0, hi, hz0, hz1, hz2⟩ := info_z
  clear hE hok hn
  go_enter Tryd.func28, Tryd.ntmps28
  go_upto_region 1 with (fail)
  obtain ⟨wb, hwb⟩ : ∃ W, W = (w.alloc (.cells #[bv, .slice A0 n c0] 36)) := ⟨_, rfl⟩
  have BB : Hid (Below w.heap.size w wb) := Lib.hid (by rw [hwb]; exact (Below.refl _ _).alloc (Nat.le_refl _) _)
  have x1 : wb.cell? ⟨w.heap.size, 1, none⟩ = some (.slice A0 n c0) := by rw [hwb]; go_simp
  have hgb : w.heap.size < wb.heap.size := by rw [hwb]; simp
  rw [← hwb]
  clear hwb
  have KX := Lib.hid (fun wr (b : Below wb.heap.size wb wr) => And.intro ((b.cell (p := ⟨w.heap.size, 1, none⟩) hgb).trans x1) (Nat.lt_of_lt_of_le hgb b.size))
  clear x1 hgb
  go_wp2_with fail
  go_loopw [7, 8] (fun lv iv wr => OnR E v d n wb wr lv iv) (fun _ iv _ => n - (intOf iv).toNat)
  case atStart => exact ⟨0, 0, none, 0, rfl, Nat.zero_le _, Nat.le_refl _, rfl, OwnZn.nil _ _, Below.refl _ _⟩
  case round =>
    obtain ⟨k, m, ao, co, rfl, hk, hm, rfl, hO, hB⟩ := hrel
    have O := Lib.hid hO
    have B := Lib.hid hB
    obtain ⟨y1, hgw⟩ := KX.out wr hB
    clear hO hB
    by_cases hlt : k < n
    · have q0 : decide (k < n) = true := decide_eq_true hlt
      have hkE : k < E.length := by have := HN.out; omega
      obtain ⟨A1, cc, e, _, hc⟩ := (HE.out.below BB.out (Nat.le_refl _))
      simp only [Value.slice.injEq] at e
      obtain ⟨rfl, -, rfl⟩ := e
      obtain ⟨b, o, e, hb, hcell⟩ := hc (by omega)
      subst e
      obtain ⟨z0, z1, z2, z3⟩ := hcell k hkE
      have f0 := (B.out.cell (p := ⟨b, o + k * 4, none⟩) hb).trans z0
      have f1 := (B.out.cell (p := ⟨b, o + k * 4 + 1, none⟩) hb).trans z1
      have f2 := (B.out.cell (p := ⟨b, o + k * 4 + 2, none⟩) hb).trans z2
      have f3 := (B.out.cell (p := ⟨b, o + k * 4 + 3, none⟩) hb).trans z3
      have hbw := Nat.lt_of_lt_of_le hb B.out.size
      obtain ⟨t1, h1⟩ : ∃ t, decide (E[k].1 = v ∧ E[k].2.2.1 = d) = t := ⟨_, rfl⟩
      obtain ⟨t2, h2⟩ : ∃ t, decide (E[k].2.1 = v ∧ sideT E[k] = d) = t := ⟨_, rfl⟩
      have NX := Lib.hid (onK_next hkE t1 t2 h1 h2)
      obtain ⟨k1, k2, k3⟩ := HK.out E[k] (List.getElem_mem hkE)
      have SD := Lib.hid (fun w => refSide E[k].1 E[k].2.1 E[k].2.2.1 E[k].2.2.2 w k3 k1 k2)
      have H1 := Lib.hid h1
      have H2 := Lib.hid h2
      have eS : (E[k].1, E[k].2.1, E[k].2.2.1, E[k].2.2.2) = E[k] := rfl
      rw [eS] at SD
      clear eS z0 z1 z2 z3 hcell hc h1 h2 k1 k2 k3 HE
      generalize sideT E[k] = sd at *
      generalize E[k].1 = fk at *
      generalize E[k].2.1 = tk at *
      generalize E[k].2.2.1 = dk at *
      generalize bs E[k].2.2.2 = sk at *
      go_upto_region 6 with (fail)
      obtain ⟨wx, hwx⟩ : ∃ W, W = (wr.alloc (.cells #[.int .i64 fk, .int .i64 tk, .int .i64 dk, .string sk] 75)) := ⟨_, rfl⟩
      have bx : Below wr.heap.size wr wx := by rw [hwx]; exact (Below.refl _ _).alloc (Nat.le_refl _) _
      have EX := Lib.hid (show EdB wx wr.heap.size fk tk dk sk from by rw [hwx]; exact heap_alloc_new wr _)
      have OX := Lib.hid (O.out.below bx (Nat.le_refl _))
      have BX := Lib.hid (B.out.trans (bx.mono B.out.size))
      have NE : Hid (∀ b, (Value.slice ao m co).ownBlock = some b → b ≠ wr.heap.size) := Lib.hid (fun q hq e => by have := (World.ownsRow.lt O.out.2 q hq).2; omega)
      have HL : Hid ((onK E v d k).length = m) := Lib.hid O.out.1
      rw [← hwx]
      generalize wr.heap.size = xb at *
      clear hwx bx O B y1 hgw f0 f1 f2 f3 hbw hb
      obtain ⟨g0, g1, g2, g3⟩ := EX.out.at_
      have hxb := EX.out.lt
      go_cut [32] from 31 to 31 (fun s wq => s = .bool t1 ∧ wq = wx)
      case first =>
        by_cases c1 : fk = v
        · have p1 : (fk == v) = true := by rw [beq_iff_eq]; exact c1
          by_cases c2 : dk = d
          · have p2 : (dk == d) = true := by rw [beq_iff_eq]; exact c2
            have e1 : true = t1 := by rw [← H1.out]; exact (decide_eq_true ⟨c1, c2⟩).symm
            subst e1
            clear c1 c2
            go_wp2_with fail
            go_meet
            exact ⟨rfl, rfl⟩
          · have p2 : (dk == d) = false := by rw [beq_eq_false_iff_ne]; exact c2
            have e1 : false = t1 := by rw [← H1.out]; exact (decide_eq_false (fun h => c2 h.2)).symm
            subst e1
            clear c1 c2
            go_wp2_with fail
            go_meet
            exact ⟨rfl, rfl⟩
        · have p1 : (fk == v) = false := by rw [beq_eq_false_iff_ne]; exact c1
          have e1 : false = t1 := by rw [← H1.out]; exact (decide_eq_false (fun h => c1 h.1)).symm
          subst e1
          clear c1
          go_wp2_with fail
          go_meet
          exact ⟨rfl, rfl⟩
      case rest =>
        obtain ⟨rfl, hwc⟩ := hcut
        obtain rfl := hwc.symm
        go_upto_if 32 with (fail)
        go_cut [7] from 37 to 37 (fun lv wq => OnC (onK E v d k ++ onT t1 (2 * (k : Int))) (m + 1) xb fk tk dk sk wb lv wq)
        case first =>
          cases t1
          · go_wp2_with fail
            go_meet
            exact ⟨ao, co, m, rfl, Nat.le_succ _, by rw [onT_f, List.append_nil]; exact OX.out, EX.out, BX.out, NE.out⟩
          · go_wp2_with (at_builtin; refine wpList_append_fresh rfl (.tmp 33) (.tmp 36) 41 rfl wb.heap.size 3 i0 (.int .i64 0) 1 8 Tryd.underlying41 hi hz0 hz1 hz2 rfl (by decide) (.slice ao m co) m ((onK E v d k).map intV) rfl (OX.out.below ((Below.refl _ _).alloc (Nat.le_refl _) _) (Nat.le_refl _)).2 ⟨wx.heap.size, 0, none⟩ 1 1 [intV (2 * (k : Int))] rfl rfl (newsZ _ _ _ _ rfl) (oneZ _) (by unfold maxLen; omega) (by omega) (Nat.le_trans BX.out.size (by simp)) ?_; intro v5 w5 hown hgrow hfr; have C5 := Lib.hid (on_app HL.out (OX.out.below ((Below.refl _ _).alloc (Nat.le_refl _) _) (Nat.le_refl _)) (EX.out.out (Out.ofBelow (S := fun _ => False) ((Below.refl _ _).alloc (Nat.le_refl _) _)) (fun e => e)) (BX.out.alloc BX.out.size _) NE.out hown hgrow hfr); clear hown hgrow hfr)
            go_meet
            exact C5.out
        case rest =>
          obtain ⟨A7, c7, m7, rfl, hm7, o7, e7, b7, n7⟩ := hcut
          obtain ⟨w7, hw7⟩ : ∃ W, W = wc := ⟨_, rfl⟩
          subst hw7
          have O7 := Lib.hid o7
          have E7 := Lib.hid e7
          have B7 := Lib.hid b7
          have N7 := Lib.hid n7
          obtain ⟨g0, g1, g2, g3⟩ := e7.at_
          have hx7 := e7.lt
          clear o7 e7 b7 n7 OX EX BX NE HL g0 g1 g2 g3 hxb
          obtain ⟨g0, g1, g2, g3⟩ := E7.out.at_
          go_upto_region 9 with (go_at_call 41; refine (SD.out _).mono ?_; rintro e w8 ⟨rfl, b8⟩; have B8 := Lib.hid b8; clear b8)
          have O8 := Lib.hid (O7.out.below B8.out (Nat.le_refl _))
          have E8 := Lib.hid (E7.out.out (Out.ofBelow (S := fun _ => False) B8.out) (fun e => e))
          have BZ := Lib.hid (B7.out.trans (B8.out.mono B7.out.size))
          have HL : Hid ((onK E v d k ++ onT t1 (2 * (k : Int))).length = m7) := Lib.hid O7.out.1
          clear g0 g1 g2 g3 hx7 O7 E7 B7 B8
          obtain ⟨g0, g1, g2, g3⟩ := E8.out.at_
          have hx8 := E8.out.lt
          generalize onK E v d k ++ onT t1 (2 * (k : Int)) = K1 at *
          go_cut [48] from 47 to 47 (fun s wq => s = .bool t2 ∧ wq = w8)
          case first =>
            by_cases c1 : tk = v
            · have p1 : (tk == v) = true := by rw [beq_iff_eq]; exact c1
              by_cases c2 : sd = d
              · have p2 : (sd == d) = true := by rw [beq_iff_eq]; exact c2
                have e1 : true = t2 := by rw [← H2.out]; exact (decide_eq_true ⟨c1, c2⟩).symm
                subst e1
                clear c1 c2
                go_wp2_with fail
                go_meet
                exact ⟨rfl, rfl⟩
              · have p2 : (sd == d) = false := by rw [beq_eq_false_iff_ne]; exact c2
                have e1 : false = t2 := by rw [← H2.out]; exact (decide_eq_false (fun h => c2 h.2)).symm
                subst e1
                clear c1 c2
                go_wp2_with fail
                go_meet
                exact ⟨rfl, rfl⟩
            · have p1 : (tk == v) = false := by rw [beq_eq_false_iff_ne]; exact c1
              have e1 : false = t2 := by rw [← H2.out]; exact (decide_eq_false (fun h => c1 h.1)).symm
              subst e1
              clear c1
              go_wp2_with fail
              go_meet
              exact ⟨rfl, rfl⟩
          case rest =>
            obtain ⟨rfl, hwc⟩ := hcut
            obtain rfl := hwc.symm
            cases t2
            · go_wp2_with fail
              go_roundw
              case rel => exact ⟨k + 1, m7, A7, c7, by go_num, by omega, by omega, rfl, by rw [NX.out, onT_f, List.append_nil]; exact O8.out, BZ.out⟩
              case measure => (simp [intOf] <;> omega)
            · go_wp2_with (at_builtin; refine wpList_append_fresh rfl (.tmp 49) (.tmp 53) 41 rfl wb.heap.size 3 i0 (.int .i64 0) 1 8 Tryd.underlying41 hi hz0 hz1 hz2 rfl (by decide) (.slice A7 m7 c7) m7 (K1.map intV) rfl (O8.out.below ((Below.refl _ _).alloc (Nat.le_refl _) _) (Nat.le_refl _)).2 ⟨w8.heap.size, 0, none⟩ 1 1 [intV (2 * (k : Int) + 1)] rfl rfl (newsZ _ _ _ _ rfl) (oneZ _) (by unfold maxLen; omega) (by omega) (Nat.le_trans BZ.out.size (by simp)) ?_; intro v5 w5 hown hgrow hfr; have C5 := Lib.hid (on_app HL.out (O8.out.below ((Below.refl _ _).alloc (Nat.le_refl _) _) (Nat.le_refl _)) (E8.out.out (Out.ofBelow (S := fun _ => False) ((Below.refl _ _).alloc (Nat.le_refl _) _)) (fun e => e)) (BZ.out.alloc BZ.out.size _) N7.out hown hgrow hfr); clear hown hgrow hfr)
              obtain ⟨A9, c9, m9, e9, hm9, o9, _, b9, _⟩ := C5.out
              go_roundw
              case rel => exact ⟨k + 1, m9, A9, c9, by go_num, by omega, by omega, e9, by rw [NX.out]; exact o9, b9⟩
              case measure => (simp [intOf] <;> omega)
    · have hkn : k = n := by omega
      have q0 : decide (k < n) = false := decide_eq_false hlt
      have EQ : Hid (onL E v d = onK E v d k) := Lib.hid (by unfold onL; rw [HN.out, hkn])
      go_wp2_with fail
      go_ret
      exact ⟨⟨_, _, m, rfl, by rw [EQ.out]; exact O.out.base BB.out.size, by omega⟩, BB.out.trans (B.out.mono BB.out.size)⟩
end Go.Proofs.YtbdkkkpgjcfdgaaDoor

namespace Go.Proofs.YtbdkkkpgjcfdgaaDoor
open Go.RowKit Go.Proofs.YtbdkkkpgjcfdgaaDoor.LexM Go.Proofs.YtbdkkkpgjcfdgaaDoor.ParM Go.Proofs.YtbdkkkpgjcfdgaaDoor.GrM Go.Proofs.YtbdkkkpgjcfdgaaDoor.NmM

/-- A shape in a box of its own. -/
def ShB (w : World) (xb : Nat) (bv ev : Value) : Prop := w.heap[xb]? = some (.cells #[bv, ev] 36 (0, 0))
theorem ShB.lt {w : World} {xb : Nat} {bv ev : Value} (h : ShB w xb bv ev) : xb < w.heap.size := (Array.getElem?_eq_some_iff.1 h).1
theorem ShB.at_ {w : World} {xb : Nat} {bv ev : Value} (h : ShB w xb bv ev) : w.cell? ⟨xb, 0, none⟩ = some bv ∧ w.cell? ⟨xb, 1, none⟩ = some ev := by
  unfold ShB at h
  exact ⟨by simp [World.cell?, h], by simp [World.cell?, h]⟩
theorem ShB.below {w w' : World} {xb C : Nat} {bv ev : Value} (h : ShB w xb bv ev) (b : Below C w w') (hC : w.heap.size ≤ C) : ShB w' xb bv ev := (b.block _ (Nat.lt_of_lt_of_le h.lt hC)).trans h
theorem BlsAt.one {w : World} {A : Option Addr} {n c : Nat} {B : List Bool} (h : BlsAt w (.slice A n c) B) {k : Nat} (hk : k < B.length) : ∃ b o, A = some ⟨b, o, none⟩ ∧ b < w.heap.size ∧ w.cell? ⟨b, o + k, none⟩ = some (.bool (B.getD k false)) := by
  obtain ⟨A', cap, e, hc, hA⟩ := h
  simp only [Value.slice.injEq] at e
  obtain ⟨rfl, _, _⟩ := e
  obtain ⟨b, o, rfl, hb, hcell⟩ := hA (by omega)
  refine ⟨b, o, rfl, hb, ?_⟩
  rw [hcell k hk, List.getD_eq_getElem?_getD, List.getElem?_eq_getElem hk]; rfl
theorem EdsAt.one {w : World} {A : Option Addr} {n c : Nat} {E : List Edg} (h : EdsAt w (.slice A n c) E) {k : Nat} (hk : k < E.length) : ∃ b o, A = some ⟨b, o, none⟩ ∧ b < w.heap.size ∧
    w.cell? ⟨b, o + k * 4, none⟩ = some (.int .i64 E[k].1) ∧ w.cell? ⟨b, o + k * 4 + 1, none⟩ = some (.int .i64 E[k].2.1) ∧ w.cell? ⟨b, o + k * 4 + 2, none⟩ = some (.int .i64 E[k].2.2.1) ∧ w.cell? ⟨b, o + k * 4 + 3, none⟩ = some (.string (bs E[k].2.2.2)) := by
  obtain ⟨A', cap, e, hc, hA⟩ := h
  simp only [Value.slice.injEq] at e
  obtain ⟨rfl, _, _⟩ := e
  obtain ⟨b, o, rfl, hb, hcell⟩ := hA (by omega)
  exact ⟨b, o, rfl, hb, hcell k hk⟩
theorem sidesK_mono {E : List Edg} {v : Int} {d e : Nat} (h : d ≤ e) : sidesK E v d ≤ sidesK E v e := by
  induction e with
  | zero => have : d = 0 := by omega
            subst this; exact Nat.le_refl _
  | succ e ih =>
    by_cases hd : d = e + 1
    · subst hd; exact Nat.le_refl _
    · have := ih (by omega)
      rw [sidesK]
      omega
def CnV (B : List Bool) (E : List Edg) (nB : Nat) (wb wr : World) (nv iv : Value) : Prop := ∃ k : Nat, iv = .int .i64 k ∧ k ≤ nB ∧ nv = .int .i64 (cntV B E k : Nat) ∧ Below wb.heap.size wb wr
def CnD (B : List Bool) (E : List Edg) (k : Nat) (wb wr : World) (nv dv : Value) : Prop := ∃ d q : Nat, dv = .int .i64 d ∧ d ≤ 4 ∧ nv = .int .i64 q ∧ q = cntV B E k + 1 + sidesK E (k : Int) d ∧ Below wb.heap.size wb wr
def CnE (B : List Bool) (E : List Edg) (nE : Nat) (wb wr : World) (nv iv : Value) : Prop := ∃ k q : Nat, iv = .int .i64 k ∧ k ≤ nE ∧ nv = .int .i64 q ∧ q = cntV B E B.length + bendsOf (E.take k) ∧ Below wb.heap.size wb wr
set_option maxHeartbeats 16000000 in
set_option maxRecDepth 100000 in
theorem refCount (bv ev : Value) (B : List Bool) (E : List Edg) (w : World) (hB : BlsAt w bv B) (hE : EdsAt w ev E) (hbl : B.length ≤ 4096) (hl : E.length ≤ 4096) (hok : OkEs E) (hbe : bendsOf E ≤ 4096) :
    Calls Tryd.prog 27 #[.agg #[bv, ev]] w fun r w' => r = .returned (.int .i64 (cntN B E : Nat)) ∧ Below w.heap.size w w' := by
  have HB := Lib.hid hB
  have HE := Lib.hid hE
  have HK := Lib.hid hok
  obtain ⟨nB, hnB⟩ : ∃ n, B.length = n := ⟨_, rfl⟩
  obtain ⟨nE, hnE⟩ : ∃ n, E.length = n := ⟨_, rfl⟩
  obtain ⟨AB, cB, e⟩ := hB.form
  subst e
  obtain ⟨AE, cE, e⟩ := hE.form
  subst e
  have ON := Lib.hid (fun (v d : Int) w1 (b : Below w.heap.size w w1) => refOn (.slice AB B.length cB) _ E v d w1 (hE.below b (Nat.le_refl _)) hl hok)
  rw [hnB] at HB ON ⊢
  rw [hnE] at HE ON ⊢
  rw [hnB] at hbl
  rw [hnE] at hl
  have NB := Lib.hid hnB
  have NE := Lib.hid hnE
  have HBE := Lib.hid hbe
  clear hB hE hok hnB hnE hbe
  go_enter Tryd.func27, Tryd.ntmps27
  go_upto_region 1 with (fail)
  obtain ⟨wb, hwb⟩ : ∃ W, W = (w.alloc (.cells #[.slice AB nB cB, .slice AE nE cE] 36)) := ⟨_, rfl⟩
  have BB : Hid (Below w.heap.size w wb) := Lib.hid (by rw [hwb]; exact (Below.refl _ _).alloc (Nat.le_refl _) _)
  have SB : Hid (ShB wb w.heap.size (.slice AB nB cB) (.slice AE nE cE)) := Lib.hid (by rw [hwb]; exact heap_alloc_new w _)
  rw [← hwb]
  clear hwb
  go_wp2_with fail
  go_loopw [3, 4] (fun nv iv wr => CnV B E nB wb wr nv iv) (fun _ iv _ => nB - (intOf iv).toNat)
  case atStart => exact ⟨0, rfl, Nat.zero_le _, rfl, Below.refl _ _⟩
  case round =>
    obtain ⟨k, rfl, hk, rfl, hD⟩ := hrel
    have D := Lib.hid hD
    clear hD
    obtain ⟨wo, hwo⟩ : ∃ W, W = wr := ⟨_, rfl⟩
    subst hwo
    have SO := Lib.hid (SB.out.below D.out (Nat.le_refl _))
    obtain ⟨x0, x1⟩ := SO.out.at_
    have xl := SO.out.lt
    have BO := Lib.hid (BB.out.trans (D.out.mono BB.out.size))
    have hcv := cntV_le B E k
    have hkk : k * (4 + 8 * E.length) ≤ 4096 * (4 + 8 * 4096) := by
      have := NE.out
      exact Nat.mul_le_mul (by omega) (by omega)
    have hcv2 : cntV B E k ≤ 200000000 := by omega
    clear hcv hkk
    by_cases hlt : k < nB
    · have q0 : decide (k < nB) = true := decide_eq_true hlt
      have hkB : k < B.length := by have := NB.out; omega
      obtain ⟨bb, ob, rfl, hbb, y0⟩ := HB.out.one hkB
      have f0 := (BO.out.cell (p := ⟨bb, ob + k, none⟩) hbb).trans y0
      have hbw := Nat.lt_of_lt_of_le hbb BO.out.size
      have CV : Hid (cntV B E (k + 1) = cntV B E k + vtxC B E k) := Lib.hid rfl
      obtain ⟨t, ht⟩ : ∃ t, B.getD k false = t := ⟨_, rfl⟩
      have VC : Hid (vtxC B E k = if t = true then 4 + sidesK E (k : Int) 4 else 1) := Lib.hid (by unfold vtxC; rw [ht])
      rw [ht] at f0
      have hs4 := sidesK_le E (k : Int) 4
      have hsd : ∀ d, d < 4 → sidesK E (k : Int) (d + 1) = sidesK E (k : Int) d + (onL E (k : Int) (d : Int)).length := fun d _ => rfl
      have HSD := Lib.hid hsd
      have HS4 : Hid (sidesK E (k : Int) 4 ≤ 4 * (2 * 4096)) := Lib.hid (by have := NE.out; omega)
      have CV0 : Hid (CnD B E k wb wo (.int .i64 ((cntV B E k : Nat) + 1)) (.int .i64 (0 : Nat))) := Lib.hid ⟨0, cntV B E k + 1, rfl, by omega, by congr 1, rfl, D.out⟩
      have FO := Lib.hid f0
      clear ht hs4 hsd y0
      obtain ⟨q0n, hq0⟩ : ∃ q, cntV B E k = q := ⟨_, rfl⟩
      rw [hq0] at hcv2 CV CV0 ⊢
      have HQ := Lib.hid hq0
      clear hq0
      cases t
      · go_upto_region 6 with (fail)
        go_wp2_with fail
        refine wp_loop_rounds 1 ?_
        rw [rounds_succ]
        go_wp2_with fail
        go_roundw
        case rel => exact ⟨k + 1, by go_num, by omega, by rw [CV.out, VC.out, if_neg (by decide)]; go_num, D.out⟩
        case measure => (simp [intOf] <;> omega)
      · go_upto_region 6 with (fail)
        go_wp2_with fail
        go_loopw [3, 5] (fun nv dv wr => CnD B E k wb wr nv dv) (fun _ dv _ => 4 - (intOf dv).toNat)
        case atStart => exact CV0.out
        case round =>
          clear CV0
          obtain ⟨d, q, rfl, hd, rfl, hq, hD2⟩ := hrel
          have D2 := Lib.hid hD2
          have HQ2 := Lib.hid hq
          have S2 := Lib.hid (SB.out.below hD2 (Nat.le_refl _))
          clear x0 x1 xl f0 hbw
          obtain ⟨x0, x1⟩ := S2.out.at_
          have xl := S2.out.lt
          have B2 := Lib.hid (BB.out.trans (hD2.mono BB.out.size))
          have f0 : wr.cell? ⟨bb, ob + k, none⟩ = some (.bool true) := by
            have h1 := (hD2.cell (p := ⟨bb, ob + k, none⟩) (Nat.lt_of_lt_of_le hbb BB.out.size))
            have h2 := (D.out.cell (p := ⟨bb, ob + k, none⟩) (Nat.lt_of_lt_of_le hbb BB.out.size))
            rw [h1, ← h2]
            exact FO.out
          have hbw := Nat.lt_of_lt_of_le hbb B2.out.size
          have hqb : q ≤ 200000000 + 1 + 8 * 4096 := by
            have h1 := HS4.out
            have h2 : sidesK E (k : Int) d ≤ sidesK E (k : Int) 4 := sidesK_mono hd
            have h3 := HQ.out
            omega
          clear hq hD2
          by_cases hd4 : d < 4
          · have q1 : decide (d < 4) = true := decide_eq_true hd4
            have q1' : decide ((d : Int) < 4) = true := decide_eq_true (by omega)
            go_wp2_with (go_at_call 28; refine (ON.out (k : Int) (d : Int) _ B2.out).mono ?_; rintro e w5 ⟨⟨A5, c5, n5, rfl, o5, hn5⟩, b5⟩; have O5 := Lib.hid o5.1; have B5 := Lib.hid b5; clear o5 b5)
            go_roundw
            case rel => exact ⟨d + 1, q + n5, by go_num, by omega, by go_num, by rw [HSD.out d hd4, HQ2.out, O5.out]; omega, D2.out.trans (B5.out.mono D2.out.size)⟩
            case measure => (simp [intOf] <;> omega)
          · have hd5 : d = 4 := by omega
            subst hd5
            have q1 : decide (4 < 4) = false := by decide
            have E4 : Hid ((q : Int) + 3 = ((cntV B E (k + 1) : Nat) : Int)) := Lib.hid (by
              have h1 := CV.out
              have h2 := VC.out
              have h3 := HQ2.out
              have h4 := HQ.out
              rw [if_pos trivial] at h2
              omega)
            go_wp2_with fail
            go_roundw
            case rel => exact ⟨k + 1, by go_num, by omega, by rw [← E4.out], D2.out⟩
            case measure => (simp [intOf] <;> omega)
    · have hkn : k = nB := by omega
      have q0 : decide (k < nB) = false := decide_eq_false hlt
      have CB : Hid (cntV B E k = cntV B E B.length) := Lib.hid (by rw [NB.out, hkn])
      obtain ⟨q0n, hq0⟩ : ∃ q, cntV B E k = q := ⟨_, rfl⟩
      rw [hq0] at hcv2 CB ⊢
      clear hq0
      go_wp2_with fail
      go_loopw [3, 7] (fun nv iv wr => CnE B E nE wb wr nv iv) (fun _ iv _ => nE - (intOf iv).toNat)
      case atStart => exact ⟨0, q0n, rfl, Nat.zero_le _, rfl, by rw [CB.out]; simp [bendsOf], D.out⟩
      case round =>
        obtain ⟨i, q, rfl, hi, rfl, hq, hD2⟩ := hrel
        have D2 := Lib.hid hD2
        have HQ2 := Lib.hid hq
        have S2 := Lib.hid (SB.out.below hD2 (Nat.le_refl _))
        clear x0 x1 xl
        obtain ⟨x0, x1⟩ := S2.out.at_
        have xl := S2.out.lt
        have B2 := Lib.hid (BB.out.trans (hD2.mono BB.out.size))
        have hqb : q ≤ 200000000 + 4096 := by
          have h1 := bends_le E i
          have h2 := HBE.out
          have h3 := CB.out
          omega
        clear hq hD2
        by_cases hlt2 : i < nE
        · have q2 : decide (i < nE) = true := decide_eq_true hlt2
          have hiE : i < E.length := by have := NE.out; omega
          obtain ⟨be, oe, rfl, hbe2, y0, y1, y2, y3⟩ := HE.out.one hiE
          have f3 := (B2.out.cell (p := ⟨be, oe + i * 4 + 3, none⟩) hbe2).trans y3
          have hbw := Nat.lt_of_lt_of_le hbe2 B2.out.size
          have BT := Lib.hid (bends_take E i hiE)
          have hsz := bs_size E[i].2.2.2
          have hbt : E[i].2.2.2.length ≤ 4096 := by
            have h1 := bends_take E i hiE
            have h2 := bends_le E (i + 1)
            have h3 := HBE.out
            omega
          obtain ⟨z, hz⟩ : ∃ z, E[i].2.2.2.length = z := ⟨_, rfl⟩
          rw [hz] at hsz hbt BT
          generalize bs E[i].2.2.2 = sk at *
          obtain ⟨zz, hzz⟩ : ∃ zz, sk.size = zz := ⟨_, rfl⟩
          have HZ : Hid (zz = z) := Lib.hid (by omega)
          have hzb : zz ≤ 4096 := by omega
          clear y0 y1 y2 y3 hz hsz hbt
          go_wp2_with fail
          go_roundw
          case rel => exact ⟨i + 1, q + zz, by go_num, by omega, by go_num, by rw [BT.out, HQ2.out, HZ.out]; omega, D2.out⟩
          case measure => (simp [intOf] <;> omega)
        · have hin : i = nE := by omega
          have q2 : decide (i < nE) = false := decide_eq_false hlt2
          have EC : Hid ((cntN B E : Nat) = q) := Lib.hid (by
            have h1 := HQ2.out
            rw [List.take_of_length_le (by have := NE.out; omega)] at h1
            unfold cntN
            omega)
          go_wp2_with fail
          go_ret
          exact ⟨ret_int (by rw [EC.out]), B2.out⟩
end Go.Proofs.YtbdkkkpgjcfdgaaDoor

namespace Go.Proofs.YtbdkkkpgjcfdgaaDoor
open Go.RowKit Go.Proofs.YtbdkkkpgjcfdgaaDoor.LexM Go.Proofs.YtbdkkkpgjcfdgaaDoor.ParM Go.Proofs.YtbdkkkpgjcfdgaaDoor.GrM Go.Proofs.YtbdkkkpgjcfdgaaDoor.NmM

theorem wr_many {B : List Bool} {E : List Edg} (h0 : chkS B E = 0) (h : 4096 < cntN B E) : wrN B E = 6 := by
  unfold wrN; rw [if_neg (by simp [h0]), if_pos h]
theorem wr_two {B : List Bool} {E : List Edg} (h0 : chkS B E = 0) (h : cntN B E ≤ 4096) (h1 : TwoOn B E) : wrN B E = 8 := by
  unfold wrN; rw [if_neg (by simp [h0]), if_neg (by omega), if_pos h1]
theorem wr_self {B : List Bool} {E : List Edg} (h0 : chkS B E = 0) (h : cntN B E ≤ 4096) (h1 : ¬ TwoOn B E) (h2 : SelfT B E) : wrN B E = 10 := by
  unfold wrN; rw [if_neg (by simp [h0]), if_neg (by omega), if_neg h1, if_pos h2]
theorem wr_none {B : List Bool} {E : List Edg} (h0 : chkS B E = 0) (h : cntN B E ≤ 4096) (h1 : ¬ TwoOn B E) (h2 : ¬ SelfT B E) : wrN B E = 0 := by
  unfold wrN; rw [if_neg (by simp [h0]), if_neg (by omega), if_neg h1, if_neg h2]
/-- No two ends on a side of the first so many points. -/
def NoTwo (B : List Bool) (E : List Edg) (k : Nat) : Prop := ∀ v d : Nat, v < k → d < 4 → B.getD v false = false → (onL E v d).length ≤ 1
def NoSelf (B : List Bool) (E : List Edg) (k : Nat) : Prop := ∀ i, i < k → ¬ ((E.getD i noE).1 = (E.getD i noE).2.1 ∧ (E.getD i noE).2.2.2 = [] ∧ B.getD (E.getD i noE).1.toNat false = false)
def WrV (B : List Bool) (E : List Edg) (nB : Nat) (wb wr : World) (iv : Value) : Prop := ∃ k : Nat, iv = .int .i64 k ∧ k ≤ nB ∧ NoTwo B E k ∧ Below wb.heap.size wb wr
def WrD (E : List Edg) (k : Nat) (wb wr : World) (dv : Value) : Prop := ∃ d : Nat, dv = .int .i64 d ∧ d ≤ 4 ∧ (∀ d' : Nat, d' < d → (onL E (k : Int) d').length ≤ 1) ∧ Below wb.heap.size wb wr
def WrE (B : List Bool) (E : List Edg) (nE : Nat) (wb wr : World) (iv : Value) : Prop := ∃ k : Nat, iv = .int .i64 k ∧ k ≤ nE ∧ NoSelf B E k ∧ Below wb.heap.size wb wr
set_option maxHeartbeats 16000000 in
set_option maxRecDepth 100000 in
theorem refWrong (bv ev : Value) (B : List Bool) (E : List Edg) (w : World) (hB : BlsAt w bv B) (hE : EdsAt w ev E) (hM : May B E) (h0 : chkS B E = 0) (hok : OkEs E) :
    Calls Tryd.prog 11 #[.agg #[bv, ev]] w fun r w' => r = .returned (.int .i64 (wrN B E)) ∧ Below w.heap.size w w' := by
  have HB := Lib.hid hB
  have HE := Lib.hid hE
  have HM := Lib.hid hM
  have hbl := hM.vs
  have hl := hM.es
  obtain ⟨nB, hnB⟩ : ∃ n, B.length = n := ⟨_, rfl⟩
  obtain ⟨nE, hnE⟩ : ∃ n, E.length = n := ⟨_, rfl⟩
  obtain ⟨AB, cB, e⟩ := hB.form
  subst e
  obtain ⟨AE, cE, e⟩ := hE.form
  subst e
  have ON := Lib.hid (fun (v d : Int) w1 (b : Below w.heap.size w w1) => refOn (.slice AB B.length cB) _ E v d w1 (hE.below b (Nat.le_refl _)) hl hok)
  have CN := Lib.hid (fun w1 (b : Below w.heap.size w w1) => refCount _ _ B E w1 (hB.below b (Nat.le_refl _)) (hE.below b (Nat.le_refl _)) hbl hl hok hM.bs)
  have ck := fun w1 (b : Below w.heap.size w w1) => refCheck _ _ B E w1 (hB.below b (Nat.le_refl _)) (hE.below b (Nat.le_refl _)) (by omega) (by omega) (fun e he => (hok e he).2.2)
  rw [h0] at ck
  have CK := Lib.hid ck
  have H0 := Lib.hid h0
  rw [hnB] at HB ON CN CK ⊢
  rw [hnE] at HE ON CN CK ⊢
  rw [hnB] at hbl
  rw [hnE] at hl
  have NB := Lib.hid hnB
  have NE := Lib.hid hnE
  clear hB hE hok hnB hnE hM ck h0
  obtain ⟨cn, hcn⟩ : ∃ c, cntN B E = c := ⟨_, rfl⟩
  rw [hcn] at CN
  have HC := Lib.hid hcn
  clear hcn
  go_enter Tryd.func11, Tryd.ntmps11
  go_upto_region 1 with (fail)
  obtain ⟨wb, hwb⟩ : ∃ W, W = (w.alloc (.cells #[.slice AB nB cB, .slice AE nE cE] 36)) := ⟨_, rfl⟩
  have BB : Hid (Below w.heap.size w wb) := Lib.hid (by rw [hwb]; exact (Below.refl _ _).alloc (Nat.le_refl _) _)
  have SB : Hid (ShB wb w.heap.size (.slice AB nB cB) (.slice AE nE cE)) := Lib.hid (by rw [hwb]; exact heap_alloc_new w _)
  rw [← hwb]
  clear hwb
  obtain ⟨x0, x1⟩ := SB.out.at_
  have xl := SB.out.lt
  go_upto_region 4 with (go_at_call 26; refine (CK.out _ BB.out).mono ?_; rintro e w1 ⟨rfl, b1⟩; have B1 := Lib.hid b1; clear b1)
  have S1 := Lib.hid (SB.out.below B1.out (Nat.le_refl _))
  have BW1 := Lib.hid (BB.out.trans (B1.out.mono BB.out.size))
  clear x0 x1 xl
  obtain ⟨x0, x1⟩ := S1.out.at_
  have xl := S1.out.lt
  by_cases hbig : 4096 < cn
  · have q0 : decide (4096 < cn) = true := decide_eq_true hbig
    have q0' : decide ((4096 : Int) < (cn : Int)) = true := decide_eq_true (by omega)
    have EQ : Hid (wrN B E = 6) := Lib.hid (wr_many H0.out (by rw [HC.out]; exact hbig))
    clear hbig
    go_wp2_with (go_at_call 27; refine (CN.out _ BW1.out).mono ?_; rintro e w2 ⟨rfl, b2⟩; have B2 := Lib.hid b2; clear b2)
    go_ret
    exact ⟨ret_int EQ.out.symm, BW1.out.trans (B2.out.mono BW1.out.size)⟩
  · have q0 : decide (4096 < cn) = false := decide_eq_false hbig
    have q0' : decide ((4096 : Int) < (cn : Int)) = false := decide_eq_false (by omega)
    have HC2 : Hid (cntN B E ≤ 4096) := Lib.hid (by rw [HC.out]; omega)
    clear hbig
    go_wp2_with (go_at_call 27; refine (CN.out _ BW1.out).mono ?_; rintro e w2 ⟨rfl, b2⟩; have B2 := Lib.hid b2; clear b2)
    have BW2 := Lib.hid (BW1.out.trans (B2.out.mono BW1.out.size))
    have S2 := Lib.hid (S1.out.below B2.out (Nat.le_refl _))
    clear x0 x1 xl S1 BW1 B1 B2 SB BB
    go_loopw [5] (fun iv wr => WrV B E nB w2 wr iv) (fun iv _ => nB - (intOf iv).toNat)
    case atStart => exact ⟨0, rfl, Nat.zero_le _, fun v d hv => absurd hv (by omega), Below.refl _ _⟩
    case round =>
      obtain ⟨k, rfl, hk, hT, hD⟩ := hrel
      have D := Lib.hid hD
      have TW := Lib.hid hT
      clear hD hT
      obtain ⟨wo, hwo⟩ : ∃ W, W = wr := ⟨_, rfl⟩
      subst hwo
      have SO := Lib.hid (S2.out.below D.out (Nat.le_refl _))
      obtain ⟨x0, x1⟩ := SO.out.at_
      have xl := SO.out.lt
      have BO := Lib.hid (BW2.out.trans (D.out.mono BW2.out.size))
      by_cases hlt : k < nB
      · have q1 : decide (k < nB) = true := decide_eq_true hlt
        have hkB : k < B.length := by have := NB.out; omega
        obtain ⟨bb, ob, rfl, hbb, y0⟩ := HB.out.one hkB
        have f0 := (BO.out.cell (p := ⟨bb, ob + k, none⟩) hbb).trans y0
        have hbw := Nat.lt_of_lt_of_le hbb BO.out.size
        obtain ⟨t, ht⟩ : ∃ t, B.getD k false = t := ⟨_, rfl⟩
        have HT := Lib.hid ht
        rw [ht] at f0
        have FO := Lib.hid f0
        clear ht y0
        cases t
        · go_upto_region 10 with (fail)
          go_wp2_with fail
          go_loopw [6] (fun dv wr => WrD E k w2 wr dv) (fun dv _ => 4 - (intOf dv).toNat)
          case atStart => exact ⟨0, rfl, by omega, fun d hd => absurd hd (by omega), D.out⟩
          case round =>
            obtain ⟨d, rfl, hd, hq, hD2⟩ := hrel
            have D2 := Lib.hid hD2
            have HQ2 := Lib.hid hq
            have S3 := Lib.hid (S2.out.below hD2 (Nat.le_refl _))
            clear x0 x1 xl f0 hbw
            obtain ⟨x0, x1⟩ := S3.out.at_
            have xl := S3.out.lt
            have B3 := Lib.hid (BW2.out.trans (hD2.mono BW2.out.size))
            have f0 : wr.cell? ⟨bb, ob + k, none⟩ = some (.bool false) := by
              have h1 := (hD2.cell (p := ⟨bb, ob + k, none⟩) (Nat.lt_of_lt_of_le hbb BW2.out.size))
              have h2 := (D.out.cell (p := ⟨bb, ob + k, none⟩) (Nat.lt_of_lt_of_le hbb BW2.out.size))
              rw [h1, ← h2]
              exact FO.out
            have hbw := Nat.lt_of_lt_of_le hbb B3.out.size
            clear hq hD2
            by_cases hd4 : d < 4
            · have q2 : decide (d < 4) = true := decide_eq_true hd4
              have q2' : decide ((d : Int) < 4) = true := decide_eq_true (by omega)
              go_upto_region 14 with (go_at_call 28; refine (ON.out (k : Int) (d : Int) _ B3.out).mono ?_; rintro e w5 ⟨⟨A5, c5, n5, rfl, o5, hn5⟩, b5⟩; have O5 := Lib.hid o5.1; have B5 := Lib.hid b5; clear o5 b5)
              by_cases hbig : 1 < n5
              · have q3 : decide (1 < n5) = true := decide_eq_true hbig
                have q3' : decide ((1 : Int) < (n5 : Int)) = true := decide_eq_true (by omega)
                have EQ : Hid (wrN B E = 8) := Lib.hid (wr_two H0.out HC2.out ⟨k, d, hkB, hd4, HT.out, by rw [O5.out]; exact hbig⟩)
                clear hbig
                go_wp2_with fail
                go_ret
                exact ⟨ret_int EQ.out.symm, B3.out.trans (B5.out.mono B3.out.size)⟩
              · have q3 : decide (1 < n5) = false := decide_eq_false hbig
                have q3' : decide ((1 : Int) < (n5 : Int)) = false := decide_eq_false (by omega)
                have NX : Hid (∀ d' : Nat, d' < d + 1 → (onL E (k : Int) d').length ≤ 1) := Lib.hid (fun d' h => by
                  by_cases e : d' = d
                  · subst e; rw [O5.out]; omega
                  · exact HQ2.out d' (by omega))
                clear hbig
                go_wp2_with fail
                go_roundw
                case rel => exact ⟨d + 1, by go_num, by omega, NX.out, D2.out.trans (B5.out.mono D2.out.size)⟩
                case measure => (simp [intOf] <;> omega)
            · have hd5 : d = 4 := by omega
              subst hd5
              have q2 : decide (4 < 4) = false := by decide
              have NX : Hid (NoTwo B E (k + 1)) := Lib.hid (fun v d hv hd hb => by
                by_cases e : v = k
                · subst e; exact HQ2.out d hd
                · exact TW.out v d (by omega) hd hb)
              go_wp2_with fail
              go_roundw
              case rel => exact ⟨k + 1, by go_num, by omega, NX.out, D2.out⟩
              case measure => (simp [intOf] <;> omega)
        · have NX : Hid (NoTwo B E (k + 1)) := Lib.hid (fun v d hv hd hb => by
            by_cases e : v = k
            · subst e; rw [HT.out] at hb; cases hb
            · exact TW.out v d (by omega) hd hb)
          go_upto_region 10 with (fail)
          go_wp2_with fail
          refine wp_loop_rounds 1 ?_
          rw [rounds_succ]
          go_wp2_with fail
          go_roundw
          case rel => exact ⟨k + 1, by go_num, by omega, NX.out, D.out⟩
          case measure => (simp [intOf] <;> omega)
      · have hkn : k = nB := by omega
        have q1 : decide (k < nB) = false := decide_eq_false hlt
        have T2 : Hid (¬ TwoOn B E) := Lib.hid (by
          rintro ⟨v, d, hv, hd, hb, h1⟩
          have := TW.out v d (by have := NB.out; omega) hd hb
          omega)
        go_wp2_with fail
        go_loopw [8] (fun iv wr => WrE B E nE w2 wr iv) (fun iv _ => nE - (intOf iv).toNat)
        case atStart => exact ⟨0, rfl, Nat.zero_le _, fun i hi => absurd hi (by omega), D.out⟩
        case round =>
          obtain ⟨i, rfl, hi, hS, hD2⟩ := hrel
          have D2 := Lib.hid hD2
          have NS := Lib.hid hS
          have S3 := Lib.hid (S2.out.below hD2 (Nat.le_refl _))
          clear x0 x1 xl
          obtain ⟨x0, x1⟩ := S3.out.at_
          have xl := S3.out.lt
          have B3 := Lib.hid (BW2.out.trans (hD2.mono BW2.out.size))
          clear hD2 hS
          by_cases hlt2 : i < nE
          · have q2 : decide (i < nE) = true := decide_eq_true hlt2
            have hiE : i < E.length := by have := NE.out; omega
            obtain ⟨be, oe, rfl, hbe2, y0, y1, y2, y3⟩ := HE.out.one hiE
            have f0 := (B3.out.cell (p := ⟨be, oe + i * 4, none⟩) hbe2).trans y0
            have f1 := (B3.out.cell (p := ⟨be, oe + i * 4 + 1, none⟩) hbe2).trans y1
            have f2 := (B3.out.cell (p := ⟨be, oe + i * 4 + 2, none⟩) hbe2).trans y2
            have f3 := (B3.out.cell (p := ⟨be, oe + i * 4 + 3, none⟩) hbe2).trans y3
            have hbw := Nat.lt_of_lt_of_le hbe2 B3.out.size
            have GE : Hid (E.getD i noE = E[i]) := Lib.hid (by rw [List.getD_eq_getElem?_getD, List.getElem?_eq_getElem hiE]; rfl)
            have hk1 := HM.out.ok E[i] (List.getElem_mem hiE)
            obtain ⟨a, ha⟩ : ∃ a : Nat, E[i].1 = (a : Int) := ⟨E[i].1.toNat, by have := hk1.1; omega⟩
            have haB : a < B.length := by have := hk1.2.1; omega
            have haN : a < nB := by have := NB.out; omega
            obtain ⟨bb, ob, rfl, hbb, z0⟩ := HB.out.one haB
            have g0 := (B3.out.cell (p := ⟨bb, ob + a, none⟩) hbb).trans z0
            have hbb2 := Nat.lt_of_lt_of_le hbb B3.out.size
            clear y0 y1 y2 y3 z0 hk1 hbb hbe2
            have HA := Lib.hid ha
            rw [ha] at f0
            obtain ⟨tk, htk⟩ : ∃ x, E[i].2.1 = x := ⟨_, rfl⟩
            rw [htk] at f1
            by_cases c1 : (a : Int) = tk
            · have p1 : ((a : Int) == tk) = true := by rw [beq_iff_eq]; exact c1
              by_cases c2 : E[i].2.2.2 = []
              · have hs0 : bs E[i].2.2.2 = ⟨#[]⟩ := by rw [c2]; rfl
                rw [hs0] at f3
                obtain ⟨t, ht⟩ : ∃ t, B.getD a false = t := ⟨_, rfl⟩
                have HT := Lib.hid ht
                rw [ht] at g0
                have C1 := Lib.hid c1
                have C2 := Lib.hid c2
                have HTK := Lib.hid htk
                clear ht c1 c2 hs0 ha htk
                cases t
                · have EQ : Hid (wrN B E = 10) := Lib.hid (wr_self H0.out HC2.out T2.out ⟨i, hiE, by rw [GE.out, HA.out, HTK.out]; exact C1.out, by rw [GE.out]; exact C2.out, by rw [GE.out, HA.out, Int.toNat_natCast]; exact HT.out⟩)
                  go_wp2_with fail
                  go_ret
                  exact ⟨ret_int EQ.out.symm, B3.out.alloc B3.out.size _⟩
                · have NX : Hid (NoSelf B E (i + 1)) := Lib.hid (fun q hq => by
                    by_cases e : q = i
                    · subst e; rw [GE.out]; rintro ⟨_, _, h⟩; rw [HA.out, Int.toNat_natCast, HT.out] at h; cases h
                    · exact NS.out q (by omega))
                  go_wp2_with fail
                  go_roundw
                  case rel => exact ⟨i + 1, by go_num, by omega, NX.out, D2.out.alloc D2.out.size _⟩
                  case measure => (simp [intOf] <;> omega)
              · have hs0 : ¬ (bs E[i].2.2.2).toList = [] := fun h => c2 (by
                  rw [Lib.toList_data, bs_data] at h
                  exact h)
                have NX : Hid (NoSelf B E (i + 1)) := Lib.hid (fun q hq => by
                  by_cases e : q = i
                  · subst e; rw [GE.out]; rintro ⟨_, h, _⟩; exact c2 h
                  · exact NS.out q (by omega))
                have hs1 : ((bs E[i].2.2.2).toList == []) = false := by rw [beq_eq_false_iff_ne]; exact hs0
                have hs2 : (bs E[i].2.2.2).toList.isEmpty = false := by
                  cases h : (bs E[i].2.2.2).toList with
                  | nil => exact absurd h hs0
                  | cons _ _ => rfl
                clear c1 c2 ha htk
                generalize bs E[i].2.2.2 = sk at *
                go_wp2_with fail
                go_roundw
                case rel => exact ⟨i + 1, by go_num, by omega, NX.out, D2.out.alloc D2.out.size _⟩
                case measure => (simp [intOf] <;> omega)
            · have p1 : ((a : Int) == tk) = false := by rw [beq_eq_false_iff_ne]; exact c1
              have NX : Hid (NoSelf B E (i + 1)) := Lib.hid (fun q hq => by
                by_cases e : q = i
                · subst e; rw [GE.out]; rintro ⟨h, _, _⟩; rw [HA.out, htk] at h; exact c1 h
                · exact NS.out q (by omega))
              clear c1 ha htk
              generalize bs E[i].2.2.2 = sk at *
              go_wp2_with fail
              go_roundw
              case rel => exact ⟨i + 1, by go_num, by omega, NX.out, D2.out.alloc D2.out.size _⟩
              case measure => (simp [intOf] <;> omega)
          · have hin : i = nE := by omega
            have q2 : decide (i < nE) = false := decide_eq_false hlt2
            have EQ : Hid (wrN B E = 0) := Lib.hid (wr_none H0.out HC2.out T2.out (by
              rintro ⟨q, hq, h1, h2, h3⟩
              exact NS.out q (by have := NE.out; omega) ⟨h1, h2, h3⟩))
            go_wp2_with fail
            go_ret
            exact ⟨ret_int EQ.out.symm, B3.out⟩
end Go.Proofs.YtbdkkkpgjcfdgaaDoor
