/-
  Shapes as cells, step by step as the document makes them: mathematics; no program stands here. Conditions: none.
-/
import Derived.Test.YtecifgaekefkpaaDoorNmM
import Derived.Test.YtecifgaekefkpaaDoorNzRb
namespace Go.Proofs.YtecifgaekefkpaaDoor.NmM
open Go.Proofs.YtecifgaekefkpaaDoor.LexM Go.Proofs.YtecifgaekefkpaaDoor.ParM Go.Proofs.YtecifgaekefkpaaDoor.GrM

/-- The cells made so far, and where each end stands (two a edge). -/
structure NSt where
  L : List Int
  n : Nat
  en : List Int
noncomputable def joiN (s : NSt) (a d b o : Int) : NSt := { s with L := (joiO s.L s.n a d b o).2 }
def moN (s : NSt) : NSt := { s with L := s.L ++ freeC, n := s.n + 1 }
def putE (s : NSt) (t c : Int) : NSt := { s with en := s.en.set t.toNat c }
/-- The first so many ends of a side of a box, from a corner on: the cells then, the last cell. -/
noncomputable def chK (way : Int) (l : List Int) (s : NSt) (c : Int) : Nat → NSt × Int
  | 0 => (s, c)
  | i + 1 => (joiN (putE (moN (chK way l s c i).1) (l.getD i 0) (chK way l s c i).1.n) (chK way l s c i).2 way (chK way l s c i).1.n (-1), (chK way l s c i).1.n)
/-- A side's corners, and its way: by the side, from a box's first corner on. -/
def frC (c : Nat) (d : Nat) : Int := if d = 0 then c + 1 else if d = 1 then c + 3 else c
def toC (c : Nat) (d : Nat) : Int := if d = 0 then c + 2 else if d = 1 then c + 2 else if d = 2 then c + 3 else c + 1
def wyC (d : Nat) : Int := if d = 0 then 1 else if d = 1 then 0 else if d = 2 then 1 else 0
noncomputable def sdN (E : List Edg) (v : Int) (c : Nat) (s : NSt) (d : Nat) : NSt :=
  joiN (chK (wyC d) (onL E v d) s (frC c d) (onL E v d).length).1 (chK (wyC d) (onL E v d) s (frC c d) (onL E v d).length).2 (wyC d) (toC c d) (-1)
noncomputable def bxK (E : List Edg) (v : Int) (c : Nat) (s : NSt) : Nat → NSt
  | 0 => s
  | d + 1 => sdN E v c (bxK E v c s d) d
/-- A box's cells. -/
noncomputable def bxN (E : List Edg) (v : Int) (s : NSt) : NSt := bxK E v s.n { s with L := s.L ++ newG 4, n := s.n + 4 } 4
/-- A point's ends. -/
def ptE (l : List Int) (c : Int) (s : NSt) : Nat → NSt
  | 0 => s
  | i + 1 => putE (ptE l c s i) (l.getD i 0) c
def ptK (E : List Edg) (v : Int) (c : Int) (s : NSt) : Nat → NSt
  | 0 => s
  | d + 1 => ptE (onL E v d) c (ptK E v c s d) (onL E v d).length
def ptN (E : List Edg) (v : Int) (s : NSt) : NSt := ptK E v s.n (moN s) 4
/-- The first so many vertices: the cells then, their first ones. -/
noncomputable def vxK (B : List Bool) (E : List Edg) : Nat → NSt × List Int
  | 0 => (⟨[], 0, List.replicate (2 * E.length) 0⟩, [])
  | k + 1 => (if B.getD k false = true then bxN E k (vxK B E k).1 else ptN E k (vxK B E k).1, (vxK B E k).2 ++ [((vxK B E k).1.n : Int)])
/-- The first so many bends of an edge: the cells then, the last cell, the direction, the way. -/
noncomputable def bdK (i : Int) (bl : List UInt8) (s : NSt) (a d : Int) : Nat → NSt × Int × Int × List Int
  | 0 => (s, a, d, [a])
  | k + 1 => (joiN (moN (bdK i bl s a d k).1) (bdK i bl s a d k).2.1 (bdK i bl s a d k).2.2.1 (bdK i bl s a d k).1.n i, (bdK i bl s a d k).1.n,
      ((bdK i bl s a d k).2.2.1 + addT (bl.getD k 0)) % 4, (bdK i bl s a d k).2.2.2 ++ [((bdK i bl s a d k).1.n : Int)])
/-- The first so many edges: the cells then, their ways. -/
noncomputable def egK (E : List Edg) (s : NSt) : Nat → NSt × List (List Int)
  | 0 => (s, [])
  | i + 1 =>
    (joiN (bdK i (E.getD i noE).2.2.2 (egK E s i).1 (s.en.getD (2 * i) 0) (E.getD i noE).2.2.1 (E.getD i noE).2.2.2.length).1
        (bdK i (E.getD i noE).2.2.2 (egK E s i).1 (s.en.getD (2 * i) 0) (E.getD i noE).2.2.1 (E.getD i noE).2.2.2.length).2.1
        (bdK i (E.getD i noE).2.2.2 (egK E s i).1 (s.en.getD (2 * i) 0) (E.getD i noE).2.2.1 (E.getD i noE).2.2.2.length).2.2.1 (s.en.getD (2 * i + 1) 0) i,
     (egK E s i).2 ++ [(bdK i (E.getD i noE).2.2.2 (egK E s i).1 (s.en.getD (2 * i) 0) (E.getD i noE).2.2.1 (E.getD i noE).2.2.2.length).2.2.2 ++ [s.en.getD (2 * i + 1) 0]])
/-! What stays: a list's length, how many ends there are, how many cells. -/
def RightN (s : NSt) (m : Nat) : Prop := s.L.length = s.n * 8 ∧ s.en.length = m
theorem joiO_len {L : List Int} {n : Nat} {x d y o : Int} : (joiO L n x d y o).2.length = L.length := by
  unfold joiO
  split
  · rfl
  · split
    · rfl
    · exact join_len _ _ _ _ _
theorem RightN.joi {s : NSt} {m : Nat} (h : RightN s m) (a d b o : Int) : RightN (joiN s a d b o) m := ⟨joiO_len.trans h.1, h.2⟩
theorem RightN.add {s : NSt} {m : Nat} (h : RightN s m) : RightN (moN s) m := ⟨more_len h.1, h.2⟩
theorem RightN.put {s : NSt} {m : Nat} (h : RightN s m) (t c : Int) : RightN (putE s t c) m := ⟨h.1, by unfold putE; rw [List.length_set]; exact h.2⟩
theorem chK_right {way : Int} {l : List Int} {s : NSt} {c : Int} {m : Nat} (h : RightN s m) : ∀ i, RightN (chK way l s c i).1 m ∧ (chK way l s c i).1.n = s.n + i
  | 0 => ⟨h, rfl⟩
  | i + 1 => by
    obtain ⟨h1, h2⟩ := chK_right (way := way) (l := l) (c := c) h i
    refine ⟨((h1.add.put _ _).joi _ _ _ _), ?_⟩
    show (chK way l s c i).1.n + 1 = _
    omega
theorem sdN_right {E : List Edg} {v : Int} {c : Nat} {s : NSt} {m d : Nat} (h : RightN s m) : RightN (sdN E v c s d) m ∧ (sdN E v c s d).n = s.n + (onL E v d).length := by
  obtain ⟨h1, h2⟩ := chK_right (way := wyC d) (l := onL E v d) (c := frC c d) h (onL E v d).length
  exact ⟨h1.joi _ _ _ _, h2⟩
theorem bxK_right {E : List Edg} {v : Int} {c : Nat} {s : NSt} {m : Nat} (h : RightN s m) : ∀ d, RightN (bxK E v c s d) m ∧ (bxK E v c s d).n = s.n + sidesK E v d
  | 0 => ⟨h, rfl⟩
  | d + 1 => by
    obtain ⟨h1, h2⟩ := bxK_right (v := v) (c := c) (E := E) h d
    obtain ⟨h3, h4⟩ := sdN_right (E := E) (v := v) (c := c) (d := d) h1
    refine ⟨h3, ?_⟩
    show (sdN E v c (bxK E v c s d) d).n = _
    rw [h4, h2, sidesK]
    omega
theorem bxN_right {E : List Edg} {v : Int} {s : NSt} {m : Nat} (h : RightN s m) : RightN (bxN E v s) m ∧ (bxN E v s).n = s.n + 4 + sidesK E v 4 :=
  bxK_right (s := { s with L := s.L ++ newG 4, n := s.n + 4 }) ⟨by show (s.L ++ newG 4).length = _; rw [List.length_append, h.1, new_len]; show _ = (s.n + 4) * 8; omega, h.2⟩ 4
end Go.Proofs.YtecifgaekefkpaaDoor.NmM
