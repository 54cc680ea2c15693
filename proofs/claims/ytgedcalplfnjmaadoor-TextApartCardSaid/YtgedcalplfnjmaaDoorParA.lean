/-
  Rows of bools and of edges in memory; the small calls of package parse: is it a vertex, are these bends, which direction, which vertex. Conditions: texts of at most 2000000 bytes where they are split.
-/
import Derived.Test.YtgedcalplfnjmaaDoorLexU
import Derived.Test.YtgedcalplfnjmaaDoorCompassB
import Derived.Test.YtgedcalplfnjmaaDoorParM
import Derived.Shelf.Strings.SlTrimAscii
namespace Go.Proofs.YtgedcalplfnjmaaDoor
open Go.RowKit Go.Proofs.YtgedcalplfnjmaaDoor.LexM Go.Proofs.YtgedcalplfnjmaaDoor.ParM

/-- The bools B in memory. -/
def BlsAt (w : World) (v : Value) (B : List Bool) : Prop :=
  ∃ A cap, v = .slice A B.length cap ∧ B.length ≤ cap ∧ (0 < B.length → ∃ b o, A = some ⟨b, o, none⟩ ∧ b < w.heap.size ∧ ∀ k (h : k < B.length), w.cell? ⟨b, o + k, none⟩ = some (.bool B[k]))
theorem BlsAt.below {C : Nat} {w w' : World} {v : Value} {B : List Bool} (h : BlsAt w v B) (hb : Below C w w') (hC : w.heap.size ≤ C) : BlsAt w' v B := by
  obtain ⟨A, cap, rfl, hc, hA⟩ := h
  refine ⟨A, cap, rfl, hc, fun h0 => ?_⟩
  obtain ⟨b, o, e, hlt, h⟩ := hA h0
  refine ⟨b, o, e, Nat.lt_of_lt_of_le hlt hb.size, fun k hk => ?_⟩
  rw [hb.cell (p := ⟨b, o + k, none⟩) (Nat.lt_of_lt_of_le hlt hC)]
  exact h k hk
theorem BlsAt.nil (w : World) : BlsAt w (.slice none 0 0) [] := ⟨none, 0, rfl, Nat.le_refl _, fun h => absurd h (by simp)⟩
theorem BlsAt.form {w : World} {v : Value} {B : List Bool} (h : BlsAt w v B) : ∃ A cap, v = .slice A B.length cap := by
  obtain ⟨A, cap, rfl, _⟩ := h; exact ⟨A, cap, rfl⟩
/-- The edges E in memory: four cells each. -/
def EdsAt (w : World) (v : Value) (E : List Edg) : Prop :=
  ∃ A cap, v = .slice A E.length cap ∧ E.length ≤ cap ∧ (0 < E.length → ∃ b o, A = some ⟨b, o, none⟩ ∧ b < w.heap.size ∧ ∀ k (h : k < E.length),
    w.cell? ⟨b, o + k * 4, none⟩ = some (.int .i64 E[k].1) ∧ w.cell? ⟨b, o + k * 4 + 1, none⟩ = some (.int .i64 E[k].2.1) ∧ w.cell? ⟨b, o + k * 4 + 2, none⟩ = some (.int .i64 E[k].2.2.1) ∧ w.cell? ⟨b, o + k * 4 + 3, none⟩ = some (.string (bs E[k].2.2.2)))
theorem EdsAt.below {C : Nat} {w w' : World} {v : Value} {E : List Edg} (h : EdsAt w v E) (hb : Below C w w') (hC : w.heap.size ≤ C) : EdsAt w' v E := by
  obtain ⟨A, cap, rfl, hc, hA⟩ := h
  refine ⟨A, cap, rfl, hc, fun h0 => ?_⟩
  obtain ⟨b, o, e, hlt, h⟩ := hA h0
  refine ⟨b, o, e, Nat.lt_of_lt_of_le hlt hb.size, fun k hk => ?_⟩
  have hl : ∀ j, w'.cell? ⟨b, j, none⟩ = w.cell? ⟨b, j, none⟩ := fun j => hb.cell (p := ⟨b, j, none⟩) (Nat.lt_of_lt_of_le hlt hC)
  rw [hl, hl, hl, hl]
  exact h k hk
theorem EdsAt.nil (w : World) : EdsAt w (.slice none 0 0) [] := ⟨none, 0, rfl, Nat.le_refl _, fun h => absurd h (by simp)⟩
theorem EdsAt.form {w : World} {v : Value} {E : List Edg} (h : EdsAt w v E) : ∃ A cap, v = .slice A E.length cap := by
  obtain ⟨A, cap, rfl, _⟩ := h; exact ⟨A, cap, rfl⟩
def encE (e : Edg) : List Value := [.int .i64 e.1, .int .i64 e.2.1, .int .i64 e.2.2.1, .string (bs e.2.2.2)]
def valE (e : Edg) : Value := .agg #[.int .i64 e.1, .int .i64 e.2.1, .int .i64 e.2.2.1, .string (bs e.2.2.2)]
theorem encE_len (e : Edg) : (encE e).length = 4 := rfl
theorem encE_one (e : Edg) : ∀ u ∈ encE e, u.oneCell' = true := by
  intro u hu
  simp [encE] at hu
  rcases hu with rfl | rfl | rfl | rfl <;> rfl
/-- In rows of the call's own. -/
def OwnE (w : World) (B : Nat) (v : Value) (E : List Edg) : Prop := w.ownsRow B 23 4 v E.length (E.flatMap encE)
def OwnB (w : World) (B : Nat) (v : Value) (L : List Bool) : Prop := w.ownsRow B 4 1 v L.length (L.map Value.bool)
theorem edg_at (L : List Edg) (k : Nat) (h : k < L.length) (r : Nat) (hr : r < 4) : (L.flatMap encE)[k * 4 + r]? = (encE L[k])[r]? := by
  have hlen := flat_len encE encE_len L
  have hI : Inhabited Edg := ⟨noE⟩
  have h1 := flat_get encE encE_len L k r h hr
  have h2 : k * 4 + r < (L.flatMap encE).length := by rw [hlen]; omega
  rw [List.getD_eq_getElem?_getD, List.getD_eq_getElem?_getD, List.getD_eq_getElem?_getD, List.getElem?_eq_getElem h2, List.getElem?_eq_getElem h] at h1
  simp only [Option.getD_some] at h1
  rw [List.getElem?_eq_getElem h2, h1, List.getElem?_eq_getElem (by rw [encE_len]; exact hr)]
  rfl
theorem OwnE.form {w : World} {B : Nat} {v : Value} {l : List Edg} (h : OwnE w B v l) : ∃ ao cap, v = .slice ao l.length cap := by
  rcases h.2 with ⟨h1, h2⟩ | ⟨_, _, _, h, _⟩
  · exact ⟨none, 0, by rw [h2]; exact h1⟩
  · exact ⟨_, _, h⟩
theorem OwnE.eds {w : World} {B : Nat} {v : Value} {L : List Edg} (h : OwnE w B v L) : EdsAt w v L := by
  have h' := h
  rcases h.2 with ⟨rfl, h2⟩ | ⟨g, cap, cur, rfl, _, hg, hn, hr⟩
  · exact ⟨none, 0, by rw [h2], by omega, fun h => absurd h (by omega)⟩
  · refine ⟨_, cap, rfl, hn, fun _ => ⟨g, 0, rfl, (Array.getElem?_eq_some_iff.1 hg).1, fun k hk => ?_⟩⟩
    have e : ∀ r, r < 4 → w.cell? ⟨g, k * 4 + r, none⟩ = (encE L[k])[r]? := fun r hr => by
      rw [h'.cellAt (k * 4 + r) (by omega), edg_at L k hk r hr]
    have e0 := e 0 (by omega)
    have e1 := e 1 (by omega)
    have e2 := e 2 (by omega)
    have e3 := e 3 (by omega)
    simp only [Nat.zero_add, Nat.add_zero] at e0 e1 e2 e3 ⊢
    exact ⟨e0, e1, e2, e3⟩
theorem OwnE.below {w w' : World} {B C : Nat} {v : Value} {l : List Edg} (h : OwnE w B v l) (o : Below C w w') (hC : w.heap.size ≤ C) : OwnE w' B v l := ownsRow_out (S := fun _ => False) h (Out.ofBelow (o.mono hC)) (fun _ _ e => e)
theorem OwnE.snoc {w : World} {B : Nat} {v : Value} {l : List Edg} {a : Edg} (h : w.ownsRow B 23 4 v (l.length + 1) (l.flatMap encE ++ encE a)) : OwnE w B v (l ++ [a]) := by
  unfold OwnE
  have e : (l ++ [a]).flatMap encE = l.flatMap encE ++ encE a := by simp
  rw [List.length_append, e]
  exact h
theorem OwnB.form {w : World} {B : Nat} {v : Value} {l : List Bool} (h : OwnB w B v l) : ∃ ao cap, v = .slice ao l.length cap := by
  rcases h.2 with ⟨h1, h2⟩ | ⟨_, _, _, h, _⟩
  · exact ⟨none, 0, by rw [h2]; exact h1⟩
  · exact ⟨_, _, h⟩
theorem OwnB.bls {w : World} {B : Nat} {v : Value} {l : List Bool} (h : OwnB w B v l) : BlsAt w v l := by
  have h' := h
  rcases h.2 with ⟨rfl, h2⟩ | ⟨g, cap, cur, rfl, _, hg, hn, hr⟩
  · exact ⟨none, 0, by rw [h2], by omega, fun h => absurd h (by omega)⟩
  · refine ⟨_, cap, rfl, hn, fun _ => ⟨g, 0, rfl, (Array.getElem?_eq_some_iff.1 hg).1, fun k hk => ?_⟩⟩
    rw [Nat.zero_add, h'.cellAt k (by simpa using hk)]
    simp [hk]
theorem OwnB.below {w w' : World} {B C : Nat} {v : Value} {l : List Bool} (h : OwnB w B v l) (o : Below C w w') (hC : w.heap.size ≤ C) : OwnB w' B v l := ownsRow_out (S := fun _ => False) h (Out.ofBelow (o.mono hC)) (fun _ _ e => e)
theorem OwnB.snoc {w : World} {B : Nat} {v : Value} {l : List Bool} {a : Bool} (h : w.ownsRow B 4 1 v (l.length + 1) (l.map Value.bool ++ [.bool a])) : OwnB w B v (l ++ [a]) := by
  unfold OwnB
  rw [List.length_append, List.map_append]
  exact h
theorem infoE4 : (Tryd.prog.info? 23).map (fun i => (i.zero, i.size, i.bytes)) = some (some (.agg #[.int .i64 0, .int .i64 0, .int .i64 0, .string ByteArray.empty]), 4, 40) := by kernel_rfl
theorem infoBl : (Tryd.prog.info? 4).map (fun i => (i.zero, i.size, i.bytes)) = some (some (.bool false), 1, 1) := by kernel_rfl
theorem info_of {P : Program} {t : TypeId} {z : Value} {n b : Nat} (h : (P.info? t).map (fun i => (i.zero, i.size, i.bytes)) = some (some z, n, b)) : ∃ i, P.info? t = some i ∧ i.zero = some z ∧ i.size = n ∧ i.bytes = b := by
  cases e : P.info? t with
  | none => rw [e] at h; cases h
  | some i =>
    rw [e] at h
    simp only [Option.map_some, Option.some.injEq, Prod.mk.injEq] at h
    exact ⟨i, rfl, h.1, h.2.1, h.2.2⟩

/-! The small calls. -/
theorem trim_turns (l : List UInt8) : Lib.trimS l [76, 82] = [] ↔ isTurns l = true := by
  have all : ∀ l : List UInt8, l.dropWhile (([76, 82] : List UInt8).contains ·) = [] ↔ isTurns l = true := by
    intro l
    induction l with
    | nil => simp [isTurns]
    | cons b t ih =>
      rw [List.dropWhile_cons]
      have hb : ([76, 82] : List UInt8).contains b = (decide (b = 76) || decide (b = 82)) := by
        rw [Bool.eq_iff_iff]; simp
      rw [hb]
      cases h : (decide (b = 76) || decide (b = 82)) with
      | true => rw [if_pos rfl, ih]; simp only [isTurns, List.all_cons, h, Bool.true_and]
      | false => simp [isTurns, h]
  have rev : isTurns l.reverse = isTurns l := by unfold isTurns; rw [List.all_reverse]
  unfold Lib.trimS Lib.trimLeftS Lib.trimRightS
  constructor
  · intro h
    have h1 := (all _).1 h
    -- what is left of the right trimming ends with no such letter, or is nothing
    cases hr : l.reverse.dropWhile (([76, 82] : List UInt8).contains ·) with
    | nil => rw [← rev]; exact (all _).1 hr
    | cons b t =>
      exfalso
      rw [hr] at h1
      have hb := List.head_dropWhile_not (p := (([76, 82] : List UInt8).contains ·)) (l := l.reverse) (by rw [hr]; simp)
      simp only [hr, List.head_cons] at hb
      have h2 := List.all_eq_true.1 h1 b (by simp)
      have hb2 : ([76, 82] : List UInt8).contains b = (decide (b = 76) || decide (b = 82)) := by
        rw [Bool.eq_iff_iff]; simp
      rw [hb2, h2] at hb
      cases hb
  · intro h
    have h1 : l.reverse.dropWhile (([76, 82] : List UInt8).contains ·) = [] := (all _).2 (by rw [rev]; exact h)
    rw [h1]; rfl
theorem trimW (s : ByteArray) (w : World) (hs : s.size ≤ 9223372036854775807) :
    Calls Tryd.prog 36 #[.string s, .string ⟨#[76, 82]⟩] w fun e w' => e = .returned (.string (bs (Lib.trimS s.data.toList [76, 82]))) ∧ Below w.heap.size w w' :=
  Any.strings_Trim_laid Go.Proofs.Tryd.lays160 (by kernel_rfl) s ⟨#[76, 82]⟩ w hs (by decide) (ascii_of_all (by decide))
theorem areBends (s : ByteArray) (w : World) (hs : s.size ≤ 9223372036854775807) :
    Calls Tryd.prog 32 #[.string s] w fun e w' => e = .returned (.bool (isTurns s.data.toList)) ∧ Below w.heap.size w w' := by
  have T := trimW s w hs
  have hq : (bs (Lib.trimS s.data.toList [76, 82])).toList = Lib.trimS s.data.toList [76, 82] := by rw [toList_data, bs_data]
  have e : isTurns s.data.toList = ((bs (Lib.trimS s.data.toList [76, 82])).toList == []) := by
    rw [hq, Bool.eq_iff_iff, ← trim_turns, beq_iff_eq]
  obtain ⟨d, hd⟩ : ∃ d, bs (Lib.trimS s.data.toList [76, 82]) = d := ⟨_, rfl⟩
  rw [hd] at e T
  have E := Lib.hid e
  clear e hq hd
  go_enter Tryd.func32, Tryd.ntmps32
  go_wp2_with (go_at_call 36; refine T.mono ?_; rintro e w1 ⟨rfl, b1⟩; have B1 := Lib.hid b1; clear b1)
  go_ret
  exact ⟨ret_bool (by rw [E.out]; generalize d.toList = l; cases l <;> rfl), B1.out⟩
theorem isVertex (v n : Int) (w : World) : Calls Tryd.prog 31 #[.int .i64 v, .int .i64 n] w fun e w' => e = .returned (.bool (decide (0 ≤ v) && decide (v < n))) ∧ w = w' := by
  by_cases h0 : 0 ≤ v
  · go_enter Tryd.func31, Tryd.ntmps31
    go_wp2
    go_ret
    exact ⟨ret_bool (by simp [h0]), rfl⟩
  · have hn : decide (0 ≤ v) = false := by simpa using h0
    have E := Lib.hid hn
    clear hn
    go_enter Tryd.func31, Tryd.ntmps31
    go_wp2
    go_ret
    exact ⟨ret_bool (by rw [E.out]; rfl), rfl⟩
def dirV (l : List UInt8) : Int := if dirOf l = -1 then 0 else dirOf l
def dirK (l : List UInt8) : Bool := !decide (dirOf l = -1)
theorem dir_one (c : UInt8) : dirOf [c] = ofC c := by
  unfold dirOf ofC
  simp

def vtxV (n : Nat) (p : List UInt8) : Int := if vtxE n p = 0 then numVal p 9999999 else 0

end Go.Proofs.YtgedcalplfnjmaaDoor
