/-
  Texts of shapes taken apart by the library's calls and put together again: the last line feed cut off, the lines, the lines without the last one, two lines turned into one; edges in another order. Conditions: shapes that may be written.
-/
import Derived.Test.YtgchmoabhblmcaaGreatDoorParI
import Derived.Test.YtgchmoabhblmcaaGreatDoorParE
import Derived.Lib.Join
import Derived.Lib.Replace
namespace Go.Proofs.YtgchmoabhblmcaaGreatDoor
open Go.RowKit Go.Proofs.YtgchmoabhblmcaaGreatDoor.LexM Go.Proofs.YtgchmoabhblmcaaGreatDoor.ParM

/-! Lists. -/
theorem index_at (c : UInt8) : ∀ p t : List UInt8, c ∉ p → Lib.index (p ++ c :: t) [c] = (p.length : Int)
  | [], t, _ => index_eq c t
  | b :: p, t, h => by
    have hb : b ≠ c := fun e => h (by simp [e])
    have ih := index_at c p t (fun e => h (by simp [e]))
    rw [List.cons_append, index_ne b c _ hb, ih]
    have : (((p.length : Int)) == -1) = false := by rw [beq_eq_false_iff_ne]; omega
    rw [this]
    simp
theorem split_glue (c : UInt8) : ∀ (L : List (List UInt8)) (q : List UInt8), (∀ p ∈ L, c ∉ p) → Lib.splitK [c] 1 L.length (glue c L ++ q) = L.map (· ++ [c]) ++ [q]
  | [], q, _ => by simp [Lib.splitK, glue]
  | p :: L, q, h => by
    have hi := index_at c p (glue c L ++ q) (h p (by simp))
    have ih := split_glue c L q (fun x hx => h x (by simp [hx]))
    have e : glue c (p :: L) ++ q = p ++ c :: (glue c L ++ q) := by simp [glue]
    rw [e, List.length_cons, Lib.splitK, hi, if_neg (by rw [beq_iff_eq]; omega)]
    have e1 : (p ++ c :: (glue c L ++ q)).take ((p.length : Int).toNat + 1) = p ++ [c] := by
      rw [Int.toNat_natCast, List.take_append, List.take_of_length_le (by omega), show p.length + 1 - p.length = 1 by omega]; rfl
    have e2 : (p ++ c :: (glue c L ++ q)).drop ((p.length : Int).toNat + [c].length) = glue c L ++ q := by
      rw [Int.toNat_natCast, List.drop_append, List.drop_eq_nil_of_le (by simp), List.length_singleton, show p.length + 1 - p.length = 1 by omega]; rfl
    rw [e1, e2, ih]; rfl
theorem count_glue (c : UInt8) : ∀ (L : List (List UInt8)) (q : List UInt8), (∀ p ∈ L, c ∉ p) → c ∉ q → (glue c L ++ q).count c = L.length
  | [], q, _, hq => by simpa [glue] using List.count_eq_zero.2 hq
  | p :: L, q, h, hq => by
    have ih := count_glue c L q (fun x hx => h x (by simp [hx])) hq
    have e : glue c (p :: L) ++ q = p ++ c :: (glue c L ++ q) := by simp [glue]
    rw [e, List.count_append, List.count_cons_self, ih, List.count_eq_zero.2 (h p (by simp)), List.length_cons]; omega
theorem trim_last (s : List UInt8) (c : UInt8) : Lib.trimSuffix (s ++ [c]) [c] = s := by
  have h : Lib.hasSuffix (s ++ [c]) [c] = true := by
    unfold Lib.hasSuffix
    rw [List.isSuffixOf_iff_suffix]
    exact List.suffix_append s [c]
  unfold Lib.trimSuffix
  rw [if_pos h]
  simp
theorem join_none : ∀ L : List (List UInt8), Lib.join L [] = L.flatten
  | [] => rfl
  | [p] => by simp [Lib.join, List.intercalate]
  | p :: q :: r => by
    have ih := join_none (q :: r)
    have e : Lib.join (p :: q :: r) [] = p ++ Lib.join (q :: r) [] := by simp [Lib.join, List.intercalate]
    rw [e, ih]; rfl
theorem flat_glue (c : UInt8) : ∀ L : List (List UInt8), (L.map (· ++ [c])).flatten = glue c L
  | [] => rfl
  | p :: L => by rw [List.map_cons, List.flatten_cons, flat_glue c L, glue]; simp
theorem replace_first (c d : UInt8) (hcd : c ≠ d) (p t : List UInt8) (h : c ∉ p) : Lib.replace (p ++ c :: t) [c] [d] 1 = p ++ d :: t := by
  have hc : ([c] == [d]) = false := by simp [hcd]
  have hn : Lib.replaceNum (p ++ c :: t) [c] 1 = 1 := by
    unfold Lib.replaceNum
    rw [Lib.count_one]
    have : 1 ≤ (p ++ c :: t).count c := by rw [List.count_append, List.count_cons_self]; omega
    rw [if_neg (by omega)]; rfl
  unfold Lib.replace
  rw [hc, hn]
  simp only [Bool.false_eq_true, if_false]
  rw [Lib.replaceK_hit [c] [d] 0 _ p.length (index_at c p t h), Lib.replaceK]
  have e2 : (p ++ c :: t).drop (p.length + [c].length) = t := by
    rw [List.drop_append, List.drop_eq_nil_of_le (by simp), List.length_singleton, show p.length + 1 - p.length = 1 by omega]; rfl
  rw [e2, List.take_append, List.take_of_length_le (by omega), Nat.sub_self]
  simp

/-! Edges in another order. -/
def rotE (E : List Edg) (k : Nat) : List Edg := (List.range E.length).map fun i => E.getD ((i + k) % E.length) noE
theorem rot_len (E : List Edg) (k : Nat) : (rotE E k).length = E.length := by simp [rotE]
theorem rot_get {E : List Edg} {k i : Nat} (h : i < E.length) : (rotE E k)[i]'(by rw [rot_len]; exact h) = E[(i + k) % E.length]'(Nat.mod_lt _ (by omega)) := by
  have : (i + k) % E.length < E.length := Nat.mod_lt _ (by omega)
  simp [rotE, List.getD_eq_getElem?_getD, this]
theorem rot_mem {E : List Edg} {k : Nat} : ∀ x ∈ rotE E k, x ∈ E := by
  intro x hx
  obtain ⟨i, hi, rfl⟩ := List.mem_iff_getElem.1 hx
  have h := hi
  rw [rot_len] at h
  rw [rot_get h]
  exact List.getElem_mem _
theorem rot_smal {B : List Bool} {E : List Edg} (h : Smal B E) (k : Nat) : Smal B (rotE E k) := ⟨h.vs, by rw [rot_len]; exact h.es, fun e he => h.ok e (rot_mem e he)⟩
/-- The lines of a shape's text, each with its line feed but for the last one. -/
def linS (B : List Bool) (E : List Edg) : List (List UInt8) := (fstL B :: E.map edgL).map (· ++ [10]) ++ [endW]
theorem linS_len (B : List Bool) (E : List Edg) : (linS B E).length = E.length + 2 := by simp [linS]
theorem linS_first (B : List Bool) (E : List Edg) (h : 0 < (linS B E).length) : (linS B E)[0] = prT B E 0 := by rw [prT_zero]; rfl
theorem linS_edge {B : List Bool} {E : List Edg} {j : Nat} (h : j < E.length) : (linS B E)[1 + j]'(by rw [linS_len]; omega) = edgL E[j] ++ [10] := by
  have e : (linS B E)[1 + j]? = some (edgL E[j] ++ [10]) := by
    unfold linS
    rw [List.getElem?_append_left (by simp; omega), List.getElem?_map, show 1 + j = j + 1 by omega, List.getElem?_cons_succ, List.getElem?_map, List.getElem?_eq_getElem h]; rfl
  exact (List.getElem?_eq_some_iff.1 e).2
/-- The text without its last line feed. -/
def txt0 (B : List Bool) (E : List Edg) : List UInt8 := glue 10 (fstL B :: E.map edgL) ++ endW
theorem print_txt0 (B : List Bool) (E : List Edg) : printS B E = txt0 B E ++ [10] := by
  unfold printS linL txt0
  rw [glue_append, List.append_assoc]; rfl
theorem split_txt0 {B : List Bool} {E : List Edg} (hM : May B E) : Lib.splitK [10] 1 (E.length + 1) (txt0 B E) = linS B E := by
  have h := split_glue 10 (fstL B :: E.map edgL) endW (lin_free hM)
  rw [List.length_cons, List.length_map] at h
  exact h
theorem count_txt0 {B : List Bool} {E : List Edg} (hM : May B E) : (txt0 B E).count 10 = E.length + 1 := by
  have h := count_glue 10 (fstL B :: E.map edgL) endW (lin_free hM) (by decide)
  rw [List.length_cons, List.length_map] at h
  exact h
theorem join_short (B : List Bool) (E : List Edg) : Lib.join ((linS B E).take (E.length + 1)) [] = glue 10 (fstL B :: E.map edgL) := by
  rw [join_none]
  unfold linS
  rw [List.take_left' (by simp), flat_glue]
theorem short_len {B : List Bool} {E : List Edg} (hM : May B E) : (glue 10 (fstL B :: E.map edgL)).length ≤ 90000 := by
  have h := print_len hM
  rw [print_txt0] at h
  unfold txt0 at h
  simp only [List.length_append] at h
  omega
theorem replace_print (B : List Bool) (E : List Edg) : Lib.replace (printS B E) [10] [32] 1 = fstL B ++ 32 :: glue 10 (E.map edgL ++ [endW]) := by
  unfold printS linL
  rw [List.cons_append, glue]
  exact replace_first 10 32 (by decide) _ _ (fstL_free B)
theorem print_twice (B : List Bool) (E : List Edg) : printS B E ++ [101, 110, 100, 10] = printS B E ++ glue 10 [endW] := rfl

/-! The library's calls. -/
theorem trimLast (B : List Bool) (E : List Edg) (hM : May B E) (w : World) : Calls Tryz.prog 13 #[.string (bs (printS B E)), .string ⟨#[10]⟩] w fun e w' => e = .returned (.string (bs (txt0 B E))) ∧ w' = w := by
  have h1 := print_len hM
  have h := Go.Proofs.Tryz.strings_TrimSuffix (bs (printS B E)) ⟨#[10]⟩ w (by rw [bs_size]; omega)
  have e : Lib.trimSuffix (bs (printS B E)).data.toList (⟨#[10]⟩ : ByteArray).data.toList = txt0 B E := by
    rw [bs_data, print_txt0]; exact trim_last _ 10
  rw [e] at h
  exact h
theorem split_full (l : List ByteArray) (N : Nat) (h : l.length = N) : Lib.cellsOf l N = (l.map Value.string).toArray := by subst h; simp [Lib.cellsOf]
theorem splitAfter (B : List Bool) (E : List Edg) (hM : May B E) (w : World) (hT : TabL w) :
    Calls Tryz.prog 12 #[.string (bs (txt0 B E)), .string ⟨#[10]⟩] w fun e w' => e = .returned (.slice (some ⟨w.heap.size, 0, none⟩) (E.length + 2) (E.length + 2)) ∧ w' = w.alloc (.cells (((linS B E).map bs).map Value.string).toArray 9) := by
  obtain ⟨m, hm⟩ := hT.len
  have h1 := print_len hM
  have hl : (txt0 B E).length ≤ 90000 := by rw [print_txt0, List.length_append] at h1; omega
  have hc : Lib.countB (bs (txt0 B E)) ⟨#[10]⟩ = E.length + 1 := (Lib.count_one 10 (txt0 B E)).trans (count_txt0 hM)
  have hcl : E.length + 1 ≤ (txt0 B E).length := by rw [← count_txt0 hM]; exact List.count_le_length
  have hs : Lib.splitB ⟨#[10]⟩ 1 (E.length + 1) (bs (txt0 B E)) = (linS B E).map bs := by
    have h := Lib.splitB_data ⟨#[10]⟩ 1 (E.length + 1) (bs (txt0 B E))
    have e : (⟨#[10]⟩ : ByteArray).data.toList = [10] := rfl
    rw [e, bs_data, split_txt0 hM] at h
    rw [← h, List.map_map]
    conv => lhs; rw [← List.map_id (Lib.splitB _ _ _ _)]
    exact List.map_congr_left fun x _ => (bs_list x).symm
  have c := Go.Proofs.Tryz.strings_genSplit (bs (txt0 B E)) ⟨#[10]⟩ 1 (-1) (E.length + 2) m w (by rw [bs_size]; omega) hm (Nat.le_refl 1) (Nat.le_refl 1) (by decide) (by decide) (by rw [if_pos (by decide), hc, bs_size]; omega)
  rw [show E.length + 2 - 1 = E.length + 1 by omega, hs, List.length_map, linS_len, split_full _ _ (by rw [List.length_map, linS_len])] at c
  have C := Lib.hid c
  clear c hs hc hcl hm
  generalize hN : E.length + 2 = N at *
  go_enter Tryz.func12, Tryz.ntmps12
  go_wp2_with (go_at_call 30; refine C.out.mono ?_; rintro e w' ⟨rfl, hw⟩; have HW := Lib.hid hw; clear hw)
  go_ret
  exact ⟨rfl, HW.out⟩
theorem joinShort (B : List Bool) (E : List Edg) (hM : May B E) (bk c : Nat) (w : World) (hcells : ∀ (j : Nat) x, (linS B E)[j]? = some x → w.cell? ⟨bk, j, none⟩ = some (.string (bs x))) (hbk : bk < w.heap.size) (hc : E.length + 1 ≤ c) :
    Calls Tryz.prog 14 #[.slice (some ⟨bk, 0, none⟩) (E.length + 1) c, .string ⟨#[]⟩] w fun e w' => e = .returned (.string (bs (glue 10 (fstL B :: E.map edgL)))) ∧ Below w.heap.size w w' := by
  have hes := hM.es
  have hj : Lib.join ((((linS B E).take (E.length + 1)).map bs).map (·.data.toList)) (⟨#[]⟩ : ByteArray).data.toList = glue 10 (fstL B :: E.map edgL) := by
    have e : (((linS B E).take (E.length + 1)).map bs).map (·.data.toList) = (linS B E).take (E.length + 1) := by
      rw [List.map_map]
      conv => rhs; rw [← List.map_id ((linS B E).take (E.length + 1))]
      exact List.map_congr_left fun x _ => rfl
    rw [e]
    exact join_short B E
  have hl : (((linS B E).take (E.length + 1)).map bs).length = E.length + 1 := by rw [List.length_map, List.length_take, linS_len]; omega
  have C := Go.Proofs.Tryz.strings_Join bk 0 c (((linS B E).take (E.length + 1)).map bs) ⟨#[]⟩ w (fun j x hx => by
    rw [List.getElem?_map] at hx
    obtain ⟨p, hp, rfl⟩ := Option.map_eq_some_iff.1 hx
    rw [Nat.zero_add]
    rw [List.getElem?_take] at hp
    split at hp
    · exact hcells j p hp
    · cases hp) hbk (by rw [hl]; omega) (by rw [hl]; exact hc) (by rw [hj]; have := short_len hM; omega)
  rw [hj, hl] at C
  exact C
theorem replaceOne (B : List Bool) (E : List Edg) (hM : May B E) (w : World) (hT : TabL w) :
    Calls Tryz.prog 15 #[.string (bs (printS B E)), .string ⟨#[10]⟩, .string ⟨#[32]⟩, .int .i64 1] w fun e w' => e = .returned (.string (bs (fstL B ++ 32 :: glue 10 (E.map edgL ++ [endW])))) ∧ Below w.heap.size w w' := by
  obtain ⟨m, hm⟩ := hT.len
  have h1 := print_len hM
  have hc : Lib.countB (bs (printS B E)) ⟨#[10]⟩ = (printS B E).count 10 := Lib.count_one 10 (printS B E)
  have hcl := List.count_le_length (a := (10 : UInt8)) (l := printS B E)
  have c := Go.Proofs.Tryz.strings_Replace (bs (printS B E)) ⟨#[10]⟩ ⟨#[32]⟩ 1 m w (by rw [bs_size]; omega) hm (Nat.le_refl 1) (by rw [hc, bs_size, show (⟨#[32]⟩ : ByteArray).size = 1 from rfl]; omega)
  have e : Lib.replace (bs (printS B E)).data.toList (⟨#[10]⟩ : ByteArray).data.toList (⟨#[32]⟩ : ByteArray).data.toList 1 = fstL B ++ 32 :: glue 10 (E.map edgL ++ [endW]) := by
    rw [bs_data]; exact replace_print B E
  rw [e] at c
  exact c
end Go.Proofs.YtgchmoabhblmcaaGreatDoor
