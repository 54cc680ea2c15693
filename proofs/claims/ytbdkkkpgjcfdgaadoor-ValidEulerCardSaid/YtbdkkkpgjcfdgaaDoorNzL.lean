/-
  What the library's tables give; rows of words that are read; the library's calls on texts, in these words. Conditions: texts of less than 2^31 bytes.
  What the program's Lines, Words, Number and Digits answer. Conditions: texts of less than 2^31 bytes where they are split.
  The reference's Lines, Words and Number answer what the program's do. Conditions: none.
  The reference's Words, Number and Digits answer what the program's do. Conditions: none.
  The reference's Number and Digits answer what the program's do. Conditions: none.
  The reference's Digits are those of the library's Itoa. Conditions: none.
-/
import Derived.Test.YtbdkkkpgjcfdgaaDoorBase
import Derived.Test.YtbdkkkpgjcfdgaaDoorShelf
import Derived.Test.YtbdkkkpgjcfdgaaDoorNzPm
import Derived.WalkSmall
import Derived.Laws.RangeAny
import Derived.Shelf.GgClosure.StringsIndexFunc
import Derived.Lib.LaidTab
import Derived.Lib.SmallJoins
import Derived.Test.YtbdkkkpgjcfdgaaDoorNzH
import Derived.Test.YtbdkkkpgjcfdgaaDoorAppend
import Derived.IntWalk
import Derived.Laws.IdiomStrings
import Derived.Lib.ItoaMem
namespace Go.Proofs.YtbdkkkpgjcfdgaaDoor
open Go.RowKit Go.Proofs.YtbdkkkpgjcfdgaaDoor.LexM

/-- A text of these bytes. -/
def bs (l : List UInt8) : ByteArray := ⟨l.toArray⟩
theorem bs_list (s : ByteArray) : bs s.data.toList = s := by cases s; simp [bs]
theorem bs_data (l : List UInt8) : (bs l).data.toList = l := rfl
theorem bs_size (l : List UInt8) : (bs l).size = l.length := by show l.toArray.size = _; simp
theorem size_list (s : ByteArray) : s.size = s.data.toList.length := by show s.data.size = _; simp




theorem below_drewN {B : Nat} {a w : World} (h : Below B a w) (n : Nat) : Below B a (w.drewN n) := h.trans ⟨rfl, rfl, rfl, Nat.le_refl _, fun _ _ => rfl⟩

/-- The words L in memory. -/
def StrsAt (w : World) (v : Value) (L : List (List UInt8)) : Prop :=
  ∃ A cap, v = .slice A L.length cap ∧ L.length ≤ cap ∧ (0 < L.length → ∃ b o, A = some ⟨b, o, none⟩ ∧ b < w.heap.size ∧ ∀ k (h : k < L.length), w.cell? ⟨b, o + k, none⟩ = some (.string (bs L[k])))
theorem StrsAt.below {B : Nat} {w w' : World} {v : Value} {L : List (List UInt8)} (h : StrsAt w v L) (hb : Below B w w') (hB : w.heap.size ≤ B) : StrsAt w' v L := by
  obtain ⟨A, cap, rfl, hc, hA⟩ := h
  refine ⟨A, cap, rfl, hc, fun h0 => ?_⟩
  obtain ⟨b, o, e, hlt, h⟩ := hA h0
  refine ⟨b, o, e, Nat.lt_of_lt_of_le hlt hb.size, fun k hk => ?_⟩
  rw [hb.cell (p := ⟨b, o + k, none⟩) (Nat.lt_of_lt_of_le hlt hB)]
  exact h k hk
theorem StrsAt.nil (w : World) : StrsAt w (.slice none 0 0) [] := ⟨none, 0, rfl, Nat.le_refl _, fun h => absurd h (by simp)⟩
theorem getD_bs (L : List (List UInt8)) (j : Nat) (h : j < L.length) : (L.map bs).getD j ByteArray.empty = bs L[j] := by simp [List.getD_eq_getElem?_getD, h]

/-- The pieces of a text. -/
def cut (c : UInt8) (s : ByteArray) : List (List UInt8) := pieces c s.data.toList
theorem splitB_cut (c : UInt8) (s : ByteArray) : Lib.splitB ⟨#[c]⟩ 0 (Lib.countB s ⟨#[c]⟩) s = (cut c s).map bs := by
  have h := Lib.splitB_data ⟨#[c]⟩ 0 (Lib.countB s ⟨#[c]⟩) s
  have hk : Lib.countB s ⟨#[c]⟩ = s.data.toList.count c := Lib.count_one c s.data.toList
  have e : (⟨#[c]⟩ : ByteArray).data.toList = [c] := rfl
  rw [hk] at h ⊢
  rw [e, split_pieces] at h
  unfold cut
  rw [← h, List.map_map]
  conv => lhs; rw [← List.map_id (Lib.splitB _ _ _ _)]
  exact List.map_congr_left fun x _ => (bs_list x).symm

theorem hi9 : (Tryd.prog.info? 9).map (fun i => (i.zero, i.size, i.bytes)) = some (some (.string ByteArray.empty), 1, 16) := by kernel_rfl

/-- strings.ContainsFunc with a look at a byte that is no digit. -/
def offDigit (r : Nat) : Bool := decide (r < 48) || decide (57 < r)
theorem idx_from (s : ByteArray) : ∀ (f pos : Nat), s.size ≤ pos + f → decide (0 ≤ Lib.idxFuncFrom offDigit true s f pos) = !((s.data.toList.drop pos).all isDigit)
  | 0, pos, h => by
    have e : s.data.toList.drop pos = [] := List.drop_eq_nil_of_le (by rw [← size_list]; omega)
    rw [e]; rfl
  | f + 1, pos, h => by
    by_cases hp : pos < s.size
    · have hp2 : pos < s.data.toList.length := by rw [← size_list]; exact hp
      have hd : s.data.toList.drop pos = s[pos] :: s.data.toList.drop (pos + 1) := by
        rw [List.drop_eq_getElem_cons hp2]; rfl
      rw [hd, List.all_cons, Lib.idxFuncFrom, if_pos hp]
      by_cases ha : (s[pos]'hp).toNat < 128
      · rw [decode_ascii s pos hp ha]
        by_cases hg : isDigit s[pos] = true
        · have ho : ¬ offDigit (s[pos]'hp).toNat = true := by
            simp only [isDigit, Bool.and_eq_true, decide_eq_true_eq] at hg
            simp [offDigit]; omega
          rw [if_neg ho, hg, Bool.true_and]
          exact idx_from s f (pos + 1) (by omega)
        · have ho : offDigit (s[pos]'hp).toNat = true := by
            simp only [isDigit, Bool.and_eq_true, decide_eq_true_eq] at hg
            simp [offDigit]; omega
          rw [if_pos ho, Bool.eq_false_iff.2 hg]
          simp
      · have hh := (decode_high s pos hp (by omega)).1
        have ho : offDigit (Utf8.decode s pos).1 = true := by simp [offDigit]; omega
        have hg : isDigit s[pos] = false := by simp [isDigit]; omega
        rw [if_pos ho, hg]
        simp
    · rw [Lib.idxFuncFrom_end _ _ _ _ _ hp]
      have e : s.data.toList.drop pos = [] := List.drop_eq_nil_of_le (by rw [← size_list]; omega)
      rw [e]; rfl
theorem idx_digits (s : ByteArray) : decide (0 ≤ Lib.idxFunc offDigit true s) = !(s.data.toList.all isDigit) := by
  have := idx_from s s.size 0 (by omega)
  rw [List.drop_zero] at this
  exact this


end Go.Proofs.YtbdkkkpgjcfdgaaDoor

namespace Go.Proofs.YtbdkkkpgjcfdgaaDoor
open Go.RowKit Go.Proofs.YtbdkkkpgjcfdgaaDoor.LexM

theorem toList_data (s : ByteArray) : s.toList = s.data.toList := Lib.toList_data s
theorem suffix_iff (l : List UInt8) (c : UInt8) : Lib.hasSuffix l [c] = true ↔ ∃ t, l = t ++ [c] := by
  unfold Lib.hasSuffix
  rw [List.isSuffixOf_iff_suffix]
  exact ⟨fun ⟨t, h⟩ => ⟨t, h.symm⟩, fun ⟨t, h⟩ => ⟨t, h.symm⟩⟩
theorem trim_hit (t : List UInt8) (c : UInt8) : Lib.trimSuffix (t ++ [c]) [c] = t := by
  unfold Lib.trimSuffix
  rw [if_pos ((suffix_iff _ _).2 ⟨t, rfl⟩)]
  simp



/-- What Lines leaves. -/
def LinesP (l : List UInt8) (w : World) (e : Ending) (w' : World) : Prop := ∃ v, e = .returned (.tuple #[v, .int .i64 (lnE l)]) ∧ StrsAt w' v (lnL l) ∧ Below w.heap.size w w'

theorem bs_inj {a b : List UInt8} (h : bs a = bs b) : a = b := by
  have := congrArg (fun s : ByteArray => s.data.toList) h
  exact this

/-- What Words leaves. -/
def WordsP (l : List UInt8) (w : World) (e : Ending) (w' : World) : Prop := ∃ v, e = .returned (.tuple #[v, .bool (wdOk l)]) ∧ StrsAt w' v (wdL l) ∧ Below w.heap.size w w'







end Go.Proofs.YtbdkkkpgjcfdgaaDoor

namespace Go.Proofs.YtbdkkkpgjcfdgaaDoor
open Go.RowKit Go.Proofs.YtbdkkkpgjcfdgaaDoor.LexM

def encT7 (p : List UInt8) : Value := .string (bs p)
/-- Words in a row of the call's own. -/
def OwnS (w : World) (B : Nat) (v : Value) (L : List (List UInt8)) : Prop := w.ownsRow B 9 1 v L.length (L.map encT7)
theorem infoT7 : (Tryd.prog.info? 9).map (fun i => (i.zero, i.size, i.bytes)) = some (some (.string ByteArray.empty), 1, 16) := by kernel_rfl
theorem info_partsS : ∃ i, Tryd.prog.info? 9 = some i ∧ i.zero = some (.string ByteArray.empty) ∧ i.size = 1 ∧ i.bytes = 16 := by
  have h := infoT7
  cases e : Tryd.prog.info? 9 with
  | none => rw [e] at h; cases h
  | some i =>
    rw [e] at h
    simp only [Option.map_some, Option.some.injEq, Prod.mk.injEq] at h
    exact ⟨i, rfl, h.1, h.2.1, h.2.2⟩
theorem OwnS.form {w : World} {B : Nat} {v : Value} {l : List (List UInt8)} (h : OwnS w B v l) : ∃ ao cap, v = .slice ao l.length cap := by
  rcases h.2 with ⟨h1, h2⟩ | ⟨_, _, _, h, _⟩
  · exact ⟨none, 0, by rw [h2]; exact h1⟩
  · exact ⟨_, _, h⟩
theorem OwnS.below {w w' : World} {B C : Nat} {v : Value} {l : List (List UInt8)} (h : OwnS w B v l) (o : Below C w w') (hC : w.heap.size ≤ C) : OwnS w' B v l :=
  ownsRow_out (S := fun _ => False) h (Out.ofBelow (o.mono hC)) (fun _ _ e => e)
theorem OwnS.strs {w : World} {B : Nat} {v : Value} {l : List (List UInt8)} (h : OwnS w B v l) : StrsAt w v l := by
  have h' := h
  rcases h.2 with ⟨rfl, h2⟩ | ⟨g, cap, cur, rfl, _, hg, hn, hr⟩
  · exact ⟨none, 0, by rw [h2], by omega, fun h => absurd h (by omega)⟩
  · refine ⟨_, cap, rfl, hn, fun _ => ⟨g, 0, rfl, (Array.getElem?_eq_some_iff.1 hg).1, fun k hk => ?_⟩⟩
    rw [Nat.zero_add, h'.cellAt k (by simpa using hk)]
    simp [hk, encT7]
theorem newsT7 (w : World) (t : TypeId) (x : ByteArray) (b : Nat) (hb : w.heap.size = b) : ∀ j z, [Value.string x][j]? = some z → (w.alloc (.cells #[.string x] t)).cell? ((⟨b, 0, none⟩ : Addr).add j) = some z := by
  intro j z hz
  have hj : j = 0 := by have := List.getElem?_eq_some_iff.1 hz; simp at this; omega
  subst hj hb
  simp at hz
  subst hz
  go_simp
theorem oneT7 (x : ByteArray) : ∀ z ∈ [Value.string x], z.oneCell' = true := by
  intro z hz
  simp at hz
  subst hz
  rfl
theorem str_app {w0 w w' : World} {B : Nat} {v v' : Value} {K : List (List UInt8)} {a : List UInt8} {x : ByteArray} (hx : x = bs a) (hB : Below B w0 w) (hB0 : B ≤ w0.heap.size) (hO : OwnS w B v K) (hown : w'.ownsRow B 9 1 v' (K.length + 1) (K.map encT7 ++ [.string x])) (hgrow : w.grownBy w' v.ownBlock) :
    OwnS w' B v' (K ++ [a]) ∧ Below B w0 w' := by
  subst hx
  refine ⟨?_, hB.grown hgrow (Nat.le_trans hB0 hB.size) (fun k hk => (World.ownsRow.lt hO k hk).1)⟩
  unfold OwnS
  rw [List.length_append, List.map_append]
  exact hown

theorem extract_bs (s : ByteArray) (f k : Nat) : s.extract f k = bs ((s.data.toList.take k).drop f) := by
  rw [← bs_list (s.extract f k), Lib.extract_data, List.drop_take]
theorem byte_at (s : ByteArray) (k : Nat) (h : k < s.size) : s.data.toList[k]? = some (s[k]'h) := by
  have h2 : k < s.data.toList.length := by rw [← size_list]; exact h
  rw [List.getElem?_eq_getElem h2]; rfl
theorem byte_test (b c : UInt8) (n : Int) (hn : (c.toNat : Int) = n) : ((b.toNat : Int) == n) = decide (b = c) := by
  subst hn
  rw [Bool.eq_iff_iff, beq_iff_eq, decide_eq_true_eq]
  exact ⟨fun h => UInt8.toNat_inj.1 (by omega), fun h => by rw [h]⟩

/-- Where a search for pieces stands: before byte k, the piece under way begins at f. -/
structure PcAt (c : UInt8) (l : List UInt8) (k f : Nat) (L : List (List UInt8)) : Prop where
  le : f ≤ k
  le2 : k ≤ l.length
  done : (ps c (l.take k)).1 = L
  last : (ps c (l.take k)).2 = (l.take k).drop f
theorem PcAt.start (c : UInt8) (l : List UInt8) : PcAt c l 0 0 [] := ⟨Nat.le_refl _, Nat.zero_le _, by simp [ps_nil], by simp [ps_nil]⟩
theorem PcAt.sep {c : UInt8} {l : List UInt8} {k f : Nat} {L : List (List UInt8)} (h : PcAt c l k f L) (hk : l[k]? = some c) : PcAt c l (k + 1) (k + 1) (L ++ [(l.take k).drop f]) := by
  have hl := (List.getElem?_eq_some_iff.1 hk).1
  have e := take_snoc l k c hk
  refine ⟨Nat.le_refl _, hl, ?_, ?_⟩
  · rw [e, ps_snoc, if_pos rfl, h.done, h.last]
  · rw [e, ps_snoc, if_pos rfl, ← e]
    rw [List.drop_eq_nil_of_le (by rw [List.length_take]; omega)]
theorem PcAt.other {c b : UInt8} {l : List UInt8} {k f : Nat} {L : List (List UInt8)} (h : PcAt c l k f L) (hk : l[k]? = some b) (hb : b ≠ c) : PcAt c l (k + 1) f L := by
  have hl := (List.getElem?_eq_some_iff.1 hk).1
  have e := take_snoc l k b hk
  refine ⟨by have := h.le; omega, hl, ?_, ?_⟩
  · rw [e, ps_other c _ b hb, h.done]
  · rw [e, ps_other c _ b hb, h.last, List.drop_append_of_le_length (by rw [List.length_take]; have := h.le; omega)]
theorem PcAt.end_ {c : UInt8} {l : List UInt8} {f : Nat} {L : List (List UInt8)} (h : PcAt c l l.length f L) : ps c l = (L, l.drop f) := by
  have h1 := h.done
  have h2 := h.last
  rw [List.take_length] at h1 h2
  exact Prod.ext h1 h2
theorem ps_count (c : UInt8) (l : List UInt8) : (ps c l).1.length ≤ l.length := by
  have h := congrArg List.length (pieces_ps c l)
  rw [pieces_length, List.length_append] at h
  have := List.count_le_length (a := c) (l := l)
  simp at h
  omega

def RlRel (l : List UInt8) (w wr : World) (lv fv iv : Value) : Prop := ∃ (k f : Nat) (L : List (List UInt8)), iv = .int .i64 k ∧ fv = .int .i64 f ∧ PcAt 10 l k f L ∧ OwnS wr w.heap.size lv L ∧ Below w.heap.size w wr

end Go.Proofs.YtbdkkkpgjcfdgaaDoor

namespace Go.Proofs.YtbdkkkpgjcfdgaaDoor
open Go.RowKit Go.Proofs.YtbdkkkpgjcfdgaaDoor.LexM

theorem ps_grows (c : UInt8) (t : List UInt8) : ∀ u : List UInt8, ∃ r, (ps c (t ++ u)).1 = (ps c t).1 ++ r := by
  intro u
  induction u using snoc_ind with
  | h0 => exact ⟨[], by simp⟩
  | h1 u b ih =>
    obtain ⟨r, hr⟩ := ih
    rw [← List.append_assoc, ps_snoc]
    by_cases h : b = c
    · rw [if_pos h, hr]; exact ⟨r ++ [(ps c (t ++ u)).2], by simp⟩
    · rw [if_neg h, hr]; exact ⟨r, rfl⟩
theorem bad_sep {c : UInt8} {l : List UInt8} {k : Nat} {L : List (List UInt8)} (h : PcAt c l k k L) (hk : l[k]? = some c) : [] ∈ pieces c l := by
  have h2 := (h.sep hk).done
  obtain ⟨r, hr⟩ := ps_grows c (l.take (k + 1)) (l.drop (k + 1))
  rw [List.take_append_drop, h2] at hr
  rw [pieces_ps, hr]
  have e : (l.take k).drop k = [] := List.drop_eq_nil_of_le (by rw [List.length_take]; omega)
  rw [e]
  simp
theorem bad_end {c : UInt8} {l : List UInt8} {L : List (List UInt8)} (h : PcAt c l l.length l.length L) : [] ∈ pieces c l := by
  rw [pieces_ps, h.end_]
  simp
theorem good_end {c : UInt8} {l : List UInt8} {f : Nat} {L : List (List UInt8)} (h : PcAt c l l.length f L) : pieces c l = L ++ [l.drop f] := by
  rw [pieces_ps, h.end_]
theorem wdOk_no {l : List UInt8} (h : [] ∈ pieces 32 l) : wdOk l = false ∧ wdL l = [] := by
  have e : wdOk l = false := by rw [wdOk_mem, decide_eq_true h]; rfl
  exact ⟨e, by unfold wdL; rw [e]; rfl⟩
theorem wdOk_yes {l : List UInt8} {L : List (List UInt8)} (h : pieces 32 l = L) (hn : [] ∉ L) : wdOk l = true ∧ wdL l = L := by
  have e : wdOk l = true := by rw [wdOk_mem, h, decide_eq_false hn]; rfl
  exact ⟨e, by unfold wdL; rw [e, h]; rfl⟩
/-- Where the reference's search for words stands. -/
def WdAt (l : List UInt8) (k f : Nat) (L : List (List UInt8)) : Prop := [] ∉ L ∧ ((PcAt 32 l k f L) ∨ (k = l.length + 1 ∧ pieces 32 l = L))
def RwRel (l : List UInt8) (w wr : World) (lv fv iv : Value) : Prop := ∃ (k f : Nat) (L : List (List UInt8)), iv = .int .i64 k ∧ fv = .int .i64 f ∧ k ≤ l.length + 1 ∧ f ≤ k ∧ L.length ≤ l.length + 1 ∧ WdAt l k f L ∧ OwnS wr w.heap.size lv L ∧ Below w.heap.size w wr

end Go.Proofs.YtbdkkkpgjcfdgaaDoor

namespace Go.Proofs.YtbdkkkpgjcfdgaaDoor
open Go.RowKit Go.Proofs.YtbdkkkpgjcfdgaaDoor.LexM

theorem isNum_of {l : List UInt8} (h0 : 1 ≤ l.length) (h7 : l.length ≤ 7) (hb : l.length = 1 ∨ l.head? ≠ some 48) : isNum l = l.all isDigit := by
  have hne : l.isEmpty = false := by cases l with | nil => simp at h0 | cons _ _ => rfl
  unfold isNum canon
  rw [hne, decide_eq_true h7]
  rcases hb with hb | hb
  · have : decide (1 < l.length) = false := by rw [hb]; rfl
    rw [this]; simp
  · have : (l.head? == some 48) = false := by simpa using hb
    rw [this]; simp
theorem isNum_not {l : List UInt8} (h : l = [] ∨ 7 < l.length ∨ (1 < l.length ∧ l.head? = some 48)) : isNum l = false := by
  unfold isNum canon
  rcases h with rfl | h | ⟨h1, h2⟩
  · rfl
  · rw [decide_eq_false (p := l.length ≤ 7) (by omega), Bool.and_false]
  · rw [decide_eq_true h1, h2]; simp
theorem head_at (s : ByteArray) (h : 0 < s.size) : s.data.toList.head? = some (s[0]'h) := by
  rw [List.head?_eq_getElem?]; exact byte_at s 0 h
theorem num_no {l : List UInt8} (most : Int) (h : isNum l = false) : numOk l most = false ∧ numVal l most = 0 := by
  have e : numOk l most = false := by unfold numOk; rw [h]; rfl
  exact ⟨e, by unfold numVal; rw [e]; rfl⟩
theorem num_yes {l : List UInt8} {most : Int} (h : isNum l = true) (hm : (val l : Int) ≤ most) : numOk l most = true ∧ numVal l most = val l := by
  have e : numOk l most = true := by unfold numOk; rw [h, decide_eq_true hm]; rfl
  exact ⟨e, by unfold numVal; rw [e]; rfl⟩
theorem num_more {l : List UInt8} {most : Int} (hm : ¬ (val l : Int) ≤ most) : numOk l most = false ∧ numVal l most = 0 := by
  have e : numOk l most = false := by unfold numOk; rw [decide_eq_false hm, Bool.and_false]
  exact ⟨e, by unfold numVal; rw [e]; rfl⟩

def RnRel (l : List UInt8) (w wr : World) (nv iv : Value) : Prop := ∃ (k v : Nat), iv = .int .i64 k ∧ nv = .int .i64 v ∧ k ≤ l.length ∧ (l.take k).all isDigit = true ∧ v = val (l.take k) ∧ Below w.heap.size w wr


end Go.Proofs.YtbdkkkpgjcfdgaaDoor

namespace Go.Proofs.YtbdkkkpgjcfdgaaDoor
open Go.RowKit Go.Proofs.YtbdkkkpgjcfdgaaDoor.LexM

/-- A text of one byte that was made of a row of one. -/
theorem oneByte (w : World) (b : UInt8) (n : Int) (hn : n = b.toNat) :
    (convert 22 9 (.slice (some ⟨w.heap.size, 0, none⟩) 1 1)).run Tryd.prog (w.alloc (.cells #[.int .u8 n] 5)) = .ok (.string ⟨#[b]⟩) (w.alloc (.cells #[.int .u8 n] 5)) := by
  subst hn
  have h := run_convert_bytes_back (P := Tryd.prog) (w.alloc (.cells #[.int .u8 (b.toNat : Int)] 5)) 22 9 5 ⟨w.heap.size, 0, none⟩ 1 [b] Tryd.underlying22 Tryd.underlying5 Tryd.underlying9 (fun j hj => by
    obtain rfl : j = 0 := by simp at hj; omega
    go_simp)
  exact h
theorem cat_one (b : UInt8) (t : List UInt8) : (⟨#[b]⟩ : ByteArray) ++ bs t = bs (b :: t) := by
  have : bs ((⟨#[b]⟩ : ByteArray) ++ bs t).data.toList = _ := bs_list _
  rw [← this]
  congr 1

/-- Where the reference's digits stand: v is still to be told. -/
def DgAt (u v : Nat) (t : List UInt8) : Prop := (if v = 0 then t else Lib.decDigits v ++ t) = Lib.decDigits u
theorem DgAt.step {u v : Nat} {t : List UInt8} (h : DgAt u v t) (hv : 0 < v) : DgAt u (v / 10) (UInt8.ofNat (48 + v % 10) :: t) := by
  unfold DgAt at h ⊢
  rw [if_neg (by omega)] at h
  by_cases h10 : v < 10
  · rw [if_pos (by omega), ← h, Lib.decDigits, dif_pos h10, Nat.mod_eq_of_lt h10]; rfl
  · rw [if_neg (by omega), ← h, Lib.decDigits.eq_1 v, dif_neg h10]; simp
theorem DgAt.start (u : Nat) : DgAt u (u / 10) [UInt8.ofNat (48 + u % 10)] := by
  unfold DgAt
  by_cases h10 : u < 10
  · rw [if_pos (by omega), Lib.decDigits, dif_pos h10, Nat.mod_eq_of_lt h10]
  · rw [if_neg (by omega), Lib.decDigits.eq_1 u, dif_neg h10]
theorem DgAt.len {u v : Nat} {t : List UInt8} (h : DgAt u v t) (hu : u < 18446744073709551616) : (bs t).size ≤ 20 := by
  have hl : (Lib.decDigits u).length ≤ 20 := by
    rw [Lib.decDigits_length]
    exact nDigits_le 19 u (by omega)
  unfold DgAt at h
  have := congrArg List.length h
  rw [bs_size]
  split at this
  · omega
  · rw [List.length_append] at this; omega
def RdRel (u : Nat) (w wr : World) (nv sv : Value) : Prop := ∃ (a : Int) (v : Nat) (t : List UInt8), nv = .int .i64 a ∧ a = v ∧ a ≤ 9223372036854775807 ∧ sv = .string (bs t) ∧ DgAt u v t ∧ Below w.heap.size w wr
theorem dig_byte (v : Nat) (n : Int) (h : n = v) : 48 + n % 10 = ((UInt8.ofNat (48 + v % 10)).toNat : Int) := by rw [dig_nat _ (by omega)]; omega

theorem quo_ten (n : Int) (h0 : 0 ≤ n) (h1 : n ≤ 9223372036854775807) : wrap64 (n.tdiv 10) = n / 10 := by
  rw [Int.tdiv_eq_ediv_of_nonneg h0]; unfold wrap64; omega

theorem itoa_nat (u : Nat) : Lib.itoa (u : Int) = Lib.decDigits u := Lib.itoa_nonneg u

end Go.Proofs.YtbdkkkpgjcfdgaaDoor
