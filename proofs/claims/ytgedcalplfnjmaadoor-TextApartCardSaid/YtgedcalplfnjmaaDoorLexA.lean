/-
  What the library's tables give; rows of words that are read; the library's calls on texts, in these words. Conditions: texts of less than 2^31 bytes.
-/
import Derived.Test.YtgedcalplfnjmaaDoorBase
import Derived.Test.YtgedcalplfnjmaaDoorShelf
import Derived.Test.YtgedcalplfnjmaaDoorLexM
import Derived.WalkSmall
import Derived.Laws.RangeAny
import Derived.Shelf.GgClosure.StringsIndexFunc
import Derived.Lib.LaidTab
namespace Go.Proofs.YtgedcalplfnjmaaDoor
open Go.RowKit Go.Proofs.YtgedcalplfnjmaaDoor.LexM

/-- A text of these bytes. -/
def bs (l : List UInt8) : ByteArray := ⟨l.toArray⟩
theorem bs_list (s : ByteArray) : bs s.data.toList = s := by cases s; simp [bs]
theorem bs_data (l : List UInt8) : (bs l).data.toList = l := rfl
theorem bs_size (l : List UInt8) : (bs l).size = l.length := by show l.toArray.size = _; simp
theorem size_list (s : ByteArray) : s.size = s.data.toList.length := by show s.data.size = _; simp

theorem gPow : Tryd.prog.globalNamed "internal/strconv.uint64pow10" = some 1 := by kernel_rfl
/-- The library's table of tens; the search's length. -/
structure TabL (w : World) : Prop where
  pow : Lib.TabIs Tryd.prog w "internal/strconv.uint64pow10" .u64 Lib.pow10Tab
  len : ∃ m, w.cell? ⟨0, 0, none⟩ = some (.int .i64 m)
  room : 1 < w.heap.size
theorem TabL.below {B : Nat} {w w' : World} (h : TabL w) (hb : Below B w w') (hB : w.heap.size ≤ B) : TabL w' := by
  obtain ⟨m, hm⟩ := h.len
  refine ⟨var?_below hb gPow (Nat.lt_of_lt_of_le h.room hB) h.pow, ⟨m, ?_⟩, Nat.lt_of_lt_of_le h.room hb.size⟩
  rw [hb.cell (p := ⟨0, 0, none⟩) (Nat.lt_of_lt_of_le (lt_of_cell hm) hB)]
  exact hm

theorem below_drewN {B : Nat} {a w : World} (h : Below B a w) (n : Nat) : Below B a (w.drewN n) := h.trans ⟨rfl, rfl, rfl, Nat.le_refl _, fun _ _ => rfl⟩

/-- The words L in memory. -/
def StrsAt (w : World) (v : Value) (L : List (List UInt8)) : Prop :=
  ∃ A cap, v = .slice A L.length cap ∧ L.length ≤ cap ∧ (0 < L.length → ∃ b o, A = some ⟨b, o, none⟩ ∧ b < w.heap.size ∧ ∀ k (h : k < L.length), w.cell? ⟨b, o + k, none⟩ = some (.string (bs L[k])))
theorem StrsAt.below {B : Nat} {w w' : World} {v : Value} {L : List (List UInt8)} (h : StrsAt w v L) (hb : Below B w w') (hB : w.heap.size ≤ B) : StrsAt w' v L := by
  obtain ⟨A, cap, rfl, hc, hA⟩ := h
  refine ⟨A, cap, rfl, hc, fun h0 => ?_⟩
  obtain ⟨b, o, e, hlt, h⟩ := hA h0
  refine ⟨b, o, e, Nat.lt_of_lt_of_le hlt hb.size, fun k hk => ?_⟩
  rw [hb.cell (p := ⟨b, o + k, none⟩) (Nat.lt_of_lt_of_le hlt hB)]
  exact h k hk
theorem StrsAt.nil (w : World) : StrsAt w (.slice none 0 0) [] := ⟨none, 0, rfl, Nat.le_refl _, fun h => absurd h (by simp)⟩
theorem getD_bs (L : List (List UInt8)) (j : Nat) (h : j < L.length) : (L.map bs).getD j ByteArray.empty = bs L[j] := by simp [List.getD_eq_getElem?_getD, h]

/-- The pieces of a text. -/
def cut (c : UInt8) (s : ByteArray) : List (List UInt8) := pieces c s.data.toList
theorem splitB_cut (c : UInt8) (s : ByteArray) : Lib.splitB ⟨#[c]⟩ 0 (Lib.countB s ⟨#[c]⟩) s = (cut c s).map bs := by
  have h := Lib.splitB_data ⟨#[c]⟩ 0 (Lib.countB s ⟨#[c]⟩) s
  have hk : Lib.countB s ⟨#[c]⟩ = s.data.toList.count c := Lib.count_one c s.data.toList
  have e : (⟨#[c]⟩ : ByteArray).data.toList = [c] := rfl
  rw [hk] at h ⊢
  rw [e, split_pieces] at h
  unfold cut
  rw [← h, List.map_map]
  conv => lhs; rw [← List.map_id (Lib.splitB _ _ _ _)]
  exact List.map_congr_left fun x _ => (bs_list x).symm

theorem hi9 : (Tryd.prog.info? 9).map (fun i => (i.zero, i.size, i.bytes)) = some (some (.string ByteArray.empty), 1, 16) := by kernel_rfl

/-- strings.ContainsFunc with a look at a byte that is no digit. -/
def offDigit (r : Nat) : Bool := decide (r < 48) || decide (57 < r)
theorem idx_from (s : ByteArray) : ∀ (f pos : Nat), s.size ≤ pos + f → decide (0 ≤ Lib.idxFuncFrom offDigit true s f pos) = !((s.data.toList.drop pos).all isDigit)
  | 0, pos, h => by
    have e : s.data.toList.drop pos = [] := List.drop_eq_nil_of_le (by rw [← size_list]; omega)
    rw [e]; rfl
  | f + 1, pos, h => by
    by_cases hp : pos < s.size
    · have hp2 : pos < s.data.toList.length := by rw [← size_list]; exact hp
      have hd : s.data.toList.drop pos = s[pos] :: s.data.toList.drop (pos + 1) := by
        rw [List.drop_eq_getElem_cons hp2]; rfl
      rw [hd, List.all_cons, Lib.idxFuncFrom, if_pos hp]
      by_cases ha : (s[pos]'hp).toNat < 128
      · rw [decode_ascii s pos hp ha]
        by_cases hg : isDigit s[pos] = true
        · have ho : ¬ offDigit (s[pos]'hp).toNat = true := by
            simp only [isDigit, Bool.and_eq_true, decide_eq_true_eq] at hg
            simp [offDigit]; omega
          rw [if_neg ho, hg, Bool.true_and]
          exact idx_from s f (pos + 1) (by omega)
        · have ho : offDigit (s[pos]'hp).toNat = true := by
            simp only [isDigit, Bool.and_eq_true, decide_eq_true_eq] at hg
            simp [offDigit]; omega
          rw [if_pos ho, Bool.eq_false_iff.2 hg]
          simp
      · have hh := (decode_high s pos hp (by omega)).1
        have ho : offDigit (Utf8.decode s pos).1 = true := by simp [offDigit]; omega
        have hg : isDigit s[pos] = false := by simp [isDigit]; omega
        rw [if_pos ho, hg]
        simp
    · rw [Lib.idxFuncFrom_end _ _ _ _ _ hp]
      have e : s.data.toList.drop pos = [] := List.drop_eq_nil_of_le (by rw [← size_list]; omega)
      rw [e]; rfl
theorem idx_digits (s : ByteArray) : decide (0 ≤ Lib.idxFunc offDigit true s) = !(s.data.toList.all isDigit) := by
  have := idx_from s s.size 0 (by omega)
  rw [List.drop_zero] at this
  exact this

/-- strconv.Itoa. -/
theorem itoaW (n : Int) (h0 : -9223372036854775808 ≤ n) (h1 : n ≤ 9223372036854775807) (w : World) (hT : TabL w) :
    Calls Tryd.prog 33 #[.int .i64 n] w fun e w' => e = .returned (.string (bs (Lib.itoa n))) ∧ Below w.heap.size w w' := by
  refine (Go.Proofs.Tryd.strconv_Itoa n h0 h1 w hT.pow).mono ?_
  rintro e w' ⟨rfl, k, os, rfl⟩
  refine ⟨rfl, ⟨rfl, rfl, rfl, ?_, fun i hi => ?_⟩⟩
  · simp [Sort.grow]
  · simp [Sort.grow, Array.getElem?_append, hi]
end Go.Proofs.YtgedcalplfnjmaaDoor
