/-
  Are rows, shapes the same? May a shape be written? Conditions: at most 1000000 of each.
  Check, Equal: may a shape be written, are two the same? Conditions: bends of at most 1000000 letters each.
  hasTooMany, Check, Equal. Conditions: bends of at most 1000000 letters each.
  What the reference's turns, direction and first answer. Conditions: texts of at most 1000000 bytes.
  The law's argument opened: a struct of a slice of bools, a slice of triples of bytes, a slice of bytes. Conditions: none.
  A shape under way in memory, a row of bools and one of edges of the call's own; an edge under way: what the reference's Make keeps. Conditions: none.
-/
import Derived.Test.YtbdkkkpgjcfdgaaDoorNzPa
import Derived.Laws.StructEq
import Derived.Test.YtbdkkkpgjcfdgaaDoorNzC
import Derived.Test.YtbdkkkpgjcfdgaaDoorArgs
import Derived.Lib.SmallJoins
import Derived.BigRegion
import Derived.Deep.RegionHeld3
import Derived.IntWalk
import Derived.Deep.CutRange
import Derived.Deep.CutBlock
namespace Go.Proofs.YtbdkkkpgjcfdgaaDoor
open Go.RowKit Go.Proofs.YtbdkkkpgjcfdgaaDoor.LexM Go.Proofs.YtbdkkkpgjcfdgaaDoor.ParM

theorem BlsAt.nth {w : World} {v : Value} {L : List Bool} (h : BlsAt w v L) {i : Nat} (hi : i < L.length) : ∃ b o cap, v = .slice (some ⟨b, o, none⟩) L.length cap ∧ b < w.heap.size ∧ w.cell? ⟨b, o + i, none⟩ = some (.bool L[i]) := by
  obtain ⟨A, cap, rfl, _, hA⟩ := h
  obtain ⟨b, o, rfl, hb, hc⟩ := hA (by omega)
  exact ⟨b, o, cap, rfl, hb, hc i hi⟩
theorem EdsAt.nth {w : World} {v : Value} {L : List Edg} (h : EdsAt w v L) {i : Nat} (hi : i < L.length) : ∃ b o cap, v = .slice (some ⟨b, o, none⟩) L.length cap ∧ b < w.heap.size ∧ w.cell? ⟨b, o + i * 4, none⟩ = some (.int .i64 L[i].1) ∧ w.cell? ⟨b, o + i * 4 + 1, none⟩ = some (.int .i64 L[i].2.1) ∧ w.cell? ⟨b, o + i * 4 + 2, none⟩ = some (.int .i64 L[i].2.2.1) ∧ w.cell? ⟨b, o + i * 4 + 3, none⟩ = some (.string (bs L[i].2.2.2)) := by
  obtain ⟨A, cap, rfl, _, hA⟩ := h
  obtain ⟨b, o, rfl, hb, hc⟩ := hA (by omega)
  exact ⟨b, o, cap, rfl, hb, hc i hi⟩
def EqRel {α : Type} (L M : List α) (w wr : World) (iv : Value) : Prop := ∃ k : Nat, iv = .int .i64 k ∧ k ≤ L.length ∧ L.take k = M.take k ∧ Below w.heap.size w wr
theorem take_same {α : Type} {L M : List α} {k : Nat} (h : L.take k = M.take k) (h1 : k < L.length) (h2 : k < M.length) : L.take (k + 1) = M.take (k + 1) ↔ L[k] = M[k] := by
  rw [List.take_succ_eq_append_getElem h1, List.take_succ_eq_append_getElem h2, h]
  constructor
  · intro e
    have := List.append_cancel_left e
    injection this
  · intro e; rw [e]
theorem ne_take {α : Type} {L M : List α} {k : Nat} (h1 : k < L.length) (h2 : k < M.length) (h : L[k] ≠ M[k]) : L ≠ M := by
  intro e; subst e; exact h rfl

theorem guardE : Tryd.prog.eqGuardType Tryd.prog.depth 75 = false := by kernel_rfl
theorem heldE : Tryd.prog.stoodInHeld 75 = false := by kernel_rfl
theorem edge_beq (a1 a2 a3 b1 b2 b3 : Int) (s t : List UInt8) : (a1 == b1 && (a2 == b2 && (a3 == b3 && (bs s).toList == (bs t).toList))) = decide ((a1, a2, a3, s) = (b1, b2, b3, t)) := by
  rw [toList_data, toList_data, bs_data, bs_data, Bool.eq_iff_iff]
  simp
theorem neq_edge (w : World) (a1 a2 a3 b1 b2 b3 : Int) (s t : List UInt8) (r : Bool) (hr : (a1 == b1 && (a2 == b2 && (a3 == b3 && (bs s).toList == (bs t).toList))) = !r) :
    (binOp .neq 75 (.agg #[.int .i64 a1, .int .i64 a2, .int .i64 a3, .string (bs s)]) (.agg #[.int .i64 b1, .int .i64 b2, .int .i64 b3, .string (bs t)])).run Tryd.prog w = .ok (.bool r) w := by
  have hu := Tryd.underlying75
  have hi := Tryd.underlying3
  have hs := Tryd.underlying9
  rw [run_neq_struct]
  have h := run_equalIn_agg (P := Tryd.prog) w 9999 75 #[.int .i64 a1, .int .i64 a2, .int .i64 a3, .string (bs s)] #[.int .i64 b1, .int .i64 b2, .int .i64 b3, .string (bs t)] (by kernel_rfl) heldE
  rw [h]
  unfold Program.fieldsOf
  rw [hu]
  simp [Op.eqFields, go_sem]
  have h0 : r = !(a1 == b1 && (a2 == b2 && (a3 == b3 && (bs s).toList == (bs t).toList))) := by rw [hr]; simp
  subst h0
  by_cases h1 : a1 = b1
  · by_cases h2 : a2 = b2
    · by_cases h3 : a3 = b3
      · by_cases h4 : (bs s).toList = (bs t).toList
        · simp [h1, h2, h3, h4]
        · simp [h1, h2, h3, h4]
      · simp [h1, h2, h3]
    · simp [h1, h2]
  · simp [h1]

end Go.Proofs.YtbdkkkpgjcfdgaaDoor

namespace Go.Proofs.YtbdkkkpgjcfdgaaDoor
open Go.RowKit Go.Proofs.YtbdkkkpgjcfdgaaDoor.LexM Go.Proofs.YtbdkkkpgjcfdgaaDoor.ParM

def vtxB (v : Int) (n : Nat) : Bool := decide (0 ≤ v) && decide (v < n)
def chkE (n : Nat) (e : Edg) : Int := if vtxB e.1 n = false then 3 else if vtxB e.2.1 n = false then 3 else if goodB e.2.2.1 = false then 2 else if isTurns e.2.2.2 = false then 2 else 0

end Go.Proofs.YtbdkkkpgjcfdgaaDoor

namespace Go.Proofs.YtbdkkkpgjcfdgaaDoor
open Go.RowKit Go.Proofs.YtbdkkkpgjcfdgaaDoor.LexM Go.Proofs.YtbdkkkpgjcfdgaaDoor.ParM

def manyS (B : List Bool) (E : List Edg) : Bool := decide (4096 < B.length) || decide (4096 < E.length) || decide (4096 < bendsOf E)
def chkL (n : Nat) : List Edg → Int
  | [] => 0
  | e :: E => if chkE n e ≠ 0 then chkE n e else chkL n E
def chkS (B : List Bool) (E : List Edg) : Int := if manyS B E = true then 6 else chkL B.length E
theorem bends_take (E : List Edg) (k : Nat) (h : k < E.length) : bendsOf (E.take (k + 1)) = bendsOf (E.take k) + E[k].2.2.2.length := by
  rw [List.take_succ_eq_append_getElem h, bendsOf_snoc]
theorem bends_le (E : List Edg) (k : Nat) : bendsOf (E.take k) ≤ bendsOf E := by
  conv => rhs; rw [← List.take_append_drop k E]
  unfold bendsOf
  rw [List.map_append, List.sum_append]; omega
def HmRel (E : List Edg) (w wr : World) (lv iv : Value) : Prop := ∃ (k : Nat) (z : Int), iv = .int .i64 k ∧ lv = .int .i64 z ∧ z = 4096 - (bendsOf (E.take k) : Int) ∧ 0 ≤ z ∧ k ≤ E.length ∧ Below w.heap.size w wr

theorem heap_second (w : World) (a b : Obj) : ((w.alloc a).alloc b).heap[w.heap.size + 1]? = some b := by
  have h := heap_alloc_new (w.alloc a) b
  simpa using h
def CkRel (n : Nat) (E : List Edg) (wb wr : World) (iv : Value) : Prop := ∃ k : Nat, iv = .int .i64 k ∧ k ≤ E.length ∧ chkL n (E.drop k) = chkL n E ∧ Below wb.heap.size wb wr

theorem chk_ok {B : List Bool} {E : List Edg} (h : May B E) : chkS B E = 0 := by
  have hm : manyS B E = false := by
    have h1 := h.vs
    have h2 := h.es
    have h3 := h.bs
    unfold manyS
    rw [decide_eq_false (by omega), decide_eq_false (by omega), decide_eq_false (by omega)]; rfl
  have hc : ∀ (n : Nat) (E : List Edg), (∀ e ∈ E, okE n e) → chkL n E = 0 := by
    intro n E
    induction E with
    | nil => intro _; rfl
    | cons e E ih =>
      intro h
      obtain ⟨a1, a2, a3, a4, a5, a6, a7⟩ := h e (by simp)
      have hz : chkE n e = 0 := by
        unfold chkE vtxB
        rw [decide_eq_true a1, decide_eq_true a2, decide_eq_true a3, decide_eq_true a4, goodB_t a5 (by omega), a7]; rfl
      rw [chkL, hz, if_neg (by simp), ih (fun x hx => h x (by simp [hx]))]
  unfold chkS
  rw [hm, hc _ _ h.ok]; rfl

end Go.Proofs.YtbdkkkpgjcfdgaaDoor

namespace Go.Proofs.YtbdkkkpgjcfdgaaDoor
open Go.RowKit Go.Proofs.YtbdkkkpgjcfdgaaDoor.LexM Go.Proofs.YtbdkkkpgjcfdgaaDoor.ParM

theorem turns_snoc (l : List UInt8) (b : UInt8) : isTurns (l ++ [b]) = (isTurns l && (decide (b = 76) || decide (b = 82))) := by simp [isTurns]
theorem not_turns {l : List UInt8} {b : UInt8} (hb : b ∈ l) (h1 : b ≠ 76) (h2 : b ≠ 82) : isTurns l = false := by
  rw [Bool.eq_false_iff]
  intro hc
  have := List.all_eq_true.1 hc b hb
  simp [h1, h2] at this
def RtRel (l : List UInt8) (w wr : World) (iv : Value) : Prop := ∃ k : Nat, iv = .int .i64 k ∧ k ≤ l.length ∧ isTurns (l.take k) = true ∧ wr = w
set_option maxHeartbeats 2000000 in
theorem refTurns (s : ByteArray) (w : World) (hs : s.size ≤ 2000000) : Calls Tryd.prog 40 #[.string s] w fun e w' => e = .returned (.bool (isTurns s.data.toList)) ∧ w = w' := by
  have HZ := Lib.hid (size_list s)
  go_enter Tryd.func40, Tryd.ntmps40
  go_wp2
  go_loopw [3] (fun iv wr => RtRel s.data.toList w wr iv) (fun iv _ => s.size - (intOf iv).toNat)
  case atStart => exact ⟨0, rfl, Nat.zero_le _, rfl, rfl⟩
  case round =>
    obtain ⟨k, rfl, hk, ht, rfl⟩ := hrel
    have hks : k ≤ s.size := by rw [HZ.out]; exact hk
    have T := Lib.hid ht
    clear ht hk
    by_cases hlt : k < s.size
    · have hb := byte_at s k hlt
      obtain ⟨b, hbe⟩ : ∃ b, s[k]'hlt = b := ⟨_, rfl⟩
      rw [hbe] at hb
      have TS := Lib.hid (take_snoc _ _ _ hb)
      have HB := Lib.hid (List.mem_of_getElem? hb)
      clear hb
      by_cases h1 : b = 76 ∨ b = 82
      · have N : Hid (isTurns (s.data.toList.take (k + 1)) = true) := Lib.hid (by
          rw [TS.out, turns_snoc, T.out]
          rcases h1 with rfl | rfl <;> decide)
        rcases h1 with rfl | rfl
        · have q1 : (((76 : UInt8).toNat : Int) == 76) = true := rfl
          have q2 : (((76 : UInt8).toNat : Int) != 76) = false := rfl
          go_wp2
          go_roundw
          case rel => exact ⟨k + 1, by go_num, by rw [← HZ.out]; omega, N.out, rfl⟩
          case measure => (simp [intOf] <;> omega)
        · have q1 : (((82 : UInt8).toNat : Int) == 76) = false := rfl
          have q2 : (((82 : UInt8).toNat : Int) != 76) = true := rfl
          have q3 : (((82 : UInt8).toNat : Int) == 82) = true := rfl
          have q4 : (((82 : UInt8).toNat : Int) != 82) = false := rfl
          go_wp2
          go_roundw
          case rel => exact ⟨k + 1, by go_num, by rw [← HZ.out]; omega, N.out, rfl⟩
          case measure => (simp [intOf] <;> omega)
      · have NO := Lib.hid (not_turns HB.out (fun e => h1 (Or.inl e)) (fun e => h1 (Or.inr e)))
        have q1 : ((b.toNat : Int) == 76) = false := by rw [byte_test b 76 76 rfl]; simpa using fun e => h1 (Or.inl e)
        have q2 : ((b.toNat : Int) != 76) = true := by simpa [bne] using q1
        have q3 : ((b.toNat : Int) == 82) = false := by rw [byte_test b 82 82 rfl]; simpa using fun e => h1 (Or.inr e)
        have q4 : ((b.toNat : Int) != 82) = true := by simpa [bne] using q3
        clear h1
        go_wp2
        go_ret
        exact ⟨ret_bool NO.out.symm, rfl⟩
    · obtain rfl : k = s.size := by omega
      have ht := T.out
      rw [HZ.out, List.take_length] at ht
      have T2 := Lib.hid ht
      clear ht
      go_wp2
      go_ret
      exact ⟨ret_bool T2.out.symm, rfl⟩

theorem letterS_list (d : Int) : (letterS d).data.toList = if d = 0 then [69] else if d = 1 then [78] else if d = 2 then [87] else if d = 3 then [83] else [] := by
  unfold letterS
  repeat' split
  all_goals rfl
def RdRelD (l : List UInt8) (w wr : World) (iv : Value) : Prop := ∃ k : Nat, iv = .int .i64 k ∧ k ≤ 4 ∧ (∀ j : Nat, j < k → dirOf l ≠ (j : Int)) ∧ Below w.heap.size w wr
theorem dir_is {l : List UInt8} {k : Nat} (hk : k < 4) : ((letterS (k : Int)).data.toList = l) ↔ dirOf l = (k : Int) := by
  rw [letterS_list]
  have hc : k = 0 ∨ k = 1 ∨ k = 2 ∨ k = 3 := by omega
  unfold dirOf
  rcases hc with rfl | rfl | rfl | rfl
  all_goals
    constructor
    · intro h; subst h; decide
    · intro h
      by_cases h0 : l = [69]
      · first | (rw [h0]; rfl) | (exfalso; rw [if_pos h0] at h; revert h; decide)
      · rw [if_neg h0] at h
        by_cases h1 : l = [78]
        · first | (rw [h1]; rfl) | (exfalso; rw [if_pos h1] at h; revert h; decide)
        · rw [if_neg h1] at h
          by_cases h2 : l = [87]
          · first | (rw [h2]; rfl) | (exfalso; rw [if_pos h2] at h; revert h; decide)
          · rw [if_neg h2] at h
            by_cases h3 : l = [83]
            · first | (rw [h3]; rfl) | (exfalso; rw [if_pos h3] at h; revert h; decide)
            · rw [if_neg h3] at h
              exfalso; revert h; decide

end Go.Proofs.YtbdkkkpgjcfdgaaDoor

namespace Go.Proofs.YtbdkkkpgjcfdgaaDoor
open Go.RowKit Go.ChangeShapes Go.WideShapes Go.Deep

/-- What a slice of triples of bytes reads as. -/
structure Tri8 (w : World) (A : Option Addr) (n : Nat) (D : Nat → Int × Int × Int) : Prop where
  at_ : 0 < n → ∃ b o, A = some ⟨b, o, none⟩ ∧ b < w.heap.size ∧ ∀ k, k < n → w.cell? ⟨b, o + k * 3, none⟩ = some (.int .u8 (D k).1) ∧ w.cell? ⟨b, o + k * 3 + 1, none⟩ = some (.int .u8 (D k).2.1) ∧ w.cell? ⟨b, o + k * 3 + 2, none⟩ = some (.int .u8 (D k).2.2)
  r : ∀ k, k < n → (0 ≤ (D k).1 ∧ (D k).1 ≤ 255) ∧ (0 ≤ (D k).2.1 ∧ (D k).2.1 ≤ 255) ∧ 0 ≤ (D k).2.2 ∧ (D k).2.2 ≤ 255
/-- What a slice of bytes reads as. -/
structure Byt8 (w : World) (A : Option Addr) (n : Nat) (D : Nat → Int) : Prop where
  at_ : 0 < n → ∃ b o, A = some ⟨b, o, none⟩ ∧ b < w.heap.size ∧ ∀ k, k < n → w.cell? ⟨b, o + k, none⟩ = some (.int .u8 (D k))
  r : ∀ k, k < n → 0 ≤ D k ∧ D k ≤ 255
theorem Tri8.below {w w' : World} {A : Option Addr} {n : Nat} {D : Nat → Int × Int × Int} (h : Tri8 w A n D) (o : Below w.heap.size w w') : Tri8 w' A n D := by
  refine ⟨fun h0 => ?_, h.r⟩
  obtain ⟨b, o', e, hb, hc⟩ := h.at_ h0
  refine ⟨b, o', e, Nat.lt_of_lt_of_le hb o.size, fun k hk => ?_⟩
  rw [o.cell (p := ⟨b, o' + k * 3, none⟩) hb, o.cell (p := ⟨b, o' + k * 3 + 1, none⟩) hb, o.cell (p := ⟨b, o' + k * 3 + 2, none⟩) hb]
  exact hc k hk
theorem Byt8.below {w w' : World} {A : Option Addr} {n : Nat} {D : Nat → Int} (h : Byt8 w A n D) (o : Below w.heap.size w w') : Byt8 w' A n D := by
  refine ⟨fun h0 => ?_, h.r⟩
  obtain ⟨b, o', e, hb, hc⟩ := h.at_ h0
  refine ⟨b, o', e, Nat.lt_of_lt_of_le hb o.size, fun k hk => ?_⟩
  rw [o.cell (p := ⟨b, o' + k, none⟩) hb]
  exact hc k hk
section
variable {H : Type} {enc : TypeId × Value → H} {P : Program} {w : World} {spare : Nat → Bool} {held : Bool}
/-- Nothing, or a row whose elements read by their type: of one cell that reads as a slice. -/
theorem rows_of8 {t e : TypeId} {fuel : Nat} {v : Value} {x : DataW H × List MemPlace} {K : Nat} (ht : P.underlying t = some (.slice e)) (hc : P.cellsOf e = K) (hK : 0 < K)
    (hf : DataW.trod enc P w 0 spare held fuel t [v] = some x) :
    (∃ A cap, v = .slice A 0 cap) ∨
    ∃ b o n cap, v = .slice (some ⟨b, o, none⟩) n cap ∧ RowAt w K b o n cap fun _ cs => ∃ fuel x, DataW.trod enc P w 0 spare held fuel e cs = some x := by
  subst hc
  rcases open_slice ht hf with ⟨h0, _⟩ | ⟨a', len, cap', m, k, D, Pl, hcs, _, hl, hm, hmm, _, hi⟩
  · simp only [List.cons.injEq, and_true] at h0
    exact Or.inl ⟨_, _, h0⟩
  · simp only [List.cons.injEq, and_true] at hcs
    subst hcs
    by_cases h0 : len = 0
    · subst h0
      exact Or.inl ⟨_, _, rfl⟩
    · have hnm : len ≤ m := by rw [hmm]; split <;> omega
      have hspot : a'.spot = none := by
        obtain ⟨cs', hc, _⟩ := hi 0 (by omega)
        obtain ⟨_, hlen, hat⟩ := World.cells?_some hc
        have := hat 0 hK
        rw [List.getElem?_eq_getElem (by omega)] at this
        have := World.cell?_spot this
        unfold Addr.add at this
        split at this <;> simp_all
      obtain ⟨b, o, spot⟩ := a'
      have e0 : spot = none := hspot
      subst e0
      have hcell : ∀ i, i < len → ∃ cs : List Value, cs.length = P.cellsOf e ∧ (∀ j, j < P.cellsOf e → w.cell? ⟨b, o + i * P.cellsOf e + j, none⟩ = cs[j]?) ∧ ∃ fuel x, DataW.trod enc P w 0 spare held fuel e cs = some x := by
        intro i hin
        obtain ⟨cs', hc, ht'⟩ := hi i (by omega)
        obtain ⟨_, hlen, hat⟩ := World.cells?_some hc
        refine ⟨cs', hlen, fun j hj => ?_, _, _, ht'⟩
        rw [← hat j hj, add_lit, add_lit]
      refine Or.inr ⟨b, o, len, cap', rfl, by omega, hl, hm, ?_, hcell⟩
      obtain ⟨cs', hlen, hat, _⟩ := hcell 0 (by omega)
      have := hat 0 hK
      rw [List.getElem?_eq_getElem (by omega)] at this
      exact lt_of_cell this
end
theorem wf_b8 {n : Int} (h : (Lit.int .u8 n).wf = true) : 0 ≤ n ∧ n ≤ 255 := by
  have h' : IntKind.u8.min ≤ n ∧ n ≤ IntKind.u8.max := by simpa [Lit.wf] using h
  exact h'
set_option maxRecDepth 100000 in
theorem raw_open8 {H : Type} {enc : TypeId × Value → H} {w : World} {v : Value} {d : DataW H} {p : List MemPlace} {spare : Nat → Bool} {held : Bool} {b0 : Nat}
    (hv : Value.okWide Tryd.prog w .any b0 29 v) (h : DataW.Trod enc Tryd.prog w 0 spare held 29 v d p) :
    ∃ (bv : Value) (B : List Bool) (A : Option Addr) (n cap : Nat) (D : Nat → Int × Int × Int) (A2 : Option Addr) (n2 cap2 : Nat) (D2 : Nat → Int), v = .agg #[bv, .slice A n cap, .slice A2 n2 cap2] ∧ BlsAt w bv B ∧ Tri8 w A n D ∧ Byt8 w A2 n2 D2 := by
  obtain ⟨v0, v1, v2, y0, y1, y2, n, rfl, _, _, h0, h1, h2⟩ := Go.Joins.open_agg3 Tryd.underlying29 (by kernel_rfl) (by kernel_rfl) hv h
  have hB : ∃ B, BlsAt w v0 B := by
    rcases rows_of8 Tryd.underlying26 (K := 1) (by kernel_rfl) (by decide) h0 with ⟨A, cap, rfl⟩ | ⟨b, o, n, cap, rfl, R⟩
    · exact ⟨[], A, cap, rfl, by simp, fun h => absurd h (by simp)⟩
    · have each : ∀ i, i < n → ∃ q : Bool, w.cell? ⟨b, o + i, none⟩ = some (.bool q) := by
        intro i hi
        obtain ⟨cs, hlen, hat, fuel, x, hx⟩ := R.at_ i hi
        match cs, hlen with
        | [c0], _ =>
          obtain ⟨q, e0, _⟩ := DataW.trod_bool Tryd.underlying4 hx
          simp only [List.cons.injEq, and_true] at e0
          subst e0
          have h0 := hat 0 (by omega)
          rw [Nat.mul_one, Nat.add_zero] at h0
          exact ⟨q, h0⟩
      obtain ⟨D, hD⟩ := choose_lt each
      refine ⟨(List.range n).map D, some ⟨b, o, none⟩, cap, by simp, by simpa using R.le, fun _ => ⟨b, o, rfl, R.lt, fun k hk => ?_⟩⟩
      have hk' : k < n := by simpa using hk
      rw [hD k hk']
      simp
  obtain ⟨B, hB⟩ := hB
  have hT : ∃ A n cap D, v1 = .slice A n cap ∧ Tri8 w A n D := by
    rcases rows_of8 Tryd.underlying27 (K := 3) (by kernel_rfl) (by decide) h1 with ⟨A, cap, rfl⟩ | ⟨b, o, len, cap, rfl, R⟩
    · exact ⟨A, 0, cap, fun _ => (0, 0, 0), rfl, fun h => absurd h (by omega), fun k hk => absurd hk (by omega)⟩
    · have each : ∀ i, i < len → ∃ q : Int × Int × Int, (w.cell? ⟨b, o + i * 3, none⟩ = some (.int .u8 q.1) ∧ w.cell? ⟨b, o + i * 3 + 1, none⟩ = some (.int .u8 q.2.1) ∧ w.cell? ⟨b, o + i * 3 + 2, none⟩ = some (.int .u8 q.2.2)) ∧
          (0 ≤ q.1 ∧ q.1 ≤ 255) ∧ (0 ≤ q.2.1 ∧ q.2.1 ≤ 255) ∧ 0 ≤ q.2.2 ∧ q.2.2 ≤ 255 := by
        intro i hi
        obtain ⟨cs, hlen, hat, fuel, x, hx⟩ := R.at_ i hi
        match cs, hlen with
        | [c0, c1, c2], _ =>
          obtain ⟨xs, m, _, _, _, hl, hg⟩ := DataW.trod_array Tryd.underlying73 hx
          have hc1 : Tryd.prog.cellsOf 5 = 1 := by kernel_rfl
          have g : ∀ i (hi : i < 3), ∃ y, DataW.trod enc Tryd.prog w 0 spare held m 5 (([c0, c1, c2].drop i).take 1) = some y := by
            intro i hi
            have h1 := hg i hi
            rw [hc1, Nat.mul_one, List.getElem?_eq_getElem (by omega)] at h1
            exact ⟨_, h1⟩
          obtain ⟨_, g0⟩ := g 0 (by omega)
          obtain ⟨_, g1⟩ := g 1 (by omega)
          obtain ⟨_, g2⟩ := g 2 (by omega)
          obtain ⟨n0, e0, f0⟩ := elem_int Tryd.underlying5 g0
          obtain ⟨n1, e1, f1⟩ := elem_int Tryd.underlying5 g1
          obtain ⟨n2, e2, f2⟩ := elem_int Tryd.underlying5 g2
          have e0' : [c0] = [Value.int .u8 n0] := e0
          have e1' : [c1] = [Value.int .u8 n1] := e1
          have e2' : [c2] = [Value.int .u8 n2] := e2
          simp only [List.cons.injEq, and_true] at e0' e1' e2'
          subst e0' e1' e2'
          exact ⟨(n0, n1, n2), ⟨hat 0 (by omega), hat 1 (by omega), hat 2 (by omega)⟩, wf_b8 f0, wf_b8 f1, wf_b8 f2⟩
      obtain ⟨D, hD⟩ := choose_lt each
      exact ⟨_, len, cap, D, rfl, fun _ => ⟨b, o, rfl, R.lt, fun k hk => (hD k hk).1⟩, fun k hk => (hD k hk).2⟩
  obtain ⟨A, len, cap, D, rfl, hT⟩ := hT
  have hY : ∃ A n cap D, v2 = .slice A n cap ∧ Byt8 w A n D := by
    rcases rows_of8 Tryd.underlying22 (K := 1) (by kernel_rfl) (by decide) h2 with ⟨A, cap, rfl⟩ | ⟨b, o, len, cap, rfl, R⟩
    · exact ⟨A, 0, cap, fun _ => 0, rfl, fun h => absurd h (by omega), fun k hk => absurd hk (by omega)⟩
    · have each : ∀ i, i < len → ∃ q : Int, w.cell? ⟨b, o + i, none⟩ = some (.int .u8 q) ∧ 0 ≤ q ∧ q ≤ 255 := by
        intro i hi
        obtain ⟨cs, hlen, hat, fuel, x, hx⟩ := R.at_ i hi
        match cs, hlen with
        | [c0], _ =>
          obtain ⟨n0, e0, f0⟩ := elem_int Tryd.underlying5 hx
          simp only [List.cons.injEq, and_true] at e0
          subst e0
          have h0 := hat 0 (by omega)
          rw [Nat.mul_one, Nat.add_zero] at h0
          exact ⟨n0, h0, wf_b8 f0⟩
      obtain ⟨D, hD⟩ := choose_lt each
      exact ⟨_, len, cap, D, rfl, fun _ => ⟨b, o, rfl, R.lt, fun k hk => (hD k hk).1⟩, fun k hk => (hD k hk).2⟩
  obtain ⟨A2, len2, cap2, D2, rfl, hY⟩ := hY
  exact ⟨v0, B, A, len, cap, D, A2, len2, cap2, D2, rfl, hB, hT, hY⟩
end Go.Proofs.YtbdkkkpgjcfdgaaDoor

namespace Go.Proofs.YtbdkkkpgjcfdgaaDoor
open Go.RowKit Go.Proofs.YtbdkkkpgjcfdgaaDoor.LexM Go.Proofs.YtbdkkkpgjcfdgaaDoor.ParM

theorem bends_small : ∀ E : List Edg, (∀ e ∈ E, e.2.2.2.length ≤ 3) → bendsOf E ≤ 3 * E.length
  | [], _ => by simp [bendsOf]
  | e :: E, h => by
    have ih := bends_small E (fun x hx => h x (by simp [hx]))
    have h1 := h e (by simp)
    have hbe : bendsOf (e :: E) = e.2.2.2.length + bendsOf E := by simp [bendsOf]
    rw [hbe, List.length_cons]; omega
/-- The shape under way, a row of bools and one of edges of the call's own. -/
structure MkSt (w0 w : World) (s : Nat) (bv ev : Value) (B : List Bool) (E : List Edg) : Prop where
  below : Below w0.heap.size w0 w
  sb : w.heap[s]? = some (.cells #[bv, ev] 36 (0, 0))
  sl : w0.heap.size ≤ s
  rb : OwnB w w0.heap.size bv B
  re : OwnE w w0.heap.size ev E
theorem mkT_b : 36 ≠ 4 := by decide
theorem mkT_e : 36 ≠ 75 := by decide
section
variable {w wr wl : World} {s : Nat} {bv ev : Value} {B : List Bool} {E : List Edg}
theorem MkSt.step (h : MkSt w wr s bv ev B E) (b : Below wr.heap.size wr wl) : MkSt w wl s bv ev B E :=
  ⟨h.below.trans (b.mono h.below.size), by rw [b.block _ (Array.getElem?_eq_some_iff.1 h.sb).1]; exact h.sb, h.sl, h.rb.below b (Nat.le_refl _), h.re.below b (Nat.le_refl _)⟩
theorem MkSt.cs (h : MkSt w wr s bv ev B E) : wr.cell? ⟨s, 0, none⟩ = some bv ∧ wr.cell? ⟨s, 1, none⟩ = some ev ∧ wr.frozen? ⟨s, 0, none⟩ = false ∧ wr.frozen? ⟨s, 1, none⟩ = false ∧ s < wr.heap.size := by
  have h1 := h.sb
  refine ⟨by simp [World.cell?, h1], by simp [World.cell?, h1], ?_, ?_, (Array.getElem?_eq_some_iff.1 h1).1⟩
  · simp only [World.frozen?, h1]; simp
  · simp only [World.frozen?, h1]; simp
end
theorem MkSt.moreE {w wz wa w5 : World} {s n : Nat} {bv ev v' : Value} {B : List Bool} {E : List Edg} {a : Edg} (h : MkSt w wz s bv ev B E) (hn : E.length = n) (ha : Below wz.heap.size wz wa) (hown : w5.ownsRow w.heap.size 75 4 v' (n + 1) (E.flatMap encE ++ encE a)) (hgrow : wa.grownBy w5 ev.ownBlock) :
    w5.heap[s]? = some (.cells #[bv, ev] 36 (0, 0)) ∧ MkSt w (w5.setCell ⟨s, 1, none⟩ v') s bv v' B (E ++ [a]) := by
  have H := h.step ha
  have lt : ∀ {k c}, wa.heap[k]? = some c → k < wa.heap.size := fun h => (Array.getElem?_eq_some_iff.1 h).1
  have hO := OwnE.snocAt hn hown
  have hsb : w5.heap[s]? = some (.cells #[bv, ev] 36 (0, 0)) := by
    rw [hgrow.block s (lt H.sb) (fun e => own_kind H.re H.sb mkT_e e.symm)]; exact H.sb
  have hw5 : Below w.heap.size w w5 := H.below.grown hgrow H.below.size (fun q hq => (World.ownsRow.lt H.re q hq).1)
  have hrb : OwnB w5 w.heap.size bv B := by
    refine ownsRow_block H.rb (fun q hq => hgrow.block q (World.ownsRow.lt H.rb q hq).2 (fun e => ?_))
    rcases H.rb.2 with ⟨rfl, _⟩ | ⟨g, c1, c2, rfl, _, hgk, _⟩
    · cases hq
    · have : g = q := by simpa [Value.ownBlock] using hq
      subst this
      exact own_kind H.re hgk (by decide) e.symm
  exact ⟨hsb, ⟨below_set hw5 h.sl _ _, by rw [heap_setCell_at hsb]; rfl, h.sl, ownsRow_setCell_other hrb (own_kind hrb hsb mkT_b) _, ownsRow_setCell_other hO (own_kind hO hsb mkT_e) _⟩⟩
theorem MkSt.moreB {w wz wa w5 : World} {s n : Nat} {bv ev v' : Value} {B : List Bool} {E : List Edg} {a : Bool} (h : MkSt w wz s bv ev B E) (hn : B.length = n) (ha : Below wz.heap.size wz wa) (hown : w5.ownsRow w.heap.size 4 1 v' (n + 1) (B.map Value.bool ++ [.bool a])) (hgrow : wa.grownBy w5 bv.ownBlock) :
    w5.heap[s]? = some (.cells #[bv, ev] 36 (0, 0)) ∧ MkSt w (w5.setCell ⟨s, 0, none⟩ v') s v' ev (B ++ [a]) E := by
  have H := h.step ha
  have lt : ∀ {k c}, wa.heap[k]? = some c → k < wa.heap.size := fun h => (Array.getElem?_eq_some_iff.1 h).1
  have hO := OwnB.snocAt hn hown
  have hsb : w5.heap[s]? = some (.cells #[bv, ev] 36 (0, 0)) := by
    rw [hgrow.block s (lt H.sb) (fun e => own_kind H.rb H.sb mkT_b e.symm)]; exact H.sb
  have hw5 : Below w.heap.size w w5 := H.below.grown hgrow H.below.size (fun q hq => (World.ownsRow.lt H.rb q hq).1)
  have hre : OwnE w5 w.heap.size ev E := by
    refine ownsRow_block H.re (fun q hq => hgrow.block q (World.ownsRow.lt H.re q hq).2 (fun e => ?_))
    rcases H.re.2 with ⟨rfl, _⟩ | ⟨g, c1, c2, rfl, _, hgk, _⟩
    · cases hq
    · have : g = q := by simpa [Value.ownBlock] using hq
      subst this
      exact own_kind H.rb hgk (by decide) e.symm
  exact ⟨hsb, ⟨below_set hw5 h.sl _ _, by rw [heap_setCell_at hsb]; rfl, h.sl, ownsRow_setCell_other hO (own_kind hO hsb mkT_b) _, ownsRow_setCell_other hre (own_kind hre hsb mkT_e) _⟩⟩
theorem newsBd (w : World) (t : TypeId) (x : Bool) (b : Nat) (hb : w.heap.size = b) : ∀ j z, [Value.bool x][j]? = some z → (w.alloc (.cells #[.bool x] t)).drew.cell? ((⟨b, 0, none⟩ : Addr).add j) = some z := fun j z hz => newsB w t x b hb j z hz
theorem four_cells {w : World} {x : Nat} {v0 v1 v2 v3 : Value} {T : TypeId} (h1 : w.heap[x]? = some (.cells #[v0, v1, v2, v3] T (0, 0))) : w.cell? ⟨x, 0, none⟩ = some v0 ∧ w.cell? ⟨x, 1, none⟩ = some v1 ∧ w.cell? ⟨x, 2, none⟩ = some v2 ∧ w.cell? ⟨x, 3, none⟩ = some v3 ∧ w.frozen? ⟨x, 3, none⟩ = false ∧ x < w.heap.size := by
  refine ⟨?_, ?_, ?_, ?_, ?_, (Array.getElem?_eq_some_iff.1 h1).1⟩
  iterate 4 simp [World.cell?, h1]
  simp only [World.frozen?, h1]; simp
/-- An edge under way. -/
def EdSh (f t d : Int) (wr : World) (x : Nat) (bb : List UInt8) (wx : World) : Prop := isTurns bb = true ∧ wx.heap[x]? = some (.cells #[.int .i64 f, .int .i64 t, .int .i64 d, .string (bs bb)] 75 (0, 0)) ∧ Below wr.heap.size wr wx
theorem bs_snoc (l : List UInt8) (x : UInt8) : bs l ++ ⟨#[x]⟩ = bs (l ++ [x]) := by
  rw [← bs_list (bs l ++ ⟨#[x]⟩)]
  congr 1
theorem turns_more {l : List UInt8} {x : UInt8} (h : isTurns l = true) (hx : x = 76 ∨ x = 82) : isTurns (l ++ [x]) = true := by
  unfold isTurns at h ⊢
  rw [List.all_append, h]
  rcases hx with rfl | rfl <;> rfl
theorem EdSh.more {f t d : Int} {wo wr : World} {bb : List UInt8} (h : EdSh f t d wo wo.heap.size bb wr) (x : UInt8) (hx : x = 76 ∨ x = 82) : EdSh f t d wo wo.heap.size (bb ++ [x]) (wr.setCell ⟨wo.heap.size, 3, none⟩ (.string (bs bb ++ ⟨#[x]⟩))) :=
  ⟨turns_more h.1 hx, by rw [heap_setCell_at h.2.1, bs_snoc]; rfl, below_set h.2.2 (Nat.le_refl _) _ _⟩
def MkC (q : Nat) (f t d : Int) (wr : World) (x : Nat) (iv : Value) (wx : World) : Prop := ∃ (k : Nat) (bb : List UInt8), iv = .int .i64 k ∧ k ≤ q ∧ bb.length = k ∧ EdSh f t d wr x bb wx
theorem mk_ret {w wb wr w6 : World} {bv ev : Value} {B : List Bool} {E : List Edg} (hs : wb.heap.size = w.heap.size + 2) (hb : OwnB wr wb.heap.size bv B) (he : OwnE wr wb.heap.size ev E) (u v : Value)
    (h6 : ((wr.setCell ⟨w.heap.size + 1, 0, none⟩ u).setCell ⟨w.heap.size + 1, 1, none⟩ v) = w6) : BlsAt w6 bv B ∧ EdsAt w6 ev E := by
  subst h6
  have n1 : bv.ownBlock ≠ some (w.heap.size + 1) := fun e => by have := (World.ownsRow.lt hb _ e).1; omega
  have n2 : ev.ownBlock ≠ some (w.heap.size + 1) := fun e => by have := (World.ownsRow.lt he _ e).1; omega
  exact ⟨OwnB.bls (B := wb.heap.size) (ownsRow_setCell_other (ownsRow_setCell_other hb n1 _) n1 _), OwnE.eds (B := wb.heap.size) (ownsRow_setCell_other (ownsRow_setCell_other he n2 _) n2 _)⟩
end Go.Proofs.YtbdkkkpgjcfdgaaDoor
