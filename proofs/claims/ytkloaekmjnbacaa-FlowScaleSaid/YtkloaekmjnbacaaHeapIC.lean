/-
  The heap of int: the top dropped, one thing pushed. Conditions: at most a million things; the row is a heap.
-/
import Derived.Test.YtkloaekmjnbacaaHeapIB
import Derived.Test.YtkloaekmjnbacaaHeapStep
namespace Go.Proofs.Ytkloaekmjnbacaa.HI
open Go.RowKit Go.Proofs.Ytkloaekmjnbacaa.HeapM
variable {fn : Nat} {lt : Int → Int → Bool}

/-- A heap at p that holds the things of L, in the order of pushing; c were pushed. -/
def Is (lt : Int → Int → Bool) (fn p : Nat) (w : World) (v : Value) (L : List Int) (c : Int) : Prop :=
  ∃ l, HeapMem w 127 129 2 p (.func (.func fn) #[] #[]) v l.length (l.flatMap enc) c ∧ St lt l L c
def Foot (p : Nat) (v : Value) (b : Nat) : Prop := b = p ∨ v.ownBlock = some b

theorem riseZ (hL : LessAt fn lt) {T E p g n cap : Nat} {l : List (Int × Int)} {c : Int} {w : World} (h : HeapMem w T E 2 p (.func (.func fn) #[] #[]) (.slice (some ⟨g, 0, none⟩) n cap) l.length (l.flatMap enc) c)
    (hn : n = l.length) (hs : n ≤ 1000000) (j : Int) (i : Nat) (ej : j = i) (hi : i < n) (hR : HpR lt l i) :
    Calls Try.prog 73 #[.pointer (some ⟨p, 0, none⟩), .int .i64 j] w (Done lt fn T E p g n cap l c w) := by
  subst ej
  exact rise hL T E p g n cap i l c w h hn hs hi hR
theorem sinkZ (hL : LessAt fn lt) {T E p g n cap : Nat} {l : List (Int × Int)} {c : Int} {w : World} (h : HeapMem w T E 2 p (.func (.func fn) #[] #[]) (.slice (some ⟨g, 0, none⟩) n cap) l.length (l.flatMap enc) c)
    (hn : n = l.length) (hs : n ≤ 1000000) (hR : HpS lt l 0) :
    Calls Try.prog 95 #[.pointer (some ⟨p, 0, none⟩), .int .i64 0] w (Done lt fn T E p g n cap l c w) :=
  sink hL T E p g n cap 0 l c w h hn hs (by omega) hR

theorem infoE : (Try.prog.info? 129).map (fun i => (i.zero, i.size, i.bytes)) = some (some (.agg #[.int .i64 0, .int .i64 0]), 2, 16) := by kernel_rfl
theorem zeroE (w : World) : (zeroValue 129).run Try.prog w = .ok (.agg #[.int .i64 0, .int .i64 0]) w := by kernel_rfl

/-- What dropTop leaves. -/
def Dropped (lt : Int → Int → Bool) (fn p g m cap : Nat) (l : List (Int × Int)) (c : Int) (w : World) (e : Ending) (w' : World) : Prop :=
  e = .returned (.tuple #[]) ∧ ∃ l', l'.Perm l.tail ∧ Hp lt l' ∧ m = l'.length ∧ HeapMem w' 127 129 2 p (.func (.func fn) #[] #[]) (.slice (some ⟨g, 0, none⟩) m cap) l'.length (l'.flatMap enc) c ∧ Out (fun b => b = p ∨ b = g) w w'

theorem shorter {w : World} {T E p g n m cap : Nat} {f : Value} {xs : List Value} {c : Int} (h : HeapMem w T E 2 p f (.slice (some ⟨g, 0, none⟩) n cap) n xs c) (hm : m ≤ n) : HeapMem (w.setCell ⟨p, 1, none⟩ (.slice (some ⟨g, 0, none⟩) m cap)) T E 2 p f (.slice (some ⟨g, 0, none⟩) m cap) m (xs.take (m * 2)) c :=
  HeapMem.rowed h.blk (ownsRow_shorter h.row hm) h.apart
theorem zeros_len : ([.int .i64 0, .int .i64 0] : List Value).length = 2 := rfl

set_option maxHeartbeats 2000000 in
set_option maxRecDepth 100000 in
theorem dropTop (hL : LessAt fn lt) (p g m cap : Nat) (l : List (Int × Int)) (c : Int) (w : World) (h : HeapMem w 127 129 2 p (.func (.func fn) #[] #[]) (.slice (some ⟨g, 0, none⟩) (m + 1) cap) l.length (l.flatMap enc) c)
    (hn : m + 1 = l.length) (hs : m + 1 ≤ 1000000) (hH : Hp lt l) :
    Calls Try.prog 75 #[.pointer (some ⟨p, 0, none⟩)] w (Dropped lt fn p g m cap l c w) := by
  have HL := Lib.hid hL
  have HN := Lib.hid hn
  have HH := Lib.hid hH
  have hps := h.lt
  have hgs := (h.row.lt g rfl).2
  have hpg : g ≠ p := fun e => h.apart (by subst e; rfl)
  have h1 := h.c1
  have f1 := h.fr 1
  obtain ⟨_, cap', hv, hcap, hcm, _⟩ := h.form (by omega)
  simp only [Value.slice.injEq, Option.some.injEq, Addr.mk.injEq, and_true] at hv
  obtain ⟨rfl, hbad, rfl⟩ := hv
  clear hbad
  have hcap1 : m + 1 ≤ cap := by omega
  have hcap2 : ¬ cap = m := by omega
  have hcap3 : m ≤ cap := by omega
  clear hcap
  unfold maxLen at hcm
  have H : Hid (HeapMem w 127 129 2 p (.func (.func fn) #[] #[]) (.slice (some ⟨g, 0, none⟩) (m + 1) cap) (m + 1) (l.flatMap enc) c) := by
    show HeapMem _ _ _ _ _ _ _ _ _ _
    rw [hn]; rw [hn] at h; exact h
  have hA := Lib.hid (cells_at h hn 0 (by omega))
  have hB := Lib.hid (cells_at h hn m (by omega))
  have HY : Hid (at_ l (l.length - 1) = at_ l m) := by show _ = _; rw [← hn]; rfl
  have hmk : m * 2 + 2 ≤ (m + 1) * 2 := by omega
  have hsink := Lib.hid (drop_sink (lt := lt) hH)
  have hperm := Lib.hid (drop_perm l (by omega))
  clear h hn hH hL
  generalize at_ l 0 = x at *
  generalize hy : at_ l m = y at *
  have hy' := Lib.hid hy
  clear hy
  have a0 : w.cell? ⟨g, 0, none⟩ = some (.int .i64 x.1) := by have := hA.out 0 (by omega); rw [Nat.zero_mul, Nat.zero_add] at this; exact this
  have fa0 := H.out.frz (0)
  have a1 : w.cell? ⟨g, 1, none⟩ = some (.int .i64 x.2) := by have := hA.out 1 (by omega); rw [Nat.zero_mul, Nat.zero_add] at this; exact this
  have fa1 := H.out.frz (1)
  have b0 : w.cell? ⟨g, m * 2, none⟩ = some (.int .i64 y.1) := hB.out 0 (by omega)
  have b1 : w.cell? ⟨g, m * 2 + 1, none⟩ = some (.int .i64 y.2) := hB.out 1 (by omega)
  clear hA hB
  -- the world behind the copy, and behind the clearing
  have M3 := Lib.hid (((H.out.stored 0 (.int .i64 y.1)).stored 1 (.int .i64 y.2))).drew
  have hclr := run_clear_one (P := Try.prog) _ 125 129 0 (.agg #[.int .i64 0, .int .i64 0]) [.int .i64 0, .int .i64 0] Try.underlying125 zeroE (by kernel_rfl) (by simp [Value.oneCell']) g (m * 2) (cap - m)
    (fun j hj => by rw [M3.out.cell (m * 2 + j) (by rw [zeros_len] at hj; omega)]; rfl) (fun j _ => M3.out.frz _)
  simp only [World.setCells, World.setCell_drew] at hclr
  clear hmk
  go_enter Try.func75, Try.ntmps75
  go_wp2
  go_region
  have M5 : Hid (HeapMem (((((w.setCell ⟨g, 0, none⟩ (.int .i64 y.1)).setCell ⟨g, 1, none⟩ (.int .i64 y.2)).setCell ⟨g, m * 2, none⟩ (.int .i64 0)).setCell ⟨g, m * 2 + 1, none⟩ (.int .i64 0)).setCell ⟨p, 1, none⟩ (.slice (some ⟨g, 0, none⟩) m cap)).drew 127 129 2 p (.func (.func fn) #[] #[]) (.slice (some ⟨g, 0, none⟩) m cap) ((l.set 0 (at_ l (l.length - 1))).take (l.length - 1)).length (((l.set 0 (at_ l (l.length - 1))).take (l.length - 1)).flatMap enc) c) := by
    have M4 := shorter (m := m) (((((H.out.stored (0) (.int .i64 y.1)).stored (1) (.int .i64 y.2)).stored (m * 2) (.int .i64 0)).stored (m * 2 + 1) (.int .i64 0))) (by omega)
    have hl1 : ((l.set 0 (at_ l (l.length - 1))).take (l.length - 1)).length = m := by have := HN.out; simp; omega
    have hl2 : l.length - 1 = m := by have := HN.out; omega
    have hx : ((l.set 0 (at_ l (l.length - 1))).take (l.length - 1)).flatMap enc = ((((((l.flatMap enc).set (0) (.int .i64 y.1)).set (1) (.int .i64 y.2)).set (m * 2) (.int .i64 0)).set (m * 2 + 1) (.int .i64 0)).take (m * 2)) := by
      have hX : ((((((l.flatMap enc).set (0) (.int .i64 y.1)).set (1) (.int .i64 y.2)).set (m * 2) (.int .i64 0)).set (m * 2 + 1) (.int .i64 0)).take (m * 2)) = (((l.flatMap enc).set (0) (.int .i64 y.1)).set (1) (.int .i64 y.2)).take (m * 2) := by rw [List.take_set_of_le (by omega), List.take_set_of_le (by omega)]
      rw [hX, hl2, ← flat_take enc enc_len, ← flat_set enc enc_len l 0 (by have := HN.out; omega)]
      rw [← hl2, HY.out, hl2]
      rfl
    rw [hl1, hx]
    exact M4.drew
  all_goals
    go_wp2_with (go_at_call 95; refine (sinkZ HL.out M5.out (by have := HN.out; simp; omega) (by omega) hsink.out).mono ?_; rintro e w9 ⟨rfl, l', R9, hp9⟩)
    go_end0
    refine ⟨rfl, l', R9.perm.trans hperm.out, hp9, R9.len, R9.mem, ?_⟩
    refine Out.trans ?_ R9.out (fun _ _ e => Or.inr e)
    refine Out.drew ?_
    exact Out.setCell (Out.setCell (Out.setCell (Out.setCell (Out.setCell (Out.refl _ _) (fun _ => Or.inr rfl) _) (fun _ => Or.inr rfl) _) (fun _ => Or.inr rfl) _) (fun _ => Or.inr rfl) _) (fun _ => Or.inl rfl) _
end Go.Proofs.Ytkloaekmjnbacaa.HI
