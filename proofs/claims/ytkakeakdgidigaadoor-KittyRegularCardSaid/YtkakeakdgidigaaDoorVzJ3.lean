/-
  The reference: what its Far and its Parts answer. Conditions: cells that may be, at most 100000.
  The reference's Parts: what it answers. Conditions: cells that may be, at most 100000.
-/
import Derived.Test.YtkakeakdgidigaaDoorVzJ2
namespace Go.Proofs.YtkakeakdgidigaaDoor
open Go.RowKit Go.Proofs.YtkakeakdgidigaaDoor.GrM Go.Proofs.YtkakeakdgidigaaDoor.JoM

theorem FarAt.ofMade (w : World) (N : Nat) (hN : N ≤ 1000000) : FarAt (w.alloc (.cells (madeCells #[.int .i64 0] N) 3)) w.heap.size w.heap.size N (fun _ => 0) := by
  have h := ownZ_made w N hN
  have e : ((List.range N).map fun _ => (0 : Int)) = List.replicate N 0 := by rw [List.map_const', List.length_range]
  unfold FarAt
  rw [e]; exact h
def FarP (L : List Int) (n s : Nat) (w : World) (e : Ending) (w' : World) : Prop :=
  ∃ g, e = .returned (.slice (some ⟨g, 0, none⟩) n n) ∧ FarAt w' w.heap.size g n (farI L s) ∧ Below w.heap.size w w'
def Fr0 (n : Nat) (w0 : World) (iv : Value) (wr : World) : Prop :=
  ∃ i : Nat, iv = .int .i64 i ∧ i ≤ n ∧ FarAt wr w0.heap.size w0.heap.size n (fun u => if u < i then -1 else 0) ∧ Below w0.heap.size w0 wr
def Fr1 (L : List Int) (n s : Nat) (w0 : World) (rv : Value) (wr : World) : Prop :=
  ∃ (r : Nat) (X : Nat → Int), rv = .int .i64 r ∧ r ≤ n ∧ Fr L n s X r 0 0 ∧ FarAt wr w0.heap.size w0.heap.size n X ∧ Below w0.heap.size w0 wr
def Fr2 (L : List Int) (n s r : Nat) (w0 : World) (iv : Value) (wr : World) : Prop :=
  ∃ (i : Nat) (X : Nat → Int), iv = .int .i64 i ∧ i ≤ n ∧ Fr L n s X r i 0 ∧ FarAt wr w0.heap.size w0.heap.size n X ∧ Below w0.heap.size w0 wr
def Fr3 (L : List Int) (n s r i : Nat) (w0 : World) (dv : Value) (wr : World) : Prop :=
  ∃ (d : Nat) (X : Nat → Int), dv = .int .i64 d ∧ d ≤ 4 ∧ Fr L n s X r i d ∧ FarAt wr w0.heap.size w0.heap.size n X ∧ Below w0.heap.size w0 wr
theorem FarAt.stored {w0 w : World} {n u : Nat} {X : Nat → Int} (x : Int) (h : FarAt w w0.heap.size w0.heap.size n X) (b : Below w0.heap.size w0 w) :
    FarAt (w.setCell ⟨w0.heap.size, u, none⟩ (.int .i64 x)) w0.heap.size w0.heap.size n (updF X u x) ∧ Below w0.heap.size w0 (w.setCell ⟨w0.heap.size, u, none⟩ (.int .i64 x)) :=
  ⟨h.set u x, b.trans (((Out.refl (fun b => b = w0.heap.size) w).setIn u _).below b.size (fun i _ e => by subst e; exact Nat.le_refl _))⟩
set_option maxHeartbeats 8000000 in
set_option maxRecDepth 100000 in
theorem refFar (lv : Value) (L : List Int) (n s : Nat) (w : World) (hL : CelAt w lv L n) (hn : n ≤ 100000) (hg : GoodG L n) (hs : s < n) :
    Calls Tryd.prog 41 #[lv, .int .i64 s] w (FarP L n s w) := by
  have hmk := mkInts12 n (by omega)
  have HL := Lib.hid hL
  have HG := Lib.hid hg
  obtain ⟨A0, c0, e⟩ := hL.form
  subst e
  clear hL hg
  go_enter Tryd.func41, Tryd.ntmps41
  go_upto_region 2 with fail
  have FM := Lib.hid (FarAt.ofMade w n (by omega))
  have BM : Hid (Below w.heap.size w (w.alloc (.cells (madeCells #[.int .i64 0] n) 3))) := Lib.hid ((Below.refl _ _).alloc (Nat.le_refl _) _)
  obtain ⟨w1, hw1⟩ : ∃ X, X = (w.alloc (.cells (madeCells #[.int .i64 0] n) 3)) := ⟨_, rfl⟩
  rw [← hw1] at FM BM ⊢
  clear hw1 hmk
  go_wp2_with fail
  go_loopw [6] (fun iv wr => Fr0 n w iv wr) (fun iv _ => n - (intOf iv).toNat)
  case atStart => exact ⟨0, rfl, Nat.zero_le _, FM.out.congr (fun u _ => by rw [if_neg (by omega)]), BM.out⟩
  case round =>
    clear FM BM
    obtain ⟨i, rfl, hi, hF, hB⟩ := hrel
    have FA := Lib.hid hF
    have BB := Lib.hid hB
    have hgr := hF.lt.2
    clear hB
    by_cases hlt : i < n
    · have q0 : decide (i < n) = true := decide_eq_true hlt
      have fc := hF.cell hlt
      have ff := hF.fr i
      have NX := Lib.hid (hF.stored (u := i) (-1) BB.out)
      clear hF
      go_wp2_with fail
      go_roundw
      case rel => exact ⟨i + 1, by go_num, by omega, NX.out.1.congr (fun u _ => by
        by_cases c : u = i
        · subst c; rw [upd_at, if_pos (by omega)]
        · rw [upd_ne _ c]
          by_cases c2 : u < i
          · rw [if_pos c2, if_pos (by omega)]
          · rw [if_neg c2, if_neg (by omega)]), NX.out.2⟩
      case measure => (simp [intOf] <;> omega)
    · have hin : i = n := by omega
      have q0 : decide (i < n) = false := decide_eq_false hlt
      subst hin
      have FB := Lib.hid (hF.congr (G := fun _ => -1) (fun u hu => by rw [if_pos hu]))
      have fc := hF.cell hs
      have ff := hF.fr s
      have NX := Lib.hid (FB.out.stored (u := s) 0 BB.out)
      clear hF FA
      go_upto_region 7 with fail
      obtain ⟨w2, hw2⟩ : ∃ X, X = wr.setCell ⟨w.heap.size, s, none⟩ (.int .i64 0) := ⟨_, rfl⟩
      rw [← hw2] at NX ⊢
      clear hw2 fc ff q0
      go_wp2_with fail
      go_loopw [7] (fun rv wr => Fr1 L i s w rv wr) (fun rv _ => i - (intOf rv).toNat)
      case atStart => exact ⟨0, _, rfl, Nat.zero_le _, Fr.start hs, NX.out.1, NX.out.2⟩
      case round =>
        clear NX FB BB hgr
        obtain ⟨r, X, rfl, hr, hfr, hF, hB⟩ := hrel
        have FR := Lib.hid hfr
        have FA := Lib.hid hF
        have BB := Lib.hid hB
        have hgr := hF.lt.2
        clear hfr hF hB
        by_cases hlt2 : r < i
        · have q0 : decide (r < i) = true := decide_eq_true hlt2
          go_upto_region 11 with fail
          clear q0
          go_loopw [8] (fun iv wr => Fr2 L i s r w iv wr) (fun iv _ => i - (intOf iv).toNat)
          case atStart => exact ⟨0, X, rfl, Nat.zero_le _, FR.out, FA.out, BB.out⟩
          case round =>
            clear FR FA BB hgr
            obtain ⟨k, X, rfl, hk, hfr, hF, hB⟩ := hrel
            have FR := Lib.hid hfr
            have FA := Lib.hid hF
            have BB := Lib.hid hB
            have hgr := hF.lt.2
            clear hfr hF hB
            by_cases hlt3 : k < i
            · have q0 : decide (k < i) = true := decide_eq_true hlt3
              go_upto_region 14 with fail
              clear q0
              go_loopw [9] (fun dv wr => Fr3 L i s r k w dv wr) (fun dv _ => 4 - (intOf dv).toNat)
              case atStart => exact ⟨0, X, rfl, Nat.zero_le _, FR.out, FA.out, BB.out⟩
              case round =>
                clear FR FA BB hgr
                obtain ⟨d, X, rfl, hd, hfr, hF, hB⟩ := hrel
                have FR := Lib.hid hfr
                have FA := Lib.hid hF
                have BB := Lib.hid hB
                have hgr := hF.lt.2
                clear hfr hF hB
                by_cases hd4 : d < 4
                · have q1 : decide (d < 4) = true := decide_eq_true hd4
                  have q2 : decide ((d : Int) < 4) = true := decide_eq_true (by omega)
                  obtain ⟨b, o9, c', e, hb, hx, -⟩ := (HL.out.below BB.out (Nat.le_refl _)).nth hlt3
                  simp only [Value.slice.injEq, true_and] at e
                  obtain ⟨rfl, rfl⟩ := e
                  have f0 := hx d hd4
                  have fk := FA.out.cell hlt3
                  have is := FR.out.is hlt3
                  have hs2 := HG.out.side hlt3 hd4
                  by_cases hxr : X k = r
                  · have hf := is.1 hxr
                    rw [hxr] at fk
                    have r1 : ((r : Int) == (r : Int)) = true := by simp
                    by_cases hz : nxG L k d = -1
                    · rw [hz] at f0
                      have SK := Lib.hid (FR.out.skip (fun u _ hu _ _ => by omega))
                      clear hx is hs2 hxr hf hz
                      go_wp2_with fail
                      go_roundw
                      case rel => exact ⟨d + 1, X, by go_num, by omega, SK.out, FA.out, BB.out⟩
                      case measure => (simp [intOf] <;> omega)
                    · obtain ⟨u, hu⟩ : ∃ u : Nat, nxG L k d = u := by
                        rcases hs2 with h | h
                        · exact absurd h.1 hz
                        · exact ⟨(nxG L k d).toNat, by omega⟩
                      have hun := (next_lt HG.out hlt3 hd4 hu).1
                      rw [hu] at f0
                      have fu := FA.out.cell hun
                      have hmx : max (u : Int) 0 = (u : Int) := by omega
                      have q3 : decide (0 ≤ (u : Int)) = true := decide_eq_true (by omega)
                      by_cases hl : X u < 0
                      · have ff := FA.out.fr u
                        obtain ⟨-, NX⟩ := FR.out.next HG.out hlt3 hd4 hu hf hl
                        have q4 : decide (X u < 0) = true := decide_eq_true hl
                        generalize X u = xu at fu q4 hl
                        have NXH := Lib.hid NX
                        have ST := Lib.hid (FA.out.stored (u := u) ((r : Int) + 1) BB.out)
                        have hri : r < 100000 := by omega
                        clear hx is hs2 hxr hf hz hu NX hl
                        go_wp2_with fail
                        go_roundw
                        case rel => exact ⟨d + 1, _, by go_num, by omega, NXH.out, ST.out.1, ST.out.2⟩
                        case measure => (simp [intOf] <;> omega)
                      · have q4 : decide (X u < 0) = false := decide_eq_false hl
                        have SK := Lib.hid (FR.out.skip (fun x hxn hx2 _ hfx => by
                          obtain rfl : u = x := by omega
                          rcases FR.out.val u hxn with e | e
                          · omega
                          · exact e))
                        generalize X u = xu at fu q4 hl
                        clear hx is hs2 hxr hf hz hu hl
                        go_wp2_with fail
                        go_roundw
                        case rel => exact ⟨d + 1, X, by go_num, by omega, SK.out, FA.out, BB.out⟩
                        case measure => (simp [intOf] <;> omega)
                  · have SK := Lib.hid (FR.out.skip (fun u _ _ hf _ => absurd (is.2 hf) hxr))
                    have r1 : (X k == (r : Int)) = false := by rw [beq_eq_false_iff_ne]; exact hxr
                    generalize X k = xk at fk r1 hxr
                    generalize nxG L k d = z at f0
                    clear hx is hs2 hxr
                    go_wp2_with fail
                    go_roundw
                    case rel => exact ⟨d + 1, X, by go_num, by omega, SK.out, FA.out, BB.out⟩
                    case measure => (simp [intOf] <;> omega)
                · have hd5 : d = 4 := by omega
                  subst hd5
                  have q1 : decide (4 < 4) = false := by decide
                  go_wp2_with fail
                  go_roundw
                  case rel => exact ⟨k + 1, X, by go_num, by omega, FR.out.cell, FA.out, BB.out⟩
                  case measure => (simp [intOf] <;> omega)
            · have hki : k = i := by omega
              have q0 : decide (k < i) = false := decide_eq_false hlt3
              subst hki
              go_wp2_with fail
              go_roundw
              case rel => exact ⟨r + 1, X, by go_num, by omega, FR.out.round HG.out hs, FA.out, BB.out⟩
              case measure => (simp [intOf] <;> omega)
        · have hri : r = i := by omega
          have q0 : decide (r < i) = false := decide_eq_false hlt2
          subst hri
          go_wp2_with fail
          go_ret
          exact ⟨_, rfl, FA.out.congr (fun u hu => FR.out.end_ HG.out hs rfl hu), BB.out⟩
end Go.Proofs.YtkakeakdgidigaaDoor

namespace Go.Proofs.YtkakeakdgidigaaDoor
open Go.RowKit Go.Proofs.YtkakeakdgidigaaDoor.GrM Go.Proofs.YtkakeakdgidigaaDoor.JoM

/-- Does a cell hang together with one of the first so many? -/
noncomputable def metB (L : List Int) (v u : Nat) : Bool := @decide (∃ a, a < v ∧ Con L a u) (Classical.propDecidable _)
theorem metB_iff {L : List Int} {v u : Nat} : metB L v u = true ↔ ∃ a, a < v ∧ Con L a u := by unfold metB; simp
theorem metB_old (L : List Int) (v : Nat) : metB L v v = oldB L v := by rw [Bool.eq_iff_iff, metB_iff, oldB_iff]
theorem metB_zero (L : List Int) (u : Nat) : metB L 0 u = false := by
  rw [Bool.eq_false_iff]
  intro h
  obtain ⟨a, h, _⟩ := metB_iff.1 h
  omega
theorem metB_skip {L : List Int} {v : Nat} (ho : oldB L v = true) (u : Nat) : metB L (v + 1) u = metB L v u := by
  obtain ⟨b, hb, hc⟩ := oldB_iff.1 ho
  rw [Bool.eq_iff_iff, metB_iff, metB_iff]
  constructor
  · rintro ⟨a, ha, hu⟩
    by_cases e : a = v
    · subst e; exact ⟨b, hb, hc.trans hu⟩
    · exact ⟨a, by omega, hu⟩
  · rintro ⟨a, ha, hu⟩; exact ⟨a, by omega, hu⟩
theorem metB_more (L : List Int) (v u : Nat) : metB L (v + 1) u = (metB L v u || conB L v u) := by
  rw [Bool.eq_iff_iff, Bool.or_eq_true, metB_iff, metB_iff, conB_iff]
  constructor
  · rintro ⟨a, ha, hu⟩
    by_cases e : a = v
    · subst e; exact Or.inr hu
    · exact Or.inl ⟨a, by omega, hu⟩
  · rintro (⟨a, ha, hu⟩ | hu)
    · exact ⟨a, by omega, hu⟩
    · exact ⟨v, by omega, hu⟩
/-- A bool of each cell, in a row of the call's own. -/
def InAt (w : World) (B g n : Nat) (I : Nat → Bool) : Prop := w.ownsRow B 4 1 (.slice (some ⟨g, 0, none⟩) n n) n ((List.range n).map fun u => Value.bool (I u))
section
variable {w w' : World} {B C g n : Nat} {I : Nat → Bool}
theorem InAt.lt (h : InAt w B g n I) : B ≤ g ∧ g < w.heap.size := World.ownsRow.lt h g rfl
theorem InAt.cell (h : InAt w B g n I) {u : Nat} (hu : u < n) : w.cell? ⟨g, u, none⟩ = some (.bool (I u)) := by
  rw [World.ownsRow.cellAt h u (by simpa using hu)]
  simp [hu]
theorem InAt.fr (h : InAt w B g n I) (u : Nat) : w.frozen? ⟨g, u, none⟩ = false := World.ownsRow.frozenAt h u
theorem InAt.below (h : InAt w B g n I) (o : Below C w w') (hC : w.heap.size ≤ C) : InAt w' B g n I := row_below12 h o hC
theorem InAt.out {S : Nat → Prop} (h : InAt w B g n I) (o : Out S w w') (hS : ¬ S g) : InAt w' B g n I := ownsRow_out h o (fun b hb => by
  have : g = b := by simpa [Value.ownBlock] using hb
  subst this; exact hS)
theorem InAt.congr {J : Nat → Bool} (h : InAt w B g n I) (e : ∀ u, u < n → I u = J u) : InAt w B g n J := by
  unfold InAt at *
  rw [List.map_congr_left (g := fun u => Value.bool (I u)) (fun u hu => by rw [e u (List.mem_range.1 hu)])]
  exact h
theorem InAt.set (h : InAt w B g n I) (u : Nat) (x : Bool) : InAt (w.setCell ⟨g, u, none⟩ (.bool x)) B g n (fun j => if j = u then x else I j) := by
  have := (World.ownsRow.stored h u (.bool x)).1
  have e : ((List.range n).map fun j => Value.bool (if j = u then x else I j)) = ((List.range n).map fun j => Value.bool (I j)).set u (.bool x) := by
    apply List.ext_getElem?
    intro j
    rw [List.getElem?_set, List.getElem?_map, List.getElem?_map]
    by_cases hj : j < n
    · rw [List.getElem?_range hj]
      by_cases c : u = j
      · subst c; simp [hj]
      · rw [if_neg c]; simp; intro e; exact absurd e.symm c
    · rw [List.getElem?_eq_none (by simpa using hj)]
      by_cases c : u = j
      · subst c; simp [hj]
      · rw [if_neg c]; rfl
  unfold InAt
  rw [e]
  exact this
end
theorem infoBool13 : (Tryd.prog.info? 4).map (fun i => (i.zero, i.size, i.bytes)) = some (some (.bool false), 1, 1) := by kernel_rfl
theorem mkBools13 (N : Nat) (hN : N ≤ 1000000) (w : World) : (Instr.makeSlice 70 (.int .i64 (N : Int)) (.int .i64 (N : Int))).run Tryd.prog w = .ok (.slice (some ⟨w.heap.size, 0, none⟩) N N) (w.alloc (.cells (madeCells #[.bool false] N) 4)) := by
  obtain ⟨i, hi, hz, hs, hb⟩ := info_parts infoBool13
  have h := run_make (P := Tryd.prog) w 70 4 i (.bool false) Tryd.underlying70 hi hz .i64 .i64 (N : Int) (N : Int) (by omega) (by omega) (by rw [hb]; omega) (by omega)
  rw [hs, Nat.mul_one] at h
  simp only [Int.toNat_natCast] at h
  exact h
theorem InAt.ofMade (w : World) (N : Nat) (hN : N ≤ 1000000) : InAt (w.alloc (.cells (madeCells #[.bool false] N) 4)) w.heap.size w.heap.size N (fun _ => false) := by
  refine ⟨by simp, Or.inr ⟨w.heap.size, N, _, rfl, Nat.le_refl _, heap_alloc_new w _, Nat.le_refl _, by unfold maxLen; omega, by simp [size_madeCells], ?_⟩⟩
  rw [toList_madeCells_one, List.map_const', List.length_range]
  simp
def RPartsP (L : List Int) (n : Nat) (w : World) (e : Ending) (w' : World) : Prop :=
  ∃ (A : Option Addr) (c m : Nat), e = .returned (.slice A m c) ∧ (partsK L n n).length = m ∧ OwnRs w' w.heap.size (.slice A m c) (castP (partsK L n n)) m ∧ Below w.heap.size w w'
def RpR (L : List Int) (n : Nat) (w0 : World) (ov iv : Value) (wr : World) : Prop :=
  ∃ v : Nat, iv = .int .i64 v ∧ v ≤ n ∧ InAt wr w0.heap.size w0.heap.size n (metB L v) ∧ OwnRs wr (w0.heap.size + 1) ov (castP (partsK L n v)) (partsK L n v).length ∧ Below w0.heap.size w0 wr
/-- The first so many of all that hang together with a cell. -/
noncomputable def preL (L : List Int) (v k : Nat) : List Nat := (List.range k).filter (conB L v)
theorem preL_more (L : List Int) (v k : Nat) : preL L v (k + 1) = if conB L v k = true then preL L v k ++ [k] else preL L v k := by
  unfold preL
  rw [List.range_succ, List.filter_append]
  by_cases c : conB L v k = true
  · rw [if_pos c, List.filter_cons_of_pos c, List.filter_nil]
  · rw [if_neg c, List.filter_cons_of_neg c, List.filter_nil, List.append_nil]
theorem preL_len (L : List Int) (v k : Nat) : (preL L v k).length ≤ k := Nat.le_trans (List.length_filter_le _ _) (by simp)
def RpI (L : List Int) (n v : Nat) (w0 w1 : World) (pv kv : Value) (wr : World) : Prop :=
  ∃ k : Nat, kv = .int .i64 k ∧ k ≤ n ∧ InAt wr w0.heap.size w0.heap.size n (fun u => metB L v u || (decide (u < k) && conB L v u)) ∧ OwnZ wr w1.heap.size pv (castN (preL L v k)) (preL L v k).length ∧ Out (fun b => b = w0.heap.size) w1 wr
theorem far_ge {L : List Int} {v u : Nat} : 0 ≤ farI L v u ↔ conB L v u = true := by
  rw [conB_iff]
  have := far_neg (L := L) (v := v) (w := u)
  constructor
  · intro h
    apply Classical.byContradiction
    intro c
    have := this.2 c
    omega
  · intro h
    apply Classical.byContradiction
    intro c
    exact this.1 (by omega) h
set_option maxHeartbeats 8000000 in
set_option maxRecDepth 100000 in
theorem refParts (lv : Value) (L : List Int) (n : Nat) (w : World) (hL : CelAt w lv L n) (hn : n ≤ 100000) (hg : GoodG L n) :
    Calls Tryd.prog 21 #[lv] w (RPartsP L n w) := by
  obtain ⟨i0, hi, hz0, hz1, hz2⟩ := info_parts infoR13
  obtain ⟨j0, hj, hy0, hy1, hy2⟩ := info_parts infoInt12
  have hmk := mkBools13 n (by omega)
  have HL := Lib.hid hL
  have HG := Lib.hid hg
  obtain ⟨A0, c0, e⟩ := hL.form
  subst e
  clear hL hg
  go_enter Tryd.func21, Tryd.ntmps21
  go_upto_region 2 with fail
  have FM := Lib.hid (InAt.ofMade w n (by omega))
  have BM : Hid (Below w.heap.size w (w.alloc (.cells (madeCells #[.bool false] n) 4))) := Lib.hid ((Below.refl _ _).alloc (Nat.le_refl _) _)
  obtain ⟨w1, hw1⟩ : ∃ X, X = (w.alloc (.cells (madeCells #[.bool false] n) 4)) := ⟨_, rfl⟩
  rw [← hw1] at FM BM ⊢
  clear hw1 hmk
  go_wp2_with fail
  go_loopw [4, 5] (fun ov iv wr => RpR L n w ov iv wr) (fun _ iv _ => n - (intOf iv).toNat)
  case atStart => exact ⟨0, rfl, Nat.zero_le _, FM.out.congr (fun u _ => (metB_zero L u).symm), OwnRs.nil _ _, BM.out⟩
  case round =>
    clear FM BM
    obtain ⟨v, rfl, hv, hI, hR, hB⟩ := hrel
    obtain ⟨wo, hwo⟩ : ∃ W, W = wr := ⟨_, rfl⟩
    subst hwo
    have IN := Lib.hid hI
    have RR := Lib.hid hR
    have BB := Lib.hid hB
    obtain ⟨ao, co, e⟩ := hR.form
    subst e
    have hgr := hI.lt.2
    have hpl := parts_len L n v
    obtain ⟨p, hp⟩ : ∃ p, partsK L n v = p := ⟨_, rfl⟩
    have HP := Lib.hid hp
    rw [hp] at RR hpl ⊢
    obtain ⟨m, hm⟩ : ∃ m, p.length = m := ⟨_, rfl⟩
    have HM := Lib.hid hm
    rw [hm] at RR hpl ⊢
    clear hI hR hB hp hm
    by_cases hlt : v < n
    · have q0 : decide (v < n) = true := decide_eq_true hlt
      have fi := IN.out.cell hlt
      rw [metB_old] at fi
      by_cases ho : oldB L v = true
      · rw [ho] at fi
        have HO := Lib.hid ho
        clear ho
        go_wp2_with fail
        go_roundw
        case rel => exact ⟨v + 1, by go_num, by omega, IN.out.congr (fun u _ => (metB_skip HO.out u).symm), by rw [parts_skip HO.out, HP.out, HM.out]; exact RR.out, BB.out⟩
        case measure => (simp [intOf] <;> omega)
      · have ho2 : oldB L v = false := by simpa using ho
        rw [ho2] at fi
        have FD := Lib.hid (refFar _ L n v wo (HL.out.below BB.out (Nat.le_refl _)) hn HG.out hlt)
        have HO := Lib.hid ho
        clear ho ho2
        go_upto_region 8 with (go_at_call 41; refine FD.out.mono ?_; rintro e w3 ⟨g3, rfl, f3, b3⟩; have F3 := Lib.hid f3; have B3 := Lib.hid b3; clear f3 b3)
        have hg3 := F3.out.lt
        have hw3 := B3.out.size
        have IN3 := Lib.hid (IN.out.below B3.out (Nat.le_refl _))
        clear FD fi q0
        go_wp2_with fail
        go_loopw [7, 8] (fun pv kv wr => RpI L n v w w3 pv kv wr) (fun _ kv _ => n - (intOf kv).toNat)
        case atStart => exact ⟨0, rfl, Nat.zero_le _, IN3.out.congr (fun u _ => by simp), World.ownsRow_nil _ _ _ _, Out.refl _ _⟩
        case round =>
          clear IN3
          obtain ⟨k, rfl, hk, hI, hZ, hO⟩ := hrel
          have II := Lib.hid hI
          have OZ := Lib.hid hZ
          have OU := Lib.hid hO
          obtain ⟨ap, cp, e⟩ := row_form12 hZ
          subst e
          have hgi := hI.lt.2
          have hws := hO.size
          have hql := preL_len L v k
          have HPL := Lib.hid (preL_more L v k)
          obtain ⟨q, hq⟩ : ∃ q, preL L v k = q := ⟨_, rfl⟩
          have HQ := Lib.hid hq
          rw [hq] at OZ hql HPL ⊢
          obtain ⟨mq, hmq⟩ : ∃ m, q.length = m := ⟨_, rfl⟩
          have HMQ := Lib.hid hmq
          rw [hmq] at OZ hql ⊢
          clear hI hZ hO hq hmq
          by_cases hlk : k < n
          · have q0 : decide (k < n) = true := decide_eq_true hlk
            have hne : ¬ g3 = w.heap.size := by have := BB.out.size; have := hg3.1; omega
            have fk := (F3.out.out OU.out hne).cell hlk
            have fgl := (F3.out.out OU.out hne).lt.2
            have fge := far_ge (L := L) (v := v) (u := k)
            by_cases hc : conB L v k = true
            · have q1 : decide (0 ≤ farI L v k) = true := decide_eq_true (fge.2 hc)
              generalize farI L v k = x at fk q1 fge
              have ff := II.out.fr k
              have fc := II.out.cell hlk
              rw [if_pos hc] at HPL
              have I4 := Lib.hid (II.out.set k true)
              have HC := Lib.hid hc
              have hbo := BB.out.size
              clear fge hc
              go_upto_region 14 with fail
              have ow : Out (fun b => b = w.heap.size) wr (wr.setCell ⟨w.heap.size, k, none⟩ (.bool true)) := (Out.refl _ _).setIn k _
              have O4 : Hid (Out (fun b => b = w.heap.size) w3 (wr.setCell ⟨w.heap.size, k, none⟩ (.bool true))) := Lib.hid (OU.out.setIn k _)
              have Z4 : Hid (OwnZ (wr.setCell ⟨w.heap.size, k, none⟩ (.bool true)) w3.heap.size (.slice ap mq cp) (castN q) mq) := Lib.hid (ownsRow_out OZ.out ow (fun b hb e => by have := (World.ownsRow.lt OZ.out b hb).1; omega))
              have hsz : (wr.setCell ⟨w.heap.size, k, none⟩ (.bool true)).heap.size = wr.heap.size := by simp [World.setCell]
              obtain ⟨w4, hw4⟩ : ∃ X, X = wr.setCell ⟨w.heap.size, k, none⟩ (.bool true) := ⟨_, rfl⟩
              rw [← hw4] at I4 O4 Z4 hsz ⊢
              have HSZ := Lib.hid hsz
              clear hw4 ow hsz ff fc fk
              go_wp2_with (at_builtin; refine wpList_append_fresh rfl (.tmp 39) (.tmp 41) 43 rfl w3.heap.size 3 j0 (.int .i64 0) 1 8 Tryd.underlying43 hj hy0 hy1 hy2 rfl (by decide) (.slice ap mq cp) mq ((castN q).map intV) rfl (row_below12 Z4.out ((Below.refl _ _).alloc (Nat.le_refl _) _) (Nat.le_refl _)) ⟨w4.heap.size, 0, none⟩ 1 1 [.int .i64 (k : Int)] rfl rfl (newsI13 _ _ _ 3 (heap_alloc_new w4 _)) (fun z hz => by obtain rfl := List.mem_singleton.1 hz; rfl) (by unfold maxLen; omega) (by omega) (by have := HSZ.out; simp; omega) ?_; intro v5 w5 hown hgrow hfr)
              have o5 : Out (fun b => (Value.slice ap mq cp).ownBlock = some b) w4 w5 := ((Out.refl _ _).alloc _).grown hgrow (fun _ _ e => e)
              have M5 : Hid (OwnZ w5 w3.heap.size v5 (castN (q ++ [k])) (mq + 1)) := Lib.hid (OwnZ.mores hown)
              have I5 := Lib.hid (I4.out.out o5 (fun e => by have := (World.ownsRow.lt Z4.out _ e).1; omega))
              have O5 : Hid (Out (fun b => b = w.heap.size) w3 w5) := Lib.hid (O4.out.trans o5 (fun j hj e => by have := (World.ownsRow.lt Z4.out j e).1; omega))
              clear hown hgrow hfr o5
              go_roundw
              case rel => exact ⟨k + 1, by go_num, by omega, I5.out.congr (fun u _ => by
                by_cases e : u = k
                · subst e; simp [HC.out]
                · have : decide (u < k + 1) = decide (u < k) := by rw [Bool.eq_iff_iff]; simp; omega
                  rw [this, if_neg e]), by rw [HPL.out, List.length_append, HMQ.out]; exact M5.out, O5.out⟩
              case measure => (simp [intOf] <;> omega)
            · have q1 : decide (0 ≤ farI L v k) = false := decide_eq_false (fun h => hc (fge.1 h))
              generalize farI L v k = x at fk q1 fge
              rw [if_neg hc] at HPL
              have HC := Lib.hid hc
              clear fge hc
              go_wp2_with fail
              go_roundw
              case rel => exact ⟨k + 1, by go_num, by omega, II.out.congr (fun u _ => by
                by_cases e : u = k
                · subst e
                  have : conB L v u = false := by simpa using HC.out
                  simp [this]
                · have : decide (u < k + 1) = decide (u < k) := by rw [Bool.eq_iff_iff]; simp; omega
                  rw [this]), by rw [HPL.out, HMQ.out]; exact OZ.out, OU.out⟩
              case measure => (simp [intOf] <;> omega)
          · have hkn : k = n := by omega
            have q0 : decide (k < n) = false := decide_eq_false hlk
            subst hkn
            have hbo := BB.out.size
            have offg : ∀ {b : Nat}, w.heap.size + 1 ≤ b → ¬ b = w.heap.size := fun h e => by omega
            have OO : Hid (Out (fun b => b = w.heap.size) wo wr) := Lib.hid ((Out.ofBelow B3.out).trans OU.out (fun _ _ e => e))
            obtain ⟨hRl, SS, hSS, hSk, hSa⟩ := RR.out
            have SH : Hid (wr.ownsRow (w.heap.size + 1) 43 1 (.slice ao m co) m SS) := Lib.hid (ownsRow_out hSS OO.out (fun b hb => offg (hSS.lt b hb).1))
            have SK : Hid (∀ k, k < m → ∃ s, SS[k]? = some s ∧ OwnZ wr (w.heap.size + 1) s ((castP p).getD k []) ((castP p).getD k []).length) := Lib.hid (fun k hk => let ⟨s, a, b⟩ := hSk k hk; ⟨s, a, ownsRow_out b OO.out (fun q hq => offg (World.ownsRow.lt b q hq).1)⟩)
            have SA := Lib.hid hSa
            have RL := Lib.hid hRl
            have LT : Hid (∀ (k : Nat) (t : Value) (b : Nat), SS[k]? = some t → t.ownBlock = some b → b < wo.heap.size) := Lib.hid (fun k t b hk hb => by
              have hkm : k < m := by
                have h1 := (List.getElem?_eq_some_iff.1 hk).1
                have h2 := hSS.1
                omega
              obtain ⟨s, hs, hz⟩ := hSk k hkm
              rw [hk] at hs
              obtain rfl := Option.some.inj hs
              exact (World.ownsRow.lt hz b hb).2)
            have M4 : Hid (OwnZ wr (w.heap.size + 1) (.slice ap mq cp) (castN q) (castN q).length) := Lib.hid (by
              have h := OZ.out
              rw [OwnZ.len h]
              exact row_base12 h (by omega))
            have NB : Hid (∀ b, (Value.slice ap mq cp).ownBlock = some b → wo.heap.size ≤ b) := Lib.hid (fun b hb => by have := (World.ownsRow.lt OZ.out b hb).1; omega)
            have PL : Hid (preL L v k = partL L k v) := Lib.hid rfl
            have B6 : Hid (Below w.heap.size w wr) := Lib.hid (BB.out.trans (OO.out.below BB.out.size (fun i _ e => by subst e; exact Nat.le_refl _)))
            clear hSS hSk hSa hRl offg
            go_wp2_with (at_builtin; refine wpList_append_fresh rfl (.tmp 43) (.tmp 45) 67 rfl (w.heap.size + 1) 43 i0 (.slice none 0 0) 1 24 Tryd.underlying67 hi hz0 hz1 hz2 rfl (by decide) (.slice ao m co) m SS rfl (row_below12 SH.out ((Below.refl _ _).alloc (Nat.le_refl _) _) (Nat.le_refl _)) ⟨wr.heap.size, 0, none⟩ 1 1 [.slice ap mq cp] rfl rfl (newsV13 _ _ _ 43 (heap_alloc_new wr _)) (fun z hz => by obtain rfl := List.mem_singleton.1 hz; rfl) (by unfold maxLen; omega) (by omega) (by simp; omega) ?_; intro v5 w5 hown hgrow hfr)
            have ba : Below wr.heap.size wr (wr.alloc (.cells #[.slice ap mq cp] 43)) := (Below.refl _ _).alloc (Nat.le_refl _) _
            have R5 : Hid (OwnRs w5 (w.heap.size + 1) v5 (castP (p ++ [q])) (m + 1)) := Lib.hid (by
              rw [castP_more]
              exact OwnRs.more RL.out (row_below12 SH.out ba (Nat.le_refl _)) (fun k hk => let ⟨s, a, b⟩ := SK.out k hk; ⟨s, a, row_below12 b ba (Nat.le_refl _)⟩) SA.out (fun k t b hk hb e => by have := LT.out k t b hk hb; have := NB.out b e; omega) (row_below12 M4.out ba (Nat.le_refl _)) hown hgrow)
            have o5 : Out (fun b => (Value.slice ao m co).ownBlock = some b) wr w5 := ((Out.refl _ _).alloc _).grown hgrow (fun _ _ e => e)
            have I5 := Lib.hid (II.out.out o5 (fun e => by have := (SH.out.lt _ e).1; omega))
            have B5 : Hid (Below w.heap.size w w5) := Lib.hid ((B6.out.alloc B6.out.size _).grown hgrow (by have := B6.out.size; simp; omega) (fun q hq => by have := (SH.out.lt q hq).1; omega))
            clear hown hgrow hfr o5 ba
            go_roundw
            case rel => exact ⟨v + 1, by go_num, by omega, I5.out.congr (fun u hu => by rw [metB_more]; simp [hu]), by rw [parts_more HO.out, ← PL.out, HP.out, HQ.out, List.length_append, HM.out]; exact R5.out, B5.out⟩
            case measure => (simp [intOf] <;> omega)
    · have hvn : v = n := by omega
      have q0 : decide (v < n) = false := decide_eq_false hlt
      subst hvn
      go_wp2_with fail
      go_ret
      exact ⟨ao, co, m, rfl, by rw [HP.out]; exact HM.out, by rw [HP.out]; exact RR.out.base (Nat.le_succ _), BB.out⟩
end Go.Proofs.YtkakeakdgidigaaDoor
