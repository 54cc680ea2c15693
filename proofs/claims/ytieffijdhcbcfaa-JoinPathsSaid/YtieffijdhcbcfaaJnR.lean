/-
  The reference: what its Far and its Parts answer. Conditions: cells that may be, at most 100000.
-/
import Derived.Test.YtieffijdhcbcfaaJnB
namespace Go.Proofs.Ytieffijdhcbcfaa
open Go.RowKit Go.Proofs.Ytieffijdhcbcfaa.GrM Go.Proofs.Ytieffijdhcbcfaa.JoM

theorem FarAt.ofMade (w : World) (N : Nat) (hN : N ≤ 1000000) : FarAt (w.alloc (.cells (madeCells #[.int .i64 0] N) 3)) w.heap.size w.heap.size N (fun _ => 0) := by
  have h := ownZ_made w N hN
  have e : ((List.range N).map fun _ => (0 : Int)) = List.replicate N 0 := by rw [List.map_const', List.length_range]
  unfold FarAt
  rw [e]; exact h
def FarP (L : List Int) (n s : Nat) (w : World) (e : Ending) (w' : World) : Prop :=
  ∃ g, e = .returned (.slice (some ⟨g, 0, none⟩) n n) ∧ FarAt w' w.heap.size g n (farI L s) ∧ Below w.heap.size w w'
def Fr0 (n : Nat) (w0 : World) (iv : Value) (wr : World) : Prop :=
  ∃ i : Nat, iv = .int .i64 i ∧ i ≤ n ∧ FarAt wr w0.heap.size w0.heap.size n (fun u => if u < i then -1 else 0) ∧ Below w0.heap.size w0 wr
def Fr1 (L : List Int) (n s : Nat) (w0 : World) (rv : Value) (wr : World) : Prop :=
  ∃ (r : Nat) (X : Nat → Int), rv = .int .i64 r ∧ r ≤ n ∧ Fr L n s X r 0 0 ∧ FarAt wr w0.heap.size w0.heap.size n X ∧ Below w0.heap.size w0 wr
def Fr2 (L : List Int) (n s r : Nat) (w0 : World) (iv : Value) (wr : World) : Prop :=
  ∃ (i : Nat) (X : Nat → Int), iv = .int .i64 i ∧ i ≤ n ∧ Fr L n s X r i 0 ∧ FarAt wr w0.heap.size w0.heap.size n X ∧ Below w0.heap.size w0 wr
def Fr3 (L : List Int) (n s r i : Nat) (w0 : World) (dv : Value) (wr : World) : Prop :=
  ∃ (d : Nat) (X : Nat → Int), dv = .int .i64 d ∧ d ≤ 4 ∧ Fr L n s X r i d ∧ FarAt wr w0.heap.size w0.heap.size n X ∧ Below w0.heap.size w0 wr
theorem FarAt.stored {w0 w : World} {n u : Nat} {X : Nat → Int} (x : Int) (h : FarAt w w0.heap.size w0.heap.size n X) (b : Below w0.heap.size w0 w) :
    FarAt (w.setCell ⟨w0.heap.size, u, none⟩ (.int .i64 x)) w0.heap.size w0.heap.size n (updF X u x) ∧ Below w0.heap.size w0 (w.setCell ⟨w0.heap.size, u, none⟩ (.int .i64 x)) :=
  ⟨h.set u x, b.trans (((Out.refl (fun b => b = w0.heap.size) w).setIn u _).below b.size (fun i _ e => by subst e; exact Nat.le_refl _))⟩
set_option maxHeartbeats 8000000 in
set_option maxRecDepth 100000 in
theorem refFar (lv : Value) (L : List Int) (n s : Nat) (w : World) (hL : CelAt w lv L n) (hn : n ≤ 100000) (hg : GoodG L n) (hs : s < n) :
    Calls Try.prog 15 #[lv, .int .i64 s] w (FarP L n s w) := by
  have hmk := mkInts12 n (by omega)
  have HL := Lib.hid hL
  have HG := Lib.hid hg
  obtain ⟨A0, c0, e⟩ := hL.form
  subst e
  clear hL hg
  go_enter Try.func15, Try.ntmps15
  go_upto_region 2 with fail
  have FM := Lib.hid (FarAt.ofMade w n (by omega))
  have BM : Hid (Below w.heap.size w (w.alloc (.cells (madeCells #[.int .i64 0] n) 3))) := Lib.hid ((Below.refl _ _).alloc (Nat.le_refl _) _)
  obtain ⟨w1, hw1⟩ : ∃ X, X = (w.alloc (.cells (madeCells #[.int .i64 0] n) 3)) := ⟨_, rfl⟩
  rw [← hw1] at FM BM ⊢
  clear hw1 hmk
  go_wp2_with fail
  go_loopw [6] (fun iv wr => Fr0 n w iv wr) (fun iv _ => n - (intOf iv).toNat)
  case atStart => exact ⟨0, rfl, Nat.zero_le _, FM.out.congr (fun u _ => by rw [if_neg (by omega)]), BM.out⟩
  case round =>
    clear FM BM
    obtain ⟨i, rfl, hi, hF, hB⟩ := hrel
    have FA := Lib.hid hF
    have BB := Lib.hid hB
    have hgr := hF.lt.2
    clear hB
    by_cases hlt : i < n
    · have q0 : decide (i < n) = true := decide_eq_true hlt
      have fc := hF.cell hlt
      have ff := hF.fr i
      have NX := Lib.hid (hF.stored (u := i) (-1) BB.out)
      clear hF
      go_wp2_with fail
      go_roundw
      case rel => exact ⟨i + 1, by go_num, by omega, NX.out.1.congr (fun u _ => by
        by_cases c : u = i
        · subst c; rw [upd_at, if_pos (by omega)]
        · rw [upd_ne _ c]
          by_cases c2 : u < i
          · rw [if_pos c2, if_pos (by omega)]
          · rw [if_neg c2, if_neg (by omega)]), NX.out.2⟩
      case measure => (simp [intOf] <;> omega)
    · have hin : i = n := by omega
      have q0 : decide (i < n) = false := decide_eq_false hlt
      subst hin
      have FB := Lib.hid (hF.congr (G := fun _ => -1) (fun u hu => by rw [if_pos hu]))
      have fc := hF.cell hs
      have ff := hF.fr s
      have NX := Lib.hid (FB.out.stored (u := s) 0 BB.out)
      clear hF FA
      go_upto_region 7 with fail
      obtain ⟨w2, hw2⟩ : ∃ X, X = wr.setCell ⟨w.heap.size, s, none⟩ (.int .i64 0) := ⟨_, rfl⟩
      rw [← hw2] at NX ⊢
      clear hw2 fc ff q0
      go_wp2_with fail
      go_loopw [7] (fun rv wr => Fr1 L i s w rv wr) (fun rv _ => i - (intOf rv).toNat)
      case atStart => exact ⟨0, _, rfl, Nat.zero_le _, Fr.start hs, NX.out.1, NX.out.2⟩
      case round =>
        clear NX FB BB hgr
        obtain ⟨r, X, rfl, hr, hfr, hF, hB⟩ := hrel
        have FR := Lib.hid hfr
        have FA := Lib.hid hF
        have BB := Lib.hid hB
        have hgr := hF.lt.2
        clear hfr hF hB
        by_cases hlt2 : r < i
        · have q0 : decide (r < i) = true := decide_eq_true hlt2
          go_upto_region 11 with fail
          clear q0
          go_loopw [8] (fun iv wr => Fr2 L i s r w iv wr) (fun iv _ => i - (intOf iv).toNat)
          case atStart => exact ⟨0, X, rfl, Nat.zero_le _, FR.out, FA.out, BB.out⟩
          case round =>
            clear FR FA BB hgr
            obtain ⟨k, X, rfl, hk, hfr, hF, hB⟩ := hrel
            have FR := Lib.hid hfr
            have FA := Lib.hid hF
            have BB := Lib.hid hB
            have hgr := hF.lt.2
            clear hfr hF hB
            by_cases hlt3 : k < i
            · have q0 : decide (k < i) = true := decide_eq_true hlt3
              go_upto_region 14 with fail
              clear q0
              go_loopw [9] (fun dv wr => Fr3 L i s r k w dv wr) (fun dv _ => 4 - (intOf dv).toNat)
              case atStart => exact ⟨0, X, rfl, Nat.zero_le _, FR.out, FA.out, BB.out⟩
              case round =>
                clear FR FA BB hgr
                obtain ⟨d, X, rfl, hd, hfr, hF, hB⟩ := hrel
                have FR := Lib.hid hfr
                have FA := Lib.hid hF
                have BB := Lib.hid hB
                have hgr := hF.lt.2
                clear hfr hF hB
                by_cases hd4 : d < 4
                · have q1 : decide (d < 4) = true := decide_eq_true hd4
                  have q2 : decide ((d : Int) < 4) = true := decide_eq_true (by omega)
                  obtain ⟨b, o9, c', e, hb, hx, -⟩ := (HL.out.below BB.out (Nat.le_refl _)).nth hlt3
                  simp only [Value.slice.injEq, true_and] at e
                  obtain ⟨rfl, rfl⟩ := e
                  have f0 := hx d hd4
                  have fk := FA.out.cell hlt3
                  have is := FR.out.is hlt3
                  have hs2 := HG.out.side hlt3 hd4
                  by_cases hxr : X k = r
                  · have hf := is.1 hxr
                    rw [hxr] at fk
                    have r1 : ((r : Int) == (r : Int)) = true := by simp
                    by_cases hz : nxG L k d = -1
                    · rw [hz] at f0
                      have SK := Lib.hid (FR.out.skip (fun u _ hu _ _ => by omega))
                      clear hx is hs2 hxr hf hz
                      go_wp2_with fail
                      go_roundw
                      case rel => exact ⟨d + 1, X, by go_num, by omega, SK.out, FA.out, BB.out⟩
                      case measure => (simp [intOf] <;> omega)
                    · obtain ⟨u, hu⟩ : ∃ u : Nat, nxG L k d = u := by
                        rcases hs2 with h | h
                        · exact absurd h.1 hz
                        · exact ⟨(nxG L k d).toNat, by omega⟩
                      have hun := (next_lt HG.out hlt3 hd4 hu).1
                      rw [hu] at f0
                      have fu := FA.out.cell hun
                      have hmx : max (u : Int) 0 = (u : Int) := by omega
                      have q3 : decide (0 ≤ (u : Int)) = true := decide_eq_true (by omega)
                      by_cases hl : X u < 0
                      · have ff := FA.out.fr u
                        obtain ⟨-, NX⟩ := FR.out.next HG.out hlt3 hd4 hu hf hl
                        have q4 : decide (X u < 0) = true := decide_eq_true hl
                        generalize X u = xu at fu q4 hl
                        have NXH := Lib.hid NX
                        have ST := Lib.hid (FA.out.stored (u := u) ((r : Int) + 1) BB.out)
                        have hri : r < 100000 := by omega
                        clear hx is hs2 hxr hf hz hu NX hl
                        go_wp2_with fail
                        go_roundw
                        case rel => exact ⟨d + 1, _, by go_num, by omega, NXH.out, ST.out.1, ST.out.2⟩
                        case measure => (simp [intOf] <;> omega)
                      · have q4 : decide (X u < 0) = false := decide_eq_false hl
                        have SK := Lib.hid (FR.out.skip (fun x hxn hx2 _ hfx => by
                          obtain rfl : u = x := by omega
                          rcases FR.out.val u hxn with e | e
                          · omega
                          · exact e))
                        generalize X u = xu at fu q4 hl
                        clear hx is hs2 hxr hf hz hu hl
                        go_wp2_with fail
                        go_roundw
                        case rel => exact ⟨d + 1, X, by go_num, by omega, SK.out, FA.out, BB.out⟩
                        case measure => (simp [intOf] <;> omega)
                  · have SK := Lib.hid (FR.out.skip (fun u _ _ hf _ => absurd (is.2 hf) hxr))
                    have r1 : (X k == (r : Int)) = false := by rw [beq_eq_false_iff_ne]; exact hxr
                    generalize X k = xk at fk r1 hxr
                    generalize nxG L k d = z at f0
                    clear hx is hs2 hxr
                    go_wp2_with fail
                    go_roundw
                    case rel => exact ⟨d + 1, X, by go_num, by omega, SK.out, FA.out, BB.out⟩
                    case measure => (simp [intOf] <;> omega)
                · have hd5 : d = 4 := by omega
                  subst hd5
                  have q1 : decide (4 < 4) = false := by decide
                  go_wp2_with fail
                  go_roundw
                  case rel => exact ⟨k + 1, X, by go_num, by omega, FR.out.cell, FA.out, BB.out⟩
                  case measure => (simp [intOf] <;> omega)
            · have hki : k = i := by omega
              have q0 : decide (k < i) = false := decide_eq_false hlt3
              subst hki
              go_wp2_with fail
              go_roundw
              case rel => exact ⟨r + 1, X, by go_num, by omega, FR.out.round HG.out hs, FA.out, BB.out⟩
              case measure => (simp [intOf] <;> omega)
        · have hri : r = i := by omega
          have q0 : decide (r < i) = false := decide_eq_false hlt2
          subst hri
          go_wp2_with fail
          go_ret
          exact ⟨_, rfl, FA.out.congr (fun u hu => FR.out.end_ HG.out hs rfl hu), BB.out⟩
end Go.Proofs.Ytieffijdhcbcfaa
