/-
  The reference's Fit. Conditions: the graph may be; as many numbers as nodes.
-/
import Derived.Test.YtdapbhnonhamhaaDagT
import Derived.IntWalk
namespace Go.Proofs.Ytdapbhnonhamhaa
open Go.RowKit Go.Proofs.Ytdapbhnonhamhaa.DagM

def FtRel (x : List Int) (L : List Arc) (w wr : World) (iv : Value) : Prop := ∃ k : Nat, iv = .int .i64 k ∧ k ≤ L.length ∧ fitB x (L.take k) = true ∧ Below w.heap.size w wr

set_option maxHeartbeats 4000000 in
set_option maxRecDepth 100000 in
theorem refFit (n : Int) (v xv : Value) (L : List Arc) (x : List Int) (w : World) (hM : May n L) (hl : (x.length : Int) = n) (hA : ArcsAt w v L) (hX : IntsAt w xv x) :
    Calls Try.prog 21 #[v, xv] w fun e w' => e = .returned (.bool (fitB x L)) ∧ Below w.heap.size w w' := by
  have HA := Lib.hid hA
  have HX := Lib.hid hX
  have MY := Lib.hid hM
  have HL := Lib.hid hl
  have hLl := hM.len
  clear hM hX hl
  obtain ⟨A, cap, rfl, hcap, -⟩ := hA
  go_enter Try.func21, Try.ntmps21
  go_wp2
  go_loopw [5] (fun iv wr => FtRel x L w wr iv) (fun iv _ => L.length - (intOf iv).toNat)
  case atStart => exact ⟨0, rfl, by omega, rfl, Below.refl _ _⟩
  case round =>
    obtain ⟨k, rfl, hk, hF, hB⟩ := hrel
    have B := Lib.hid hB
    have FT := Lib.hid hF
    clear hB hF
    by_cases hlt : k < L.length
    · obtain ⟨A', cap', e, _, hA⟩ := HA.out
      simp only [Value.slice.injEq, true_and] at e
      obtain ⟨rfl, rfl⟩ := e
      obtain ⟨b, o, rfl, hb, hcell⟩ := hA (by omega)
      obtain ⟨c0, c1, c2⟩ := hcell k hlt
      have d0 := (B.out.cell (p := ⟨b, o + k * 3, none⟩) hb).trans c0
      have d1 := (B.out.cell (p := ⟨b, o + k * 3 + 1, none⟩) hb).trans c1
      have ok := MY.out.ok L[k] (List.getElem_mem hlt)
      have hfs := fit_snoc x L k hlt
      have hfn := fit_not x L k hlt
      clear hA hcell c0 c1 c2
      generalize L[k] = a at *
      obtain ⟨f, t, z⟩ := a
      obtain ⟨f, rfl⟩ : ∃ u : Nat, f = (u : Int) := ⟨f.toNat, by simp only at ok; omega⟩
      obtain ⟨t, rfl⟩ : ∃ u : Nat, t = (u : Int) := ⟨t.toNat, by simp only at ok; omega⟩
      simp only at ok d0 d1
      have hl := HL.out
      have n3 : f < x.length := by omega
      have n6 : t < x.length := by omega
      clear ok hl
      obtain ⟨bx, ox, cx, rfl, hbx, x0⟩ := HX.out.at_ n3
      obtain ⟨bx', ox', cx', e, _, x1⟩ := HX.out.at_ n6
      simp only [Value.slice.injEq, Option.some.injEq, Addr.mk.injEq, and_true, true_and] at e
      obtain ⟨⟨rfl, rfl⟩, rfl⟩ := e
      have y0 := (B.out.cell (p := ⟨bx, ox + f, none⟩) hbx).trans x0
      have y1 := (B.out.cell (p := ⟨bx, ox + t, none⟩) hbx).trans x1
      clear x0 x1
      simp only [fitA] at hfs hfn
      generalize val x f = p at *
      generalize val x t = q at *
      have HFS := Lib.hid hfs
      have HFN := Lib.hid hfn
      clear hfs hfn
      by_cases hpq : p < q
      · have hle : decide (q ≤ p) = false := by simp; omega
        go_wp2
        go_quiet (fail)
        all_goals
          go_wp2
          go_roundw
          case rel => exact ⟨k + 1, by go_num, by omega, by rw [HFS.out, FT.out]; simp; omega, belowN B.out _⟩
          case measure => simp [intOf]; omega
      · have hle : decide (q ≤ p) = true := by simp; omega
        have e := HFN.out (by simpa using hpq)
        have E := Lib.hid e
        clear e
        go_wp2
        go_quiet (fail)
        all_goals
          go_wp2
          go_ret
          exact ⟨ret_bool E.out.symm, belowN B.out _⟩
    · obtain rfl : L.length = k := by omega
      have h := FT.out
      rw [List.take_length] at h
      have E := Lib.hid h
      clear h hlt
      go_wp2
      go_ret
      exact ⟨ret_bool E.out.symm, B.out⟩
end Go.Proofs.Ytdapbhnonhamhaa
