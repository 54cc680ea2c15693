/-
  lower: each node's number is lowered by its slack, at most by near. Supply: of each node. Whether something is left. Conditions: numbers within 8192; the graph may be.
-/
import Derived.Test.YtkloaekmjnbacaaNetA
namespace Go.Proofs.Ytkloaekmjnbacaa
open Go.RowKit Go.Proofs.Ytkloaekmjnbacaa.DagM

def LwR (w0 w : World) (T p gx gf gl gs n m : Nat) (V : Nat → Value) (R : Nat → List Stp) (x f lf : Nat → Int) (tk near : Int) (far : Nat → Dst) (wr : World) (iv : Value) : Prop :=
  ∃ k : Nat, iv = .int .i64 k ∧ k ≤ n ∧ NetAt w0 wr T p gx gf gl gs n m V R (fun v => if v < k then x v - min (far v).1 near else x v) f lf tk ∧ Out (fun b => b = gx) w wr

set_option maxHeartbeats 2000000 in
set_option maxRecDepth 100000 in
theorem lower {w0 w : World} {T p gx gf gl gs n m gd B : Nat} {V : Nat → Value} {R : Nat → List Stp} {x f lf : Nat → Int} {tk near : Int} {far : Nat → Dst}
    (h : NetAt w0 w T p gx gf gl gs n m V R x f lf tk) (hD : RowD w B gd n far) (hn : n ≤ 4096) (hx : ∀ v, v < n → -8192 ≤ x v ∧ x v ≤ 4096) (hr : 0 ≤ near ∧ near ≤ 12288) (hf : ∀ v, v < n → 0 ≤ (far v).1) :
    Calls Try.prog 36 #[.pointer (some ⟨p, 0, none⟩), .slice (some ⟨gd, 0, none⟩) n n, .int .i64 near] w fun e w' => e = .returned (.tuple #[]) ∧ NetAt w0 w' T p gx gf gl gs n m V R (fun v => x v - min (far v).1 near) f lf tk ∧ Out (fun b => b = gx) w w' := by
  have hp := h.pl
  have c0 := h.c0
  have H := Lib.hid h
  have HD := Lib.hid hD
  have HX := Lib.hid hx
  have HF := Lib.hid hf
  obtain ⟨hr1, hr2⟩ := hr
  clear h hD hx hf
  go_enter Try.func36, Try.ntmps36
  go_wp2
  clear c0
  go_loopw [12] (fun iv wr => LwR w0 w T p gx gf gl gs n m V R x f lf tk near far wr iv) (fun iv _ => n - (intOf iv).toNat)
  case atStart => exact ⟨0, rfl, by omega, by simpa using H.out, Out.refl _ _⟩
  case round =>
    obtain ⟨k, rfl, hk, hI, hO⟩ := hrel
    have I := Lib.hid hI
    have O := Lib.hid hO
    have hgx := hI.rx.gl.2
    have hpl := hI.pl
    clear hI hO
    by_cases hlt : k < n
    · have c0 := I.out.c0
      have hDr : RowD wr B gd n far := ownsRow_out HD.out O.out (fun b hb e => by subst e; exact rows_ne HD.out H.out.rx (by decide) hb rfl)
      have hgd := hDr.gl.2
      have d0 := (hDr.cell hlt).1
      have x0 := I.out.rx.cell hlt
      simp only [Nat.lt_irrefl, if_false] at x0
      have x1 := I.out.rx.fr k
      have b1 := HX.out k hlt
      have b2 := HF.out k hlt
      have hxk : ∀ v, (if v = k then x k - min (far k).1 near else if v < k then x v - min (far v).1 near else x v) = if v < k + 1 then x v - min (far v).1 near else x v := fun v => by
        by_cases e : v = k
        · subst e; simp
        · have : v < k + 1 ↔ v < k := by omega
          simp [e, this]
      have XK := Lib.hid hxk
      clear hDr hxk
      generalize hxv : x k = xk at *
      have QX := Lib.hid hxv
      generalize hfv : (far k).1 = fk at *
      have QF := Lib.hid hfv
      obtain ⟨b11, b12⟩ := b1
      have w1 : IntKind.i64.wrap (xk - min fk near) = xk - min fk near := IntWalk.i64_in _ (by omega)
      clear hxv hfv
      go_wp2
      go_still_tail 16, (by kernel_rfl)
      change wpList _ _ _ _ _ wr.drew
      go_wp2
      go_roundw
      case rel =>
        have h2 := (I.out.turnX k (xk - min fk near)).quiet (Below.refl _ _).drew
        rw [funext XK.out] at h2
        exact ⟨k + 1, by go_num, by omega, h2, (O.out.setIn _ _).drew⟩
      case measure => simp [intOf]; omega
    · obtain rfl : n = k := by omega
      go_wp2
      go_end0
      refine ⟨rfl, ?_, O.out⟩
      have h := I.out
      have e : ∀ v, v < n → (if v < n then x v - min (far v).1 near else x v) = x v - min (far v).1 near := fun v hv => if_pos hv
      exact { h with rx := h.rx.turn e }
end Go.Proofs.Ytkloaekmjnbacaa
