/-
  What the code's Next, Turns and Rotation answer. Conditions: at most 100000 cells, a million darts; the ways read as the program lays them.
-/
import Derived.Test.YtieffijdhcbcfaaFcB
import Derived.Test.YtieffijdhcbcfaaNzDc
namespace Go.Proofs.Ytieffijdhcbcfaa
open Go.RowKit Go.Proofs.Ytieffijdhcbcfaa.GrM Go.Proofs.Ytieffijdhcbcfaa.FcM

def pairK (k : Nat) : Int × Int := (((k / 4 : Nat) : Int), ((k % 4 : Nat) : Int))
def dkN (p : Int × Int) : Nat := 4 * p.1.toNat + p.2.toNat
/-- Is it a dart of cells that may be? -/
def okQ (L : List Int) (n : Nat) (p : Int × Int) : Bool := decide (chkG L n = 0) && stepB L n p.1 p.2
def bhQ (L : List Int) (n : Nat) (p : Int × Int) : Int × Int := if okQ L n p = true then pairK (behK L (dkN p)) else (0, 0)
def trQ (L : List Int) (n : Nat) (p : Int × Int) : Int := if okQ L n p = true then trnK L (dkN p) else 0
theorem step_dart {L : List Int} {n : Nat} {p : Int × Int} (h : stepB L n p.1 p.2 = true) : isK L n (dkN p) ∧ p = pairK (dkN p) := by
  unfold stepB hasB goodB at h
  simp only [Bool.and_eq_true, decide_eq_true_eq] at h
  obtain ⟨⟨a1, a2⟩, ⟨b1, b2⟩, c⟩ := h
  have e1 : dkN p / 4 = p.1.toNat := by unfold dkN; omega
  have e2 : dkN p % 4 = p.2.toNat := by unfold dkN; omega
  refine ⟨⟨by unfold dkN; omega, by unfold nxK; rw [e1, e2]; exact c⟩, ?_⟩
  unfold pairK
  rw [e1, e2]
  exact Prod.ext (by simp; omega) (by simp; omega)
theorem okQ_dart {L : List Int} {n k : Nat} (h0 : chkG L n = 0) (hk : isK L n k) : okQ L n (pairK k) = true := by
  unfold okQ
  rw [decide_eq_true h0]
  have := (step_yes (L := L) (n := n) (a := k / 4) (e := k % 4) (by have := hk.1; omega) (by omega) hk.2).1
  exact this
theorem dk_pair (k : Nat) : dkN (pairK k) = k := by unfold dkN pairK; simp only [Int.toNat_natCast]; omega
theorem trQ_range (L : List Int) (n : Nat) (p : Int × Int) : -2 ≤ trQ L n p ∧ trQ L n p ≤ 1 := by
  unfold trQ
  split
  · exact trn_range L _
  · omega






def TurnsP (L : List Int) (n : Nat) (D : List (Int × Int)) (m : Nat) (w : World) (e : Ending) (w' : World) : Prop :=
  ∃ A c, e = .returned (.slice A m c) ∧ OwnZ w' w.heap.size (.slice A m c) (D.map (trQ L n)) m ∧ Below w.heap.size w w'
def TuRel (L : List Int) (n : Nat) (D : List (Int × Int)) (m g : Nat) (w0 wr : World) (iv : Value) : Prop :=
  ∃ k : Nat, iv = .int .i64 k ∧ k ≤ m ∧ OwnZ wr g (.slice (some ⟨g, 0, none⟩) m m) ((D.map (trQ L n)).take k ++ List.replicate (m - k) 0) m ∧ Below g w0 wr
theorem tu_step {Z : List Int} {m k : Nat} (hl : Z.length = m) (hk : k < m) : (Z.take k ++ List.replicate (m - k) 0).set k (Z.getD k 0) = Z.take (k + 1) ++ List.replicate (m - (k + 1)) 0 := by
  have e : m - k = (m - (k + 1)) + 1 := by omega
  have hkl : k < Z.length := by omega
  have ht : (Z.take k).length = k := by rw [List.length_take]; omega
  rw [e, List.replicate_succ, List.set_append_right _ _ (by omega), ht, Nat.sub_self, List.set_cons_zero, List.take_succ_eq_append_getElem hkl, List.append_assoc]
  simp [List.getD_eq_getElem?_getD, hkl]

end Go.Proofs.Ytieffijdhcbcfaa
