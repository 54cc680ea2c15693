/-
  The library's stable sort over a row of pairs: two ranges exchanged, two neighbouring ranges rotated. Conditions: the ranges lie in the row.
-/
import Derived.Test.YtlhmlejkfgejiaaStabA
namespace Go.Proofs.Ytlhmlejkfgejiaa.Stab
open Go.RowKit Go.Proofs.Ytlhmlejkfgejiaa Go.Proofs.Ytlhmlejkfgejiaa.HeapM Go.Proofs.Ytlhmlejkfgejiaa.StabM

theorem sw_mid (A B D : List Pr) (p q : Pr) : sw (A ++ p :: (B ++ q :: D)) A.length (A.length + 1 + B.length) = A ++ q :: (B ++ p :: D) := by
  have h1 : (A ++ p :: (B ++ q :: D)).getD A.length default = p := by simp
  have h2 : (A ++ p :: (B ++ q :: D)).getD (A.length + 1 + B.length) default = q := by
    rw [List.getD_eq_getElem?_getD, List.getElem?_append_right (by omega)]
    have e : A.length + 1 + B.length - A.length = B.length + 1 := by omega
    rw [e, List.getElem?_cons_succ, List.getElem?_append_right (by omega)]
    simp
  unfold sw
  rw [h1, h2]
  have e2 : (A ++ p :: (B ++ q :: D)).set A.length q = A ++ q :: (B ++ q :: D) := by simp
  rw [e2]
  have e3 : A ++ q :: (B ++ q :: D) = (A ++ q :: B) ++ q :: D := by simp
  rw [e3]
  have e4 : A.length + 1 + B.length = (A ++ q :: B).length := by simp; omega
  rw [e4]
  have e5 : ((A ++ q :: B) ++ q :: D).set (A ++ q :: B).length p = (A ++ q :: B) ++ p :: D := by
    rw [List.set_append_right _ _ (Nat.le_refl _)]
    simp
  rw [e5]
  simp

/-- After i of the exchanges. -/
def half (x u z v y : List Pr) (i : Nat) : List Pr := (x ++ v.take i) ++ (u.drop i ++ z ++ u.take i) ++ (v.drop i ++ y)
theorem half_step (x u z v y : List Pr) (i : Nat) (hu : i < u.length) (hv : v.length = u.length) : sw (half x u z v y i) (x.length + i) (x.length + u.length + z.length + i) = half x u z v y (i + 1) := by
  have hi : i < v.length := by omega
  have e1 : u.drop i = u[i] :: u.drop (i + 1) := List.drop_eq_getElem_cons hu
  have e2 : v.drop i = v[i] :: v.drop (i + 1) := List.drop_eq_getElem_cons hi
  have e3 : u.take (i + 1) = u.take i ++ [u[i]] := List.take_succ_eq_append_getElem hu
  have e4 : v.take (i + 1) = v.take i ++ [v[i]] := List.take_succ_eq_append_getElem hi
  have key := sw_mid (x ++ v.take i) (u.drop (i + 1) ++ z ++ u.take i) (v.drop (i + 1) ++ y) u[i] v[i]
  have l1 : (x ++ v.take i).length = x.length + i := by simp; omega
  have l2 : (x ++ v.take i).length + 1 + (u.drop (i + 1) ++ z ++ u.take i).length = x.length + u.length + z.length + i := by simp; omega
  rw [l2, l1] at key
  have s1 : half x u z v y i = (x ++ v.take i) ++ u[i] :: ((u.drop (i + 1) ++ z ++ u.take i) ++ v[i] :: (v.drop (i + 1) ++ y)) := by
    unfold half; rw [e1, e2]; simp only [List.append_assoc, List.cons_append]
  have s2 : half x u z v y (i + 1) = (x ++ v.take i) ++ v[i] :: ((u.drop (i + 1) ++ z ++ u.take i) ++ u[i] :: (v.drop (i + 1) ++ y)) := by
    unfold half; rw [e3, e4]; simp only [List.append_assoc, List.cons_append, List.nil_append]
  rw [s1, s2]
  exact key

def Kept (B gg n cap : Nat) (L : List Pr) (w : World) (e : Ending) (w' : World) : Prop := e = .returned (.tuple #[]) ∧ RowL w' B gg n cap L ∧ Out (fun k => k = gg) w w'
def SwRel (B gg n cap : Nat) (x u z v y : List Pr) (w wr : World) (iv : Value) : Prop :=
  ∃ i : Nat, iv = .int .i64 i ∧ i ≤ u.length ∧ RowL wr B gg n cap (half x u z v y i) ∧ Out (fun k => k = gg) w wr

set_option maxHeartbeats 2000000 in
set_option maxRecDepth 100000 in
theorem swapRange (B gg n cap : Nat) (x u z v y : List Pr) (f : Value) (w : World) (h : RowL w B gg n cap (x ++ u ++ z ++ v ++ y)) (hs : n ≤ 1000000) (a b m : Nat) (ha : a = x.length) (hb : b = x.length + u.length + z.length) (hm : m = u.length) (hv : v.length = u.length) :
    Calls Try.prog 78 #[.slice (some ⟨gg, 0, none⟩) n cap, .int .i64 a, .int .i64 b, .int .i64 m, f] w (Kept B gg n cap (x ++ v ++ z ++ u ++ y) w) := by
  have hlen : n = x.length + u.length + z.length + v.length + y.length := by have := h.len; simp at this; omega
  have h1 : a + m ≤ b := by omega
  have h2 : b + m ≤ n := by omega
  have H : Hid (RowL w B gg n cap (half x u z v y 0)) := by show RowL _ _ _ _ _ _; unfold half; simpa using h
  have HA := Lib.hid ha
  have HB := Lib.hid hb
  have HM := Lib.hid hm
  have HV := Lib.hid hv
  clear h ha hb hm hv hlen
  go_enter Try.func78, Try.ntmps78
  go_wp2
  go_loopw [10] (fun iv wr => SwRel B gg n cap x u z v y w wr iv) (fun iv _ => m - (intOf iv).toNat)
  case atStart => exact ⟨0, rfl, by omega, H.out, Out.refl _ _⟩
  case round =>
    obtain ⟨i, rfl, hi, hR, hO⟩ := hrel
    have R := Lib.hid hR
    have O := Lib.hid hO
    have him : i ≤ m := by rw [HM.out]; exact hi
    clear hR hO hi
    by_cases hlt : i < m
    · have a0 := R.out.c0 (a + i) (by omega)
      have a1 := R.out.c1 (a + i) (by omega)
      have b0 := R.out.c0 (b + i) (by omega)
      have b1 := R.out.c1 (b + i) (by omega)
      have f0 := R.out.fr ((a + i) * 2)
      have f1 := R.out.fr ((a + i) * 2 + 1)
      have f2 := R.out.fr ((b + i) * 2)
      have f3 := R.out.fr ((b + i) * 2 + 1)
      have SW := Lib.hid (R.out.swap (a + i) (b + i) (by omega) (by omega))
      have ST : Hid (sw (half x u z v y i) (a + i) (b + i) = half x u z v y (i + 1)) := by
        show _ = _
        rw [HA.out, HB.out]
        exact half_step x u z v y i (by have := HM.out; omega) HV.out
      generalize g (half x u z v y i) (a + i) = p at *
      generalize g (half x u z v y i) (b + i) = q at *
      go_wp2
      go_region
      all_goals
        go_wp2
        go_roundw
        case rel => exact ⟨i + 1, by go_num, by have := HM.out; omega, by rw [← ST.out]; exact SW.out.1, O.out.trans SW.out.2 (fun _ _ e => e)⟩
        case measure => simp [intOf]; omega
    · obtain rfl : i = m := by omega
      go_wp2
      go_end0
      refine ⟨rfl, ?_, O.out⟩
      have := R.out
      unfold half at this
      rw [HM.out] at this
      simp only [List.drop_length, List.take_length, List.nil_append] at this
      rw [List.take_of_length_le (by have := HV.out; omega), List.drop_of_length_le (by have := HV.out; omega)] at this
      simpa using this

theorem swapRangeZ {B gg n cap : Nat} {M : List Pr} {f : Value} {w : World} (h : RowL w B gg n cap M) (x u z v y : List Pr) (e : M = x ++ u ++ z ++ v ++ y) (hs : n ≤ 1000000) (a b m : Int) (ha : a = x.length) (hb : b = x.length + u.length + z.length) (hm : m = u.length) (hv : v.length = u.length) :
    Calls Try.prog 78 #[.slice (some ⟨gg, 0, none⟩) n cap, .int .i64 a, .int .i64 b, .int .i64 m, f] w (Kept B gg n cap (x ++ v ++ z ++ u ++ y) w) := by
  subst e ha hm
  obtain rfl : b = ((x.length + u.length + z.length : Nat) : Int) := by omega
  exact swapRange B gg n cap x u z v y f w h hs _ _ _ rfl rfl rfl hv

def RotRel (B gg n cap m : Nat) (T : List Pr) (w wr : World) (iv jv : Value) : Prop :=
  ∃ (x u v y : List Pr), iv = .int .i64 (u.length : Nat) ∧ jv = .int .i64 (v.length : Nat) ∧ 0 < u.length ∧ 0 < v.length ∧ x.length + u.length = m ∧ x ++ v ++ u ++ y = T ∧ RowL wr B gg n cap (x ++ u ++ v ++ y) ∧ Out (fun k => k = gg) w wr

set_option maxHeartbeats 2000000 in
set_option maxRecDepth 100000 in
theorem rotate (B gg n cap : Nat) (x u v y : List Pr) (f : Value) (w : World) (h : RowL w B gg n cap (x ++ u ++ v ++ y)) (hs : n ≤ 1000000) (a m b : Nat) (ha : a = x.length) (hm : m = x.length + u.length) (hb : b = m + v.length) (hu : 0 < u.length) (hv : 0 < v.length) :
    Calls Try.prog 69 #[.slice (some ⟨gg, 0, none⟩) n cap, .int .i64 a, .int .i64 m, .int .i64 b, f] w (Kept B gg n cap (x ++ v ++ u ++ y) w) := by
  have hlen : x.length + u.length + v.length ≤ n := by have := h.len; simp at this; omega
  have H := Lib.hid h
  have HU := Lib.hid hu
  have HV := Lib.hid hv
  have HM := Lib.hid hm
  have hm0 : a ≤ m := by omega
  have hm1 : m ≤ b := by omega
  have hb1 : b ≤ n := by omega
  have E1 : Hid ((m : Int) - a = (u.length : Nat)) := by show _ = _; omega
  have E2 : Hid ((b : Int) - m = (v.length : Nat)) := by show _ = _; omega
  clear h hu hv hm ha hb hlen
  go_enter Try.func69, Try.ntmps69
  go_wp2
  go_loopw [10, 11] (fun iv jv wr => RotRel B gg n cap m (x ++ v ++ u ++ y) w wr iv jv) (fun iv jv _ => (intOf iv).toNat + (intOf jv).toNat)
  case atStart => exact ⟨x, u, v, y, by rw [E1.out], by rw [E2.out], HU.out, HV.out, HM.out.symm, rfl, H.out, Out.refl _ _⟩
  case round =>
    clear E1 E2
    obtain ⟨x1, u1, v1, y1, rfl, rfl, hu1, hv1, hm1', hT, hR, hO⟩ := hrel
    have R := Lib.hid hR
    have O := Lib.hid hO
    have T := Lib.hid hT
    have M1 := Lib.hid hm1'
    have hle : u1.length ≤ m := by omega
    have hln : m + v1.length ≤ n := by have := hR.len; simp at this; omega
    obtain ⟨i, hi⟩ : ∃ i, i = u1.length := ⟨_, rfl⟩
    obtain ⟨j, hj⟩ : ∃ j, j = v1.length := ⟨_, rfl⟩
    rw [← hi] at hu1 hle ⊢
    rw [← hj] at hv1 hln ⊢
    have HI := Lib.hid hi
    have HJ := Lib.hid hj
    clear hR hO hT hm1' hi hj
    rcases Nat.lt_trichotomy i j with hij | hij | hij
    · have hne : ((i : Int) != (j : Int)) = true := by rw [bne_iff_ne]; omega
      go_wp2_with (go_at_call 78; refine (swapRangeZ R.out x1 u1 (v1.take (j - i)) (v1.drop (j - i)) y1 (by simp) hs _ _ _ (by have := M1.out; have := HI.out; omega) (by have := M1.out; have := HI.out; have := HJ.out; simp; omega) (by rw [HI.out]) (by have := HI.out; have := HJ.out; simp; omega)).mono ?_; rintro e w1 ⟨rfl, hR1, hO1⟩; have R1 := Lib.hid hR1; have O1 := Lib.hid hO1; clear hR1 hO1)
      go_roundw
      case rel => exact ⟨x1, v1.drop (j - i), v1.take (j - i), u1 ++ y1, by have := HI.out; have := HJ.out; simp; omega, by have := HI.out; have := HJ.out; simp; omega, by have := HI.out; have := HJ.out; simp; omega, by have := HI.out; have := HJ.out; simp; omega, by have := HI.out; have := HJ.out; have := M1.out; simp; omega, by rw [← T.out]; simp, by simpa using R1.out, O.out.trans O1.out (fun _ _ e => e)⟩
      case measure => simp [intOf]; omega
    · subst hij
      have hne : ((i : Int) != (i : Int)) = false := by simp
      go_wp2_with (go_at_call 78; refine (swapRangeZ R.out x1 u1 [] v1 y1 (by simp) hs _ _ _ (by have := M1.out; have := HI.out; omega) (by have := M1.out; have := HI.out; have := HJ.out; simp; omega) (by rw [HI.out]) (by have := HI.out; have := HJ.out; omega)).mono ?_; rintro e w1 ⟨rfl, hR1, hO1⟩; have R1 := Lib.hid hR1; have O1 := Lib.hid hO1; clear hR1 hO1)
      go_end0
      exact ⟨rfl, by rw [← T.out]; simpa using R1.out, O.out.trans O1.out (fun _ _ e => e)⟩
    · have hne : ((i : Int) != (j : Int)) = true := by rw [bne_iff_ne]; omega
      go_wp2_with (go_at_call 78; refine (swapRangeZ R.out x1 (u1.take j) (u1.drop j) v1 y1 (by simp) hs _ _ _ (by have := M1.out; have := HI.out; omega) (by have := M1.out; have := HI.out; have := HJ.out; simp; omega) (by have := HI.out; simp; omega) (by have := HI.out; have := HJ.out; simp; omega)).mono ?_; rintro e w1 ⟨rfl, hR1, hO1⟩; have R1 := Lib.hid hR1; have O1 := Lib.hid hO1; clear hR1 hO1)
      go_roundw
      case rel => exact ⟨x1 ++ v1, u1.drop j, u1.take j, y1, by have := HI.out; have := HJ.out; simp; omega, by have := HI.out; have := HJ.out; simp; omega, by have := HI.out; have := HJ.out; simp; omega, by have := HI.out; have := HJ.out; simp; omega, by have := HI.out; have := HJ.out; have := M1.out; simp; omega, by rw [← T.out]; simp, by simpa using R1.out, O.out.trans O1.out (fun _ _ e => e)⟩
      case measure => simp [intOf]; omega
end Go.Proofs.Ytlhmlejkfgejiaa.Stab
