/-
  LayerTight: the law's own walk; its argument opened. Conditions: none (numbers within their types).
-/
import Derived.Test.YtdapbhnonhamhaaLayTightW
import Derived.Deep.RegionHeld3
namespace Go.Proofs.Ytdapbhnonhamhaa
open Go.RowKit Go.Proofs.Ytdapbhnonhamhaa.DagM Go.ChangeShapes Go.WideShapes Go.Deep

def TiRel (n : Nat) (w3 wr : World) (iv : Value) : Prop := ∃ k : Nat, iv = .int .i64 k ∧ k ≤ n ∧ Below w3.heap.size w3 wr

set_option maxHeartbeats 8000000 in
set_option maxRecDepth 100000 in
theorem tightLaw (N : Int) (A : Option Addr) (len cap : Nat) (D : Nat → Int × Int × Int) (w : World) (hN0 : 0 ≤ N) (hN1 : N ≤ 255) (hT : TriAt w A len D) :
    Calls Try.prog 6 #[.agg #[.int .u8 N, .slice A len cap]] w fun e w' => e = .returned (.bool true) ∧ Below w.heap.size w w' := by
  have T := Lib.hid hT
  clear hT
  go_enter Try.func6, Try.ntmps6
  go_wp2_with (first
    | (go_at_call 14; refine (make_ N A len cap 40 D _ hN0 hN1 (by omega) (by omega) (T.out.below ((Below.refl _ _).alloc (Nat.le_refl _) _))).mono ?_; rintro e w1 ⟨n, vK, K, rfl, hnm, hRi, hO, hb⟩; obtain ⟨aK, cK, rfl⟩ := hO.form; have OK1 := Lib.hid hO.arcs; have B1 : Hid (Below w.heap.size w w1) := Lib.hid (((Below.refl _ _).alloc (Nat.le_refl _) _).trans (hb.mono (by simp))); have z1 : w.heap.size + 1 ≤ w1.heap.size := (by have := hb.size; simpa using this); have hn1 : 1 ≤ n := hRi.n1; have hKl : K.length ≤ 40 := hRi.len; have RO := Lib.hid (hRi.ord (by omega)); have RM := Lib.hid (hRi.may (by omega)); clear hRi hO hb)
    | (go_at_call 15; refine (layersOk n _ K _ OK1.out RO.out).mono ?_; rintro e w2 ⟨v2, d, rfl, ho, hd, hdn, hb⟩; obtain ⟨a2, c2, rfl⟩ := ho.form; rw [List.length_map, List.length_range]; have LD := Lib.hid hd; have DN := Lib.hid hdn; have O2 := Lib.hid (by have h := ho.toI.ints; rw [List.length_map, List.length_range] at h; exact h : IntsAt w2 (.slice a2 n c2) (castI ((List.range n).map d))); have B2 := Lib.hid hb; have z2 := hb.size; clear ho hd hdn hb)
    | (go_at_call 20; refine (wakes4 _).mono ?_; rintro e w3 ⟨rfl, hb⟩; have s0 : w3.cell? ⟨w2.heap.size, 0, none⟩ = some (.slice a2 n c2) := (hb.cell (p := ⟨w2.heap.size, 0, none⟩) (by simp)).trans (by go_simp); have Q3 : Hid (Below w2.heap.size w2 w3) := Lib.hid (((Below.refl _ _).alloc (Nat.le_refl _) _).trans (hb.mono (by simp))); have z3 : w2.heap.size + 1 ≤ w3.heap.size := (by have := hb.size; simpa using this); clear hb))
  have S0 := Lib.hid s0
  have O3 := Lib.hid (O2.out.below Q3.out)
  have AK := Lib.hid ((OK1.out.below B2.out).below Q3.out)
  have BZ := Lib.hid (B1.out.trans ((B2.out.trans (Q3.out.mono z2)).mono (by omega)))
  clear s0 O2 OK1 B1 B2 Q3
  go_loopw [33] (fun iv wr => TiRel n w3 wr iv) (fun iv _ => n - (intOf iv).toNat)
  case atStart => exact ⟨0, rfl, by omega, Below.refl _ _⟩
  case round =>
    obtain ⟨k, rfl, hk, hB⟩ := hrel
    have B := Lib.hid hB
    have hwz := hB.size
    clear hB
    by_cases hlt : k < n
    · have hTg : TgAt n d k (wr.alloc (.cells #[.int .i64 (k : Int)] 3)) wr.heap.size w2.heap.size (.slice a2 n c2) :=
        ⟨by simp, by rw [World.cell?_alloc_lt _ _ _ (show w2.heap.size < wr.heap.size by omega)]; exact (B.out.cell (p := ⟨w2.heap.size, 0, none⟩) (show w2.heap.size < w3.heap.size by omega)).trans S0.out, (O3.out.below B.out).below ((Below.refl _ _).alloc (Nat.le_refl _) _), by simp, by simp; omega⟩
      have TG := Lib.hid hTg
      have hAk := Lib.hid ((AK.out.below B.out).below ((Below.refl _ _).alloc (Nat.le_refl _) (.cells #[.int .i64 (k : Int)] 3)))
      have HI := Lib.hid (tight_iff LD.out RM.out k)
      have hdk := DN.out k
      clear hTg
      by_cases hp : 0 < d k
      · have t1 : decide (0 < d k) = true := by simpa using hp
        have t2 : decide ((0 : Int) < (d k : Int)) = true := by simpa using hp
        go_wp2_with (go_at_call 22; refine (containsTight n d k _ _ _ _ K _ hAk.out RM.out TG.out hlt DN.out).mono ?_; rintro e w5 ⟨rfl, hb⟩; rw [HI.out, t1]; obtain ⟨b5, o5, c5, e5, _, f5⟩ := (TG.out.below hb).at_ hlt; have f6 := (TG.out.below hb).c0; have f7 := (TG.out.below hb).s0; rw [e5] at f7; have B5 := Lib.hid (B.out.trans ((((Below.refl _ _).alloc (Nat.le_refl _) _).trans (hb.mono (by simp))).mono hwz)); clear hb)
        go_roundw
        case rel => exact ⟨k + 1, by go_num, by omega, B5.out⟩
        case measure => simp [intOf]; omega
      · have t1 : decide (0 < d k) = false := by simpa using hp
        have t2 : decide ((0 : Int) < (d k : Int)) = false := by simp; omega
        go_wp2_with (go_at_call 22; refine (containsTight n d k _ _ _ _ K _ hAk.out RM.out TG.out hlt DN.out).mono ?_; rintro e w5 ⟨rfl, hb⟩; rw [HI.out, t1]; obtain ⟨b5, o5, c5, e5, _, f5⟩ := (TG.out.below hb).at_ hlt; have f6 := (TG.out.below hb).c0; have f7 := (TG.out.below hb).s0; rw [e5] at f7; have B5 := Lib.hid (B.out.trans ((((Below.refl _ _).alloc (Nat.le_refl _) _).trans (hb.mono (by simp))).mono hwz)); clear hb)
        go_roundw
        case rel => exact ⟨k + 1, by go_num, by omega, B5.out⟩
        case measure => simp [intOf]; omega
    · obtain hkn : n = k := by omega
      subst hkn
      have s1 := (B.out.cell (p := ⟨w2.heap.size, 0, none⟩) (show w2.heap.size < w3.heap.size by omega)).trans S0.out
      have O4 := Lib.hid (O3.out.below B.out)
      have hrk := lay_rank LD.out RM.out
      have RK := Lib.hid hrk
      clear hrk hlt hk
      go_wp2
      go_region_held3 (fun w' => w'.cell? ⟨w2.heap.size, 0, none⟩ = some (.slice a2 n c2))
        (first | go_keep | (rw [Q6.out.cell (p := ⟨w2.heap.size, 0, none⟩) (show w2.heap.size < wr.heap.size by omega)]; assumption) | (rw [Q7.out.cell (p := ⟨w2.heap.size, 0, none⟩) (show w2.heap.size < wr.heap.size by omega)]; assumption))
        ((first
          | (go_at_call 24; refine (refRanks _ (castI ((List.range n).map d)) _ (O4.out.below ((Below.refl _ _).drew)) (by simp [castI]; omega)).mono ?_; rintro e w6 ⟨v6, rfl, ho, hb⟩; obtain ⟨a6, c6, rfl⟩ := ho.form; rw [RK.out] at ho; have O6 := Lib.hid ho; have Q6 : Hid (Below wr.heap.size wr w6) := Lib.hid (((Below.refl _ _).drew).trans hb); clear ho hb)
          | (go_at_call 11; refine (equalI _ _ (castI ((List.range n).map d)) (castI ((List.range n).map d)) _ (by simpa [castI, rkL] using O6.out.ints) (O4.out.below Q6.out) (by simp [castI]; omega) (by simp [castI]; omega)).mono ?_; rintro e w7 ⟨rfl, hb⟩; rw [show (castI ((List.range n).map d) == castI ((List.range n).map d)) = true by simp]; have Q7 := Lib.hid (Q6.out.trans (hb.mono Q6.out.size)); clear hb)))
      all_goals
        go_wp2
        go_ret
        exact ⟨rfl, BZ.out.trans ((B.out.trans (Q7.out.mono hwz)).mono (by omega))⟩

set_option maxRecDepth 100000 in
theorem tight_arg {H : Type} {enc : TypeId × Value → H} {w : World} {v : Value} {d : DataW H} {p : List MemPlace} {spare : Nat → Bool} {held : Bool} {b0 : Nat}
    (hv : Value.okWide Try.prog w .any b0 38 v) (h : DataW.Trod enc Try.prog w 0 spare held 38 v d p) :
    Calls Try.prog 6 #[v] w fun e w' => e = .returned (.bool true) ∧ Below w.heap.size w w' := by
  obtain ⟨N, A, len, cap, D, rfl, h0, h1, hT⟩ := raw_open hv h
  exact tightLaw N A len cap D w h0 h1 hT
end Go.Proofs.Ytdapbhnonhamhaa
