/-
  Layers: what it answers. Span: the greatest less the least. Conditions: Span's numbers are within a million.
-/
import Derived.Test.YtdapbhnonhamhaaLayB
import Derived.Test.YtdapbhnonhamhaaLayD
import Derived.Test.YtdapbhnonhamhaaDagG
namespace Go.Proofs.Ytdapbhnonhamhaa
open Go.RowKit Go.Proofs.Ytdapbhnonhamhaa.DagM

/-- What Layers leaves: the layers d, if the graph is a dag; its error. -/
def Layered (n : Int) (L : List Arc) (w : World) (e : Ending) (w' : World) : Prop :=
  (ordErr n L = 0 ∧ ∃ v d, e = .returned (.tuple #[v, .int .i64 0]) ∧ OwnN w' w.heap.size v ((List.range n.toNat).map d) ∧ Lay (ends L) d ∧ (∀ u, d u ≤ n.toNat) ∧ Below w.heap.size w w') ∨
  (ordErr n L ≠ 0 ∧ e = .returned (.tuple #[.slice none 0 0, .int .i64 (ordErr n L)]) ∧ Below w.heap.size w w')
theorem ends_lt {n : Int} {L : List Arc} (h : May n L) : ∀ e ∈ ends L, e.1 < n.toNat ∧ e.2 < n.toNat := by
  intro e he
  obtain ⟨a, ha, rfl⟩ := List.mem_map.1 he
  have := h.ok a ha
  simp only
  omega
/-- The order of a dag is one in which all comes ahead of what it leads to. -/
theorem ahead_of {n : Int} {L : List Arc} (h0 : ordErr n L = 0) : Ahead (ends L) n.toNat (ordRes n L) ∧ ∀ e ∈ ends L, e.1 ∈ ordRes n L := by
  have hM := ordErr_may h0
  have hG := (topo_gr (E := ends L) (n := n.toNat)).1
  have hl := gr_len hG
  rw [ordErr_ok hM] at h0
  have hlen : ¬ (topo (ends L) n.toNat).length < n.toNat := fun h => by rw [if_pos h] at h0; omega
  have e : ordRes n L = topo (ends L) n.toNat := by
    unfold ordRes
    rw [if_pos ((mayB_iff n L).2 hM), if_neg hlen]
  rw [e]
  refine ⟨⟨by omega, gr_lt hG, fun k hk w hw => ⟨(ends_lt hM _ hw).2, ?_⟩⟩, fun e he => ?_⟩
  · have h1 : (topo (ends L) n.toNat).take (k + 1) = (topo (ends L) n.toNat).take k ++ [(topo (ends L) n.toNat)[k]] := List.take_succ_eq_append_getElem hk
    have h2 := gr_take hG (k + 1)
    rw [h1] at h2
    exact gr_fresh h2 hw
  · have hs := (gr_nodup hG)
    apply Classical.byContradiction
    intro hno
    have := pigeon (n := n.toNat) (P := e.1 :: topo (ends L) n.toNat) (List.nodup_cons.2 ⟨hno, hs⟩) (fun v hv => by
      rcases List.mem_cons.1 hv with rfl | hv
      · exact (ends_lt hM _ he).1
      · exact gr_lt hG v hv)
    simp at this
    omega

set_option maxHeartbeats 1000000 in
theorem layers (n : Int) (v : Value) (L : List Arc) (w : World) (hA : ArcsAt w v L) :
    Calls Try.prog 15 #[.int .i64 n, v] w (Layered n L w) := by
  have HA := Lib.hid hA
  by_cases h0 : ordErr n L = 0
  · have hM := ordErr_may h0
    obtain ⟨N, rfl⟩ : ∃ N : Nat, n = (N : Int) := ⟨n.toNat, by have := hM.n0; omega⟩
    have hN : N ≤ 4096 := by have := hM.n1; omega
    have ah := ahead_of h0
    rw [Int.toNat_natCast] at ah
    have AH := Lib.hid ah
    have MY := Lib.hid hM
    have H0 := Lib.hid h0
    have OB := Lib.hid (fun u => Nat.le_trans (outs_len (ends L) u) (by have := hM.len; unfold ends; simpa using this : (ends L).length ≤ 16384))
    clear ah hM h0 hA
    go_enter Try.func15, Try.ntmps15
    go_wp2_with (first
      | (go_at_call 30; (with_reducible refine (longestWays (ends L) N _ _ _ _ _ hN AH.out.1 (O1.out.ints.below (Rw2.out.below.mono (Nat.le_refl _))) Rw2.out.read OB.out).mono ?_); rintro e w3 ⟨g3, x3, rfl, hX, hS⟩; have X3 := Lib.hid hX; have S3 := Lib.hid hS; clear hX hS)
      | (go_at_call 31; refine (leadsTo N v L _ (HA.out.below B1.out) MY.out).mono ?_; rintro e w2 ⟨g2, V2, rfl, hR⟩; have Rw2 := Lib.hid hR; clear hR)
      | (go_at_call 9; go_loud (refine (order N v L _ HA.out).mono ?_; rintro e w1 ⟨v1, rfl, ho, hb⟩; obtain ⟨a1, c1, rfl⟩ := ho.form; rw [H0.out]; have B1 := Lib.hid hb; have O1 := Lib.hid ho.toI; clear ho hb)))
    go_ret2
    refine Or.inl ⟨H0.out, _, x3, rfl, ?_, S3.out.lay AH.out.2, fun u => ?_, ?_⟩
    · exact X3.out.own.base (Nat.le_trans B1.out.size Rw2.out.below.size)
    · have := S3.out.bd u
      rw [AH.out.1.len] at this
      simpa using this
    · exact B1.out.trans ((Rw2.out.below.trans (X3.out.below.mono Rw2.out.below.size)).mono B1.out.size)
  · have hb : (ordErr n L == 0) = false := by simpa using h0
    have hb2 : (ordErr n L != 0) = true := by simpa using h0
    have H0 := Lib.hid h0
    clear h0 hA
    go_enter Try.func15, Try.ntmps15
    go_wp2_with (go_at_call 9; refine (order n v L _ HA.out).mono ?_; rintro e w1 ⟨v1, rfl, ho, hb⟩; obtain ⟨a1, c1, rfl⟩ := ho.form; have B1 := Lib.hid hb; clear ho hb)
    go_ret2
    exact Or.inr ⟨H0.out, rfl, B1.out⟩

theorem span (v : Value) (x : List Int) (w : World) (h : IntsAt w v x) (hl : x.length ≤ 1000000) (hx : ∀ y ∈ x, -1000000 ≤ y ∧ y ≤ 1000000) :
    Calls Try.prog 17 #[v] w fun e w' => e = .returned (.int .i64 (spanI x)) ∧ w = w' := by
  obtain ⟨A, cap, rfl, _, hA⟩ := h
  by_cases h0 : x.length = 0
  · have e : spanI x = 0 := by unfold spanI; rw [if_pos h0]
    have SE := Lib.hid e
    clear e hA
    go_enter Try.func17, Try.ntmps17
    go_wp2
    go_ret
    exact ⟨ret_int SE.out.symm, rfl⟩
  · obtain ⟨b, o, rfl, hb, hc⟩ := hA (by omega)
    have e : spanI x = Lib.maxOf x - Lib.minOf x := by unfold spanI; rw [if_neg h0]
    have SE := Lib.hid e
    have h1 := hx _ (maxOf_mem (x := x) (by omega))
    have h2 := hx _ (minOf_mem (x := x) (by omega))
    have hc2 : ∀ j, j < x.length → w.cell? ⟨b, o + j, none⟩ = some (.int .i64 (x.getD j 0)) := fun j hj => by
      rw [hc j hj]
      simp [List.getD_eq_getElem?_getD, hj]
    have MX := Lib.hid (kept (Go.Proofs.Try.slices_Max_int b o x.length cap x w (by omega) (Nat.le_refl _) (by omega) hc2))
    have MN := Lib.hid (kept (Go.Proofs.Try.slices_Min_int b o x.length cap x w (by omega) (Nat.le_refl _) (by omega) hc2))
    rw [List.take_length] at MX MN
    generalize Lib.maxOf x = p at *
    generalize Lib.minOf x = q at *
    have hb0 : ((x.length : Int) == 0) = false := by rw [beq_eq_false_iff_ne]; omega
    clear e hc hc2 hA hx
    go_enter Try.func17, Try.ntmps17
    go_wp2_with (first
      | (go_at_call 32; refine (MX.out).mono ?_; rintro e w1 ⟨rfl, rfl⟩)
      | (go_at_call 33; refine (MN.out).mono ?_; rintro e w1 ⟨rfl, rfl⟩))
    go_ret
    exact ⟨ret_int SE.out.symm, rfl⟩
end Go.Proofs.Ytdapbhnonhamhaa
