/-
  leadsTo: of each node where its arcs lead. Conditions: the graph may be.
-/
import Derived.Test.YtdapbhnonhamhaaLayC
import Derived.Test.YtdapbhnonhamhaaDagD
namespace Go.Proofs.Ytdapbhnonhamhaa
open Go.RowKit Go.Proofs.Ytdapbhnonhamhaa.DagM

def Leads (N : Nat) (L : List Arc) (w : World) (e : Ending) (w' : World) : Prop := ∃ g V, e = .returned (.slice (some ⟨g, 0, none⟩) N N) ∧ RwsAt w w' g N V (outs (ends L))
def LdRel (N : Nat) (L : List Arc) (g : Nat) (w wr : World) (iv : Value) : Prop := ∃ (k : Nat) (V : Nat → Value), iv = .int .i64 k ∧ k ≤ L.length ∧ RwsAt w wr g N V (outs (ends (L.take k)))

set_option maxHeartbeats 4000000 in
set_option maxRecDepth 100000 in
theorem leadsTo (N : Nat) (v : Value) (L : List Arc) (w : World) (hA : ArcsAt w v L) (hM : May N L) :
    Calls Try.prog 31 #[.int .i64 N, v] w (Leads N L w) := by
  have HA := Lib.hid hA
  have HM := Lib.hid hM
  have hN : N ≤ 4096 := by have := hM.n1; omega
  have hL := hM.len
  obtain ⟨A, cap, rfl, hcap, -⟩ := hA
  obtain ⟨i0, hi, hz0, hz1, hz2⟩ := info_parts infoI
  have hmk2 := mkRowsN N (by omega)
  clear hM
  go_enter Try.func31, Try.ntmps31
  go_wp2
  clear hmk2
  go_loopw [12] (fun iv wr => LdRel N L w.heap.size w wr iv) (fun iv _ => L.length - (intOf iv).toNat)
  case atStart => exact ⟨0, _, rfl, by omega, rws_start ((Below.refl _ _).alloc (Nat.le_refl _) _) (Nat.le_refl _) (heap_alloc_new w _) (by omega)⟩
  case round =>
    obtain ⟨k, V, rfl, hk, hI⟩ := hrel
    have I := Lib.hid hI
    have hgl := hI.gl
    have hbs := hI.below.size
    clear hI
    by_cases hlt : k < L.length
    · obtain ⟨A', cap', e, _, hA⟩ := HA.out
      simp only [Value.slice.injEq, true_and] at e
      obtain ⟨rfl, rfl⟩ := e
      obtain ⟨b, o, rfl, hb, hcell⟩ := hA (by omega)
      obtain ⟨c0, c1, c2⟩ := hcell k hlt
      have d0 := (I.out.below.cell (p := ⟨b, o + k * 3, none⟩) hb).trans c0
      have d1 := (I.out.below.cell (p := ⟨b, o + k * 3 + 1, none⟩) hb).trans c1
      have d2 := (I.out.below.cell (p := ⟨b, o + k * 3 + 2, none⟩) hb).trans c2
      have ok := HM.out.ok L[k] (List.getElem_mem hlt)
      have he := ends_snoc L k hlt
      have HE := Lib.hid he
      clear he hA hcell c0 c1 c2
      generalize L[k] = a at *
      obtain ⟨x, y, z⟩ := a
      obtain ⟨u, rfl⟩ : ∃ u : Nat, x = (u : Int) := ⟨x.toNat, by simp only at ok; omega⟩
      obtain ⟨t, rfl⟩ : ∃ t : Nat, y = (t : Int) := ⟨y.toNat, by simp only at ok; omega⟩
      simp only at ok d0 d1 d2
      have hu : u < N := by omega
      clear ok
      have hr1 := outs_len (ends (L.take k)) u
      have hr2 := ends_len L k
      have hRu : (outs (ends (L.take k)) u).length ≤ 16384 := by omega
      clear hr1 hr2
      have g0 := I.out.cellG hu
      have g1 := I.out.frG u
      go_wp2
      go_region_law (refine step_rws rfl (.tmp 23) (.tmp 26) 26 rfl i0 8 Try.underlying26 hi hz0 hz1 hz2 I.out ((((Below.refl _ _).alloc (Nat.le_refl _) _).alloc (by simp) _).drew) u t hu (by simp [Act.eval]) ⟨wr.heap.size + 1, 0, none⟩ 1 (by simp [Act.eval]) (by intro j z hz; have hj : j = 0 := (by have := List.getElem?_eq_some_iff.1 hz; simp at this; omega); subst hj; simp at hz; subst hz; go_simp; rfl) (by unfold maxLen; omega) (by omega) ?_; intro gv cv w1 hJ ho hH hown; have J := Lib.hid hJ; have e0 := (ho.cell u hH.gl (fun e => hH.offG u hu e)).trans (hH.cellG hu); have e1 := (ho.frz u hH.gl (fun e => hH.offG u hu e)).trans (hH.frG u); have p0 : w1.cell? ⟨wr.heap.size, 0, none⟩ = some (.int .i64 (u : Int)) := (ho.cell 0 (by (simp <;> omega)) (fun e => absurd (hown _ e) (Nat.lt_irrefl _))).trans (by go_simp); clear hJ ho hH hown)
      all_goals
        go_wp2
        go_roundw
        case rel =>
          have e2 : (fun v => if v = u then outs (ends (L.take k)) u ++ [t] else outs (ends (L.take k)) v) = outs (ends (L.take (k + 1))) := by
            funext v
            rw [HE.out, outs_snoc]
            by_cases e : v = u
            · subst e; simp
            · simp [e, Ne.symm e]
          have J2 := J.out
          rw [e2] at J2
          exact ⟨k + 1, _, by go_num, by omega, (by first | exact J2 | exact J2.quiet (Below.refl _ _).drew)⟩
        case measure => simp [intOf]; omega
    · obtain rfl : k = L.length := by omega
      go_wp2
      go_ret
      have h := I.out
      rw [List.take_length] at h
      exact ⟨_, V, rfl, h⟩
end Go.Proofs.Ytdapbhnonhamhaa
