/-
  An edge's cells joined. Conditions: the edge's way lies below the grid; bends of letters.
-/
import Derived.Test.YtecifgaekefkpaaDoorNcK
import Derived.Lib.OthersKept
import Derived.StillTailTactics
namespace Go.Proofs.YtecifgaekefkpaaDoor
open Go.RowKit Go.Proofs.YtecifgaekefkpaaDoor.LexM Go.Proofs.YtecifgaekefkpaaDoor.ParM Go.Proofs.YtecifgaekefkpaaDoor.GrM Go.Proofs.YtecifgaekefkpaaDoor.NmM

theorem GrdAt.notIter {w : World} {p q N k : Nat} {v : Value} {L : List Int} {s : ByteArray} (h : GrdAt w p v L N) (hq : w.heap[q]? = some (.stringIter s k)) : ¬ FootG p v q := by
  rintro (rfl | e)
  · rw [h.blk] at hq; cases hq
  · rcases h.row.2 with ⟨q2, _⟩ | ⟨g, c1, c2, hv, _, hgk, _⟩
    · rw [q2] at e; cases e
    · have hg' : g = q := by rw [hv] at e; simpa [Value.ownBlock] using e
      subst hg'
      rw [hgk] at hq; cases hq
theorem out_iter (w : World) (q : Nat) (s : ByteArray) (k : Nat) : Out (fun b => b = q) w (w.iterAt q s k) :=
  ⟨rfl, rfl, rfl, Nat.le_of_eq (Lib.iterAt_size _ _ _ _).symm, fun _ _ hn => Lib.iterAt_other _ _ _ _ _ hn⟩
theorem GrB.iter {G : Nat} {w0 w : World} {p N q k : Nat} {v : Value} {L : List Int} {s : ByteArray} (h : GrB G w0 w p v L N) (hq : w.heap[q]? = some (.stringIter s k)) (hG : G ≤ q) (k' : Nat) : GrB G w0 (w.iterAt q s k') p v L N :=
  ⟨h.grd.out (out_iter w q s k') (fun b hb e => by subst e; exact h.grd.notIter hq hb), h.foot, Lib.below_iterAt h.bel hG s k'⟩
def JeR (G : Nat) (w0 wr : World) (p N : Nat) (L W : List Int) (d0 : Int) (bl : List UInt8) (o : Int) (it : Nat) (sb : ByteArray) (dv : Value) : Prop :=
  ∃ (k z : Nat) (v : Value), dv = .int .i64 z ∧ (z : Int) = lastT d0 (bl.take k) ∧ k ≤ bl.length ∧ wr.heap[it]? = some (.stringIter sb k) ∧ GrB G w0 wr p v (jnA N L (egJ W d0 bl o k)) N
set_option maxHeartbeats 16000000 in
set_option maxRecDepth 100000 in
theorem joinEdgeY {w0 w : World} {G C p N m cm : Nat} {v : Value} {L W : List Int} {A : Option Addr} (y1 y2 d0 o : Int) (bl : List UInt8) (h : GrB G w0 w p v L N) (hG : G = w0.heap.size) (hGw : G ≤ w.heap.size) (hW : OwnZ w0 C (.slice A m cm) W m) (hm : m = bl.length + 2) (ha : Asc bl) (hz : bl.length ≤ 5000) (h0 : 0 ≤ d0) (h3 : d0 ≤ 3) :
    Calls Tryd.prog 40 #[.pointer (some ⟨p, 0, none⟩), .agg #[.int .i64 y1, .int .i64 y2, .int .i64 d0, .string (bs bl)], .slice A m cm, .int .i64 o] w fun e w' => e = .returned (.tuple #[]) ∧ ∃ v', GrB G w0 w' p v' (jnA N L (egJ W d0 bl o (bl.length + 1))) N := by
  have H := Lib.hid h
  have HW := Lib.hid hW
  have HG := Lib.hid hG
  have HGW := Lib.hid hGw
  have HA := Lib.hid ha
  have hzb : (bs bl).size ≤ 5000 := by rw [bs_size]; exact hz
  have HZ := Lib.hid (bs_size bl)
  obtain ⟨sb, hsb⟩ : ∃ s, bs bl = s := ⟨_, rfl⟩
  have DA : Hid (sb.data.toList = bl) := Lib.hid (by rw [← hsb, bs_data])
  have L0 := Lib.hid (lastT_nil h0 h3)
  obtain ⟨z0, hd0⟩ : ∃ d : Nat, (d : Int) = d0 := ⟨d0.toNat, by omega⟩
  have Z0 := Lib.hid hd0
  rw [hsb] at HZ hzb ⊢
  have hms : m = sb.size + 2 := by rw [HZ.out]; exact hm
  have HMS := Lib.hid hms
  have hm9 : m ≤ 5010 := by omega
  obtain ⟨b0, cap, hv, _, hb0, _⟩ := ownsRow_form hW.2 (by omega)
  simp only [Value.slice.injEq] at hv
  obtain ⟨rfl, -, -⟩ := hv
  have BN := Lib.hid (fun (d : Nat) b w hd => bentY d b w hd)
  have WF : Hid (∀ wq, Below G w0 wq → ∀ i, i < m → wq.cell? ⟨b0, i, none⟩ = some (.int .i64 (W.getD i 0)) ∧ b0 < wq.heap.size) := Lib.hid (fun wq b i hi => by
    have o := HW.out.below b (Nat.le_of_eq HG.out.symm)
    exact ⟨o.at_ hi, (o.2.lt b0 rfl).2⟩)
  rw [← hd0]
  clear hz hsb h0 h3 ha h hG hGw hm hms hW hb0 hd0
  go_enter Tryd.func40, Tryd.ntmps40
  go_upto_region 1 with (fail)
  obtain ⟨w1, hw1⟩ : ∃ W, W = (w.alloc (.cells #[.int .i64 y1, .int .i64 y2, .int .i64 (z0 : Int), .string sb] 54)) := ⟨_, rfl⟩
  have b1 : Below w.heap.size w w1 := by rw [hw1]; exact (Below.refl _ _).alloc (Nat.le_refl _) _
  have hk : w1.heap[w.heap.size]? = some (.cells #[.int .i64 y1, .int .i64 y2, .int .i64 (z0 : Int), .string sb] 54 (0, 0)) := by rw [hw1]; exact heap_alloc_new w _
  have x2 : w1.cell? ⟨w.heap.size, 2, none⟩ = some (.int .i64 (z0 : Int)) := by simp [World.cell?, hk]
  have x3 : w1.cell? ⟨w.heap.size, 3, none⟩ = some (.string sb) := by simp [World.cell?, hk]
  have xl := (Array.getElem?_eq_some_iff.1 hk).1
  have H1 := Lib.hid (H.out.quiet HGW.out b1)
  have G1 := Lib.hid (Nat.le_trans HGW.out b1.size)
  rw [← hw1]
  clear hw1 b1 hk H
  go_wp2_with fail
  have H2 : Hid (GrB G w0 (w1.iter sb 0) p v L N) := Lib.hid (H1.out.quiet G1.out ((Below.refl _ _).alloc (Nat.le_refl _) _))
  have I2 := Lib.hid (World.iter_heap w1 sb 0)
  obtain ⟨it, hit⟩ : ∃ x, x = w1.heap.size := ⟨_, rfl⟩
  have GI : Hid (G ≤ it) := Lib.hid (by rw [hit]; exact G1.out)
  rw [← hit] at I2 ⊢
  generalize w1.iter sb 0 = w2 at *
  clear x2 x3 xl H1 G1 hit
  go_loopw [8] (fun dv wr => JeR G w0 wr p N L W d0 bl o it sb dv) (fun _ wr => sb.size - wr.iterPos it)
  case atStart => exact ⟨0, z0, v, rfl, Z0.out.trans L0.out.symm, Nat.zero_le _, I2.out, H2.out⟩
  case round =>
    clear H2 I2
    obtain ⟨k, z, v2, rfl, hz, hk, hI, hH⟩ := hrel
    have HI := Lib.hid hI
    have H3 := Lib.hid hH
    have hks : k ≤ sb.size := by rw [HZ.out]; exact hk
    have hr := lastT_range d0 (bl.take k)
    rw [← hz] at hr
    have hz3 : z < 4 := by omega
    have Z := Lib.hid hz
    have G3 := Lib.hid (show G ≤ wr.heap.size by rw [HG.out]; exact hH.bel.size)
    have MU : wr.iterPos it = k := by simp [World.iterPos, hI]
    clear hz hk hr hI hH
    by_cases hlt : k < sb.size
    · have hb := byte_at sb k hlt
      obtain ⟨b, hbe⟩ : ∃ b, sb[k]'hlt = b := ⟨_, rfl⟩
      rw [hbe, DA.out] at hb
      have TS := Lib.hid (take_snoc _ _ _ hb)
      have hb8 := HA.out b (List.mem_of_getElem? hb)
      have hnx := fun ty => Lib.run_next_ascii_at (P := Tryd.prog) wr it sb k ty HI.out hlt (by rw [hbe]; exact hb8)
      rw [hbe] at hnx
      have BB := Lib.hid (fun w => BN.out z b w hz3)
      obtain ⟨y, hy⟩ : ∃ y : Nat, ((z : Int) + addT b) % 4 = (y : Int) := ⟨(((z : Int) + addT b) % 4).toNat, by omega⟩
      rw [hy] at BB
      have NX : Hid ((y : Int) = lastT d0 (bl.take (k + 1))) := Lib.hid (by rw [TS.out, last_snoc, ← Z.out, hy])
      have I4 := Lib.hid (Lib.iterAt_heap wr it sb k (k + 1) HI.out)
      have H4 := Lib.hid (H3.out.iter HI.out GI.out (k + 1))
      obtain ⟨W4, hW4⟩ : ∃ Wq, wr.iterAt it sb (k + 1) = Wq := ⟨_, rfl⟩
      rw [hW4] at hnx I4 H4
      have G4 : Hid (G ≤ W4.heap.size) := Lib.hid (by rw [← hW4, Lib.iterAt_size]; exact G3.out)
      obtain ⟨k1, hk1⟩ : ∃ q, k + 1 = q := ⟨_, rfl⟩
      have cw : IntKind.i64.wrap ((k : Int) + 1) = (k1 : Int) := by rw [IntWalk.i64_in _ (by omega)]; omega
      have cw2 : (k : Int) + 1 = (k1 : Int) := by omega
      have cw3 : IntKind.i64.wrap (k1 : Int) = (k1 : Int) := IntWalk.i64_in _ (by omega)
      have hkm : k < m := by have := HMS.out; omega
      have hk1m : k1 < m := by have := HMS.out; omega
      obtain ⟨f0, fl⟩ := WF.out W4 H4.out.bel k hkm
      obtain ⟨f1, -⟩ := WF.out W4 H4.out.bel k1 hk1m
      obtain ⟨u0, hu0⟩ : ∃ u, W.getD k 0 = u := ⟨_, rfl⟩
      obtain ⟨u1, hu1⟩ : ∃ u, W.getD k1 0 = u := ⟨_, rfl⟩
      rw [hu0] at f0
      rw [hu1] at f1
      have CJ : Hid (jnA N L (egJ W d0 bl o (k + 1)) = (joiO (jnA N L (egJ W d0 bl o k)) N u0 (z : Int) u1 o).2) := Lib.hid (by
        show jnA N L (egJ W d0 bl o k ++ [(W.getD k 0, lastT d0 (bl.take k), W.getD (k + 1) 0, o)]) = _
        rw [jnA_snoc, hk1, hu0, hu1, ← Z.out]; rfl)
      have K1 := Lib.hid hk1
      clear hb hbe hb8 hy hW4 hu0 hu1 hk1
      go_upto_region 5 with (fail)
      go_still_tail 12, (by kernel_rfl)
      change wpList _ _ _ _ _ W4.drew
      go_wp2_with (first
        | (go_at_call 51; have H5' := H4.out.quiet G4.out (Below.refl _ _).drew; refine (joinAny H5'.grd u0 (z : Int) u1 o).mono ?_; rintro e w5 ⟨rfl, t5⟩; obtain ⟨v5, g5, o5⟩ := H5'.step G4.out t5; have H5 := Lib.hid g5; have I5 := Lib.hid ((o5.block it (Array.getElem?_eq_some_iff.1 I4.out).1 (H4.out.grd.notIter I4.out)).trans I4.out); clear t5 g5 o5 H5')
        | (go_at_call 49; refine (BB.out _).mono ?_; rintro e w' ⟨rfl, rfl⟩))
      go_roundw
      case rel => exact ⟨k + 1, y, v5, rfl, NX.out, by rw [← HZ.out]; omega, I5.out, by rw [CJ.out]; exact H5.out⟩
      case measure =>
        have h5 : w5.iterPos it = k + 1 := by simp [World.iterPos, I5.out]
        rw [h5, MU]
        omega
    · obtain rfl : k = sb.size := by omega
      have hnx := fun ty => Lib.run_next_end_at (P := Tryd.prog) wr it sb sb.size ty HI.out (Nat.lt_irrefl _)
      obtain ⟨l1, hl1⟩ : ∃ q, sb.size + 1 = q := ⟨_, rfl⟩
      have cw : IntKind.i64.wrap ((m : Int) - 1) = (l1 : Int) := by rw [IntWalk.i64_in _ (by omega)]; have := HMS.out; omega
      have cw2 : (m : Int) - 1 = (l1 : Int) := by have := HMS.out; omega
      have cw3 : IntKind.i64.wrap (l1 : Int) = (l1 : Int) := IntWalk.i64_in _ (by have := HMS.out; omega)
      have cw4 : (l1 : Int) - 1 = (sb.size : Int) := by omega
      have cw5 : IntKind.i64.wrap (sb.size : Int) = (sb.size : Int) := IntWalk.i64_in _ (by omega)
      have cw6 : IntKind.i64.wrap ((l1 : Int) - 1) = (sb.size : Int) := by rw [cw4]; exact cw5
      have hkm : sb.size < m := by have := HMS.out; omega
      have hk1m : l1 < m := by have := HMS.out; omega
      obtain ⟨f0, fl⟩ := WF.out wr H3.out.bel sb.size hkm
      obtain ⟨f1, -⟩ := WF.out wr H3.out.bel l1 hk1m
      obtain ⟨u0, hu0⟩ : ∃ u, W.getD sb.size 0 = u := ⟨_, rfl⟩
      obtain ⟨u1, hu1⟩ : ∃ u, W.getD l1 0 = u := ⟨_, rfl⟩
      rw [hu0] at f0
      rw [hu1] at f1
      have CJ : Hid (jnA N L (egJ W d0 bl o (bl.length + 1)) = (joiO (jnA N L (egJ W d0 bl o sb.size)) N u0 (z : Int) u1 o).2) := Lib.hid (by
        rw [← HZ.out]
        show jnA N L (egJ W d0 bl o sb.size ++ [(W.getD sb.size 0, lastT d0 (bl.take sb.size), W.getD (sb.size + 1) 0, o)]) = _
        rw [jnA_snoc, hl1, hu0, hu1, ← Z.out]; rfl)
      clear hu0 hu1 hl1
      go_upto_region 8 with (fail)
      go_still_tail 12, (by kernel_rfl)
      change wpList _ _ _ _ _ wr.drew
      go_wp2_with (go_at_call 51; have H5' := H3.out.quiet G3.out (Below.refl _ _).drew; refine (joinAny H5'.grd u0 (z : Int) u1 o).mono ?_; rintro e w5 ⟨rfl, t5⟩; obtain ⟨v5, g5, o5⟩ := H5'.step G3.out t5; have H5 := Lib.hid g5; clear t5 g5 o5 H5')
      go_end0
      exact ⟨rfl, v5, by rw [Z0.out, CJ.out]; exact H5.out⟩
end Go.Proofs.YtecifgaekefkpaaDoor
