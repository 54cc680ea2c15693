/-
  next: the next step from a node by which a way may go on. Conditions: as letFlow keeps them.
-/
import Derived.Test.YtdpacaomkahgfaaGreatDoorCqN
namespace Go.Proofs.YtdpacaomkahgfaaGreatDoor
open Go.RowKit Go.Proofs.YtdpacaomkahgfaaGreatDoor.DagM

set_option maxHeartbeats 8000000 in
set_option maxRecDepth 100000 in
theorem next {w0 w : World} {T p gx gf gl gs n r gd gt : Nat} {E : EndL} {V : Nat → Value} {x f lf : Nat → Int} {tk : Int} {far : Nat → Dst} {tr : Nat → Nat} {v : Nat}
    (h : RoundAt w0 w T p gx gf gl gs n E V x f lf tk r gd gt far tr) (hF : Fits E n x f) (_hn : n ≤ 4096) (hm : E.length ≤ 16384) (hx : ∀ v, v < n → -8192 ≤ x v ∧ x v ≤ 4096) (hv : v < n) (hfv : 0 ≤ (far v).2 ∧ (far v).2 ≤ 4096) (ht : tr v ≤ (stps E v).length) :
    Calls Tryz.prog 103 #[.pointer (some ⟨r, 0, none⟩), .int .i64 (v : Int)] w (Nexted w0 w T p gx gf gl gs n E V x f lf tk r gd gt far tr v) := by
  have H := Lib.hid h
  have FT := Lib.hid hF
  have HX := Lib.hid hx
  have hgt := h.rt.gl
  have hdeg := stps_len E v
  clear h hF hx
  go_enter Tryz.func103, Tryz.ntmps103
  go_wp2
  go_loopw [5] (fun bv wr => NxR w0 w T p gx gf gl gs n E V x f lf tk r gd gt far tr v w.heap.size wr bv) (fun _ wr => (stps E v).length - trOf wr gt v)
  case atStart => exact ⟨rfl, tr v, Nat.le_refl _, ht, fun i h1 h2 => by omega, by
    have e : (fun u => if u = v then tr v else tr u) = tr := by funext u; by_cases e : u = v <;> simp [e]
    rw [e]
    exact H.out.quiet ((Below.refl _ _).alloc (Nat.le_refl _) _), Out.ofBelow ((Below.refl _ _).alloc (Nat.le_refl _) _), heap_alloc_new w _⟩
  case round =>
    obtain ⟨rfl, t, ht1, ht2, hno, hI, hO, hcur⟩ := hrel
    have I := Lib.hid hI
    have NO := Lib.hid hno
    have O := Lib.hid hO
    have CU := Lib.hid hcur
    have hdeg2 : (stps E v).length ≤ 32768 := by omega
    have hBl : w.heap.size < wr.heap.size := (Array.getElem?_eq_some_iff.1 hcur).1
    have b0 : wr.cell? ⟨w.heap.size, 0, none⟩ = some (.int .i64 0) := by simp [World.cell?, hcur]
    have b1 : wr.cell? ⟨w.heap.size, 1, none⟩ = some (.int .i64 0) := by simp [World.cell?, hcur]
    have b2 : wr.cell? ⟨w.heap.size, 2, none⟩ = some (.int .i64 0) := by simp [World.cell?, hcur]
    have b3 : wr.cell? ⟨w.heap.size, 3, none⟩ = some (.int .i64 0) := by simp [World.cell?, hcur]
    have bf : ∀ j, wr.frozen? ⟨w.heap.size, j, none⟩ = false := fun j => by simp only [World.frozen?, hcur]; simp
    have bf0 := bf 0
    have bf1 := bf 1
    have bf2 := bf 2
    have bf3 := bf 3
    have c0 := hI.c0
    have c1 := hI.c1
    have c2 := hI.c2
    have n3 := hI.net.c3
    have s0 := hI.net.cellS hv
    obtain ⟨av, cv, hVv⟩ := hI.net.form hv
    rw [hVv] at s0
    have HV := Lib.hid hVv
    have t0 := hI.rt.cell hv
    have t1 := hI.rt.fr v
    simp only [if_true] at t0
    have hme : trOf wr gt v = t := trOf_eq t0
    have ME := Lib.hid hme
    clear hI hno hO hcur hVv hme
    clear bf
    generalize hdg : (stps E v).length = dg at *
    have DG := Lib.hid hdg
    clear hdg
    by_cases hlt : t < dg
    · have tf : decide (t < dg) = true := by simpa using hlt
      have hrow := I.out.net.rows v hv
      have hlt2 : t < (stps E v).length := by rw [DG.out]; exact hlt
      obtain ⟨gv, cv', hVs, _, hgv, _⟩ := ownsRow_form hrow (by omega)
      have hV2 := HV.out.symm.trans hVs
      simp only [Value.slice.injEq, DG.out, true_and] at hV2
      obtain ⟨rfl, rfl⟩ := hV2
      have hsm := List.getElem_mem hlt2
      obtain ⟨m1, m2, m3, m4, m5, m6, m7, m8⟩ := FT.out.step hsm
      have hsq : (stps E v)[t]? = some (stps E v)[t] := List.getElem?_eq_getElem hlt2
      have k4 := hrow.cell hVs hlt2
      clear hrow hVs
      generalize (stps E v)[t] = s at *
      have MS := Lib.hid hsm
      have SQ := Lib.hid hsq
      have M7 := Lib.hid m7
      have M8 := Lib.hid m8
      obtain ⟨k40, k41, k42, k43⟩ := k4
      clear hsm hsq m7 m8 m6
      go_wp2
      go_quiet (fail)
      go_wp2
      generalize hwq : World.drewN wr _ = wq
      have IQ : Hid (RoundAt w0 wq T p gx gf gl gs n E V x f lf tk r gd gt far (fun u => if u = v then t else tr u)) := Lib.hid (by rw [← hwq]; exact I.out.quiet (belowN (Below.refl _ _) _))
      have hcq : Hid (wq.heap[w.heap.size]? = some (.cells #[.int .i64 0, .int .i64 0, .int .i64 0, .int .i64 0] 102 (0, 0))) := Lib.hid (by rw [← hwq]; exact CU.out)
      have oq : Hid (Out (fun b => b = gt) w wq) := Lib.hid (by rw [← hwq]; exact O.out.trans (Out.ofBelow (belowN (Below.refl _ _) _)) (fun _ _ e => e))
      have k40 : wq.cell? ⟨gv, t * 4, none⟩ = some (.int .i64 (s.1 : Int)) := by rw [← hwq]; exact k40
      have k41 : wq.cell? ⟨gv, t * 4 + 1, none⟩ = some (.int .i64 (s.2.1 : Int)) := by rw [← hwq]; exact k41
      have k42 : wq.cell? ⟨gv, t * 4 + 2, none⟩ = some (.int .i64 (s.2.2.1 : Int)) := by rw [← hwq]; exact k42
      have k43 : wq.cell? ⟨gv, t * 4 + 3, none⟩ = some (.int .i64 (s.2.2.2 : Int)) := by rw [← hwq]; exact k43
      have hgv : gv < wq.heap.size := by rw [← hwq]; exact hgv
      have hmq : trOf wq gt v = t := by rw [← hwq]; exact ME.out
      have MQ := Lib.hid hmq
      clear hwq I O CU b0 b1 b2 b3 bf0 bf1 bf2 bf3 c0 c1 c2 n3 s0 t0 t1 hBl hmq
      have q0 := IQ.out.c0
      have q1 := IQ.out.c1
      have q2 := IQ.out.c2
      have q3 := IQ.out.net.c3
      have q4 := IQ.out.net.cellS hv
      rw [HV.out] at q4
      have q5 := IQ.out.rt.cell hv
      simp only [if_true] at q5
      have l0 := IQ.out.rl
      have l1 := IQ.out.net.pl
      have l2 := (World.ownsRow.lt IQ.out.net.rs gs rfl).2
      have l3 := IQ.out.rt.gl.2
      go_region
      generalize hwa : World.drew (World.alloc wq _) = wa
      have RA : Hid (RoundAt w0 wa T p gx gf gl gs n E V x f lf tk r gd gt far (fun u => if u = v then t else tr u)) := Lib.hid (by rw [← hwa]; exact IQ.out.quiet ((Below.refl _ _).alloc (Nat.le_refl _) _).drew)
      have hBq : w.heap.size < wq.heap.size := (Array.getElem?_eq_some_iff.1 hcq.out).1
      have ha : Hid (wa.heap[w.heap.size]? = some (.cells #[.int .i64 0, .int .i64 0, .int .i64 0, .int .i64 0] 102 (0, 0))) := Lib.hid (by rw [← hwa]; exact ((Below.refl wq.heap.size wq).alloc (Nat.le_refl _) _).block _ hBq |>.trans hcq.out)
      have oa : Hid (Out (fun b => b = gt) w wa) := Lib.hid (by rw [← hwa]; exact (oq.out.alloc _).drew)
      have hza : wa.heap.size = wq.heap.size + 1 := by rw [← hwa]; simp
      have e0 : wa.cell? ⟨wq.heap.size, 0, none⟩ = some (.int .i64 (s.1 : Int)) := by rw [← hwa]; clear hwa; go_simp
      have e1 : wa.cell? ⟨wq.heap.size, 1, none⟩ = some (.int .i64 (v : Int)) := by rw [← hwa]; clear hwa; go_simp
      have e2 : wa.cell? ⟨wq.heap.size, 2, none⟩ = some (.int .i64 (s.2.2.1 : Int)) := by rw [← hwa]; clear hwa; go_simp
      have e3 : wa.cell? ⟨wq.heap.size, 3, none⟩ = some (.int .i64 (s.2.2.2 : Int)) := by rw [← hwa]; clear hwa; go_simp
      have E0 := Lib.hid e0
      have E1 := Lib.hid e1
      have E2 := Lib.hid e2
      have E3 := Lib.hid e3
      have hBg : w.heap.size ≠ gt := by omega
      clear hwa k40 k41 k42 k43 q0 q1 q2 q3 q4 q5 l0 l1 l2 l3 hgv hcq oq
      have ca0 := fun d os => cell_regrown RA.out.c0 d os
      have ca1 := fun d os => cell_regrown RA.out.c1 d os
      have ca2 := fun d os => cell_regrown e0 d os
      have ca3 := fun d os => cell_regrown e1 d os
      have ca4 := fun d os => cell_regrown e2 d os
      have ca5 := fun d os => cell_regrown e3 d os
      have ca6 := fun d os => cell_regrown (RA.out.rd.cell m4).2 d os
      have ca7 := fun d os => cell_regrown (RA.out.rd.cell hv).2 d os
      have cO := fun d os => Calls.regrown_of (isOpen (RA.out.net.quiet (below_regrown wa d os)) s m1)
      have cS := fun d os => Calls.regrown_of (slack (RA.out.net.quiet (below_regrown wa d os)) HX.out s (by rw [m2]; exact hv) m4)
      have hadm : adm x f far s = (opn f s && decide (slk x s = 0) && decide ((far s.2.2.1).2 = (far v).2 + (s.2.2.2 : Int))) := by rw [← m2]; rfl
      have AD := Lib.hid hadm
      clear hadm e0 e1 e2 e3
      unfold stpV at cO cS
      rw [m2] at cO cS
      obtain ⟨hfv1, hfv2⟩ := hfv
      generalize hop : opn f s = op at *
      generalize hsk : slk x s = sk at *
      generalize hd1 : (far v).2 = dv at *
      generalize hd2 : (far s.2.2.1).2 = dt at *
      have w1 : IntKind.i64.wrap (dv + (s.2.2.2 : Int)) = dv + (s.2.2.2 : Int) := IntWalk.i64_in _ (by omega)
      cases op with
      | false =>
        have AD2 : Hid (adm x f far s = false) := Lib.hid (by rw [AD.out]; rfl)
        go_wp2
        refine wp_region_quiet_below (by kernel_rfl) (by kernel_rfl) ?_
        repeat (first | go_big_quiet_step (exact cO _ _) | go_big_quiet_step (exact cS _ _) | quiet_step (exact cO _ _) | quiet_step (exact cS _ _))
        refine wpQuiet_nil ?_
        intro _ hw'
        obtain ⟨pp, hw''⟩ := hw'
        subst hw''
        clear cO cS ca0 ca1 ca2 ca3 ca4 ca5 ca6 ca7 w1 hop hsk hd1 hd2 hfv1 hfv2 m5
        have B1 := below_regrown wa pp.d pp.os
        generalize Go.Sort.grow (redrawn wa pp.d) pp.os = w5 at B1 ⊢
        have R5 := Lib.hid (RA.out.quiet B1)
        have O5 := Lib.hid (oa.out.trans (Out.ofBelow B1) (fun _ _ e => e))
        have C5 : Hid (w5.heap[w.heap.size]? = some (.cells #[.int .i64 0, .int .i64 0, .int .i64 0, .int .i64 0] 102 (0, 0))) := Lib.hid (by rw [B1.block _ (by omega)]; exact ha.out)
        have z0 := R5.out.c2
        have z1 := R5.out.rt.cell hv
        simp only [if_true] at z1
        have z2 := R5.out.rt.fr v
        clear B1 IQ MQ RA ha oa E0 E1 E2 E3 M7 M8 AD k40 k41 k42 k43 hza hBq m1 m2 m4 MS hlt2 tf hdeg ht2 m3
        go_wp2
        go_roundw
        case rel => exact nx_step R5.out O5.out C5.out hBg ht1 (by rw [DG.out]; exact hlt) NO.out SQ.out AD2.out
        case measure => exact nx_less R5.out hv hlt ME.out
      | true =>
        by_cases h0 : sk = 0
        · have g0 : (sk == 0) = true := by simpa using h0
          by_cases h1 : dt = dv + (s.2.2.2 : Int)
          · have g1 : (dt == dv + (s.2.2.2 : Int)) = true := by simpa using h1
            have AD2 : Hid (adm x f far s = true) := Lib.hid (by rw [AD.out]; simp [h0, h1])
            clear h0 h1
            go_wp2
            refine wp_region_quiet_below (by kernel_rfl) (by kernel_rfl) ?_
            repeat (first | go_big_quiet_step (exact cO _ _) | go_big_quiet_step (exact cS _ _) | quiet_step (exact cO _ _) | quiet_step (exact cS _ _))
            refine wpQuiet_nil ?_
            intro _ hw'
            obtain ⟨pp, hw''⟩ := hw'
            subst hw''
            clear cO cS ca0 ca1 ca2 ca3 ca4 ca5 ca6 ca7 w1 hop hsk hd1 hd2 hfv1 hfv2 m5
            have B1 := below_regrown wa pp.d pp.os
            generalize Go.Sort.grow (redrawn wa pp.d) pp.os = w5 at B1 ⊢
            have R5 := Lib.hid (RA.out.quiet B1)
            have O5 := Lib.hid (oa.out.trans (Out.ofBelow B1) (fun _ _ e => e))
            have C5 : Hid (w5.heap[w.heap.size]? = some (.cells #[.int .i64 0, .int .i64 0, .int .i64 0, .int .i64 0] 102 (0, 0))) := Lib.hid (by rw [B1.block _ (by omega)]; exact ha.out)
            have y0 : w5.cell? ⟨wq.heap.size, 0, none⟩ = some (.int .i64 (s.1 : Int)) := (B1.cell (p := ⟨wq.heap.size, 0, none⟩) (by show wq.heap.size < _; omega)).trans E0.out
            have y1 : w5.cell? ⟨wq.heap.size, 1, none⟩ = some (.int .i64 (v : Int)) := (B1.cell (p := ⟨wq.heap.size, 1, none⟩) (by show wq.heap.size < _; omega)).trans E1.out
            have y2 : w5.cell? ⟨wq.heap.size, 2, none⟩ = some (.int .i64 (s.2.2.1 : Int)) := (B1.cell (p := ⟨wq.heap.size, 2, none⟩) (by show wq.heap.size < _; omega)).trans E2.out
            have y3 : w5.cell? ⟨wq.heap.size, 3, none⟩ = some (.int .i64 (s.2.2.2 : Int)) := (B1.cell (p := ⟨wq.heap.size, 3, none⟩) (by show wq.heap.size < _; omega)).trans E3.out
            have x0 : w5.cell? ⟨w.heap.size, 0, none⟩ = some (.int .i64 0) := by have h := C5.out; simp [World.cell?, h]
            have x1 : w5.cell? ⟨w.heap.size, 1, none⟩ = some (.int .i64 0) := by have h := C5.out; simp [World.cell?, h]
            have x2 : w5.cell? ⟨w.heap.size, 2, none⟩ = some (.int .i64 0) := by have h := C5.out; simp [World.cell?, h]
            have x3 : w5.cell? ⟨w.heap.size, 3, none⟩ = some (.int .i64 0) := by have h := C5.out; simp [World.cell?, h]
            have bf : ∀ j, w5.frozen? ⟨w.heap.size, j, none⟩ = false := fun j => by have h := C5.out; simp only [World.frozen?, h]; simp
            have bf0 := bf 0
            have bf1 := bf 1
            have bf2 := bf 2
            have bf3 := bf 3
            have hBz : wq.heap.size ≠ w.heap.size := by omega
            clear bf
            go_wp2
            generalize hw6 : World.setCell _ ⟨w.heap.size, 3, none⟩ _ = w6
            have hc6 : w6.heap[w.heap.size]? = some (.cells #[.int .i64 (s.1 : Int), .int .i64 (v : Int), .int .i64 (s.2.2.1 : Int), .int .i64 (s.2.2.2 : Int)] 102 (0, 0)) := by rw [← hw6]; exact cells4 C5.out
            have ho6 : Out (fun b => b = w.heap.size) w5 w6 := by
              rw [← hw6]
              exact ((((Out.refl _ w5).setIn _ _).setIn _ _).setIn _ _).setIn _ _
            clear hw6
            have z0 : w6.cell? ⟨w.heap.size, 0, none⟩ = some (.int .i64 (s.1 : Int)) := by simp [World.cell?, hc6]
            have z1 : w6.cell? ⟨w.heap.size, 1, none⟩ = some (.int .i64 (v : Int)) := by simp [World.cell?, hc6]
            have z2 : w6.cell? ⟨w.heap.size, 2, none⟩ = some (.int .i64 (s.2.2.1 : Int)) := by simp [World.cell?, hc6]
            have z3 : w6.cell? ⟨w.heap.size, 3, none⟩ = some (.int .i64 (s.2.2.2 : Int)) := by simp [World.cell?, hc6]
            refine bodyPost_ret (v := .tuple #[stpV s, .bool true]) (by simp [results, Tryz.results103, go_sem, z0, z1, z2, z3, stpV, m2]) rfl ⟨t, ht1, NO.out, R5.out.away ho6 (fun b e => by subst e; have a1 := H.out.rl; have a2 := H.out.rd.gl; have a3 := H.out.rt.gl; have a4 := H.out.net.top; exact ⟨by omega, by omega, by omega, a4⟩), ?_, Or.inl ⟨s, rfl, SQ.out, AD2.out⟩⟩
            exact O5.out.trans ho6 (fun i hi e => by omega)
          · have g1 : (dt == dv + (s.2.2.2 : Int)) = false := by simpa using h1
            have AD2 : Hid (adm x f far s = false) := Lib.hid (by rw [AD.out]; simp [h1])
            clear h0 h1
            go_wp2
            refine wp_region_quiet_below (by kernel_rfl) (by kernel_rfl) ?_
            repeat (first | go_big_quiet_step (exact cO _ _) | go_big_quiet_step (exact cS _ _) | quiet_step (exact cO _ _) | quiet_step (exact cS _ _))
            refine wpQuiet_nil ?_
            intro _ hw'
            obtain ⟨pp, hw''⟩ := hw'
            subst hw''
            clear cO cS ca0 ca1 ca2 ca3 ca4 ca5 ca6 ca7 w1 hop hsk hd1 hd2 hfv1 hfv2 m5
            have B1 := below_regrown wa pp.d pp.os
            generalize Go.Sort.grow (redrawn wa pp.d) pp.os = w5 at B1 ⊢
            have R5 := Lib.hid (RA.out.quiet B1)
            have O5 := Lib.hid (oa.out.trans (Out.ofBelow B1) (fun _ _ e => e))
            have C5 : Hid (w5.heap[w.heap.size]? = some (.cells #[.int .i64 0, .int .i64 0, .int .i64 0, .int .i64 0] 102 (0, 0))) := Lib.hid (by rw [B1.block _ (by omega)]; exact ha.out)
            have z0 := R5.out.c2
            have z1 := R5.out.rt.cell hv
            simp only [if_true] at z1
            have z2 := R5.out.rt.fr v
            clear B1 IQ MQ RA ha oa E0 E1 E2 E3 M7 M8 AD k40 k41 k42 k43 hza hBq m1 m2 m4 MS hlt2 tf hdeg ht2 m3
            go_wp2
            go_roundw
            case rel => exact nx_step R5.out O5.out C5.out hBg ht1 (by rw [DG.out]; exact hlt) NO.out SQ.out AD2.out
            case measure => exact nx_less R5.out hv hlt ME.out
        · have g0 : (sk == 0) = false := by simpa using h0
          have AD2 : Hid (adm x f far s = false) := Lib.hid (by rw [AD.out]; simp [h0])
          clear h0
          go_wp2
          refine wp_region_quiet_below (by kernel_rfl) (by kernel_rfl) ?_
          repeat (first | go_big_quiet_step (exact cO _ _) | go_big_quiet_step (exact cS _ _) | quiet_step (exact cO _ _) | quiet_step (exact cS _ _))
          refine wpQuiet_nil ?_
          intro _ hw'
          obtain ⟨pp, hw''⟩ := hw'
          subst hw''
          clear cO cS ca0 ca1 ca2 ca3 ca4 ca5 ca6 ca7 w1 hop hsk hd1 hd2 hfv1 hfv2 m5
          have B1 := below_regrown wa pp.d pp.os
          generalize Go.Sort.grow (redrawn wa pp.d) pp.os = w5 at B1 ⊢
          have R5 := Lib.hid (RA.out.quiet B1)
          have O5 := Lib.hid (oa.out.trans (Out.ofBelow B1) (fun _ _ e => e))
          have C5 : Hid (w5.heap[w.heap.size]? = some (.cells #[.int .i64 0, .int .i64 0, .int .i64 0, .int .i64 0] 102 (0, 0))) := Lib.hid (by rw [B1.block _ (by omega)]; exact ha.out)
          have z0 := R5.out.c2
          have z1 := R5.out.rt.cell hv
          simp only [if_true] at z1
          have z2 := R5.out.rt.fr v
          clear B1 IQ MQ RA ha oa E0 E1 E2 E3 M7 M8 AD k40 k41 k42 k43 hza hBq m1 m2 m4 MS hlt2 tf hdeg ht2 m3
          go_wp2
          go_roundw
          case rel => exact nx_step R5.out O5.out C5.out hBg ht1 (by rw [DG.out]; exact hlt) NO.out SQ.out AD2.out
          case measure => exact nx_less R5.out hv hlt ME.out
    · have tf : decide (t < dg) = false := by simpa using hlt
      have hE : t = dg := by omega
      have HE := Lib.hid hE
      have ht3 := ht1
      clear hlt hE ht1 ht2
      go_wp2
      go_quiet (fail)
      go_wp2
      generalize hw2 : World.setCell _ ⟨w.heap.size, 3, none⟩ _ = w2
      have hc2 : w2.heap[w.heap.size]? = some (.cells #[.int .i64 0, .int .i64 0, .int .i64 0, .int .i64 0] 102 (0, 0)) := by rw [← hw2]; exact cells4 CU.out
      have ho2 : Out (fun b => b = w.heap.size) wr w2 := by
        rw [← hw2]
        exact (((((Out.refl _ wr).trans (Out.ofBelow (belowN (Below.refl _ _) _)) (fun _ _ e => e)).setIn _ _).setIn _ _).setIn _ _).setIn _ _
      clear hw2
      have z0 : w2.cell? ⟨w.heap.size, 0, none⟩ = some (.int .i64 0) := by simp [World.cell?, hc2]
      have z1 : w2.cell? ⟨w.heap.size, 1, none⟩ = some (.int .i64 0) := by simp [World.cell?, hc2]
      have z2 : w2.cell? ⟨w.heap.size, 2, none⟩ = some (.int .i64 0) := by simp [World.cell?, hc2]
      have z3 : w2.cell? ⟨w.heap.size, 3, none⟩ = some (.int .i64 0) := by simp [World.cell?, hc2]
      refine bodyPost_ret (v := .tuple #[stpV (0, 0, 0, 0), .bool false]) (by simp [results, Tryz.results103, go_sem, z0, z1, z2, z3, stpV]) rfl ⟨t, ht3, NO.out, I.out.away ho2 (fun b e => by subst e; have a1 := H.out.rl; have a2 := H.out.rd.gl; have a3 := H.out.rt.gl; have a4 := H.out.net.top; exact ⟨by omega, by omega, by omega, a4⟩), ?_, Or.inr ⟨rfl, by rw [DG.out]; exact HE.out⟩⟩
      exact O.out.trans ho2 (fun i hi e => by omega)
theorem nextSpec : NextSpec := fun h hF hn hm hx hv hfv ht => next h hF hn hm hx hv hfv ht
end Go.Proofs.YtdpacaomkahgfaaGreatDoor
