/-
  CertChecks: the walk. Conditions: what Solve is asked to leave; the library's table and errors are laid.
-/
import Derived.Test.YtdpacaomkahgfaaGreatDoorCtV
import Derived.Test.YtdpacaomkahgfaaGreatDoorCrLc
import Derived.BigRegion
import Derived.Deep.RegionHeld3
namespace Go.Proofs.YtdpacaomkahgfaaGreatDoor
open Go.RowKit Go.Proofs.YtdpacaomkahgfaaGreatDoor.DagM

theorem XzAt.other {w0 w : World} {g cap n k : Nat} {s : Nat → Int} (h : XzAt w0 w g cap n s) (hk : w0.heap.size ≤ k) (hne : k ≠ g) (t : Nat) (d : Value) : XzAt w0 (w.setCell ⟨k, t, none⟩ d) g cap n s := by
  have o2 : Out (fun b => b = k) w (w.setCell ⟨k, t, none⟩ d) := Out.setCell (S := fun b => b = k) (Out.refl _ w) (p := ⟨k, t, none⟩) (fun _ => rfl) _
  refine ⟨h.below.trans (o2.below h.below.size (fun i _ e => by subst e; exact hk)), h.g0, ownsRow_out h.row o2 (fun b hb e => ?_)⟩
  simp [Value.ownBlock] at hb
  exact hne (e.symm.trans hb.symm)
theorem XzAt.undrew {w0 w : World} {g cap n : Nat} {s : Nat → Int} (h : XzAt w0.drew w g cap n s) : XzAt w0 w g cap n s := ⟨(Below.refl _ _).drew.trans h.below, h.g0, h.row⟩
def QRow (w0 w : World) (g3 : Nat) (a : Option Addr) (c m : Nat) (t : Nat → Int) : Prop := 0 < m → ∃ g, a = some ⟨g, 0, none⟩ ∧ g ≠ g3 ∧ XzAt w0 w g c m t
theorem QRow.quiet {w0 w w' : World} {g3 c m : Nat} {a : Option Addr} {t : Nat → Int} (h : QRow w0 w g3 a c m t) (o : Below w.heap.size w w') : QRow w0 w' g3 a c m t := fun h0 => by
  obtain ⟨g, e, hne, hx⟩ := h h0
  exact ⟨g, e, hne, hx.quiet o⟩
theorem QRow.other {w0 w : World} {g3 c m : Nat} {a : Option Addr} {t : Nat → Int} (h : QRow w0 w g3 a c m t) (hk : w0.heap.size ≤ g3) (i : Nat) (d : Value) : QRow w0 (w.setCell ⟨g3, i, none⟩ d) g3 a c m t := fun h0 => by
  obtain ⟨g, e, hne, hx⟩ := h h0
  exact ⟨g, e, hne, hx.other hk (fun e => hne e.symm) i d⟩
theorem QRow.ints {w0 w : World} {g3 c m : Nat} {a : Option Addr} {t : Nat → Int} (h : QRow w0 w g3 a c m t) : IntsAt w (.slice a m c) ((List.range m).map t) := by
  by_cases h0 : 0 < m
  · obtain ⟨g, rfl, _, hx⟩ := h h0
    exact hx.own.ints
  · obtain rfl : m = 0 := by omega
    exact ⟨a, c, by simp, by simp, fun h1 => absurd h1 (by simp)⟩
/-- The graph with one arc more, in a row of the call's own. -/
def MoreC (K : List Arc) (a b : Nat) (w0 wx : World) (v : Value) : Prop := OwnA wx w0.heap.size v (K ++ [((a : Int), (b : Int), 0)]) ∧ Below w0.heap.size w0 wx
theorem newsC {w w5 : World} {T : TypeId} {a : Arc} (h : Below (w.alloc (.cells (encA a).toArray T)).heap.size (w.alloc (.cells (encA a).toArray T)) w5) : ∀ j z, (encA a)[j]? = some z → w5.cell? ((⟨w.heap.size, 0, none⟩ : Addr).add j) = some z := by
  intro j z hz
  have h1 := newsA w T a w.heap.size rfl j z hz
  rw [add_lit] at h1 ⊢
  exact (h.cell (p := ⟨w.heap.size, 0 + j, none⟩) (by simp)).trans h1
def CkP (n g3 c3 : Nat) (a4 : Option Addr) (c4 m : Nat) (f : List Int) (w0 wr : World) (iv : Value) : Prop := ∃ (i : Nat) (s : Nat → Int), iv = .int .i64 i ∧ i ≤ n ∧ XzAt w0 wr g3 c3 n s ∧ QRow w0 wr g3 a4 c4 m (fun u => f.getD u 0) ∧ ∀ u, i ≤ u → 0 ≤ s u ∧ s u ≤ 1000
def CkQ (n g3 c3 : Nat) (a4 : Option Addr) (c4 m : Nat) (s : Nat → Int) (w0 wr : World) (iv : Value) : Prop := ∃ (i : Nat) (t : Nat → Int), iv = .int .i64 i ∧ i ≤ m ∧ XzAt w0 wr g3 c3 n s ∧ QRow w0 wr g3 a4 c4 m t ∧ ∀ u, i ≤ u → 0 ≤ t u ∧ t u ≤ 1099511627776
theorem getD_near {l : List Int} {b : Int} (hb : 0 ≤ b) (h : ∀ y ∈ l, 0 ≤ y ∧ y ≤ b) (u : Nat) : 0 ≤ l.getD u 0 ∧ l.getD u 0 ≤ b := by
  by_cases hu : u < l.length
  · have := h l[u] (List.getElem_mem hu)
    simp [List.getD_eq_getElem?_getD, hu]
    omega
  · simp [List.getD_eq_getElem?_getD, hu, hb]
theorem flow_le {n : Nat} {L : List Arc} {x f : List Int} (h : certErr n L x f = 0) : ∀ c ∈ f, 0 ≤ c ∧ c ≤ 1099511627776 := by
  have hne : flowB L f = true := by
    unfold certErr at h
    by_cases h1 : costErr n L x = 0
    · rw [if_pos h1] at h
      by_cases h2 : flowB L f = true
      · exact h2
      · rw [if_neg h2] at h; exact absurd h (by decide)
    · rw [if_neg h1] at h; exact absurd h h1
  exact ((flowB_iff L f).1 hne).2
set_option maxHeartbeats 8000000 in
set_option maxRecDepth 100000 in
theorem checksLaw (hS : SolveSpec) (N : Int) (A : Option Addr) (len cap : Nat) (D : Nat → Int × Int × Int) (Ax Af : Option Addr) (cx cf : Nat) (xs fs : List Int) (p q : Int) (w : World) (hTb : TabE w) (hN0 : 0 ≤ N) (hN1 : N ≤ 255) (hT : TriAt w A len D)
    (hX : IntsAt w (.slice Ax xs.length cx) xs) (hF : IntsAt w (.slice Af fs.length cf) fs) (hp0 : 0 ≤ p) (hp1 : p ≤ 255) (hq0 : 0 ≤ q) (hq1 : q ≤ 255) :
    Calls Tryz.prog 3 #[.agg #[.int .u8 N, .slice A len cap, .slice Ax xs.length cx, .slice Af fs.length cf, .int .u8 p, .int .u8 q]] w fun e w' => e = .returned (.bool true) ∧ Below w.heap.size w w' := by
  have T := Lib.hid hT
  have HT := Lib.hid hTb
  have SV := Lib.hid hS
  have XA := Lib.hid hX
  have FA := Lib.hid hF
  clear hT hS hTb hX hF
  obtain ⟨i0, hi, hz0, hz1, hz2⟩ := info_parts infoA3c
  go_enter Tryz.func3, Tryz.ntmps3
  go_upto_region 1 with fail
  go_region
  go_upto_region 4 with (first
    | (go_at_call 8; go_loud (refine (make_ N A len cap 10 D _ hN0 hN1 (by omega) (by omega) (T.out.below (two_up w _ _).drew)).mono ?_; rintro e w1 ⟨n, vK, K, rfl, hnm, hRi, hO, hb⟩; obtain ⟨aK, cK, rfl⟩ := hO.form; have OK1 := Lib.hid hO.arcs; have k0 : w1.cell? ⟨w.heap.size + 1, 0, none⟩ = some (.int .u8 p) := (hb.cell (p := ⟨w.heap.size + 1, 0, none⟩) (by simp)).trans (by go_simp); have k1 : w1.cell? ⟨w.heap.size + 1, 1, none⟩ = some (.int .u8 q) := (hb.cell (p := ⟨w.heap.size + 1, 1, none⟩) (by simp)).trans (by go_simp); have B1 : Hid (Below w.heap.size w w1) := Lib.hid ((two_up w _ _).drew.trans (hb.mono (by simp; omega))); have z1 : w.heap.size + 2 ≤ w1.heap.size := (by have := hb.size; simpa using this); have hn1 : 1 ≤ n := hRi.n1; have hKl : K.length ≤ 40 := hRi.len; have RI := Lib.hid hRi; have RO := Lib.hid (hRi.ord (by omega)); have RM := Lib.hid (hRi.may (by omega)); clear hRi hO hb))
    | (go_at_call 9; go_loud (refine (SV.out.ok n _ K _ OK1.out RO.out).mono ?_; rintro e w2 ⟨xv, fv, x, f, ways, rfl, hx, hf, hs, hb⟩; obtain ⟨ax, cx2, h1⟩ := hx.form; rw [hs.len] at h1; subst h1; obtain ⟨af, cf2, h2⟩ := hf.form; rw [hs.flen] at h2; subst h2; have SS := Lib.hid hs; have XI2 := Lib.hid hx.ints; have FI2 := Lib.hid hf.ints; have B2 := Lib.hid hb; have z2 := hb.size; clear hx hf hs hb)))
  have m0 := (B2.out.cell (p := ⟨w.heap.size + 1, 0, none⟩) (show w.heap.size + 1 < w1.heap.size by omega)).trans k0
  have m1 := (B2.out.cell (p := ⟨w.heap.size + 1, 1, none⟩) (show w.heap.size + 1 < w1.heap.size by omega)).trans k1
  have bb : Below w2.heap.size w2 (w2.alloc (.cells #[.slice ax n cx2, .slice af K.length cf2, .int .i64 ways] 33)) := (Below.refl _ _).alloc (Nat.le_refl _) _
  have g0 : (w2.alloc (.cells #[.slice ax n cx2, .slice af K.length cf2, .int .i64 ways] 33)).cell? ⟨w2.heap.size, 0, none⟩ = some (.slice ax n cx2) := by simp
  have g1 : (w2.alloc (.cells #[.slice ax n cx2, .slice af K.length cf2, .int .i64 ways] 33)).cell? ⟨w2.heap.size, 1, none⟩ = some (.slice af K.length cf2) := by simp
  have zb : w2.heap.size < (w2.alloc (.cells #[.slice ax n cx2, .slice af K.length cf2, .int .i64 ways] 33)).heap.size := by simp
  generalize w2.alloc (.cells #[.slice ax n cx2, .slice af K.length cf2, .int .i64 ways] 33) = wb at *
  have BB := Lib.hid (B2.out.trans (bb.mono z2))
  have XI := Lib.hid (XI2.out.below bb)
  have FI := Lib.hid (FI2.out.below bb)
  have AK := Lib.hid (OK1.out.below BB.out)
  have mb0 := (bb.cell (p := ⟨w.heap.size + 1, 0, none⟩) (show w.heap.size + 1 < w2.heap.size by omega)).trans m0
  have mb1 := (bb.cell (p := ⟨w.heap.size + 1, 1, none⟩) (show w.heap.size + 1 < w2.heap.size by omega)).trans m1
  have FL := Lib.hid SS.out.flen
  have XL := Lib.hid SS.out.len
  have NX := Lib.hid SS.out.near
  have BW := Lib.hid (B1.out.trans (BB.out.mono (by omega)))
  have zw : w.heap.size + 2 ≤ wb.heap.size := by have := BB.out.size; omega
  clear k0 k1 m0 m1 bb B2 XI2 FI2 T OK1 B1 BB
  go_region_held3 (fun w' => w'.cell? ⟨w2.heap.size, 0, none⟩ = some (.slice ax n cx2) ∧ w'.cell? ⟨w2.heap.size, 1, none⟩ = some (.slice af K.length cf2))
    (first
      | go_keep
      | (go_split_ands
         refine ⟨?_, ?_⟩
         · (first | (rw [Q2.out.cell (p := ⟨w2.heap.size, 0, none⟩) zb]; exact g0) | (rw [Q1.out.cell (p := ⟨w2.heap.size, 0, none⟩) zb]; exact g0))
         · (first | (rw [Q2.out.cell (p := ⟨w2.heap.size, 1, none⟩) zb]; exact g1) | (rw [Q1.out.cell (p := ⟨w2.heap.size, 1, none⟩) zb]; exact g1))))
    ((first
      | (go_at_call 10; have _hz := Q1; refine (cloneI _ f _ (FI.out.below Q1.out) (by rw [FL.out]; omega)).mono ?_; rintro e w4 ⟨v4, rfl, ho, hb⟩; have O4 := Lib.hid ho; have H4 := Lib.hid hb; have Q2 := Lib.hid (Q1.out.trans (hb.mono Q1.out.size)); obtain ⟨a4, c4, h4⟩ := ho.form; rw [FL.out] at h4; subst h4; clear ho hb)
      | (go_at_call 10; refine (cloneI _ x _ (XI.out.below (Below.refl wb.heap.size wb).drew) (by rw [XL.out]; omega)).mono ?_; rintro e w3 ⟨v3, rfl, ho, hb⟩; obtain ⟨g3, c3, h3, hx3⟩ := ho.xz hb (by rw [XL.out]; omega); rw [XL.out] at h3 hx3; subst h3; have Q1 : Hid (Below wb.heap.size wb w3) := Lib.hid ((Below.refl wb.heap.size wb).drew.trans hb); have X3 := Lib.hid hx3; clear ho hb hx3)))
  all_goals
    have NS := Lib.hid (fun u => getD_near (b := 1000) (by omega) (fun y hy => by have := NX.out y hy; omega) u : ∀ u, 0 ≤ x.getD u 0 ∧ x.getD u 0 ≤ 1000)
    have NF := Lib.hid (fun u => getD_near (b := 1099511627776) (by omega) (flow_le (solved_cert RO.out (by omega) SS.out)) u : ∀ u, 0 ≤ f.getD u 0 ∧ f.getD u 0 ≤ 1099511627776)
    have z34 := H4.out.size
    have g3l := X3.out.gl
    have XW := Lib.hid (X3.out.undrew.quiet H4.out)
    have g30 := XW.out.g0
    have QW : Hid (QRow wb w4 g3 a4 c4 K.length (fun u => f.getD u 0)) := Lib.hid (fun h0 => by
      have Q2' := Q2.out
      obtain ⟨g, c, e, hx⟩ := OwnI.xz Q2' (O4.out.base (by have := Q1.out.size; omega)) (by rw [FL.out]; exact h0)
      rw [FL.out] at e hx
      simp only [Value.slice.injEq, true_and] at e
      obtain ⟨rfl, rfl⟩ := e
      refine ⟨g, rfl, ?_, hx⟩
      have := (O4.out.lt g rfl).1
      omega)
    have W2 := Lib.hid Q2.out
    have XB := Lib.hid (XA.out.below (BW.out.mono (by omega)))
    have FB := Lib.hid (FA.out.below (BW.out.mono (by omega)))
    clear X3 O4 H4 Q1 Q2 z34 g3l XA FA
    go_wp2
    go_loopw [41] (fun iv wr => CkP n g3 c3 a4 c4 K.length f wb wr iv) (fun iv _ => n - (intOf iv).toNat)
    case atStart => exact ⟨0, _, rfl, by omega, XW.out, QW.out, fun u _ => NS.out u⟩
    case round =>
      clear XW QW
      obtain ⟨i, s, rfl, hi, hX, hQ, hS⟩ := hrel
      have X := Lib.hid hX
      have Q := Lib.hid hQ
      have S := Lib.hid hS
      have hgl := hX.gl
      have hbs := hX.below.size
      clear hX hQ hS
      by_cases hil : i < n
      · by_cases hy : i < xs.length
        · obtain ⟨bx, ox, cx3, e, hbx, x0⟩ := XB.out.nth hy
          simp only [Value.slice.injEq, true_and] at e
          obtain ⟨rfl, rfl⟩ := e
          have y1 := (X.out.below.cell (p := ⟨bx, ox + i, none⟩) hbx).trans x0
          clear x0
          generalize xs[i] = u at *
          obtain ⟨z, hz⟩ : ∃ z : Int, u.tmod 3 = z := ⟨_, rfl⟩
          have hza : -2 ≤ z ∧ z ≤ 2 := by have h1 := Int.lt_tmod_of_pos u (b := 3) (by omega); have h2 := Int.tmod_lt_of_pos u (b := 3) (by omega); omega
          obtain ⟨hza1, hza2⟩ := hza
          have l0 := X.out.cell hil
          have l1 := X.out.fr i
          have hsk := S.out i (Nat.le_refl _)
          obtain ⟨p1, hp⟩ : ∃ p1, s i = p1 := ⟨_, rfl⟩
          rw [hp] at l0 hsk
          obtain ⟨hs1, hs2⟩ := hsk
          clear hp
          go_wp2
          go_still_tail 11, (by kernel_rfl)
          change wpList _ _ _ _ _ wr.drew
          go_wp2
          go_roundw
          case rel =>
            refine ⟨i + 1, _, by go_num, by omega, (X.out.set i (p1 + z)).quiet (Below.refl _ _).drew, (Q.out.other g30 i _).quiet (Below.refl _ _).drew, fun v hv => ?_⟩
            have : ¬ v = i := by omega
            rw [if_neg this]
            exact S.out v (by omega)
          case measure => simp [intOf]; omega
        · go_wp2
          go_roundw
          case rel => exact ⟨i + 1, s, by go_num, by omega, X.out, Q.out, fun v hv => S.out v (by omega)⟩
          case measure => simp [intOf]; omega
      · have t0 : decide (i < n) = false := by simpa using hil
        clear hil hi S hbs hgl
        have X5 := Lib.hid X.out
        have Q5 := Lib.hid Q.out
        go_wp2
        go_loopw [62] (fun iv wr => CkQ n g3 c3 a4 c4 K.length s wb wr iv) (fun iv _ => K.length - (intOf iv).toNat)
        case atStart => exact ⟨0, _, rfl, by omega, X5.out, Q5.out, fun u _ => NF.out u⟩
        case round =>
          clear X5 Q5 X Q
          obtain ⟨i, t, rfl, hi, hX, hQ, hS⟩ := hrel
          have X := Lib.hid hX
          have Q := Lib.hid hQ
          have S := Lib.hid hS
          have hbs := hX.below.size
          clear hX hQ hS
          by_cases hil : i < K.length
          · obtain ⟨g4, rfl, hg4, hx4⟩ := Q.out (by omega)
            have hgl := hx4.gl
            by_cases hy : i < fs.length
            · obtain ⟨bx, ox, cx3, e, hbx, x0⟩ := FB.out.nth hy
              simp only [Value.slice.injEq, true_and] at e
              obtain ⟨rfl, rfl⟩ := e
              have y1 := (X.out.below.cell (p := ⟨bx, ox + i, none⟩) hbx).trans x0
              clear x0
              generalize fs[i] = u at *
              obtain ⟨v5, hv5⟩ : ∃ v5 : Int, u.tmod 5 = v5 := ⟨_, rfl⟩
              by_cases h5 : v5 = 0
              · have t5 : (v5 == 0) = true := by rw [h5]; rfl
                clear h5
                obtain ⟨z, hz⟩ : ∃ z : Int, u.tmod 7 = z := ⟨_, rfl⟩
                have hza : -6 ≤ z ∧ z ≤ 6 := by have h1 := Int.lt_tmod_of_pos u (b := 7) (by omega); have h2 := Int.tmod_lt_of_pos u (b := 7) (by omega); omega
                obtain ⟨hza1, hza2⟩ := hza
                have l0 := hx4.cell hil
                have l1 := hx4.fr i
                have hsk := S.out i (Nat.le_refl _)
                obtain ⟨p1, hp⟩ : ∃ p1, t i = p1 := ⟨_, rfl⟩
                rw [hp] at l0 hsk
                obtain ⟨hs1, hs2⟩ := hsk
                have X4 := Lib.hid hx4
                clear hp hx4
                go_wp2
                go_still_tail 11, (by kernel_rfl)
                change wpList _ _ _ _ _ wr.drew
                go_wp2
                go_roundw
                case rel =>
                  refine ⟨i + 1, _, by go_num, by omega, (X.out.other X4.out.g0 hg4 i _).quiet (Below.refl _ _).drew, fun _ => ⟨g4, rfl, hg4, (X4.out.set i (p1 + z)).quiet (Below.refl _ _).drew⟩, fun v hv => ?_⟩
                  have : ¬ v = i := by omega
                  rw [if_neg this]
                  exact S.out v (by omega)
                case measure => simp [intOf]; omega
              · have t5 : (v5 == 0) = false := by rw [beq_eq_false_iff_ne]; exact h5
                clear h5 hx4
                go_wp2
                go_roundw
                case rel => exact ⟨i + 1, t, by go_num, by omega, X.out, Q.out, fun v hv => S.out v (by omega)⟩
                case measure => simp [intOf]; omega
            · clear hx4
              go_wp2
              go_roundw
              case rel => exact ⟨i + 1, t, by go_num, by omega, X.out, Q.out, fun v hv => S.out v (by omega)⟩
              case measure => simp [intOf]; omega
          · have t1 : decide (i < K.length) = false := by simpa using hil
            obtain ⟨P, hPd⟩ : ∃ P, (List.range n).map s = P := ⟨_, rfl⟩
            obtain ⟨Z, hZd⟩ : ∃ Z, (List.range K.length).map t = Z := ⟨_, rfl⟩
            have PI : Hid (IntsAt wr (.slice (some ⟨g3, 0, none⟩) n c3) P) := Lib.hid (by have h := X.out.own.ints; rw [hPd] at h; exact h)
            have ZI : Hid (IntsAt wr (.slice a4 K.length c4) Z) := Lib.hid (by have h := Q.out.ints; rw [hZd] at h; exact h)
            have W6 := Lib.hid X.out.below
            clear hil hi S hPd hZd X Q
            obtain ⟨wy, hwy⟩ : ∃ W, W = wr := ⟨_, rfl⟩
            subst hwy
            have AY := Lib.hid (AK.out.below W6.out)
            have n0 := (W6.out.cell (p := ⟨w.heap.size + 1, 0, none⟩) (show w.heap.size + 1 < wb.heap.size by omega)).trans mb0
            have n1 := (W6.out.cell (p := ⟨w.heap.size + 1, 1, none⟩) (show w.heap.size + 1 < wb.heap.size by omega)).trans mb1
            have h0y := (W6.out.cell (p := ⟨w2.heap.size, 0, none⟩) zb).trans g0
            have zby : w2.heap.size < wy.heap.size := Nat.lt_of_lt_of_le zb W6.out.size
            have zyw : w.heap.size + 2 ≤ wy.heap.size := Nat.le_trans zw W6.out.size
            have RY := Lib.hid (XI.out.below W6.out)
            have XY := Lib.hid (XB.out.below W6.out)
            have FY := Lib.hid (FB.out.below W6.out)
            have BY := Lib.hid (BW.out.trans (W6.out.mono (by omega)))
            clear g0 g1 mb0 mb1 AK XI FI XB FB BW W2 W6 g30
            go_upto_region 17 with fail
            obtain ⟨m, hm, hm2⟩ : ∃ m : Nat, (n : Int) + 1 = (m : Int) ∧ m = n + 1 := ⟨n + 1, by omega, rfl⟩
            have hm3 : ¬ m = 0 := by omega
            obtain ⟨a, ha⟩ : ∃ r : Nat, p % (m : Int) = (r : Int) := ⟨(p % (m : Int)).toNat, by have := Int.emod_nonneg p (b := (m : Int)) (by omega); omega⟩
            have ha2 : p.tmod (m : Int) = (a : Int) := by rw [Int.tmod_eq_emod_of_nonneg hp0]; exact ha
            obtain ⟨b, hb⟩ : ∃ r : Nat, q % (m : Int) = (r : Int) := ⟨(q % (m : Int)).toNat, by have := Int.emod_nonneg q (b := (m : Int)) (by omega); omega⟩
            have hb2 : q.tmod (m : Int) = (b : Int) := by rw [Int.tmod_eq_emod_of_nonneg hq0]; exact hb
            have hw1 : IntKind.i64.wrap ((n : Int) + 1) = (m : Int) := by rw [IntWalk.i64_in _ (by omega)]; exact hm
            have hm4 : ((m : Int) == 0) = false := by rw [beq_eq_false_iff_ne]; omega
            have hm5 : ¬ (m : Int) = 0 := by omega
            have ham : a < m := by have := Int.emod_lt_of_pos p (b := (m : Int)) (by omega); omega
            have hbm : b < m := by have := Int.emod_lt_of_pos q (b := (m : Int)) (by omega); omega
            have hwa : IntKind.i64.wrap (a : Int) = a := IntWalk.i64_in _ (by omega)
            have hwb : IntKind.i64.wrap (b : Int) = b := IntWalk.i64_in _ (by omega)
            have hwm : IntKind.i64.wrap (m : Int) = m := IntWalk.i64_in _ (by omega)
            have hwp : IntKind.i64.wrap p = p := IntWalk.i64_in _ (by omega)
            have hwq : IntKind.i64.wrap q = q := IntWalk.i64_in _ (by omega)
            clear hm2
            go_cut [14] from 89 to 105 (fun s14 wx => MoreC K a b wy wx s14)
            case first =>
              go_region_held3 (fun w' => w'.cell? ⟨w.heap.size + 1, 0, none⟩ = some (.int .u8 p) ∧ w'.cell? ⟨w.heap.size + 1, 1, none⟩ = some (.int .u8 q))
                (first
                  | go_keep
                  | (go_split_ands
                     refine ⟨?_, ?_⟩
                     · (first | (rw [P1.out.cell (p := ⟨w.heap.size + 1, 0, none⟩) (by (simp <;> omega))]; assumption) | (rw [R8.out.2.cell (p := ⟨w.heap.size + 1, 0, none⟩) (show w.heap.size + 1 < wy.heap.size by omega)]; exact n0))
                     · (first | (rw [P1.out.cell (p := ⟨w.heap.size + 1, 1, none⟩) (by (simp <;> omega))]; assumption) | (rw [R8.out.2.cell (p := ⟨w.heap.size + 1, 1, none⟩) (show w.heap.size + 1 < wy.heap.size by omega)]; exact n1))))
                ((first
                  | (go_at_call 11; refine (cloneA _ K _ (AY.out.below (by first | exact (Below.refl _ _).drew | exact ((Below.refl _ _).drew).alloc (by simp) _)) (by omega)).mono ?_; rintro e w7 ⟨v7, rfl, ho, hb⟩; obtain ⟨a7, c7, rfl⟩ := ho.form; have O7 := Lib.hid ho; have P1 := Lib.hid hb; have P5 : wy.heap.size ≤ w7.heap.size := (by have := hb.size; simp at this; omega); clear ho hb)
                  | ((refine step_append_fresh rfl (.tmp 90) (.tmp 104) 29 rfl wy.heap.size 40 i0 (.agg #[.int .i64 0, .int .i64 0, .int .i64 0]) 3 24 Tryz.underlying29 hi hz0 hz1 hz2 rfl (by decide) (.slice a7 K.length c7) K.length (K.flatMap encA) (by rfl) (World.ownsRow.alloc O7.out _) ⟨w7.heap.size, 0, none⟩ 1 1 (encA ((a : Int), (b : Int), 0)) (by rfl) rfl (newsA _ _ _ _ rfl) (encA_one _) (by unfold maxLen; omega) (by omega) (by first | exact Nat.le_trans P5 (by simp) | exact P5) ?_; intro v8 w8 hown hgrow hfr; have R8 : Hid (MoreC K a b wy w8 v8) := Lib.hid (arc_app (w0 := wy) (((Below.refl wy.heap.size wy).drew.trans P1.out).alloc P5 _) (World.ownsRow.alloc O7.out _) hown hgrow); obtain ⟨g8, c8, rfl, _, _, _⟩ := ownsRow_form hown (by omega); clear hown hgrow hfr))
                  | ((refine step_append_fresh rfl (.tmp 90) (.tmp 104) 29 rfl wy.heap.size 40 i0 (.agg #[.int .i64 0, .int .i64 0, .int .i64 0]) 3 24 Tryz.underlying29 hi hz0 hz1 hz2 rfl (by decide) (.slice a7 K.length c7) K.length (K.flatMap encA) (by rfl) (OwnA.base O7.out (by simp)) ⟨wy.heap.size, 0, none⟩ 1 1 (encA ((a : Int), (b : Int), 0)) (by rfl) rfl (newsC (w := wy.drew) P1.out) (encA_one _) (by unfold maxLen; omega) (by omega) (by first | exact Nat.le_trans P5 (by simp) | exact P5) ?_; intro v8 w8 hown hgrow hfr; have R8 : Hid (MoreC K a b wy w8 v8) := Lib.hid (arc_app (w0 := wy) ((((Below.refl wy.heap.size wy).drew).alloc (by simp) _).trans (P1.out.mono (by simp))) (OwnA.base O7.out (by simp)) hown hgrow); obtain ⟨g8, c8, rfl, _, _, _⟩ := ownsRow_form hown (by omega); clear hown hgrow hfr))))
              all_goals
                go_wp2_with fail
                go_meet
                exact R8.out
            case rest =>
              obtain ⟨wx, hwx⟩ : ∃ W, W = wc := ⟨_, rfl⟩
              subst hwx
              obtain ⟨hM1, hM2⟩ := hcut
              obtain ⟨M, hMd⟩ : ∃ M, M = K ++ [((a : Int), (b : Int), 0)] := ⟨_, rfl⟩
              rw [← hMd] at hM1
              have hMl : M.length ≤ 41 := by rw [hMd, List.length_append]; simp; omega
              obtain ⟨a9, c9, rfl⟩ := hM1.form
              have MX := Lib.hid hM1.arcs
              have AX := Lib.hid (AY.out.below hM2)
              have PX := Lib.hid (PI.out.below hM2)
              have ZX := Lib.hid (ZI.out.below hM2)
              have XX := Lib.hid (XY.out.below hM2)
              have FX := Lib.hid (FY.out.below hM2)
              have RX := Lib.hid (RY.out.below hM2)
              have h0x := (hM2.cell (p := ⟨w2.heap.size, 0, none⟩) zby).trans h0y
              have zbx : w2.heap.size < wx.heap.size := Nat.lt_of_lt_of_le zby hM2.size
              have BX := Lib.hid (BY.out.trans (hM2.mono (by omega)))
              have HTx := Lib.hid (HT.out.below BX.out (Nat.le_refl _))
              have zxw := BX.out.size
              clear hM1 hM2 hMd n0 n1 h0y hm hm3 ha ha2 hb hb2 hw1 hm4 hm5 ham hbm hwa hwb hwm hwp hwq AY PI ZI XY FY RY
              obtain ⟨y1, hy1⟩ : ∃ y1, certErr n K xs fs = y1 := ⟨_, rfl⟩
              have V1 := Lib.hid hy1
              obtain ⟨y2, hy2⟩ : ∃ y2, certErr n K P Z = y2 := ⟨_, rfl⟩
              have V2 := Lib.hid hy2
              obtain ⟨y3, hy3⟩ : ∃ y3, certErr n K x Z = y3 := ⟨_, rfl⟩
              have V3 := Lib.hid hy3
              obtain ⟨y4, hy4⟩ : ∃ y4, certErr n M P Z = y4 := ⟨_, rfl⟩
              have V4 := Lib.hid hy4
              clear hy1 hy2 hy3 hy4
              go_upto_region 18 with fail
              go_region_held3 (fun w' => w'.cell? ⟨w2.heap.size, 0, none⟩ = some (.slice ax n cx2))
                (first
                  | go_keep
                  | (first | (rw [Q9.out.cell (p := ⟨w2.heap.size, 0, none⟩) zbx]; exact h0x) | (rw [Q8.out.cell (p := ⟨w2.heap.size, 0, none⟩) zbx]; exact h0x) | (rw [Q7.out.cell (p := ⟨w2.heap.size, 0, none⟩) zbx]; exact h0x) | (rw [Q6.out.cell (p := ⟨w2.heap.size, 0, none⟩) zbx]; exact h0x) | (rw [Q5.out.cell (p := ⟨w2.heap.size, 0, none⟩) zbx]; exact h0x) | (rw [Q4.out.cell (p := ⟨w2.heap.size, 0, none⟩) zbx]; exact h0x) | (rw [Q3.out.cell (p := ⟨w2.heap.size, 0, none⟩) zbx]; exact h0x) | (rw [Q2.out.cell (p := ⟨w2.heap.size, 0, none⟩) zbx]; exact h0x) | (rw [Q1.out.cell (p := ⟨w2.heap.size, 0, none⟩) zbx]; exact h0x)))
                ((first
                  | (go_at_call 14; have _hz := Q8; go_loud (refine (refCheckC n _ _ _ M P Z _ (MX.out.below Q8.out) (PX.out.below Q8.out) (ZX.out.below Q8.out) (by omega)).mono ?_; rintro e v9 ⟨rfl, hb⟩; rw [V4.out]; have Q9 := Lib.hid (Q8.out.trans (hb.mono Q8.out.size)); clear hb))
                  | (go_at_call 13; have _hz := Q7; go_loud (refine (checkC n _ _ _ M P Z _ (MX.out.below Q7.out) (PX.out.below Q7.out) (ZX.out.below Q7.out) (by omega)).mono ?_; rintro e v8 ⟨rfl, hb⟩; rw [V4.out]; have Q8 := Lib.hid (Q7.out.trans (hb.mono Q7.out.size)); clear hb))
                  | (go_at_call 14; have _hz := Q6; go_loud (refine (refCheckC n _ _ _ K x Z _ (AX.out.below Q6.out) (RX.out.below Q6.out) (ZX.out.below Q6.out) (by omega)).mono ?_; rintro e v7 ⟨rfl, hb⟩; rw [V3.out]; have Q7 := Lib.hid (Q6.out.trans (hb.mono Q6.out.size)); clear hb))
                  | (go_at_call 13; have _hz := Q5; go_loud (refine (checkC n _ _ _ K x Z _ (AX.out.below Q5.out) (RX.out.below Q5.out) (ZX.out.below Q5.out) (by omega)).mono ?_; rintro e v6 ⟨rfl, hb⟩; rw [V3.out]; have Q6 := Lib.hid (Q5.out.trans (hb.mono Q5.out.size)); clear hb))
                  | (go_at_call 14; have _hz := Q4; go_loud (refine (refCheckC n _ _ _ K P Z _ (AX.out.below Q4.out) (PX.out.below Q4.out) (ZX.out.below Q4.out) (by omega)).mono ?_; rintro e v5 ⟨rfl, hb⟩; rw [V2.out]; have Q5 := Lib.hid (Q4.out.trans (hb.mono Q4.out.size)); clear hb))
                  | (go_at_call 13; have _hz := Q3; go_loud (refine (checkC n _ _ _ K P Z _ (AX.out.below Q3.out) (PX.out.below Q3.out) (ZX.out.below Q3.out) (by omega)).mono ?_; rintro e v4 ⟨rfl, hb⟩; rw [V2.out]; have Q4 := Lib.hid (Q3.out.trans (hb.mono Q3.out.size)); clear hb))
                  | (go_at_call 14; have _hz := Q2; go_loud (refine (refCheckC n _ _ _ K xs fs _ (AX.out.below Q2.out) (XX.out.below Q2.out) (FX.out.below Q2.out) (by omega)).mono ?_; rintro e v3 ⟨rfl, hb⟩; rw [V1.out]; have Q3 := Lib.hid (Q2.out.trans (hb.mono Q2.out.size)); clear hb))
                  | (go_at_call 13; have _hz := Q1; go_loud (refine (checkC n _ _ _ K xs fs _ (AX.out.below Q1.out) (XX.out.below Q1.out) (FX.out.below Q1.out) (by omega)).mono ?_; rintro e v2 ⟨rfl, hb⟩; rw [V1.out]; have Q2 := Lib.hid (Q1.out.trans (hb.mono Q1.out.size)); clear hb))
                  | (go_at_call 12; go_loud (refine (wakes6 _ (HTx.out.below (Below.refl wx.heap.size wx).drew (Nat.le_refl _))).mono ?_; rintro e v1 ⟨rfl, hb⟩; have Q1 : Hid (Below wx.heap.size wx v1) := Lib.hid ((Below.refl wx.heap.size wx).drew.trans hb); clear hb))))
              all_goals
                go_wp2
                go_ret
                exact ⟨rfl, BX.out.trans (Q9.out.mono zxw)⟩
end Go.Proofs.YtdpacaomkahgfaaGreatDoor
