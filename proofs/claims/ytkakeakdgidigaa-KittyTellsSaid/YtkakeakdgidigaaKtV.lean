/-
  The document's first pair (reference), of any turns. Conditions: at most a thousand turns, each small.
-/
import Derived.Test.YtkakeakdgidigaaKtS
import Derived.Test.YtkakeakdgidigaaKtH
namespace Go.Proofs.Ytkakeakdgidigaa
open Go.RowKit Go.Proofs.Ytkakeakdgidigaa.KtM

def RpO (T : List Int) (n : Nat) (w0 wr : World) (iv : Value) : Prop := ∃ i : Nat, iv = .int .i64 i ∧ i ≤ n ∧ NoP T i ∧ Below w0.heap.size w0 wr
def RpY (T : List Int) (i n : Nat) (w0 wr : World) (kv : Value) : Prop := ∃ k : Nat, kv = .int .i64 k ∧ k ≤ n ∧ (∀ r, r < k → rotA T i r ≠ 2) ∧ Below w0.heap.size w0 wr
theorem cells_two {T : List Int} {i k n b a0 a1 b0 b1 : Nat} {w : World} (ha : crnA T i = (a0, a1)) (hb : crnA T k = (b0, b1)) (hx : ∀ k, k < n → w.cell? ⟨b, k * 2, none⟩ = some (.int .i64 (((crns T).getD k (0, 0)).1 : Int)) ∧ w.cell? ⟨b, k * 2 + 1, none⟩ = some (.int .i64 (((crns T).getD k (0, 0)).2 : Int))) (hi : i < n) (hk : k < n) :
    w.cell? ⟨b, i * 2, none⟩ = some (.int .i64 (a0 : Int)) ∧ w.cell? ⟨b, i * 2 + 1, none⟩ = some (.int .i64 (a1 : Int)) ∧ w.cell? ⟨b, k * 2, none⟩ = some (.int .i64 (b0 : Int)) ∧ w.cell? ⟨b, k * 2 + 1, none⟩ = some (.int .i64 (b1 : Int)) := by
  unfold crnA at ha hb
  have h1 := hx i hi
  have h2 := hx k hk
  rw [ha] at h1
  rw [hb] at h2
  exact ⟨h1.1, h1.2, h2.1, h2.2⟩
set_option maxHeartbeats 8000000 in
set_option maxRecDepth 100000 in
theorem refPair15 (v : Value) (T : List Int) (m : Nat) (w : World) (hZ : ZiAt w v T m) (hm : m ≤ 1000) (hsm : SmallT T) :
    Calls Try.prog 13 #[v] w fun e w' => e = .returned (prV (prA T)) ∧ Below w.heap.size w w' := by
  obtain ⟨wb, hwb⟩ : ∃ W, W = (w.alloc (.cells #[.int .i64 0, .int .i64 0] 33)).alloc (.cells #[.int .i64 0, .int .i64 0] 33) := ⟨_, rfl⟩
  have bb : Below w.heap.size w wb := by rw [hwb]; exact (below_alloc15 _ _).trans ((below_alloc15 _ _).mono (by simp))
  have S0 : BoxS w.heap.size 33 wb 0 0 0 0 := by
    rw [hwb]
    refine ⟨?_, ?_⟩
    · rw [Below.heap_alloc _ _ _ (by simp)]; exact heap_alloc_new w _
    · have := heap_alloc_new (w.alloc (.cells #[.int .i64 0, .int .i64 0] 33)) (.cells #[.int .i64 0, .int .i64 0] 33)
      simpa using this
  have BB := Lib.hid bb
  have SB := Lib.hid S0
  have CO := Lib.hid (refCorners15 v T m wb (hZ.below bb (Nat.le_refl _)) (by omega))
  have RT := Lib.hid (fun wq (o : Below w.heap.size w wq) a p b q ha hb => refRot15 v T m a p b q wq (hZ.below o (Nat.le_refl _)) hm hsm ha hb)
  obtain ⟨R, hR⟩ : ∃ R, prA T = R := ⟨_, rfl⟩
  rw [hR]
  have HR := Lib.hid hR
  obtain ⟨g, hgg⟩ : ∃ g, w.heap.size = g := ⟨_, rfl⟩
  have HGG := Lib.hid hgg
  have hgb1 : g + 1 < wb.heap.size := by have := S0.cells.2.2; rw [hgg] at this; exact this
  clear hZ bb S0 hR hgg hsm
  go_enter Try.func13, Try.ntmps13
  go_upto_region 1 with (fail)
  rw [← hwb]
  clear hwb
  rw [HGG.out]
  go_wp2_with (go_at_call 8; refine CO.out.mono ?_; rintro e w2 ⟨n, lv, rfl, hn, oc, b2⟩; obtain ⟨ao, co, e, hcap⟩ := oc.form; subst e; have OC := Lib.hid oc.1; have RW := Lib.hid (fun h0 => oc.at_ h0); have B2 := Lib.hid (BB.out.trans (b2.mono BB.out.size)); have S2 := Lib.hid (SB.out.below b2); clear b2 oc)
  clear SB CO BB
  go_loopw [6] (fun iv wr => RpO T n w2 wr iv) (fun iv _ => n - (intOf iv).toNat)
  case atStart => exact ⟨0, rfl, Nat.zero_le _, fun j hj => absurd hj (by omega), Below.refl _ _⟩
  case round =>
    obtain ⟨i, rfl, hi, hN, hB⟩ := hrel
    obtain ⟨wo, hwo⟩ : ∃ W, W = wr := ⟨_, rfl⟩
    subst hwo
    have NO := Lib.hid hN
    have B := Lib.hid hB
    clear hN hB
    by_cases hlt : i < n
    · have q0 : decide (i < n) = true := decide_eq_true hlt
      obtain ⟨b, e, hbB, hx⟩ := RW.out (by omega)
      subst e
      have HX := Lib.hid hx
      have n1 : b ≠ g := by omega
      have n2 : b ≠ g + 1 := by omega
      clear hx
      go_wp2_with fail
      go_loopw [7] (fun kv wr => RpY T i n w2 wr kv) (fun kv _ => n - (intOf kv).toNat)
      case atStart => exact ⟨0, rfl, Nat.zero_le _, fun j hj => absurd hj (by omega), B.out⟩
      case round =>
        clear B
        obtain ⟨k, rfl, hk, hN, hB⟩ := hrel
        have NI := Lib.hid hN
        have B := Lib.hid hB
        clear hN
        by_cases hlk : k < n
        · have q1 : decide (k < n) = true := decide_eq_true hlk
          obtain ⟨hbs, hx⟩ := HX.out wr hB
          obtain ⟨u0, u1⟩ := hx i hlt
          obtain ⟨v0, v1⟩ := hx k hlk
          have CA : Hid (crnA T i = (crns T).getD i (0, 0)) := Lib.hid rfl
          have CB : Hid (crnA T k = (crns T).getD k (0, 0)) := Lib.hid rfl
          have ma := crnA_mem (T := T) (i := i) (by rw [OC.out]; exact hlt)
          have mb := crnA_mem (T := T) (i := k) (by rw [OC.out]; exact hlk)
          obtain ⟨⟨a0, a1⟩, ha⟩ : ∃ p, (crns T).getD i (0, 0) = p := ⟨_, rfl⟩
          obtain ⟨⟨b0, b1⟩, hb⟩ : ∃ p, (crns T).getD k (0, 0) = p := ⟨_, rfl⟩
          rw [ha] at u0 u1 CA
          rw [hb] at v0 v1 CB
          simp only at u0 u1 v0 v1
          have RA : Hid (rotA T i k = rotC T (crnA T i) (crnA T k)) := Lib.hid rfl
          rw [CA.out] at ma RA
          rw [CB.out] at mb RA
          have RQ := Lib.hid (fun wq (o : Below w.heap.size w wq) => RT.out wq o a0 a1 b0 b1 ma mb)
          obtain ⟨r, hr⟩ : ∃ r, rotC T (a0, a1) (b0, b1) = r := ⟨_, rfl⟩
          rw [hr] at RQ RA
          have BW := Lib.hid (B2.out.trans (hB.mono B2.out.size))
          clear hx ha hb hr ma mb hB
          go_upto_region 8 with (fail)
          go_region_held3 (fun w' => w'.cell? ⟨b, i * 2, none⟩ = some (.int .i64 (a0 : Int)) ∧ w'.cell? ⟨b, i * 2 + 1, none⟩ = some (.int .i64 (a1 : Int)) ∧ w'.cell? ⟨b, k * 2, none⟩ = some (.int .i64 (b0 : Int)) ∧ w'.cell? ⟨b, k * 2 + 1, none⟩ = some (.int .i64 (b1 : Int))) (first
            | exact C5
            | go_keep) (first
            | (go_at_call 11; refine (RQ.out _ BW.out.drew).mono ?_; rintro e w5 ⟨rfl, b5⟩; have B5 := Lib.hid (B.out.drew.trans (b5.mono B.out.drew.size)); have BV := Lib.hid (BW.out.drew.trans (b5.mono BW.out.drew.size)); have C5 := cells_two CA.out CB.out (HX.out w5 B5.out).2 hlt hlk; clear b5))
          clear u0 u1 v0 v1 hbs RQ
          by_cases h2 : r = 2
          · subst h2
            have FZ : FstP T i k := ⟨by rw [OC.out]; exact hlt, by rw [OC.out]; exact hlk, RA.out, NO.out, NI.out⟩
            have RE : Hid (R = ((a0, a1), (b0, b1), true)) := Lib.hid (by rw [← HR.out, prA_of FZ, CA.out, CB.out])
            have S5 := Lib.hid (S2.out.below B5.out)
            have s5 := S5.out
            rw [HGG.out] at s5
            obtain ⟨⟨x0, x1, y0, y1⟩, ⟨i0, i1, i2, i3⟩, hgb⟩ := s5.cells
            have hgb2 : g < w5.heap.size := by omega
            have hbs := (HX.out w5 B5.out).1
            obtain ⟨u0, u1, v0, v1⟩ := C5
            clear s5 FZ RA
            go_upto_region 10 with (fail)
            go_region_held3 (fun w' => w'.cell? ⟨b, i * 2, none⟩ = some (.int .i64 (a0 : Int)) ∧ w'.cell? ⟨b, i * 2 + 1, none⟩ = some (.int .i64 (a1 : Int)) ∧ w'.cell? ⟨b, k * 2, none⟩ = some (.int .i64 (b0 : Int)) ∧ w'.cell? ⟨b, k * 2 + 1, none⟩ = some (.int .i64 (b1 : Int))) (first
              | (with_reducible exact ⟨(cell_two15 _ n1 _ _ _).trans u0, (cell_two15 _ n1 _ _ _).trans u1, (cell_two15 _ n1 _ _ _).trans v0, (cell_two15 _ n1 _ _ _).trans v1⟩)
              | (with_reducible exact ⟨(cell_two15 _ n2 _ _ _).trans ((cell_toq15 _ n1 _ _ _).trans u0), (cell_two15 _ n2 _ _ _).trans ((cell_toq15 _ n1 _ _ _).trans u1), (cell_two15 _ n2 _ _ _).trans ((cell_toq15 _ n1 _ _ _).trans v0), (cell_two15 _ n2 _ _ _).trans ((cell_toq15 _ n1 _ _ _).trans v1)⟩)
              | go_keep) (fail)
            go_wp2
            generalize hw6 : World.setCell _ ⟨g + 1, 1, none⟩ _ = w6
            obtain ⟨s6, b6⟩ := S5.out.set (w6 := w6) (a0 : Int) (a1 : Int) (b0 : Int) (b1 : Int) BV.out (Nat.le_refl _) (by rw [HGG.out]; exact hw6)
            rw [HGG.out] at s6
            obtain ⟨⟨z0, z1, z2, z3⟩, -, -⟩ := s6.cells
            refine bodyPost_ret (v := .tuple #[.agg #[.int .i64 (a0 : Int), .int .i64 (a1 : Int)], .agg #[.int .i64 (b0 : Int), .int .i64 (b1 : Int)], .bool true]) (by simp [results, Try.results13, go_sem, z0, z1, z2, z3]) rfl ⟨by rw [RE.out]; rfl, b6.drew⟩
          · have q2 : (r == 2) = false := by rw [beq_eq_false_iff_ne]; exact h2
            have NN : Hid (∀ r, r < k + 1 → rotA T i r ≠ 2) := Lib.hid (fun x hx => by
              by_cases c : x < k
              · exact NI.out x c
              · obtain rfl : x = k := by omega
                rw [RA.out]; exact h2)
            clear h2 C5
            go_wp2_with fail
            go_roundw
            case rel => exact ⟨k + 1, by go_num, by omega, NN.out, B5.out⟩
            case measure => (simp [intOf] <;> omega)
        · have q1 : decide (k < n) = false := decide_eq_false hlk
          obtain rfl : k = n := by omega
          have NN : Hid (NoP T (i + 1)) := Lib.hid (fun j hj r hr => by
            by_cases c : j < i
            · exact NO.out j c r hr
            · obtain rfl : j = i := by omega
              exact NI.out r (by rw [← OC.out]; exact hr))
          clear hB
          go_wp2_with fail
          go_roundw
          case rel => exact ⟨i + 1, by go_num, by omega, NN.out, B.out⟩
          case measure => (simp [intOf] <;> omega)
    · have q0 : decide (i < n) = false := decide_eq_false hlt
      obtain rfl : i = n := by omega
      have RE : Hid (R = ((0, 0), (0, 0), false)) := Lib.hid (by rw [← HR.out]; exact NoP.none (by rw [OC.out]; exact NO.out))
      have S5 := Lib.hid (S2.out.below B.out)
      have B5 := Lib.hid (B2.out.trans (B.out.mono B2.out.size))
      have s5 := S5.out
      rw [HGG.out] at s5
      obtain ⟨⟨x0, x1, y0, y1⟩, ⟨i0, i1, i2, i3⟩, hgb⟩ := s5.cells
      have hgb2 : g < wo.heap.size := by omega
      clear s5
      go_wp2_with fail
      generalize hw6 : World.setCell _ ⟨g + 1, 1, none⟩ _ = w6
      obtain ⟨s6, b6⟩ := S5.out.set (w6 := w6) 0 0 0 0 B5.out (Nat.le_refl _) (by rw [HGG.out]; exact hw6)
      rw [HGG.out] at s6
      obtain ⟨⟨z0, z1, z2, z3⟩, -, -⟩ := s6.cells
      refine bodyPost_ret (v := .tuple #[.agg #[.int .i64 0, .int .i64 0], .agg #[.int .i64 0, .int .i64 0], .bool false]) (by simp [results, Try.results13, go_sem, z0, z1, z2, z3]) rfl ⟨by rw [RE.out]; rfl, b6⟩
end Go.Proofs.Ytkakeakdgidigaa
