/-
  KittyTells: the walk: at all small numbers and every two corners the call answers true and turns nothing that was there. Conditions: none.
-/
import Derived.Test.YtkakeakdgidigaaKtY
import Derived.Test.YtkakeakdgidigaaKtU
import Derived.Test.YtkakeakdgidigaaKtZ
import Derived.Test.YtkakeakdgidigaaKtZf
namespace Go.Proofs.Ytkakeakdgidigaa
open Go.RowKit Go.Proofs.Ytkakeakdgidigaa.KtM

theorem trn_small {D : Nat → Int} {K : Nat} (h : ∀ k, k < K → -128 ≤ D k ∧ D k ≤ 127) (odd : Bool) : SmallT (trnT odd D K) := by
  intro t ht
  unfold trnT at ht
  obtain ⟨i, hi, rfl⟩ := List.mem_map.1 ht
  have := h i (List.mem_range.1 hi)
  unfold trn1
  cases odd
  · simp only [Bool.false_eq_true, if_false]
    omega
  · simp only [if_true]
    omega
/-- Both lists of corners in memory, what both rotations answer. -/
structure AskT (T : List Int) (tv : Value) (w2 : World) (b b' n : Nat) : Prop where
  len : (crns T).length = n
  rows : ∀ w', Below w2.heap.size w2 w' → b < w'.heap.size ∧ ∀ k, k < n → w'.cell? ⟨b, k * 2, none⟩ = some (.int .i64 (((crns T).getD k (0, 0)).1 : Int)) ∧ w'.cell? ⟨b, k * 2 + 1, none⟩ = some (.int .i64 (((crns T).getD k (0, 0)).2 : Int))
  rowz : ∀ w', Below w2.heap.size w2 w' → b' < w'.heap.size ∧ ∀ k, k < n → w'.cell? ⟨b', k * 2, none⟩ = some (.int .i64 (((crns T).getD k (0, 0)).1 : Int)) ∧ w'.cell? ⟨b', k * 2 + 1, none⟩ = some (.int .i64 (((crns T).getD k (0, 0)).2 : Int))
theorem AskT.two {T : List Int} {tv : Value} {w2 : World} {b b' n : Nat} (h : AskT T tv w2 b b' n) {i k : Nat} (hi : i < n) (hk : k < n) : ∃ a0 a1 b0 b1 : Nat, (a0, a1) ∈ crns T ∧ (b0, b1) ∈ crns T ∧
    (∀ w', Below w2.heap.size w2 w' → (w'.cell? ⟨b, i * 2, none⟩ = some (.int .i64 (a0 : Int)) ∧ w'.cell? ⟨b, i * 2 + 1, none⟩ = some (.int .i64 (a1 : Int)) ∧ w'.cell? ⟨b, k * 2, none⟩ = some (.int .i64 (b0 : Int)) ∧ w'.cell? ⟨b, k * 2 + 1, none⟩ = some (.int .i64 (b1 : Int))) ∧
      (w'.cell? ⟨b', i * 2, none⟩ = some (.int .i64 (a0 : Int)) ∧ w'.cell? ⟨b', i * 2 + 1, none⟩ = some (.int .i64 (a1 : Int)) ∧ w'.cell? ⟨b', k * 2, none⟩ = some (.int .i64 (b0 : Int)) ∧ w'.cell? ⟨b', k * 2 + 1, none⟩ = some (.int .i64 (b1 : Int))) ∧ b < w'.heap.size ∧ b' < w'.heap.size) := by
  have ma := crnA_mem (T := T) (i := i) (by rw [h.len]; exact hi)
  have mb := crnA_mem (T := T) (i := k) (by rw [h.len]; exact hk)
  obtain ⟨⟨a0, a1⟩, ca⟩ : ∃ p, crnA T i = p := ⟨_, rfl⟩
  obtain ⟨⟨b0, b1⟩, cb⟩ : ∃ p, crnA T k = p := ⟨_, rfl⟩
  rw [ca] at ma
  rw [cb] at mb
  exact ⟨a0, a1, b0, b1, ma, mb, fun w' o => ⟨cells_two ca cb (h.rows w' o).2 hi hk, cells_two ca cb (h.rowz w' o).2 hi hk, (h.rows w' o).1, (h.rowz w' o).1⟩⟩
theorem two_lists {w : World} {g : Nat} {T : TypeId} {s0 s1 : Value} (h : w.heap[g]? = some (.cells #[s0, s1] T (0, 0))) : w.cell? ⟨g, 0, none⟩ = some s0 ∧ w.cell? ⟨g, 1, none⟩ = some s1 := by
  constructor <;> simp [World.cell?, h]
def KtO (w1 wr : World) (jv : Value) : Prop := ∃ j : Nat, jv = .int .i64 j ∧ j ≤ 2 ∧ Below w1.heap.size w1 wr
def KtL (n : Nat) (w2 wr : World) (iv : Value) : Prop := ∃ k : Nat, iv = .int .i64 k ∧ k ≤ n ∧ Below w2.heap.size w2 wr
set_option linter.unusedSimpArgs false in
set_option maxHeartbeats 16000000 in
set_option maxRecDepth 100000 in
theorem tells15 (A : Option Addr) (n c K : Nat) (D : Nat → Int) (xa ya xb yb : Int) (w : World) (h : S8At w A n D) (hc : n ≤ c) (hK : K = min n 30) :
    Calls Try.prog 3 #[.slice A n c, .agg #[.int .i64 xa, .int .i64 ya], .agg #[.int .i64 xb, .int .i64 yb]] w fun e w' => e = .returned (.bool true) ∧ Below w.heap.size w w' := by
  obtain ⟨wb, hwb⟩ : ∃ W, (w.alloc (.cells #[.int .i64 xa, .int .i64 ya] 24)).alloc (.cells #[.int .i64 xb, .int .i64 yb] 24) = W := ⟨_, rfl⟩
  obtain ⟨sb, bb⟩ := two_boxes hwb
  have BB := Lib.hid bb
  have SB := Lib.hid sb
  have HK : Hid (K = min n 30) := Lib.hid hK
  have HS8 := Lib.hid (fun wq (o : Below w.heap.size w wq) => h.below o)
  have TU := Lib.hid (fun odd wq (o : Below w.heap.size w wq) => turns15 odd A n c K D wq (h.below o) hc hK)
  have SM := Lib.hid (trn_small (D := D) (K := K) (fun k hk => h.2 k (by omega)))
  have hK30 : K ≤ 30 := by omega
  have WK := Lib.hid wakes15
  obtain ⟨g, hgg⟩ : ∃ g, w.heap.size = g := ⟨_, rfl⟩
  have HGG := Lib.hid hgg
  have XC : Hid (∀ wq, Below wb.heap.size wb wq → (wq.cell? ⟨g, 0, none⟩ = some (.int .i64 xa) ∧ wq.cell? ⟨g, 1, none⟩ = some (.int .i64 ya) ∧ wq.cell? ⟨g + 1, 0, none⟩ = some (.int .i64 xb) ∧ wq.cell? ⟨g + 1, 1, none⟩ = some (.int .i64 yb)) ∧ g + 1 < wq.heap.size ∧ g < wq.heap.size) := Lib.hid (fun wq o => by
    have := (sb.below o).cells
    rw [hgg] at this
    exact ⟨this.1, this.2.2, by have := this.2.2; omega⟩)
  clear h hc hK hgg sb bb SB HK HS8
  go_enter Try.func3, Try.ntmps3
  go_upto_region 1 with (fail)

  clear hwb
  rw [HGG.out]
  go_upto_region 2 with (first
    | (go_at_call 6; have _z := B1; refine (TU.out true _ B1.out).mono ?_; rintro e w2 ⟨lv, rfl, oj, b2⟩; obtain ⟨at2, ct2, e, hct2⟩ := row_form15 oj; subst e; have Z2 := Lib.hid oj.zc; have C2 := Lib.hid b2; clear oj b2)
    | (go_at_call 6; refine (TU.out false _ BB.out).mono ?_; rintro e w1 ⟨lv, rfl, oj, b1⟩; obtain ⟨at1, ct1, e, hct1⟩ := row_form15 oj; subst e; have Z1 := Lib.hid oj.zc; have C1 := Lib.hid b1; have B1 := Lib.hid (BB.out.trans (b1.mono BB.out.size)); clear oj b1))
  obtain ⟨w3, hw3⟩ : ∃ W, w2.alloc (.cells #[.slice at1 K ct1, .slice at2 K ct2] 25) = W := ⟨_, rfl⟩
  have b3 : Below w2.heap.size w2 w3 := by rw [← hw3]; exact below_alloc15 _ _
  obtain ⟨g9, hg9⟩ : ∃ g, w2.heap.size = g := ⟨_, rfl⟩
  have l3 := two_lists (w := w3) (g := g9) (by rw [← hw3, ← hg9]; exact heap_alloc_new w2 _)
  have hgl : g9 < w3.heap.size := by rw [← hw3, ← hg9]; simp
  have JT : Hid (∀ j, j < 2 → ∃ A c T, w3.cell? ⟨g9, j, none⟩ = some (.slice A K c) ∧ ZcAt w3 (.slice A K c) T K ∧ SmallT T) := Lib.hid (fun j hj => by
    have hc : j = 0 ∨ j = 1 := by omega
    rcases hc with rfl | rfl
    · exact ⟨_, _, _, l3.1, Z1.out.below (C2.out.trans (b3.mono C2.out.size)) (Nat.le_refl _), SM.out false⟩
    · exact ⟨_, _, _, l3.2, Z2.out.below b3 (Nat.le_refl _), SM.out true⟩)
  have C3 := Lib.hid (C1.out.trans ((C2.out.trans (b3.mono C2.out.size)).mono C1.out.size))
  have HG9 := Lib.hid hgl
  rw [hw3, hg9]
  clear hw3 b3 hg9 l3 TU Z1 Z2 C2 C1 hct1 hct2 SM hgl B1
  go_wp2_with fail
  go_loopw [31] (fun jv wr => KtO w3 wr jv) (fun jv _ => 2 - (intOf jv).toNat)
  case atStart => exact ⟨0, rfl, Nat.zero_le _, Below.refl _ _⟩
  case round =>
    obtain ⟨j, rfl, hj, hB⟩ := hrel
    obtain ⟨wo, hwo⟩ : ∃ W, W = wr := ⟨_, rfl⟩
    subst hwo
    have B := Lib.hid hB
    by_cases hjl : j < 2
    · have q0 : decide ((j : Int) < 2) = true := decide_eq_true (by omega)
      have hjI : (j : Int) < 2 := by omega
      obtain ⟨AT, ct, T, f0, hz, hst⟩ := JT.out j hjl
      have f0 := (hB.cell (p := ⟨g9, j, none⟩) HG9.out).trans f0
      have hgo := Nat.lt_of_lt_of_le HG9.out hB.size
      have ZT := Lib.hid (fun wq (o : Below wo.heap.size wo wq) => hz.below (hB.trans (o.mono hB.size)) (Nat.le_refl _))
      have ST := Lib.hid hst
      have HL := Lib.hid hz.1.1
      have C1 := Lib.hid (fun wq (o : Below wo.heap.size wo wq) => corners15 (.slice AT K ct) T K wq ((ZT.out wq o).1) (by omega))
      have C2 := Lib.hid (fun wq (o : Below wo.heap.size wo wq) => refCorners15 (.slice AT K ct) T K wq ((ZT.out wq o).1) (by omega))
      have GD := Lib.hid (fun wq (o : Below wo.heap.size wo wq) => refGood15 (.slice AT K ct) T K wq ((ZT.out wq o).1) (by omega))
      have qn : ∀ n : Int, (n != n) = false := fun n => by rw [bne, beq_self_eq_true]; rfl
      clear hB hz hst JT
      go_upto_region 5 with (first
        | (go_at_call 8; refine (C2.out _ D1.out).mono ?_; rintro e w5 ⟨n3, lv, rfl, hn3, oc, b5⟩; obtain ⟨a3, c3, e, hc3⟩ := oc.form; subst e; have hnn : n3 = n2 := (by rw [← oc.1]; exact HN.out); subst hnn; have RZ := Lib.hid (fun h0 => oc.at_ h0); have D2 := Lib.hid (D1.out.trans (b5.mono D1.out.size)); have D12 := Lib.hid b5; clear b5 oc)
        | (go_at_call 7; refine (C1.out _ (Below.refl _ _)).mono ?_; rintro e w4 ⟨n2, lv, rfl, hn2, oc, b4⟩; obtain ⟨a2, c2, e, hc2⟩ := oc.form; subst e; have HN := Lib.hid oc.1; have RW := Lib.hid (fun h0 => oc.at_ h0); have D1 := Lib.hid b4; clear b4 oc))
      clear C1 C2
      go_upto_region 8 with (go_at_call 9; refine (GD.out _ D2.out).mono ?_; rintro e w6 ⟨rfl, rfl⟩)
      clear GD qn
      cases hgd : goodY T with
      | true =>
        have HG := Lib.hid (good_iff.1 hgd)
        go_wp2_with fail
        go_loopw [48] (fun iv wr => KtL n3 w5 wr iv) (fun iv _ => n3 - (intOf iv).toNat)
        case atStart => exact ⟨0, rfl, Nat.zero_le _, Below.refl _ _⟩
        case round =>
          obtain ⟨i, rfl, hi, hB⟩ := hrel
          obtain ⟨wi, hwi⟩ : ∃ W, W = wr := ⟨_, rfl⟩
          subst hwi
          have BI := Lib.hid hB
          by_cases hli : i < n3
          · have q1 : decide (i < n3) = true := decide_eq_true hli
            obtain ⟨b, e, -, hx⟩ := RW.out (by omega)
            subst e
            obtain ⟨b', e, -, hy⟩ := RZ.out (by omega)
            subst e
            have AK : Hid (AskT T (.slice AT K ct) w5 b b' n3) := Lib.hid ⟨HN.out, fun w' o => hx w' (D12.out.trans (o.mono D12.out.size)), hy⟩
            obtain ⟨a0, a1, b0, b1, -, -, X0⟩ := AK.out.two hli hli
            obtain ⟨⟨u0, u1, -, -⟩, ⟨v0, v1, -, -⟩, hbs, hbt⟩ := X0 wi hB
            have qa : ((a0 : Int) != (a0 : Int)) = false := by rw [bne, beq_self_eq_true]; rfl
            have qb : ((a1 : Int) != (a1 : Int)) = false := by rw [bne, beq_self_eq_true]; rfl
            clear X0 hx hy hB
            go_upto_region 11 with (fail)
            go_region_held3 (fun w' => w'.cell? ⟨b, i * 2, none⟩ = some (.int .i64 (a0 : Int)) ∧ w'.cell? ⟨b, i * 2 + 1, none⟩ = some (.int .i64 (a1 : Int)) ∧ w'.cell? ⟨b', i * 2, none⟩ = some (.int .i64 (a0 : Int)) ∧ w'.cell? ⟨b', i * 2 + 1, none⟩ = some (.int .i64 (a1 : Int))) (go_keep) (fail)
            clear u0 u1 v0 v1 hbs hbt qa qb
            go_wp2_with fail
            go_loopw [77] (fun kv wr => KtL n3 w5 wr kv) (fun kv _ => n3 - (intOf kv).toNat)
            case atStart => exact ⟨0, rfl, Nat.zero_le _, BI.out.drew⟩
            case round =>
              clear BI
              obtain ⟨k, rfl, hk, hB⟩ := hrel
              obtain ⟨wk, hwk⟩ : ∃ W, W = wr := ⟨_, rfl⟩
              subst hwk
              have BK := Lib.hid hB
              by_cases hlk : k < n3
              · have q2 : decide (k < n3) = true := decide_eq_true hlk
                obtain ⟨a0, a1, b0, b1, ma, mb, X0⟩ := AK.out.two hli hlk
                have HX := Lib.hid X0
                obtain ⟨⟨u0, u1, v0, v1⟩, -, hbs, hbt⟩ := X0 wk hB
                obtain ⟨r, hr⟩ : ∃ r, rotC T (a0, a1) (b0, b1) = r := ⟨_, rfl⟩
                have CK : Hid (∀ wq, Below w5.heap.size w5 wq → Calls Try.prog 10 #[.slice AT K ct, .agg #[.int .i64 (a0 : Int), .int .i64 (a1 : Int)], .agg #[.int .i64 (b0 : Int), .int .i64 (b1 : Int)]] wq fun e w' => e = .returned (.tuple #[.int .i64 r, .int .i64 0]) ∧ Below wq.heap.size wq w') := Lib.hid (fun wq o => by rw [← hr]; exact rotYes15 (.slice AT K ct) T K a0 a1 b0 b1 wq (ZT.out wq (D2.out.trans (o.mono D2.out.size))) (by omega) HG.out ma mb)
                have CR : Hid (∀ wq, Below w5.heap.size w5 wq → Calls Try.prog 11 #[.slice AT K ct, .agg #[.int .i64 (a0 : Int), .int .i64 (a1 : Int)], .agg #[.int .i64 (b0 : Int), .int .i64 (b1 : Int)]] wq fun e w' => e = .returned (.int .i64 r) ∧ Below wq.heap.size wq w') := Lib.hid (fun wq o => by rw [← hr]; exact refRot15 (.slice AT K ct) T K a0 a1 b0 b1 wq ((ZT.out wq (D2.out.trans (o.mono D2.out.size))).1) (by omega) ST.out ma mb)
                clear hr
                clear X0 hB ma mb
                go_upto_region 16 with (fail)
                go_region_held3 (fun w' => w'.cell? ⟨b, i * 2, none⟩ = some (.int .i64 (a0 : Int)) ∧ w'.cell? ⟨b, i * 2 + 1, none⟩ = some (.int .i64 (a1 : Int)) ∧ w'.cell? ⟨b, k * 2, none⟩ = some (.int .i64 (b0 : Int)) ∧ w'.cell? ⟨b, k * 2 + 1, none⟩ = some (.int .i64 (b1 : Int))) (first
                  | exact C5.1
                  | go_keep) (first
                  | (go_at_call 10; refine (CK.out _ BK.out.drew).mono ?_; rintro e w7 ⟨rfl, b7⟩; have B7 := Lib.hid (BK.out.drew.trans (b7.mono BK.out.drew.size)); have C5 := HX.out w7 B7.out; clear b7))
                clear u0 u1 v0 v1 hbs hbt
                obtain ⟨-, ⟨u0, u1, v0, v1⟩, hbs, hbt⟩ := C5
                go_upto_region 17 with (fail)
                refine rg17 (wb := w5) hli hlk B7.out u0 u1 v0 v1 (fun w' o => (HX.out w' o).2.1) CR.out ?_
                intro u93 u94 u95 u96 u97 u98 u99 u100 u101 u102 u103 u104 u105 u106 u107 u108 u109 u110 u111 u112 u113 u114 u115 u116 u117 u118 u119 u120 u121 u122 u123 u124 w8 hB8
                have B8 := Lib.hid hB8
                clear u0 u1 v0 v1 hbs hbt hB8
                go_wp2_with fail
                go_roundw
                case rel => exact ⟨k + 1, by go_num, by omega, B8.out⟩
                case measure => (simp [intOf] <;> omega)
              · have q2 : decide (k < n3) = false := decide_eq_false hlk
                clear hB
                go_wp2_with fail
                go_roundw
                case rel => exact ⟨i + 1, by go_num, by omega, BK.out⟩
                case measure => (simp [intOf] <;> omega)
          · have q1 : decide (i < n3) = false := decide_eq_false hli
            clear hB
            have DI := Lib.hid (D2.out.trans (BI.out.mono D2.out.size))
            obtain ⟨⟨⟨p0, p1⟩, ⟨p2, p3⟩, z⟩, hpr⟩ : ∃ p, prA T = p := ⟨_, rfl⟩
            have PB : Hid (∀ wq, Below wo.heap.size wo wq → Calls Try.prog 13 #[.slice AT K ct] wq fun e w' => e = .returned (.tuple #[.agg #[.int .i64 (p0 : Int), .int .i64 (p1 : Int)], .agg #[.int .i64 (p2 : Int), .int .i64 (p3 : Int)], .bool z]) ∧ Below wq.heap.size wq w') := Lib.hid (fun wq o => by
              have h := refPair15 (.slice AT K ct) T K wq ((ZT.out wq o).1) (by omega) ST.out
              rw [hpr] at h
              exact h)
            have PA : Hid (∀ wq, Below wo.heap.size wo wq → Calls Try.prog 12 #[.slice AT K ct] wq fun e w' => e = .returned (.tuple #[.agg #[.int .i64 ((p0 : Int)), .int .i64 ((p1 : Int))], .agg #[.int .i64 ((p2 : Int)), .int .i64 ((p3 : Int))], .bool z]) ∧ Below wq.heap.size wq w') := Lib.hid (fun wq o => by
              have h := Pair15 (.slice AT K ct) T K wq ((ZT.out wq o).1) (by omega)
              rw [if_pos (good_iff.2 HG.out), hpr] at h
              exact h)
            clear hpr RW RZ HN D12
            go_upto_region 22 with (go_at_call 12; refine (PA.out _ DI.out).mono ?_; rintro e w7 ⟨rfl, b7⟩; have E7 := Lib.hid (DI.out.trans (b7.mono DI.out.size)); clear b7)
            clear PA
            obtain ⟨w8, hw8⟩ : ∃ W, (w7.alloc (.cells #[.int .i64 ((p0 : Int)), .int .i64 ((p1 : Int))] 24)).alloc (.cells #[.int .i64 ((p2 : Int)), .int .i64 ((p3 : Int))] 24) = W := ⟨_, rfl⟩
            obtain ⟨s8, b8⟩ := two_boxes hw8
            rw [hw8]
            have E8 := Lib.hid (E7.out.trans (b8.mono E7.out.size))
            obtain ⟨g1, hg1⟩ : ∃ g, w7.heap.size = g := ⟨_, rfl⟩
            rw [hg1] at s8 ⊢
            have S8 := Lib.hid s8
            clear hw8 b8 s8 hg1 E7 DI
            go_upto_region 23 with (go_at_call 13; refine (PB.out _ E8.out).mono ?_; rintro e w9 ⟨rfl, b9⟩; have E9 := Lib.hid b9; clear b9)
            clear PB
            obtain ⟨wa, hwa⟩ : ∃ W, (w9.alloc (.cells #[.int .i64 (p0 : Int), .int .i64 (p1 : Int)] 33)).alloc (.cells #[.int .i64 (p2 : Int), .int .i64 (p3 : Int)] 33) = W := ⟨_, rfl⟩
            obtain ⟨sa, ba⟩ := two_boxes hwa
            rw [hwa]
            have GA := E9.out.trans (ba.mono E9.out.size)
            have SA8 := S8.out.below GA
            have EA := Lib.hid (E8.out.trans (GA.mono E8.out.size))
            obtain ⟨g2, hg2⟩ : ∃ g, w9.heap.size = g := ⟨_, rfl⟩
            rw [hg2] at sa ⊢

            obtain ⟨⟨m0, m1, m2, m3⟩, -, hm4⟩ := SA8.cells
            obtain ⟨⟨o0, o1, o2, o3⟩, -, ho4⟩ := sa.cells
            have hm5 : g1 < wa.heap.size := by omega
            have ho5 : g2 < wa.heap.size := by omega
            have qn : ∀ n : Int, (n != n) = false := fun n => by rw [bne, beq_self_eq_true]; rfl
            have qz : (z != z) = false := by cases z <;> rfl
            clear hwa ba GA SA8 sa hg2 S8 E9 E8
            go_upto_region 27 with (fail)
            clear m0 m1 m2 m3 hm4 o0 o1 o2 o3 ho4 hm5 ho5 qn qz
            obtain ⟨⟨m0, m1, m2, m3⟩, mg, mh⟩ := XC.out wa (C3.out.trans ((B.out.trans (EA.out.mono B.out.size)).mono C3.out.size))
            have IA := Lib.hid (fun wq (o : Below wo.heap.size wo wq) => refIn15 (.slice AT K ct) T K xa ya wq ((ZT.out wq o).1) (by omega))
            have IB := Lib.hid (fun wq (o : Below wo.heap.size wo wq) => refIn15 (.slice AT K ct) T K xb yb wq ((ZT.out wq o).1) (by omega))
            cases hia : inC T xa ya with
            | true =>
              rw [hia] at IA
              cases hib : inC T xb yb with
              | true =>
                rw [hib] at IB
                have RX : ∃ r : Int, ∀ wq, Below wo.heap.size wo wq → Calls Try.prog 10 #[.slice AT K ct, .agg #[.int .i64 xa, .int .i64 ya], .agg #[.int .i64 xb, .int .i64 yb]] wq fun e w' => e = .returned (.tuple #[.int .i64 r, .int .i64 0]) ∧ Below wq.heap.size wq w' := by
                  obtain ⟨⟨e0, e1⟩, he, h1, h2⟩ := inC_iff.1 hia
                  obtain ⟨⟨e2, e3⟩, hf, h3, h4⟩ := inC_iff.1 hib
                  refine ⟨rotC T (e0, e1) (e2, e3), fun wq o => ?_⟩
                  have h := rotYes15 (.slice AT K ct) T K e0 e1 e2 e3 wq (ZT.out wq o) (by omega) HG.out he hf
                  simp only at h1 h2 h3 h4
                  rw [h1, h2, h3, h4] at h
                  exact h
                obtain ⟨r, RX⟩ := RX
                have RN := Lib.hid RX
                clear RX hia hib
                go_wp2_with (first
                  | (go_at_call 14; have _z := EG; refine (IB.out _ EG.out).mono ?_; rintro e wh ⟨rfl, bh⟩; have EH := Lib.hid (EG.out.trans (bh.mono EG.out.size)); clear bh)
                  | (go_at_call 14; have _z := EF; refine (IA.out _ EF.out).mono ?_; rintro e wg ⟨rfl, bg⟩; have EG := Lib.hid (EF.out.trans (bg.mono EF.out.size)); obtain ⟨⟨t0, t1, t2, t3⟩, tg, th⟩ := XC.out wg (C3.out.trans ((B.out.trans (EG.out.mono B.out.size)).mono C3.out.size)); clear bg)
                  | (go_at_call 10; refine (RN.out wa EA.out).mono ?_; rintro e wf ⟨rfl, bf⟩; have EF := Lib.hid (EA.out.trans (bf.mono EA.out.size)); obtain ⟨⟨s0, s1, s2, s3⟩, sg, sh⟩ := XC.out wf (C3.out.trans ((B.out.trans (EF.out.mono B.out.size)).mono C3.out.size)); clear bf))
                go_roundw
                case rel => exact ⟨j + 1, by go_num, by omega, B.out.trans (EH.out.mono B.out.size)⟩
                case measure => (simp [intOf] <;> omega)
                
              | false =>
                rw [hib] at IB
                have RN := Lib.hid (fun wq (o : Below wo.heap.size wo wq) => rotNo15 (.slice AT K ct) T K xa ya xb yb wq ((ZT.out wq o).1) (by omega) (fun h => absurd (h.2.2.symm.trans hib) (by decide)))
                clear hia hib
                go_wp2_with (first
                  | (go_at_call 14; have _z := EG; refine (IB.out _ EG.out).mono ?_; rintro e wh ⟨rfl, bh⟩; have EH := Lib.hid (EG.out.trans (bh.mono EG.out.size)); clear bh)
                  | (go_at_call 14; have _z := EF; refine (IA.out _ EF.out).mono ?_; rintro e wg ⟨rfl, bg⟩; have EG := Lib.hid (EF.out.trans (bg.mono EF.out.size)); obtain ⟨⟨t0, t1, t2, t3⟩, tg, th⟩ := XC.out wg (C3.out.trans ((B.out.trans (EG.out.mono B.out.size)).mono C3.out.size)); clear bg)
                  | (go_at_call 10; refine (RN.out wa EA.out).mono ?_; rintro e wf ⟨rfl, bf⟩; have EF := Lib.hid (EA.out.trans (bf.mono EA.out.size)); obtain ⟨⟨s0, s1, s2, s3⟩, sg, sh⟩ := XC.out wf (C3.out.trans ((B.out.trans (EF.out.mono B.out.size)).mono C3.out.size)); clear bf))
                go_roundw
                case rel => exact ⟨j + 1, by go_num, by omega, B.out.trans (EH.out.mono B.out.size)⟩
                case measure => (simp [intOf] <;> omega)
                
            | false =>
              rw [hia] at IA
              have RN := Lib.hid (fun wq (o : Below wo.heap.size wo wq) => rotNo15 (.slice AT K ct) T K xa ya xb yb wq ((ZT.out wq o).1) (by omega) (fun h => absurd (h.2.1.symm.trans hia) (by decide)))
              clear hia
              go_wp2_with (first
                | (go_at_call 14; have _z := EG; refine (IB.out _ EG.out).mono ?_; rintro e wh ⟨rfl, bh⟩; have EH := Lib.hid (EG.out.trans (bh.mono EG.out.size)); clear bh)
                | (go_at_call 14; have _z := EF; refine (IA.out _ EF.out).mono ?_; rintro e wg ⟨rfl, bg⟩; have EG := Lib.hid (EF.out.trans (bg.mono EF.out.size)); obtain ⟨⟨t0, t1, t2, t3⟩, tg, th⟩ := XC.out wg (C3.out.trans ((B.out.trans (EG.out.mono B.out.size)).mono C3.out.size)); clear bg)
                | (go_at_call 10; refine (RN.out wa EA.out).mono ?_; rintro e wf ⟨rfl, bf⟩; have EF := Lib.hid (EA.out.trans (bf.mono EA.out.size)); obtain ⟨⟨s0, s1, s2, s3⟩, sg, sh⟩ := XC.out wf (C3.out.trans ((B.out.trans (EF.out.mono B.out.size)).mono C3.out.size)); clear bf))
              go_roundw
              case rel => exact ⟨j + 1, by go_num, by omega, B.out.trans (EG.out.mono B.out.size)⟩
              case measure => (simp [intOf] <;> omega)
              
      | false =>
        have HGF := Lib.hid hgd
        go_wp2_with fail
        go_loopw [48] (fun iv wr => KtL n3 w5 wr iv) (fun iv _ => n3 - (intOf iv).toNat)
        case atStart => exact ⟨0, rfl, Nat.zero_le _, Below.refl _ _⟩
        case round =>
          obtain ⟨i, rfl, hi, hB⟩ := hrel
          obtain ⟨wi, hwi⟩ : ∃ W, W = wr := ⟨_, rfl⟩
          subst hwi
          have BI := Lib.hid hB
          by_cases hli : i < n3
          · have q1 : decide (i < n3) = true := decide_eq_true hli
            obtain ⟨b, e, -, hx⟩ := RW.out (by omega)
            subst e
            obtain ⟨b', e, -, hy⟩ := RZ.out (by omega)
            subst e
            have AK : Hid (AskT T (.slice AT K ct) w5 b b' n3) := Lib.hid ⟨HN.out, fun w' o => hx w' (D12.out.trans (o.mono D12.out.size)), hy⟩
            obtain ⟨a0, a1, b0, b1, -, -, X0⟩ := AK.out.two hli hli
            obtain ⟨⟨u0, u1, -, -⟩, ⟨v0, v1, -, -⟩, hbs, hbt⟩ := X0 wi hB
            have qa : ((a0 : Int) != (a0 : Int)) = false := by rw [bne, beq_self_eq_true]; rfl
            have qb : ((a1 : Int) != (a1 : Int)) = false := by rw [bne, beq_self_eq_true]; rfl
            clear X0 hx hy hB
            go_upto_region 11 with (fail)
            go_region_held3 (fun w' => w'.cell? ⟨b, i * 2, none⟩ = some (.int .i64 (a0 : Int)) ∧ w'.cell? ⟨b, i * 2 + 1, none⟩ = some (.int .i64 (a1 : Int)) ∧ w'.cell? ⟨b', i * 2, none⟩ = some (.int .i64 (a0 : Int)) ∧ w'.cell? ⟨b', i * 2 + 1, none⟩ = some (.int .i64 (a1 : Int))) (go_keep) (fail)
            clear u0 u1 v0 v1 hbs hbt qa qb
            go_wp2_with fail
            go_loopw [77] (fun kv wr => KtL n3 w5 wr kv) (fun kv _ => n3 - (intOf kv).toNat)
            case atStart => exact ⟨0, rfl, Nat.zero_le _, BI.out.drew⟩
            case round =>
              clear BI
              obtain ⟨k, rfl, hk, hB⟩ := hrel
              obtain ⟨wk, hwk⟩ : ∃ W, W = wr := ⟨_, rfl⟩
              subst hwk
              have BK := Lib.hid hB
              by_cases hlk : k < n3
              · have q2 : decide (k < n3) = true := decide_eq_true hlk
                obtain ⟨a0, a1, b0, b1, -, -, X0⟩ := AK.out.two hli hlk
                have HX := Lib.hid X0
                obtain ⟨⟨u0, u1, v0, v1⟩, -, hbs, hbt⟩ := X0 wk hB
                have CK : Hid (∀ wq, Below w5.heap.size w5 wq → Calls Try.prog 10 #[.slice AT K ct, .agg #[.int .i64 (a0 : Int), .int .i64 (a1 : Int)], .agg #[.int .i64 (b0 : Int), .int .i64 (b1 : Int)]] wq fun e w' => e = .returned (.tuple #[.int .i64 0, .int .i64 2]) ∧ Below wq.heap.size wq w') := Lib.hid (fun wq o => rotNo15 (.slice AT K ct) T K _ _ _ _ wq ((ZT.out wq (D2.out.trans (o.mono D2.out.size))).1) (by omega) (fun h => absurd (h.1.symm.trans HGF.out) (by decide)))
                clear X0 hB
                go_upto_region 16 with (fail)
                go_region_held3 (fun w' => w'.cell? ⟨b, i * 2, none⟩ = some (.int .i64 (a0 : Int)) ∧ w'.cell? ⟨b, i * 2 + 1, none⟩ = some (.int .i64 (a1 : Int)) ∧ w'.cell? ⟨b, k * 2, none⟩ = some (.int .i64 (b0 : Int)) ∧ w'.cell? ⟨b, k * 2 + 1, none⟩ = some (.int .i64 (b1 : Int))) (first
                  | exact C5.1
                  | go_keep) (first
                  | (go_at_call 10; refine (CK.out _ BK.out.drew).mono ?_; rintro e w7 ⟨rfl, b7⟩; have B7 := Lib.hid (BK.out.drew.trans (b7.mono BK.out.drew.size)); have C5 := HX.out w7 B7.out; clear b7))
                clear u0 u1 v0 v1 hbs hbt
                obtain ⟨-, ⟨u0, u1, v0, v1⟩, hbs, hbt⟩ := C5
                go_upto_region 17 with (fail)
                refine rg17f (wb := w5) B7.out ?_
                intro u93 u94 u95 u96 u97 u98 u99 u100 u101 u102 u103 u104 u105 u106 u107 u108 u109 u110 u111 u112 u113 u114 u115 u116 u117 u118 u119 u120 u121 u122 u123 u124 w8 hB8
                have B8 := Lib.hid hB8
                clear u0 u1 v0 v1 hbs hbt hB8
                go_wp2_with fail
                go_roundw
                case rel => exact ⟨k + 1, by go_num, by omega, B8.out⟩
                case measure => (simp [intOf] <;> omega)
              · have q2 : decide (k < n3) = false := decide_eq_false hlk
                clear hB
                go_wp2_with fail
                go_roundw
                case rel => exact ⟨i + 1, by go_num, by omega, BK.out⟩
                case measure => (simp [intOf] <;> omega)
          · have q1 : decide (i < n3) = false := decide_eq_false hli
            clear hB
            have DI := Lib.hid (D2.out.trans (BI.out.mono D2.out.size))
            obtain ⟨⟨⟨p0, p1⟩, ⟨p2, p3⟩, z⟩, hpr⟩ : ∃ p, prA T = p := ⟨_, rfl⟩
            have PB : Hid (∀ wq, Below wo.heap.size wo wq → Calls Try.prog 13 #[.slice AT K ct] wq fun e w' => e = .returned (.tuple #[.agg #[.int .i64 (p0 : Int), .int .i64 (p1 : Int)], .agg #[.int .i64 (p2 : Int), .int .i64 (p3 : Int)], .bool z]) ∧ Below wq.heap.size wq w') := Lib.hid (fun wq o => by
              have h := refPair15 (.slice AT K ct) T K wq ((ZT.out wq o).1) (by omega) ST.out
              rw [hpr] at h
              exact h)
            have PA : Hid (∀ wq, Below wo.heap.size wo wq → Calls Try.prog 12 #[.slice AT K ct] wq fun e w' => e = .returned (.tuple #[.agg #[.int .i64 (0), .int .i64 (0)], .agg #[.int .i64 (0), .int .i64 (0)], .bool false]) ∧ Below wq.heap.size wq w') := Lib.hid (fun wq o => by
              have h := Pair15 (.slice AT K ct) T K wq ((ZT.out wq o).1) (by omega)
              rw [if_neg (by rw [HGF.out]; decide)] at h
              exact h)
            clear hpr RW RZ HN D12
            go_upto_region 22 with (go_at_call 12; refine (PA.out _ DI.out).mono ?_; rintro e w7 ⟨rfl, b7⟩; have E7 := Lib.hid (DI.out.trans (b7.mono DI.out.size)); clear b7)
            clear PA
            obtain ⟨w8, hw8⟩ : ∃ W, (w7.alloc (.cells #[.int .i64 (0), .int .i64 (0)] 24)).alloc (.cells #[.int .i64 (0), .int .i64 (0)] 24) = W := ⟨_, rfl⟩
            obtain ⟨s8, b8⟩ := two_boxes hw8
            rw [hw8]
            have E8 := Lib.hid (E7.out.trans (b8.mono E7.out.size))
            obtain ⟨g1, hg1⟩ : ∃ g, w7.heap.size = g := ⟨_, rfl⟩
            rw [hg1] at s8 ⊢
            have S8 := Lib.hid s8
            clear hw8 b8 s8 hg1 E7 DI
            go_upto_region 23 with (go_at_call 13; refine (PB.out _ E8.out).mono ?_; rintro e w9 ⟨rfl, b9⟩; have E9 := Lib.hid b9; clear b9)
            clear PB
            obtain ⟨wa, hwa⟩ : ∃ W, (w9.alloc (.cells #[.int .i64 (p0 : Int), .int .i64 (p1 : Int)] 33)).alloc (.cells #[.int .i64 (p2 : Int), .int .i64 (p3 : Int)] 33) = W := ⟨_, rfl⟩
            obtain ⟨sa, ba⟩ := two_boxes hwa
            rw [hwa]
            have GA := E9.out.trans (ba.mono E9.out.size)
            have HWG : Hid (wo.heap.size ≤ w9.heap.size) := Lib.hid (Nat.le_trans E8.out.size E9.out.size)
            have SA8 := S8.out.below GA
            have EA := Lib.hid (E8.out.trans (GA.mono E8.out.size))
            obtain ⟨g2, hg2⟩ : ∃ g, w9.heap.size = g := ⟨_, rfl⟩
            rw [hg2] at sa HWG ⊢

            obtain ⟨⟨o0, o1, o2, o3⟩, ⟨f0, f1, f2, f3⟩, ho4⟩ := sa.cells
            have ho5 : g2 < wa.heap.size := by omega
            have SA := Lib.hid sa
            have HLE : Hid (wa.heap.size ≤ wa.heap.size ∧ g1 + 1 < g2) := Lib.hid ⟨Nat.le_refl _, by have h1 := S8.out.cells.2.2; have h2 := E9.out.size; omega⟩
            have M8 := Lib.hid SA8
            clear hwa ba GA SA8 sa hg2 S8 E9 E8
            go_upto_region 25 with (fail)
            obtain ⟨wd, hwd⟩ : ∃ W, ((((wa.setCell ⟨g2, 0, none⟩ (.int .i64 0)).setCell ⟨g2, 1, none⟩ (.int .i64 0)).setCell ⟨g2 + 1, 0, none⟩ (.int .i64 0)).setCell ⟨g2 + 1, 1, none⟩ (.int .i64 0)) = W := ⟨_, rfl⟩
            obtain ⟨sd, bd⟩ := SA.out.set (w6 := wd) 0 0 0 0 (Below.refl g2 wa) (Nat.le_refl _) hwd
            have hgz : wo.heap.size ≤ g2 := HWG.out
            have ED := Lib.hid (EA.out.trans (bd.mono hgz))
            have SD8 : BoxS g1 24 wd 0 0 0 0 := ⟨(bd.block _ (by have := HLE.out.2; omega)).trans M8.out.1, (bd.block _ HLE.out.2).trans M8.out.2⟩
            rw [hwd]
            clear o0 o1 o2 o3 f0 f1 f2 f3 ho4 ho5
            obtain ⟨⟨m0, m1, m2, m3⟩, -, hm4⟩ := SD8.cells
            obtain ⟨⟨o0, o1, o2, o3⟩, -, ho4⟩ := sd.cells
            have hm5 : g1 < wd.heap.size := by omega
            have ho5 : g2 < wd.heap.size := by omega
            clear hwd bd SD8 sd EA SA M8
            go_upto_region 27 with (fail)
            clear m0 m1 m2 m3 hm4 o0 o1 o2 o3 ho4 hm5 ho5
            obtain ⟨⟨m0, m1, m2, m3⟩, mg, mh⟩ := XC.out wd (C3.out.trans ((B.out.trans (ED.out.mono B.out.size)).mono C3.out.size))
            have RN := Lib.hid (rotNo15 (.slice AT K ct) T K xa ya xb yb wd ((ZT.out wd ED.out).1) (by omega) (fun h => absurd (h.1.symm.trans HGF.out) (by decide)))
            go_wp2_with (go_at_call 10; refine RN.out.mono ?_; rintro e wf ⟨rfl, bf⟩; have EF := Lib.hid (ED.out.trans (bf.mono ED.out.size)); clear bf)
            go_roundw
            case rel => exact ⟨j + 1, by go_num, by omega, B.out.trans (EF.out.mono B.out.size)⟩
            case measure => (simp [intOf] <;> omega)
    · have q0 : decide ((j : Int) < 2) = false := decide_eq_false (by omega)
      clear hB
      go_wp2_with (go_at_call 15; refine (WK.out _).mono ?_; rintro e w9 ⟨rfl, b9⟩; have B9 := Lib.hid (BB.out.trans ((C3.out.trans ((B.out.trans (b9.mono B.out.size)).mono C3.out.size)).mono BB.out.size)); clear b9)
      go_ret
      exact ⟨rfl, B9.out⟩
end Go.Proofs.Ytkakeakdgidigaa
