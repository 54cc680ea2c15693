/-
  CertTexts: the walk: at every two rows of ints and every text the call answers true and turns nothing that was there. Conditions: the library's table and errors are laid.
-/
import Derived.Test.YtappfojjjegnpaaGreatDoorCtX
namespace Go.Proofs.YtappfojjjegnpaaGreatDoor
open Go.RowKit Go.Proofs.YtappfojjjegnpaaGreatDoor.LexM

theorem ints_first {w : World} {A : Option Addr} {x : List Int} {n cap h : Nat} (hX : IntsAt w (.slice A n cap) x) (hn : x.length = n) (hh : h ≤ n) : IntsAt w (.slice A h cap) (x.take h) := by
  obtain ⟨A', cap', e, hc, hA⟩ := hX
  simp only [Value.slice.injEq] at e
  obtain ⟨rfl, _, rfl⟩ := e
  have hl : (x.take h).length = h := by rw [List.length_take]; omega
  refine ⟨A, cap, by rw [hl], by omega, fun h0 => ?_⟩
  obtain ⟨b, o, e, hb, hcell⟩ := hA (by omega)
  refine ⟨b, o, e, hb, fun k hk => ?_⟩
  rw [hcell k (by omega)]
  simp
theorem pr_len (l : List UInt8) : (prX l).length ≤ l.length ∧ (prF l).length ≤ l.length := by
  have hp := pieces_length 32 l
  have hc := List.count_le_length (a := (32 : UInt8)) (l := l)
  have hw := congrArg List.length (words_parts l)
  rw [List.length_append, List.length_tail] at hw
  have ha : (aft l).length ≤ (rest l).length := by unfold aft; rw [List.length_tail]; omega
  cases hk : prOk l with
  | true =>
    obtain ⟨_, h2, h3⟩ := prE_yes hk
    rw [h2, h3, List.length_map, List.length_map]
    omega
  | false =>
    have e1 : prX l = [] := by unfold prX; rw [hk]; rfl
    have e2 : prF l = [] := by unfold prF; rw [hk]; rfl
    rw [e1, e2]; simp
theorem pr_in63 (l : List UInt8) : (∀ c ∈ prX l, In63 c) ∧ ∀ c ∈ prF l, In63 c := by
  cases hk : prOk l with
  | true =>
    have hh := hk
    unfold prOk at hh
    simp only [Bool.and_eq_true] at hh
    obtain ⟨_, h2, h3⟩ := prE_yes hk
    rw [h2, h3]
    refine ⟨fun c hc => ?_, fun c hc => ?_⟩
    · obtain ⟨p, hp, rfl⟩ := List.mem_map.1 hc
      exact (isInt_val (List.all_eq_true.1 hh.1.2 p hp)).2.1
    · obtain ⟨p, hp, rfl⟩ := List.mem_map.1 hc
      exact (isInt_val (List.all_eq_true.1 hh.2 p hp)).2.1
  | false =>
    have e1 : prX l = [] := by unfold prX; rw [hk]; rfl
    have e2 : prF l = [] := by unfold prF; rw [hk]; rfl
    rw [e1, e2]; exact ⟨fun c hc => absurd hc (by simp), fun c hc => absurd hc (by simp)⟩
theorem pr_ok {l : List UInt8} (h : prE l = 0) : prOk l = true := by
  unfold prE at h
  split at h
  · cases h
  · split at h
    · assumption
    · cases h
theorem equalSame (v u : Value) (L : List Int) (w : World) (h1 : IntsAt w v L) (h2 : IntsAt w u L) (hl : L.length ≤ 1000000) :
    Calls Tryz.prog 9 #[v, u] w fun e w' => e = .returned (.bool true) ∧ Below w.heap.size w w' := by
  have h := equalI v u L L w h1 h2 hl hl
  have e : (L == L) = true := by simp
  rw [e] at h
  exact h

set_option maxHeartbeats 16000000 in
set_option maxRecDepth 100000 in
theorem texts (xv fv : Value) (s : ByteArray) (x f : List Int) (w : World) (hX : IntsAt w xv x) (hF : IntsAt w fv f) (hx6 : ∀ c ∈ x, In63 c) (hf6 : ∀ c ∈ f, In63 c) (hT : TabE w) :
    Calls Tryz.prog 3 #[xv, fv, .string s] w fun e w' => e = .returned (.bool true) ∧ Below w.heap.size w w' := by
  have HT := Lib.hid hT
  obtain ⟨nx, hnx⟩ : ∃ n, x.length = n := ⟨_, rfl⟩
  obtain ⟨nf, hnf⟩ : ∃ n, f.length = n := ⟨_, rfl⟩
  have hcx : ∃ A cap, xv = .slice A nx cap ∧ nx ≤ cap := by obtain ⟨A, cap, e, hc, _⟩ := hX; exact ⟨A, cap, by rw [← hnx]; exact e, by omega⟩
  have hcf : ∃ A cap, fv = .slice A nf cap ∧ nf ≤ cap := by obtain ⟨A, cap, e, hc, _⟩ := hF; exact ⟨A, cap, by rw [← hnf]; exact e, by omega⟩
  obtain ⟨Ax, cx, rfl, hcx⟩ := hcx
  obtain ⟨Af, cf, rfl, hcf⟩ := hcf
  obtain ⟨h, hh⟩ : ∃ h : Nat, min (nx : Int) 30 = (h : Int) := ⟨min nx 30, by omega⟩
  obtain ⟨j, hj⟩ : ∃ j : Nat, min (nf : Int) 30 = (j : Int) := ⟨min nf 30, by omega⟩
  obtain ⟨m, hm⟩ : ∃ m : Nat, min (s.size : Int) 500 = (m : Int) := ⟨min s.size 500, by omega⟩
  have hx1 := ints_first (h := h) hX hnx (by omega)
  have hf1 := ints_first (h := j) hF hnf (by omega)
  have hX6 : ∀ c ∈ x.take h, In63 c := fun c hc => hx6 c (List.mem_of_mem_take hc)
  have hF6 : ∀ c ∈ f.take j, In63 c := fun c hc => hf6 c (List.mem_of_mem_take hc)
  have hxl : (x.take h).length ≤ 30 := by rw [List.length_take]; omega
  have hfl : (f.take j).length ≤ 30 := by rw [List.length_take]; omega
  obtain ⟨X, hXe⟩ : ∃ X, x.take h = X := ⟨_, rfl⟩
  obtain ⟨F, hFe⟩ : ∃ F, f.take j = F := ⟨_, rfl⟩
  rw [hXe] at hx1 hX6 hxl
  rw [hFe] at hf1 hF6 hfl
  have hpl := printL_len X F 20 (fun c hc => itoa_len20 (hX6 c hc)) (fun c hc => itoa_len20 (hF6 c hc))
  have hpl2 : (printL X F).length ≤ 2000 := by omega
  have PP := Lib.hid (parse_print hX6 hF6 (by omega))
  obtain ⟨t, ht⟩ : ∃ t, s.extract 0 m = t := ⟨_, rfl⟩
  have htz : t.size ≤ 500 := by rw [← ht, ByteArray.size_extract]; omega
  have hl := pr_len t.data.toList
  have hi := pr_in63 t.data.toList
  have hz := size_list t
  have hpp : prE t.data.toList = 0 → bs (printL (prX t.data.toList) (prF t.data.toList)) = t := fun h => by rw [print_parse (pr_ok h), bs_list]
  have PR1 := Lib.hid (fun w hT => printC (.slice Ax h cx) (.slice Af j cf) X F w hT)
  have RP1 := Lib.hid (fun w => refPrintC (.slice Ax h cx) (.slice Af j cf) X F w)
  have PA1 := Lib.hid (fun w hT => parseC (bs (printL X F)) w hT (by rw [bs_size]; omega))
  have PA2 := Lib.hid (fun w hT => parseC t w hT (by omega))
  have RA2 := Lib.hid (fun w => refParseC t w (by omega))
  have HX1 := Lib.hid hx1
  have HF1 := Lib.hid hf1
  have X6 := Lib.hid hX6
  have F6 := Lib.hid hF6
  have HI := Lib.hid hi
  have HP := Lib.hid hpp
  have hl1 : (prX t.data.toList).length ≤ 500 := by omega
  have hl2 : (prF t.data.toList).length ≤ 500 := by omega
  obtain ⟨z, hze⟩ : ∃ z, prE t.data.toList = z := ⟨_, rfl⟩
  obtain ⟨PX, hPX⟩ : ∃ z, prX t.data.toList = z := ⟨_, rfl⟩
  obtain ⟨PF, hPF⟩ : ∃ z, prF t.data.toList = z := ⟨_, rfl⟩
  have PB : Hid (∀ w, TabE w → Calls Tryz.prog 5 #[.string t] w fun e w' => ∃ xv fv, e = .returned (.tuple #[xv, fv, .int .i64 z]) ∧ IntsAt w' xv PX ∧ IntsAt w' fv PF ∧ Below w.heap.size w w') := Lib.hid (fun w hT => by
    have := PA2.out w hT; unfold ParseP at this; rw [hze, hPX, hPF] at this; exact this)
  have RB : Hid (∀ w, Calls Tryz.prog 6 #[.string t] w fun e w' => ∃ xv fv, e = .returned (.tuple #[xv, fv, .int .i64 z]) ∧ IntsAt w' xv PX ∧ IntsAt w' fv PF ∧ Below w.heap.size w w') := Lib.hid (fun w => by
    have := RA2.out w; unfold ParseP at this; rw [hze, hPX, hPF] at this; exact this)
  have PC : Hid (∀ w, TabE w → Calls Tryz.prog 5 #[.string (bs (printL X F))] w fun e w' => ∃ xv fv, e = .returned (.tuple #[xv, fv, .int .i64 0]) ∧ IntsAt w' xv X ∧ IntsAt w' fv F ∧ Below w.heap.size w w') := Lib.hid (fun w hT => by
    have := PA1.out w hT; unfold ParseP at this; rw [bs_data, PP.out.1, PP.out.2.1, PP.out.2.2] at this; exact this)
  have hpp2 := HP.out
  have hi2 := HI.out
  rw [hze, hPX, hPF] at hpp2
  rw [hPX, hPF] at hi2
  rw [hPX] at hl1
  rw [hPF] at hl2
  have HP2 := Lib.hid hpp2
  have HI2 := Lib.hid hi2
  obtain ⟨tx, htx⟩ : ∃ tx, bs (printL X F) = tx := ⟨_, rfl⟩
  have PR : Hid (∀ w, TabL w → IntsAt w (.slice Ax h cx) X → IntsAt w (.slice Af j cf) F → Calls Tryz.prog 4 #[.slice Ax h cx, .slice Af j cf] w fun e w' => e = .returned (.string tx) ∧ Below w.heap.size w w') := Lib.hid (fun w hT h1 h2 => by rw [← htx]; exact PR1.out w hT h1 h2 X6.out F6.out (by omega) (by omega))
  have RP : Hid (∀ w, IntsAt w (.slice Ax h cx) X → IntsAt w (.slice Af j cf) F → Calls Tryz.prog 8 #[.slice Ax h cx, .slice Af j cf] w fun e w' => e = .returned (.string tx) ∧ Below w.heap.size w w') := Lib.hid (fun w h1 h2 => by rw [← htx]; exact RP1.out w h1 h2 X6.out F6.out (by omega) (by omega))
  have PC2 := PC.out
  rw [htx] at PC2
  have PD := Lib.hid PC2
  have hh0 : h ≤ cx := by omega
  have hj0 : j ≤ cf := by omega
  have hm0 : m ≤ s.size := by omega
  clear hX hF hx6 hf6 hT hnx hnf hx1 hf1 hX6 hF6 hXe hFe hpl hpl2 PP PR1 RP1 PA1 PA2 RA2 HI HP hze hPX hPF PC PC2 hpp hpp2 hi hi2 hl hz htx
  cases hg : (z == 0)
  all_goals
    have hz0 : (z == 0) = true → z = 0 := fun h => by simpa using h
    have hz1 : (z != 0) = !(z == 0) := rfl
    rw [hg] at hz0 hz1
    have HZ0 := Lib.hid hz0
    clear hz0
    go_enter Tryz.func3, Tryz.ntmps3
    go_wp2_with (fail)
    go_region
    all_goals
      generalize hw0 : World.drew w = w0
      have b0 : Below w.heap.size w w0 := by rw [← hw0]; exact (Below.refl _ _).drew
      have HX1 := Lib.hid (HX1.out.below b0)
      have HF1 := Lib.hid (HF1.out.below b0)
      have HT := Lib.hid (HT.out.below b0 (Nat.le_refl _))
      have HB := Lib.hid b0
      clear hw0 b0
      go_wp2_with (first
        | (go_at_call 4; have _hz := Q4; (with_reducible refine (printC _ _ PX PF _ HT.out.tab HC.out HD.out HI2.out.1 HI2.out.2 (by omega) (by omega)).mono ?_); rintro e w11 ⟨rfl, b11⟩; have HT := Lib.hid (HT.out.below b11 (Nat.le_refl _)); have HB := Lib.hid (HB.out.trans (b11.mono HB.out.size)); rw [HP2.out (by first | exact HZ0.out trivial | exact HZ0.out rfl)]; have Q5 := Lib.hid b11; clear b11)
        | (go_at_call 9; have _hz := Q3; (with_reducible refine (equalSame _ _ PF _ HD.out HQ.out (by omega)).mono ?_); rintro e w10 ⟨rfl, b10⟩; have HC := Lib.hid (HC.out.below b10); have HD := Lib.hid (HD.out.below b10); have HT := Lib.hid (HT.out.below b10 (Nat.le_refl _)); have HB := Lib.hid (HB.out.trans (b10.mono HB.out.size)); have Q4 := Lib.hid b10; clear b10)
        | (go_at_call 9; have _hz := Q2; (with_reducible refine (equalSame _ _ PX _ HC.out HP.out (by omega)).mono ?_); rintro e w9 ⟨rfl, b9⟩; have HC := Lib.hid (HC.out.below b9); have HD := Lib.hid (HD.out.below b9); have HQ := Lib.hid (HQ.out.below b9); have HT := Lib.hid (HT.out.below b9 (Nat.le_refl _)); have HB := Lib.hid (HB.out.trans (b9.mono HB.out.size)); have Q3 := Lib.hid b9; clear b9)
        | (go_at_call 9; have _hz := Q1; (with_reducible refine (equalSame _ _ F _ HB2.out HF1.out (by omega)).mono ?_); rintro e w8 ⟨rfl, b8⟩; have HC := Lib.hid (HC.out.below b8); have HD := Lib.hid (HD.out.below b8); have HP := Lib.hid (HP.out.below b8); have HQ := Lib.hid (HQ.out.below b8); have HT := Lib.hid (HT.out.below b8 (Nat.le_refl _)); have HB := Lib.hid (HB.out.trans (b8.mono HB.out.size)); have Q2 := Lib.hid b8; clear b8)
        | (go_at_call 9; (with_reducible refine (equalSame _ _ X _ HA2.out HX1.out (by omega)).mono ?_); rintro e w7 ⟨rfl, b7⟩; have HX1 := Lib.hid (HX1.out.below b7); have HF1 := Lib.hid (HF1.out.below b7); have HB2 := Lib.hid (HB2.out.below b7); have HC := Lib.hid (HC.out.below b7); have HD := Lib.hid (HD.out.below b7); have HP := Lib.hid (HP.out.below b7); have HQ := Lib.hid (HQ.out.below b7); have HT := Lib.hid (HT.out.below b7 (Nat.le_refl _)); have HB := Lib.hid (HB.out.trans (b7.mono HB.out.size)); have Q1 := Lib.hid b7; clear b7)
        | (go_at_call 8; (with_reducible refine (RP.out _ HX1.out HF1.out).mono ?_); rintro e w6 ⟨rfl, b6⟩; have HX1 := Lib.hid (HX1.out.below b6); have HF1 := Lib.hid (HF1.out.below b6); have HA2 := Lib.hid (HA2.out.below b6); have HB2 := Lib.hid (HB2.out.below b6); have HC := Lib.hid (HC.out.below b6); have HD := Lib.hid (HD.out.below b6); have HP := Lib.hid (HP.out.below b6); have HQ := Lib.hid (HQ.out.below b6); have HT := Lib.hid (HT.out.below b6 (Nat.le_refl _)); have HB := Lib.hid (HB.out.trans (b6.mono HB.out.size)); clear b6)
        | (go_at_call 7; (with_reducible refine (wakes6 _ HT.out).mono ?_); rintro e w5 ⟨rfl, b5⟩; have HX1 := Lib.hid (HX1.out.below b5); have HF1 := Lib.hid (HF1.out.below b5); have HA2 := Lib.hid (HA2.out.below b5); have HB2 := Lib.hid (HB2.out.below b5); have HC := Lib.hid (HC.out.below b5); have HD := Lib.hid (HD.out.below b5); have HP := Lib.hid (HP.out.below b5); have HQ := Lib.hid (HQ.out.below b5); have HT := Lib.hid (HT.out.below b5 (Nat.le_refl _)); have HB := Lib.hid (HB.out.trans (b5.mono HB.out.size)); clear b5)
        | (go_at_call 6; (with_reducible refine (RB.out _).mono ?_); rintro e w4 ⟨pv, qv, rfl, hp4, hq4, b4⟩; have HX1 := Lib.hid (HX1.out.below b4); have HF1 := Lib.hid (HF1.out.below b4); have HA2 := Lib.hid (HA2.out.below b4); have HB2 := Lib.hid (HB2.out.below b4); have HC := Lib.hid (HC.out.below b4); have HD := Lib.hid (HD.out.below b4); have HT := Lib.hid (HT.out.below b4 (Nat.le_refl _)); have HB := Lib.hid (HB.out.trans (b4.mono HB.out.size)); have HP := Lib.hid hp4; have HQ := Lib.hid hq4; clear hp4 hq4; clear b4)
        | (go_at_call 5; (with_reducible refine (PB.out _ HT.out).mono ?_); rintro e w3 ⟨cv, dv, rfl, hc3, hd3, b3⟩; have HX1 := Lib.hid (HX1.out.below b3); have HF1 := Lib.hid (HF1.out.below b3); have HA2 := Lib.hid (HA2.out.below b3); have HB2 := Lib.hid (HB2.out.below b3); have HT := Lib.hid (HT.out.below b3 (Nat.le_refl _)); have HB := Lib.hid (HB.out.trans (b3.mono HB.out.size)); have HC := Lib.hid hc3; have HD := Lib.hid hd3; clear hc3 hd3; clear b3)
        | (go_at_call 5; (with_reducible refine (PD.out _ HT.out).mono ?_); rintro e w2 ⟨av, bv, rfl, ha2, hb2, b2⟩; have HX1 := Lib.hid (HX1.out.below b2); have HF1 := Lib.hid (HF1.out.below b2); have HT := Lib.hid (HT.out.below b2 (Nat.le_refl _)); have HB := Lib.hid (HB.out.trans (b2.mono HB.out.size)); have HA2 := Lib.hid ha2; have HB2 := Lib.hid hb2; clear ha2 hb2; clear b2)
        | (go_at_call 4; (with_reducible refine (PR.out _ HT.out.tab HX1.out HF1.out).mono ?_); rintro e w1 ⟨rfl, b1⟩; have HX1 := Lib.hid (HX1.out.below b1); have HF1 := Lib.hid (HF1.out.below b1); have HT := Lib.hid (HT.out.below b1 (Nat.le_refl _)); have HB := Lib.hid (HB.out.trans (b1.mono HB.out.size)); clear b1))
      go_ret
      exact ⟨ret_bool (by simp), HB.out⟩
end Go.Proofs.YtappfojjjegnpaaGreatDoor
