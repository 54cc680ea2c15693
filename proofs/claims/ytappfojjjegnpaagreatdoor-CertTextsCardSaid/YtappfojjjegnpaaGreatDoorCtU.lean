/-
  What the reference's Print and Parse answer. Conditions: at most 100 numbers; texts of at most 4000 bytes.
-/
import Derived.Test.YtappfojjjegnpaaGreatDoorCtT
namespace Go.Proofs.YtappfojjjegnpaaGreatDoor
open Go.RowKit Go.Proofs.YtappfojjjegnpaaGreatDoor.LexM

theorem bs_app (a b : List UInt8) : bs a ++ bs b = bs (a ++ b) := by
  have : bs (bs a ++ bs b).data.toList = _ := bs_list _
  rw [← this]
  congr 1
theorem app_str (t : List UInt8) (d : ByteArray) (x : List UInt8) (hd : d = bs x) : bs t ++ ⟨#[32]⟩ ++ d = bs (t ++ (32 :: x)) := by
  subst hd
  rw [show (⟨#[32]⟩ : ByteArray) = bs [32] from rfl, bs_app, bs_app]; simp
def RpRel (p : List UInt8) (x : List Int) (w wr : World) (sv iv : Value) : Prop := ∃ k : Nat, iv = .int .i64 k ∧ sv = .string (bs (p ++ nums (x.take k))) ∧ k ≤ x.length ∧ Below w.heap.size w wr
theorem nums_take (x : List Int) (k : Nat) (h : k < x.length) : nums (x.take (k + 1)) = nums (x.take k) ++ (32 :: Lib.itoa x[k]) := by
  rw [List.take_succ_eq_append_getElem h, nums_snoc]
theorem nums_tlen (x : List Int) (hx : ∀ c ∈ x, In63 c) (k : Nat) : (nums (x.take k)).length ≤ 22 * x.length := by
  have h := nums_len (x.take k) (fun c hc => hx c (List.mem_of_mem_take hc))
  have := List.length_take_le k x
  have h3 : 22 * (x.take k).length ≤ 22 * x.length := by rw [List.length_take]; omega
  omega
set_option maxHeartbeats 8000000 in
set_option maxRecDepth 100000 in
theorem refPrintC (xv fv : Value) (x f : List Int) (w : World) (hX : IntsAt w xv x) (hF : IntsAt w fv f) (hx : ∀ c ∈ x, In63 c) (hf : ∀ c ∈ f, In63 c) (hxl : x.length ≤ 100) (hfl : f.length ≤ 100) :
    Calls Tryz.prog 8 #[xv, fv] w fun e w' => e = .returned (.string (bs (printL x f))) ∧ Below w.heap.size w w' := by
  have HX := Lib.hid hX
  have HF := Lib.hid hF
  have X6 := Lib.hid hx
  have F6 := Lib.hid hf
  have XT := Lib.hid (nums_tlen x hx)
  have FT := Lib.hid (nums_tlen f hf)
  obtain ⟨nx, hnx⟩ : ∃ n, x.length = n := ⟨_, rfl⟩
  obtain ⟨nf, hnf⟩ : ∃ n, f.length = n := ⟨_, rfl⟩
  obtain ⟨ax, cx, e⟩ := hX.form
  rw [hnx] at e
  subst e
  obtain ⟨af, cf, e⟩ := hF.form
  rw [hnf] at e
  subst e
  rw [hnx] at hxl
  rw [hnf] at hfl
  have NX := Lib.hid hnx
  have NF := Lib.hid hnf
  clear hX hF hx hf hnx hnf
  go_enter Tryz.func8, Tryz.ntmps8
  go_wp2
  go_loopw [5, 6] (fun sv iv wr => RpRel [120] x w wr sv iv) (fun _ iv _ => nx - (intOf iv).toNat)
  case atStart => exact ⟨0, rfl, rfl, Nat.zero_le _, Below.refl _ _⟩
  case round =>
    obtain ⟨k, rfl, rfl, hk, hB⟩ := hrel
    rw [NX.out] at hk
    have B := Lib.hid hB
    clear hB
    by_cases hlt : k < nx
    · have hkx : k < x.length := by rw [NX.out]; exact hlt
      obtain ⟨b, o, c', e, hb, c0⟩ := HX.out.nth hkx
      rw [NX.out] at e
      simp only [Value.slice.injEq, true_and] at e
      obtain ⟨rfl, rfl⟩ := e
      have d0 := (B.out.cell (p := ⟨b, o + k, none⟩) hb).trans c0
      have NT := Lib.hid (nums_take x k hkx)
      have h6 := X6.out x[k] (List.getElem_mem hkx)
      have C := Lib.hid (fun w => refDigits x[k] w h6.1 h6.2)
      have hl := XT.out k
      rw [NX.out] at hl
      have hsz : (bs ([120] ++ nums (x.take k))).size ≤ 3000 := by rw [bs_size, List.length_append]; simp only [List.length_singleton]; omega
      have hil := itoa_len20 h6
      obtain ⟨c, hc⟩ : ∃ c, x[k] = c := ⟨_, rfl⟩
      rw [hc] at d0 C NT hil
      have hdz : (bs (Lib.itoa c)).size ≤ 20 := by rw [bs_size]; exact hil
      obtain ⟨d, hd⟩ : ∃ d, bs (Lib.itoa c) = d := ⟨_, rfl⟩
      have AP := Lib.hid (app_str ([120] ++ nums (x.take k)) d _ hd.symm)
      rw [hd] at C hdz
      obtain ⟨sb, hsb⟩ : ∃ sb, bs ([120] ++ nums (x.take k)) = sb := ⟨_, rfl⟩
      rw [hsb] at AP hsz ⊢
      clear c0 h6 hl hc hd hsb hil
      go_wp2_with (go_at_call 18; refine (C.out _).mono ?_; rintro e w1 ⟨rfl, b1⟩; have B1 := Lib.hid (B.out.trans (b1.mono B.out.size)); clear b1)
      go_roundw
      case rel => exact ⟨k + 1, by go_num, by rw [AP.out, NT.out, List.append_assoc], by rw [NX.out]; omega, B1.out⟩
      case measure => (simp [intOf] <;> omega)
    · obtain rfl : k = nx := by omega
      have ht : x.take k = x := List.take_of_length_le (by rw [NX.out]; exact Nat.le_refl _)
      have hl := XT.out k
      rw [NX.out] at hl
      rw [ht] at hl ⊢
      have hsz : (bs ([120] ++ nums x)).size ≤ 3000 := by rw [bs_size, List.length_append]; simp only [List.length_singleton]; omega
      have AP : Hid (bs ([120] ++ nums x) ++ ⟨#[32, 102]⟩ = bs ([120] ++ nums x ++ [32, 102])) := Lib.hid (by
        rw [show (⟨#[32, 102]⟩ : ByteArray) = bs [32, 102] from rfl, bs_app])
      obtain ⟨sb, hsb⟩ : ∃ sb, bs ([120] ++ nums x) = sb := ⟨_, rfl⟩
      have HS := Lib.hid hsb
      rw [hsb] at AP hsz ⊢
      clear ht hl hsb
      go_wp2
      rw [AP.out]
      obtain ⟨sq, hsq⟩ : ∃ sq, bs ([120] ++ nums x ++ [32, 102]) = sq := ⟨_, rfl⟩
      have HQ := Lib.hid hsq
      rw [hsq]
      obtain ⟨wm, hwm⟩ : ∃ W, W = wr := ⟨_, rfl⟩
      subst hwm
      clear hsq AP
      go_loopw [5, 8] (fun sv iv wr => RpRel ([120] ++ nums x ++ [32, 102]) f w wr sv iv) (fun _ iv _ => nf - (intOf iv).toNat)
      case atStart => exact ⟨0, rfl, by rw [List.take_zero, ← HQ.out]; simp [nums], Nat.zero_le _, B.out⟩
      case round =>
        obtain ⟨j, rfl, rfl, hj, hB2⟩ := hrel
        rw [NF.out] at hj
        have B2 := Lib.hid hB2
        clear hB2
        by_cases hlt2 : j < nf
        · have hkf : j < f.length := by rw [NF.out]; exact hlt2
          obtain ⟨b, o, c', e, hb, c0⟩ := HF.out.nth hkf
          rw [NF.out] at e
          simp only [Value.slice.injEq, true_and] at e
          obtain ⟨rfl, rfl⟩ := e
          have d0 := (B2.out.cell (p := ⟨b, o + j, none⟩) hb).trans c0
          have NT := Lib.hid (nums_take f j hkf)
          have h6 := F6.out f[j] (List.getElem_mem hkf)
          have C := Lib.hid (fun w => refDigits f[j] w h6.1 h6.2)
          have hl := FT.out j
          rw [NF.out] at hl
          have hl0 := XT.out k
          rw [List.take_of_length_le (by rw [NX.out]; exact Nat.le_refl _), NX.out] at hl0
          have hsz2 : (bs ([120] ++ nums x ++ [32, 102] ++ nums (f.take j))).size ≤ 6000 := by
            rw [bs_size]; simp only [List.length_append, List.length_cons, List.length_nil]; omega
          have hil := itoa_len20 h6
          obtain ⟨c, hc⟩ : ∃ c, f[j] = c := ⟨_, rfl⟩
          rw [hc] at d0 C NT hil
          have hdz : (bs (Lib.itoa c)).size ≤ 20 := by rw [bs_size]; exact hil
          obtain ⟨d, hd⟩ : ∃ d, bs (Lib.itoa c) = d := ⟨_, rfl⟩
          have AP2 := Lib.hid (app_str ([120] ++ nums x ++ [32, 102] ++ nums (f.take j)) d _ hd.symm)
          rw [hd] at C hdz
          obtain ⟨sc, hsc⟩ : ∃ sb, bs ([120] ++ nums x ++ [32, 102] ++ nums (f.take j)) = sb := ⟨_, rfl⟩
          rw [hsc] at AP2 hsz2 ⊢
          clear c0 h6 hl hl0 hc hd hsc hil
          go_wp2_with (go_at_call 18; refine (C.out _).mono ?_; rintro e w1 ⟨rfl, b1⟩; have B3 := Lib.hid (B2.out.trans (b1.mono B2.out.size)); clear b1)
          go_roundw
          case rel => exact ⟨j + 1, by go_num, by rw [AP2.out, NT.out, List.append_assoc], by rw [NF.out]; omega, B3.out⟩
          case measure => (simp [intOf] <;> omega)
        · obtain rfl : j = nf := by omega
          have ht : f.take j = f := List.take_of_length_le (by rw [NF.out]; exact Nat.le_refl _)
          rw [ht]
          clear ht
          go_wp2
          go_ret
          exact ⟨rfl, B2.out⟩
end Go.Proofs.YtappfojjjegnpaaGreatDoor
