/-
  Whether a word is an int as it is printed; the numbers of words. Conditions: the library's table and errors are laid; at most 4096 words.
-/
import Derived.Test.YtappfojjjegnpaaGreatDoorCtW
import Derived.Test.YtappfojjjegnpaaGreatDoorCqF
namespace Go.Proofs.YtappfojjjegnpaaGreatDoor
open Go.RowKit Go.Proofs.YtappfojjjegnpaaGreatDoor.LexM

theorem gSyn : Tryz.prog.globalNamed "strconv.ErrSyntax" = some 1 := by kernel_rfl
theorem gRng : Tryz.prog.globalNamed "strconv.ErrRange" = some 2 := by kernel_rfl
/-- The library's table, and its two errors. -/
structure TabE (w : World) : Prop where
  tab : TabL w
  syn : ∃ tp p, w.var? Tryz.prog "strconv.ErrSyntax" = some #[.iface tp p]
  rng : ∃ tp p, w.var? Tryz.prog "strconv.ErrRange" = some #[.iface tp p]
  r1 : 1 < w.heap.size
  r2 : 2 < w.heap.size
theorem TabE.below {B : Nat} {w w' : World} (h : TabE w) (hb : Below B w w') (hB : w.heap.size ≤ B) : TabE w' := by
  obtain ⟨t1, p1, h1⟩ := h.syn
  obtain ⟨t2, p2, h2⟩ := h.rng
  exact ⟨h.tab.below hb hB, ⟨t1, p1, var?_below hb gSyn (Nat.lt_of_lt_of_le h.r1 hB) h1⟩, ⟨t2, p2, var?_below hb gRng (Nat.lt_of_lt_of_le h.r2 hB) h2⟩, Nat.lt_of_lt_of_le h.r1 hb.size, Nat.lt_of_lt_of_le h.r2 hb.size⟩

theorem atoiOk (s : ByteArray) (v : Int) (w : World) (hs : s.size ≤ 2000000) (h : Lib.atoiAll s.data.toList = .ok v) :
    Calls Tryz.prog 25 #[.string s] w fun e w' => e = .returned (.tuple #[.int .i64 v, .nilIface]) ∧ Below w.heap.size w w' := by
  refine (Go.Proofs.Tryz.strconv_Atoi_ok s (by omega) v h w).mono ?_
  rintro e w' ⟨rfl, rfl | ⟨t, rfl⟩⟩
  · exact ⟨rfl, Below.refl _ _⟩
  · exact ⟨rfl, Go.Joins.below_bytesWorld _ _ _ _ (Nat.le_refl _)⟩
theorem atoiBad (s : ByteArray) (w : World) (hT : TabE w) (hs : s.size ≤ 2000000) (h : ∀ v, Lib.atoiAll s.data.toList ≠ .ok v) :
    Calls Tryz.prog 25 #[.string s] w fun e w' => (∃ x t p, e = .returned (.tuple #[.int .i64 x, .iface t p])) ∧ Below w.heap.size w w' := by
  obtain ⟨t1, p1, h1⟩ := hT.syn
  obtain ⟨t2, p2, h2⟩ := hT.rng
  cases hA : Lib.atoiAll s.data.toList with
  | ok v => exact absurd hA (h v)
  | _ =>
    first
    | (refine (Any.strconv_Atoi_syntax_var Tryz.laysC172 s (by omega) hA t1 p1 w h1).mono ?_; rintro e w' ⟨N, rfl, _, _, hb⟩; exact ⟨⟨_, _, _, rfl⟩, hb⟩)
    | (refine (Any.strconv_Atoi_range_var Tryz.laysC172 s (by omega) hA t2 p2 w h2).mono ?_; rintro e w' ⟨N, rfl, _, _, hb⟩; exact ⟨⟨_, _, _, rfl⟩, hb⟩)

set_option maxHeartbeats 1000000 in
theorem isNumberC (s : ByteArray) (w : World) (hT : TabE w) (hs : s.size ≤ 2000000) :
    Calls Tryz.prog 24 #[.string s] w fun e w' => e = .returned (.bool (isInt s.data.toList)) ∧ Below w.heap.size w w' := by
  have HT := Lib.hid hT
  clear hT
  by_cases hA : ∃ v, Lib.atoiAll s.data.toList = .ok v
  · obtain ⟨v, hv⟩ := hA
    have A := Lib.hid (fun w => atoiOk s v w hs hv)
    have hb := Lib.atoiAll_bounds hv
    have I := Lib.hid (fun w hT => itoaW v hb.1 hb.2 w hT)
    have e := isInt_ok hv
    by_cases hq : Lib.itoa v = s.data.toList
    · have hx : bs (Lib.itoa v) = s := by rw [hq, bs_list]
      have I2 : Hid (∀ w, TabL w → Calls Tryz.prog 20 #[.int .i64 v] w fun e w' => e = .returned (.string s) ∧ Below w.heap.size w w') := Lib.hid (by rw [← hx]; exact I.out)
      have E : Hid (isInt s.data.toList = true) := Lib.hid (by rw [e, decide_eq_true hq])
      clear e hq hb hv hx I
      go_enter Tryz.func24, Tryz.ntmps24
      go_wp2_with (first
        | (go_at_call 20; refine (I2.out _ (HT.out.tab.below B1.out (Nat.le_refl _))).mono ?_; rintro e w2 ⟨rfl, b2⟩; have B2 := Lib.hid (B1.out.trans (b2.mono B1.out.size)); clear b2)
        | (go_at_call 25; refine (A.out _).mono ?_; rintro e w1 ⟨rfl, b1⟩; have B1 := Lib.hid b1; clear b1))
      go_ret
      exact ⟨ret_bool E.out.symm, B2.out⟩
    · have hne : ((bs (Lib.itoa v)).toList == s.toList) = false := by
        rw [beq_eq_false_iff_ne, toList_data, toList_data]
        exact hq
      have E : Hid (isInt s.data.toList = false) := Lib.hid (by rw [e, decide_eq_false hq])
      obtain ⟨d, hd⟩ : ∃ d, bs (Lib.itoa v) = d := ⟨_, rfl⟩
      rw [hd] at hne
      have I2 : Hid (∀ w, TabL w → Calls Tryz.prog 20 #[.int .i64 v] w fun e w' => e = .returned (.string d) ∧ Below w.heap.size w w') := Lib.hid (by rw [← hd]; exact I.out)
      clear e hq hb hv hd I
      go_enter Tryz.func24, Tryz.ntmps24
      go_wp2_with (first
        | (go_at_call 20; refine (I2.out _ (HT.out.tab.below B1.out (Nat.le_refl _))).mono ?_; rintro e w2 ⟨rfl, b2⟩; have B2 := Lib.hid (B1.out.trans (b2.mono B1.out.size)); clear b2)
        | (go_at_call 25; refine (A.out _).mono ?_; rintro e w1 ⟨rfl, b1⟩; have B1 := Lib.hid b1; clear b1))
      go_ret
      exact ⟨ret_bool E.out.symm, B2.out⟩
  · have hA2 : ∀ v, Lib.atoiAll s.data.toList ≠ .ok v := fun v h => hA ⟨v, h⟩
    have E := Lib.hid (isInt_no hA2)
    have A := Lib.hid (fun w hT => atoiBad s w hT hs hA2)
    clear hA hA2
    go_enter Tryz.func24, Tryz.ntmps24
    go_wp2_with (go_at_call 25; refine (A.out _ HT.out).mono ?_; rintro e w1 ⟨⟨x, t, p, rfl⟩, b1⟩; have B1 := Lib.hid b1; clear b1)
    go_ret
    exact ⟨ret_bool E.out.symm, B1.out⟩

def notInt (l : List UInt8) : Bool := !isInt l
set_option maxHeartbeats 1000000 in
theorem notIntAt (s : ByteArray) (w : World) (hT : TabE w) (hs : s.size ≤ 2000000) :
    Calls Tryz.prog 23 #[.string s] w fun e w' => e = .returned (.bool (notInt s.data.toList)) ∧ Below w.heap.size w w' := by
  have C := isNumberC s w hT hs
  clear hT
  unfold notInt
  generalize isInt s.data.toList = q at *
  go_enter Tryz.func23, Tryz.ntmps23
  go_wp2_with (go_at_call 24; refine C.mono ?_; rintro e w1 ⟨rfl, b1⟩; have B1 := Lib.hid b1; clear b1)
  go_ret
  exact ⟨rfl, B1.out⟩

theorem StrsAt.nth {w : World} {v : Value} {L : List (List UInt8)} (h : StrsAt w v L) {i : Nat} (hi : i < L.length) : ∃ b o cap, v = .slice (some ⟨b, o, none⟩) L.length cap ∧ b < w.heap.size ∧ w.cell? ⟨b, o + i, none⟩ = some (.string (bs L[i])) := by
  obtain ⟨A, cap, rfl, _, hA⟩ := h
  obtain ⟨b, o, rfl, hb, hc⟩ := hA (by omega)
  exact ⟨b, o, cap, rfl, hb, hc i hi⟩
theorem any_takeS (p : List UInt8 → Bool) (L : List (List UInt8)) (k : Nat) (h : k < L.length) : (L.take (k + 1)).any p = ((L.take k).any p || p L[k]) := by
  rw [List.take_succ_eq_append_getElem h, List.any_append]; simp
theorem any_foundS (p : List UInt8 → Bool) (L : List (List UInt8)) (k : Nat) (h : k < L.length) (hp : p L[k] = true) : L.any p = true := List.any_eq_true.2 ⟨L[k], List.getElem_mem h, hp⟩
def IdxAtS (len : Nat) (b : Nat → Bool) (w wr : World) (iv : Value) : Prop := ∃ k : Nat, iv = .int .i64 k ∧ k ≤ len ∧ Below w.heap.size w wr ∧ b k = false
def IdxS (b : Bool) (w : World) (e : Ending) (w' : World) : Prop := ∃ i : Int, e = .returned (.int .i64 i) ∧ decide (0 ≤ i) = b ∧ Below w.heap.size w w'
set_option maxHeartbeats 2000000 in
theorem indexS (v : Value) (L : List (List UInt8)) (w : World) (hA : StrsAt w v L) (hT : TabE w) (hl : L.length ≤ 1000000) (hS : ∀ x ∈ L, x.length ≤ 2000000) :
    Calls Tryz.prog 35 #[v, .func (.func 23) #[] #[]] w (IdxS (L.any notInt) w) := by
  have eg := enters_of Tryz.func23 (by kernel_rfl) rfl
  have HT := Lib.hid hT
  have HA := Lib.hid hA
  have HS := Lib.hid hS
  obtain ⟨A, cap, rfl, hcap, -⟩ := hA
  clear hT hS
  go_enter Tryz.func35, Tryz.ntmps35
  go_wp2
  go_loopw [8] (fun iv wr => IdxAtS L.length (fun k => (L.take k).any notInt) w wr iv) (fun iv _ => L.length - (intOf iv).toNat)
  case atStart => exact ⟨0, rfl, by omega, Below.refl _ _, rfl⟩
  case round =>
    obtain ⟨k, rfl, hk, hB, hN⟩ := hrel
    have B := Lib.hid hB
    have N := Lib.hid hN
    clear hB hN
    by_cases hlt : k < L.length
    · obtain ⟨b, o, cap', e, hb, hc⟩ := HA.out.nth hlt
      simp only [Value.slice.injEq, true_and] at e
      obtain ⟨rfl, rfl⟩ := e
      have d0 := (B.out.cell (p := ⟨b, o + k, none⟩) hb).trans hc
      have ht := Lib.hid (any_takeS notInt L k hlt)
      have hf := Lib.hid (any_foundS notInt L k hlt)
      have hsz := HS.out L[k] (List.getElem_mem hlt)
      have C := Lib.hid (fun w hT => notIntAt (bs L[k]) w hT (by rw [bs_size]; exact hsz))
      have hz := B.out.size
      clear hc hsz
      generalize L[k] = a at *
      cases hbad : notInt a with
      | true =>
        have hb2 := Lib.hid hbad
        clear hbad
        go_wp2_with (first
          | (go_at_fn 23; refine (C.out _ (HT.out.below B.out (Nat.le_refl _))).mono ?_; rintro e w1 ⟨rfl, b1⟩; rw [bs_data, hb2.out]; have B1 := Lib.hid b1; clear b1)
          | (go_at_call 23; refine (C.out _ (HT.out.below B.out (Nat.le_refl _))).mono ?_; rintro e w1 ⟨rfl, b1⟩; rw [bs_data, hb2.out]; have B1 := Lib.hid b1; clear b1))
        go_ret
        exact ⟨k, rfl, by rw [hf.out hb2.out]; simp, B.out.trans (B1.out.mono hz)⟩
      | false =>
        have hb2 := Lib.hid hbad
        clear hbad
        go_wp2_with (first
          | (go_at_fn 23; refine (C.out _ (HT.out.below B.out (Nat.le_refl _))).mono ?_; rintro e w1 ⟨rfl, b1⟩; rw [bs_data, hb2.out]; have B1 := Lib.hid b1; clear b1)
          | (go_at_call 23; refine (C.out _ (HT.out.below B.out (Nat.le_refl _))).mono ?_; rintro e w1 ⟨rfl, b1⟩; rw [bs_data, hb2.out]; have B1 := Lib.hid b1; clear b1))
        go_roundw
        case rel => exact ⟨k + 1, by go_num, by omega, B.out.trans (B1.out.mono hz), by simp only []; rw [ht.out, N.out, hb2.out]; rfl⟩
        case measure => simp [intOf]; omega
    · obtain rfl : L.length = k := by omega
      go_wp2
      go_ret
      have h := N.out
      rw [List.take_length] at h
      exact ⟨-1, rfl, by rw [h]; rfl, B.out⟩
set_option maxHeartbeats 1000000 in
theorem containsS (v : Value) (L : List (List UInt8)) (w : World) (hA : StrsAt w v L) (hT : TabE w) (hl : L.length ≤ 1000000) (hS : ∀ x ∈ L, x.length ≤ 2000000) :
    Calls Tryz.prog 22 #[v, .func (.func 23) #[] #[]] w fun e w' => e = .returned (.bool (L.any notInt)) ∧ Below w.heap.size w w' := by
  have I := indexS v L w hA hT hl hS
  clear hA hl hT hS
  go_enter Tryz.func22, Tryz.ntmps22
  go_wp2_with (go_at_call 35; refine I.mono ?_; rintro e w1 ⟨i, rfl, hi, b1⟩; have HI := Lib.hid hi; have B1 := Lib.hid b1; clear hi b1)
  go_ret
  exact ⟨ret_bool HI.out, B1.out⟩

theorem any_all (L : List (List UInt8)) : L.any notInt = !L.all isInt := by
  induction L with
  | nil => rfl
  | cons a t ih => rw [List.any_cons, List.all_cons, ih]; unfold notInt; cases isInt a <;> rfl
/-- What is filled in so far. -/
def filled (L : List (List UInt8)) (k : Nat) (u : Nat) : Int := if u < k then intVal (L.getD u []) else 0
def RdN (L : List (List UInt8)) (g : Nat) (w wr : World) (iv : Value) : Prop := ∃ k : Nat, iv = .int .i64 k ∧ k ≤ L.length ∧ XiAt w wr g L.length (filled L k)
def NumsP (L : List (List UInt8)) (w : World) (e : Ending) (w' : World) : Prop := ∃ v, e = .returned (.tuple #[v, .bool (L.all isInt)]) ∧ IntsAt w' v (if L.all isInt then L.map intVal else []) ∧ Below w.heap.size w w'
theorem ints_nil (w : World) : IntsAt w (.slice none 0 0) [] := ⟨none, 0, rfl, Nat.le_refl _, fun h => absurd h (by simp)⟩
set_option maxHeartbeats 4000000 in
set_option maxRecDepth 100000 in
theorem readNumbers (v : Value) (L : List (List UInt8)) (w : World) (hA : StrsAt w v L) (hT : TabE w) (hl : L.length ≤ 4096) (hS : ∀ x ∈ L, x.length ≤ 2000000) :
    Calls Tryz.prog 15 #[v] w (NumsP L w) := by
  have HA := Lib.hid hA
  have HT := Lib.hid hT
  have HS := Lib.hid hS
  have C := Lib.hid (containsS v L w hA hT (by omega) hS)
  have hmk := mkInts L.length hl
  obtain ⟨A, cap, rfl, hcap, -⟩ := hA
  clear hT hS
  cases hq : L.all isInt with
  | false =>
    have Q := Lib.hid hq
    have e : L.any notInt = true := by rw [any_all, hq]; rfl
    have E := Lib.hid e
    clear e hq hmk
    go_enter Tryz.func15, Tryz.ntmps15
    go_wp2_with (go_at_call 22; refine C.out.mono ?_; rintro e w1 ⟨rfl, b1⟩; rw [E.out]; have B1 := Lib.hid b1; clear b1)
    go_ret2
    exact ⟨_, by rw [Q.out]; rfl, by rw [Q.out]; exact ints_nil _, B1.out⟩
  | true =>
    have Q := Lib.hid hq
    have e : L.any notInt = false := by rw [any_all, hq]; rfl
    have E := Lib.hid e
    clear e hq
    go_enter Tryz.func15, Tryz.ntmps15
    go_wp2_with (go_at_call 22; refine C.out.mono ?_; rintro e w1 ⟨rfl, b1⟩; rw [E.out]; have B1 := Lib.hid b1; clear b1)
    clear hmk
    have A1 := Lib.hid (HA.out.below B1.out (Nat.le_refl _))
    have T1 := Lib.hid (HT.out.below B1.out (Nat.le_refl _))
    go_loopw [14] (fun iv wr => RdN L w1.heap.size w1 wr iv) (fun iv _ => L.length - (intOf iv).toNat)
    case atStart => exact ⟨0, rfl, by omega, (xi_start ((Below.refl _ _).alloc (Nat.le_refl _) _) (Nat.le_refl _) (heap_alloc_new w1 _) (by omega)).turn (fun u _ => by simp [filled])⟩
    case round =>
      obtain ⟨k, rfl, hk, hX⟩ := hrel
      have X := Lib.hid hX
      have hgl := hX.gl
      have hbs := hX.below.size
      clear hX
      by_cases hlt : k < L.length
      · obtain ⟨b, o, cap', e, hb, hc⟩ := A1.out.nth hlt
        simp only [Value.slice.injEq, true_and] at e
        obtain ⟨rfl, rfl⟩ := e
        have d0 := (X.out.below.cell (p := ⟨b, o + k, none⟩) hb).trans hc
        have hi := List.all_eq_true.1 Q.out L[k] (List.getElem_mem hlt)
        have hsz := HS.out L[k] (List.getElem_mem hlt)
        have CA := Lib.hid (fun w => atoiOk (bs L[k]) _ w (by rw [bs_size]; exact hsz) (isInt_val hi).2.2)
        have hgd : L.getD k [] = L[k] := by simp [List.getD_eq_getElem?_getD, hlt]
        have GD := Lib.hid hgd
        clear hc hi hsz hgd
        generalize L[k] = a at *
        obtain ⟨z, hz⟩ : ∃ z, intVal a = z := ⟨_, rfl⟩
        have Z := Lib.hid hz
        rw [hz] at CA
        clear hz
        go_wp2_with (go_at_call 25; refine (CA.out _).mono ?_; rintro e w2 ⟨rfl, b2⟩; have X2 : Hid (XiAt w1 w2 w1.heap.size L.length (filled L k)) := Lib.hid (X.out.quiet b2); have x2 := X2.out.fr k; have hgl2 := X2.out.gl; have x0 := X2.out.cell hlt; clear b2)
        go_roundw
        case rel => exact ⟨k + 1, by go_num, by omega, (X2.out.set k z).turn fun u hu => by
          unfold filled
          by_cases e : u = k
          · subst e; rw [if_pos rfl, if_pos (by omega), GD.out, Z.out]
          · rw [if_neg e]
            by_cases h2 : u < k
            · rw [if_pos h2, if_pos (by omega)]
            · rw [if_neg h2, if_neg (by omega)]⟩
        case measure => simp [intOf]; omega
      · obtain hkl : k = L.length := by omega
        have hI := X.out.own.ints
        have e : (List.range L.length).map (filled L k) = L.map intVal := by
          subst hkl
          apply List.ext_getElem
          · simp
          · intro i h1 h2
            simp at h1
            simp [filled, h1, List.getD_eq_getElem?_getD]
        rw [e] at hI
        have I := Lib.hid hI
        subst hkl
        clear hI e
        go_wp2
        go_ret2
        exact ⟨_, by rw [Q.out]; rfl, by rw [Q.out]; exact I.out, B1.out.trans (X.out.below.mono B1.out.size)⟩
end Go.Proofs.YtappfojjjegnpaaGreatDoor
