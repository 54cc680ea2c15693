/-
  HeapMerges: the walk: at every two lists of numbers the call answers true and turns nothing that was there. Conditions: the numbers lie in blocks below the heap's end.
-/
import Derived.Test.YtlhmlejkfgejiaaMergesM
import Derived.Laws.AppendOwnNone
namespace Go.Proofs.Ytlhmlejkfgejiaa
open Go.RowKit Go.Proofs.Ytlhmlejkfgejiaa.HeapM Go.Proofs.Ytlhmlejkfgejiaa.StabM Go.Proofs.Ytlhmlejkfgejiaa.Stab

/-- The stable sort of a list of one's own, of nothing, too. -/
def Ordered (B : Nat) (lv : Value) (L : List Pr) (w : World) (e : Ending) (w' : World) : Prop :=
  e = .returned (.tuple #[]) ∧ ∃ L', OwnL w' B lv L' ∧ L'.Perm L ∧ L'.Pairwise lexlt ∧ Out (fun b => lv.ownBlock = some b) w w'
theorem sortAny {fn : Nat} (hC : CmpAt fn) (B : Nat) (lv : Value) (L : List Pr) (w : World) (h : OwnL w B lv L) (hb : Bd L) (hp : PC L) (hs : L.length ≤ 500000) :
    Calls Try.prog 16 #[lv, .func (.func fn) #[] #[]] w (Ordered B lv L w) := by
  by_cases h0 : L.length = 0
  · obtain rfl : L = [] := List.eq_nil_of_length_eq_zero h0
    obtain ⟨ao, cap, rfl⟩ := ownsRow_slice h
    refine (sort_zero ao cap _ w).mono ?_
    rintro e w' ⟨rfl, rfl⟩
    exact ⟨rfl, [], h, List.Perm.refl _, List.Pairwise.nil, Out.refl _ _⟩
  · obtain ⟨gg, cap, rfl, _, _, _⟩ := ownsRow_form h (by omega)
    refine (sort hC B gg L.length cap L w ⟨⟨h, rfl⟩, Mv.refl _ _ _, (pc_iff L).2 hp, hb, Out.refl _ _⟩ hs).mono ?_
    rintro e w' ⟨rfl, L', hS, hG⟩
    have hl : L.length = L'.length := hS.row.len
    refine ⟨rfl, L', ?_, hS.mv.perm, lex_of hS.c (by rw [← hl]; exact hG), hS.out.mono (fun i _ e => by subst e; rfl)⟩
    have h2 := hS.row.own
    unfold OwnL
    rw [← hl]
    exact h2
theorem PopSeq.inv {L S : List Pr} {x : Pr} (h : PopSeq ltO L (x :: S)) : ∃ a, First ltO L a ∧ L.getD a default = x ∧ PopSeq ltO (L.eraseIdx a) S := by
  generalize hX : x :: S = X at h
  cases h with
  | nil => cases hX
  | cons a hf hs =>
    injection hX with e1 e2
    subst e2
    exact ⟨a, hf, e1.symm, hs⟩

theorem wpList_append_row {P : Program} {w : World} {ops : Array Oper} {rest : List Oper} {o : Oper} {a : Act} {Q : Exit → Act → World → Prop} (hgd : o.guard = none) (s x : Operand) (t : TypeId)
    (hop : o.op = Op.call { callee := Callee.builtin Builtin.append, args := #[s, x], argTypes := #[t, t] })
    (base : Nat) (e : TypeId) (i : TypeInfo) (z : Value) (size bytes : Nat) (h1 : P.underlying t = some (.slice e)) (h2 : P.info? e = some i) (h3 : i.zero = some z) (h4 : i.size = size) (h5 : i.bytes = bytes) (h6 : z.cells.size = size) (h7 : 0 < size)
    (v : Value) (n : Nat) (xs : List Value) (hs : a.eval s = v) (hown : w.ownsRow base e size v n xs)
    (v2 : Value) (base2 m : Nat) (ys : List Value) (hx : a.eval x = v2) (hown2 : w.ownsRow base2 e size v2 m ys) (h1c : ∀ u ∈ ys, u.oneCell' = true)
    (b1 : n + m ≤ maxLen) (b2 : (n + m) * bytes ≤ 140737488355328) (hb : base ≤ w.heap.size)
    (hK : ∀ v' w', w'.ownsRow base e size v' (n + m) (xs ++ ys) → w.grownBy w' v.ownBlock → (∀ b, v'.ownBlock = some b → v.ownBlock = some b ∨ w.heap.size ≤ b) → wpList P ops Q rest (a.put o.dst v') w') :
    wpList P ops Q (o :: rest) a w := by
  rcases hown2.2 with ⟨hv, hn⟩ | ⟨gg, cap, cur, hv, _⟩
  · subst hv hn
    obtain rfl : ys = [] := List.eq_nil_of_length_eq_zero (by simpa using hown2.1)
    refine wpList_append_own_none hgd s x t hop base e i size h1 h2 v n xs hs hown hx ?_
    exact hK v w (by simpa using hown) (World.grownBy.refl w _) (fun b hb => Or.inl hb)
  · subst hv
    exact wpList_append_fresh hgd s x t hop base e i z size bytes h1 h2 h3 h4 h5 h6 h7 v n xs hs hown ⟨gg, 0, none⟩ m cap ys hx hown2.1 (hown2.cells rfl) h1c b1 b2 hb hK
theorem ex_eq (n : Nat) : ∃ N, N = n := ⟨n, rfl⟩
theorem encL_all (L : List Pr) : ∀ u ∈ L.flatMap encL, u.oneCell' = true := fun u hu => by
  obtain ⟨x, _, hx⟩ := List.mem_flatMap.1 hu
  exact encL_one x u hx
theorem OwnL.app {w : World} {B : Nat} {v : Value} {K M : List Pr} (h : w.ownsRow B 26 2 v (K.length + M.length) (K.flatMap encL ++ M.flatMap encL)) : OwnL w B v (K ++ M) := by
  unfold OwnL
  rw [List.length_append, List.flatMap_append]
  exact h
theorem four_sorted {w0 w6 w7 : World} {p q : Nat} {va vb l m : Value} {K M S : List Pr} {c c2 : Int} {e : Ending} (h : Four w0 w6 p va q vb (K ++ S) [] c c2 l m K M) (hS : PopSeq ltO M S) (hp : PC M) (ho : Ordered w0.heap.size m M w6 e w7) :
    e = .returned (.tuple #[]) ∧ Four w0 w7 p va q vb (K ++ S) [] c c2 l m K S ∧ S.Perm M ∧ PC S := by
  obtain ⟨rfl, L', r, h1, h2, o⟩ := ho
  obtain rfl := PopSeq.uniq hS (pops hp h1 h2)
  exact ⟨rfl, h.list2 o r (fun b hb => Or.inl hb), h1, h2.imp (fun hl he => by rcases hl with hl | hl; omega; exact hl.2)⟩
theorem joined {K M S : List Pr} (g1 : Good 0 K) (g2 : Good 1000 M) (hK : K.length ≤ 60) (p : S.Perm M) (hS : PC S) : Bd (K ++ S) ∧ PC (K ++ S) := by
  refine ⟨fun x hx => ?_, pc_app g1.pc hS (fun x hx y hy => ?_)⟩
  · rcases List.mem_append.1 hx with h | h
    · exact g1.bd x h
    · exact g2.bd x (p.mem_iff.1 h)
  · have h1 := g1.hi x hx
    have h2 := g2.lo y (p.mem_iff.1 hy)
    omega
theorem four_joined {w0 w8 w9 : World} {p q : Nat} {va vb l m : Value} {K M : List Pr} {c c2 : Int} {e : Ending} (h : Four w0 w8 p va q vb K [] c c2 l m K M) (hp : PC K) (ho : Ordered w0.heap.size l K w8 e w9) :
    e = .returned (.tuple #[]) ∧ ∃ X, Four w0 w9 p va q vb K [] c c2 l m X M ∧ PopSeq ltO K X ∧ X.length = K.length := by
  obtain ⟨rfl, L', r, h1, h2, o⟩ := ho
  exact ⟨rfl, L', h.list1 o r (fun b hb => Or.inl hb), pops hp h1 h2, h1.length_eq⟩

def Mer1 (m1 q : Nat) (w wr : World) (lv iv : Value) : Prop :=
  ∃ (k : Nat) (v : Value) (K : List Pr), iv = .int .i64 k ∧ k ≤ m1 ∧ Four w wr w.heap.size v q (.slice none 0 0) K [] k 0 lv (.slice none 0 0) K [] ∧ Good 0 K ∧ K.length = k
def Mer2 (m1 m2 q : Nat) (v lv : Value) (K : List Pr) (w wr : World) (mv iv : Value) : Prop :=
  ∃ (k : Nat) (v2 : Value) (M : List Pr), iv = .int .i64 k ∧ k ≤ m2 ∧ Four w wr w.heap.size v q v2 K M m1 k lv mv K M ∧ Good 1000 M ∧ M.length = k
def Mer3 (c : Int) (lv : Value) (X : List Pr) (w wr : World) (iv : Value) : Prop :=
  ∃ (k : Nat) (v : Value) (R : List Pr), iv = .int .i64 k ∧ k ≤ X.length ∧ HO.Is ltO 8 w.heap.size wr v R c ∧ Mine w.heap.size w wr w.heap.size v ∧ OwnL wr w.heap.size lv X ∧ PopSeq ltO R (X.drop k)

set_option maxHeartbeats 8000000 in
set_option maxRecDepth 100000 in
theorem merges (A1 A2 : Option Addr) (n1 cap1 n2 cap2 m1 m2 : Nat) (D1 D2 : Nat → Int) (w : World) (hn1 : n1 ≤ cap1) (hn2 : n2 ≤ cap2)
    (hm1 : m1 ≤ n1) (hm2 : m2 ≤ n2) (hk1 : m1 ≤ 60) (hk2 : m2 ≤ 60) (hmin1 : min (n1 : Int) 60 = (m1 : Int)) (hmin2 : min (n2 : Int) 60 = (m2 : Int))
    (hA1 : 0 < n1 → ∃ b o, A1 = some ⟨b, o, none⟩ ∧ b < w.heap.size ∧ ∀ k, k < n1 → w.cell? ⟨b, o + k, none⟩ = some (.int .i8 (D1 k)))
    (hA2 : 0 < n2 → ∃ b o, A2 = some ⟨b, o, none⟩ ∧ b < w.heap.size ∧ ∀ k, k < n2 → w.cell? ⟨b, o + k, none⟩ = some (.int .i8 (D2 k)))
    (r1 : ∀ k, k < n1 → -128 ≤ D1 k ∧ D1 k ≤ 127) (r2 : ∀ k, k < n2 → -128 ≤ D2 k ∧ D2 k ≤ 127) :
    Calls Try.prog 5 #[.slice A1 n1 cap1, .slice A2 n2 cap2] w fun e w' => e = .returned (.bool true) ∧ Below w.heap.size w w' := by
  obtain ⟨i0, hi, hz0, hz1, hz2⟩ := info_parts infoL
  have HA1 := Lib.hid hA1
  have HA2 := Lib.hid hA2
  have R1 := Lib.hid r1
  have R2 := Lib.hid r2
  have HM2 := Lib.hid hmin2
  clear hA1 hA2 r1 r2
  have tok1 : True := trivial
  go_enter Try.func5, Try.ntmps5
  go_wp2_with (first
    | (go_at_call 7; have _t := tok1; refine (HO.new (lt := ltO) _).mono ?_; rintro e w1 ⟨rfl, j1, b1⟩; have I1 := Lib.hid j1; have B1 := Lib.hid b1; have z1 : w.heap.size < w1.heap.size := j1.size; clear j1 b1 tok1 _t)
    | (go_at_call 7; refine (HO.new (lt := ltO) _).mono ?_; rintro e w2 ⟨rfl, j2, b2⟩; have I2 := Lib.hid j2; have B2 := Lib.hid b2; have z2 : w1.heap.size < w2.heap.size := j2.size; clear j2 b2))
  go_outline
  go_loopw [7, 28] (fun lv iv wr => Mer1 m1 w1.heap.size w wr lv iv) (fun _ iv _ => m1 - (intOf iv).toNat)
  case atStart => exact ⟨0, _, [], rfl, by omega, ⟨I1.out.below B2.out, I2.out, fun b hb hq => by
      rcases hb with rfl | hb
      · rcases hq with hq | hq
        · omega
        · simp [Value.ownBlock] at hq
      · simp [Value.ownBlock] at hb, ⟨Nat.le_refl _, B1.out.trans (B2.out.mono (by omega)), Nat.le_refl _, fun b hb => by simp [Value.ownBlock] at hb⟩, ⟨Nat.le_refl _, B1.out.trans (B2.out.mono (by omega)), by omega, fun b hb => by simp [Value.ownBlock] at hb⟩, World.ownsRow_nil _ _ _ _, World.ownsRow_nil _ _ _ _, fun b hb => by simp [Value.ownBlock] at hb⟩, Good.nil _, rfl⟩
  case round =>
    clear I1 B1 I2 B2
    obtain ⟨k, v, K, rfl, hk, hF, hG, hLn⟩ := hrel
    have F := Lib.hid hF
    have G := Lib.hid hG
    have LN := Lib.hid hLn
    clear hF hG hLn
    by_cases hlt : k < m1
    · obtain ⟨b, o, hAe, hbw, hcell⟩ := HA1.out (by omega)
      subst hAe
      have d0 := (F.out.m1.below.cell (p := ⟨b, o + k, none⟩) hbw).trans (hcell k (by omega))
      have hy := R1.out k (by omega)
      have hyl := hy.1
      have hyh := hy.2
      clear hcell hy
      generalize D1 k = y at *
      have hsn : Hid (Good 0 (K ++ [(y, (k : Int))])) := by
        have h := G.out.snoc y (by omega) (by omega)
        rw [LN.out] at h
        exact Lib.hid (by simpa using h)
      have hkl : K.length ≤ 1000000 := by have := LN.out; omega
      have hbr : b < wr.heap.size := by have := F.out.m1.below.size; omega
      have hwr := F.out.m1.below.size
      go_wp2_with (first
        | (go_at_call 13; (with_reducible refine (pushX (F.out.below ((Below.refl _ _).alloc (Nat.le_refl _) _)).i1 (by omega) y (k : Int)).mono ?_); rintro e w3 ⟨rfl, v3, i3, o3, f3⟩; have nf : ¬ HO.Foot w.heap.size v wr.heap.size := (fun e => by have := F.out.i1.foot _ e; omega); have z3 : wr.heap.size < w3.heap.size := (by have := o3.size; simp at this; omega); have p0 : w3.cell? ⟨wr.heap.size, 0, none⟩ = some (.int .i64 y) := (by rw [o3.cell _ (by simp) nf]; go_simp); have p1 : w3.cell? ⟨wr.heap.size, 1, none⟩ = some (.int .i64 (k : Int)) := (by rw [o3.cell _ (by simp) nf]; go_simp); have F3 := Lib.hid ((F.out.below ((Below.refl _ _).alloc (Nat.le_refl _) _)).push1 i3 o3 f3); have hw3 : w.heap.size ≤ w3.heap.size := (by omega); clear i3 o3 f3 nf)
        | (at_builtin; refine wpList_append_fresh rfl (.tmp 40) (.tmp 42) 28 rfl w.heap.size 26 i0 (.agg #[.int .i64 0, .int .i64 0]) 2 16 Try.underlying28 hi hz0 hz1 hz2 rfl (by decide) _ _ _ rfl (F3.out.rl.alloc _) ⟨w3.heap.size, 0, none⟩ 1 1 (encL (y, (k : Int))) rfl rfl (newsL _ _ _) (encL_one _) (by unfold maxLen; omega) (by omega) (by simp; omega) ?_; intro v' w4 hown hgrow hfr; have o4 : Out (fun b => u7.ownBlock = some b) w3 w4 := ((Out.refl _ w3).alloc _).grown hgrow (fun _ _ e => e); have F4 := Lib.hid (F3.out.list1 o4 (OwnL.snoc hown) (fun b hb => (hfr b hb).imp id (fun h => by simp at h; omega))); obtain ⟨g4, c4, rfl, _, _, _⟩ := ownsRow_form hown (by omega); clear o4; clear hown hgrow hfr))
      go_roundw
      case rel => exact ⟨k + 1, _, (K ++ [(y, (k : Int))]), by go_num, by omega, F4.out, hsn.out, by simp; exact LN.out⟩
      case measure => simp [intOf]; omega
    · obtain rfl : m1 = k := by omega
      have G1 := G
      have LN1 := LN
      clear G LN hlt hk
      go_wp2
      go_outline
      go_loopw [8, 51] (fun mv iv wr => Mer2 m1 m2 w1.heap.size v u7 K w wr mv iv) (fun _ iv _ => m2 - (intOf iv).toNat)
      case atStart => exact ⟨0, _, [], rfl, by omega, F.out, Good.nil _, rfl⟩
      case round =>
        clear F
        obtain ⟨k, v2, M, rfl, hk, hF, hG, hLn⟩ := hrel
        have F := Lib.hid hF
        have G := Lib.hid hG
        have LN := Lib.hid hLn
        clear hF hG hLn
        by_cases hlt : k < m2
        · obtain ⟨b, o, hAe, hbw, hcell⟩ := HA2.out (by omega)
          subst hAe
          have d0 := (F.out.m1.below.cell (p := ⟨b, o + k, none⟩) hbw).trans (hcell k (by omega))
          have hy := R2.out k (by omega)
          have hyl := hy.1
          have hyh := hy.2
          clear hcell hy
          generalize D2 k = y at *
          have hsn : Hid (Good 1000 (M ++ [(y, (1000 + (k : Int)))])) := by
            have h := G.out.snoc y (by omega) (by omega)
            rw [LN.out] at h
            exact Lib.hid (by exact h)
          have hkl : M.length ≤ 1000000 := by have := LN.out; omega
          have hbr : b < wr.heap.size := by have := F.out.m1.below.size; omega
          have hwr := F.out.m1.below.size
          go_wp2_with (first
            | (go_at_call 13; (with_reducible refine (pushX (F.out.below ((Below.refl _ _).alloc (Nat.le_refl _) _)).i2 (by omega) y (1000 + (k : Int))).mono ?_); rintro e w3 ⟨rfl, v3, i3, o3, f3⟩; have nf : ¬ HO.Foot w1.heap.size v2 wr.heap.size := (fun e => by have := F.out.i2.foot _ e; omega); have z3 : wr.heap.size < w3.heap.size := (by have := o3.size; simp at this; omega); have p0 : w3.cell? ⟨wr.heap.size, 0, none⟩ = some (.int .i64 y) := (by rw [o3.cell _ (by simp) nf]; go_simp); have p1 : w3.cell? ⟨wr.heap.size, 1, none⟩ = some (.int .i64 (1000 + (k : Int))) := (by rw [o3.cell _ (by simp) nf]; go_simp); have F3 := Lib.hid ((F.out.below ((Below.refl _ _).alloc (Nat.le_refl _) _)).push2 i3 o3 f3); have hw3 : w.heap.size ≤ w3.heap.size := (by omega); clear i3 o3 f3 nf)
            | (at_builtin; refine wpList_append_fresh rfl (.tmp 64) (.tmp 66) 28 rfl w.heap.size 26 i0 (.agg #[.int .i64 0, .int .i64 0]) 2 16 Try.underlying28 hi hz0 hz1 hz2 rfl (by decide) _ _ _ rfl (F3.out.rm.alloc _) ⟨w3.heap.size, 0, none⟩ 1 1 (encL (y, (1000 + (k : Int)))) rfl rfl (newsL _ _ _) (encL_one _) (by unfold maxLen; omega) (by omega) (by simp; omega) ?_; intro v' w4 hown hgrow hfr; have o4 : Out (fun b => u8.ownBlock = some b) w3 w4 := ((Out.refl _ w3).alloc _).grown hgrow (fun _ _ e => e); have F4 := Lib.hid (F3.out.list2 o4 (OwnL.snoc hown) (fun b hb => (hfr b hb).imp id (fun h => by simp at h; omega))); obtain ⟨g4, c4, rfl, _, _, _⟩ := ownsRow_form hown (by omega); clear o4; clear hown hgrow hfr))
          go_roundw
          case rel => exact ⟨k + 1, _, (M ++ [(y, (1000 + (k : Int)))]), by go_num, by omega, F4.out, hsn.out, by simp; exact LN.out⟩
          case measure => simp [intOf]; omega
        · obtain rfl : m2 = k := by omega
          clear hlt hk
          obtain ⟨ao8, c8, hu8⟩ := ownsRow_slice F.out.rm
          obtain ⟨ao7, c7, hu7⟩ := ownsRow_slice F.out.rl
          subst hu8
          subst hu7
          have hwr := F.out.m1.below.size
          have hK6 : K.length ≤ 60 := by rw [LN1.out]; exact hk1
          have hM6 : M.length ≤ 60 := by rw [LN.out]; exact hk2
          go_wp2_with (first
            | (go_at_call 26; (with_reducible refine (merge_nil _ _).mono ?_); rintro e w4 ⟨rfl, rfl⟩)
            | (go_at_call 26; (with_reducible refine (merge_self _ _).mono ?_); rintro e w4 ⟨rfl, rfl⟩)
            | (go_at_call 26; (with_reducible refine (merge_none _ _).mono ?_); rintro e w5 ⟨rfl, b5⟩; have F5 := Lib.hid (F.out.below b5); have z5 : wr.heap.size ≤ w5.heap.size := b5.size; clear b5)
            | (go_at_call 14; (with_reducible refine (lenX F5.out.i2 (M.length : Int) rfl).mono ?_); rintro e w6 ⟨rfl, rfl⟩)
            | (go_at_call 14; (with_reducible refine (lenX F5.out.i1 (K.length : Int) rfl).mono ?_); rintro e w6 ⟨rfl, rfl⟩)
            | (go_at_call 26; (with_reducible refine (merge _ _ _ _ _ _ _ _ _ F5.out.i1 F5.out.i2 F5.out.dis (by omega) (by omega)).mono ?_); rintro e w6 ⟨rfl, S, va, vb, hS, ht⟩; have PS := Lib.hid hS; have F6 := Lib.hid (F5.out.merged ht); have z6 : w5.heap.size ≤ w6.heap.size := ht.out.size; clear hS ht)
            | (go_at_call 16; (with_reducible refine (sortAny cmp1 w.heap.size _ M _ F6.out.rm G.out.bd G.out.pc (by omega)).mono ?_); intro e w7 ho; obtain ⟨rfl, f7, p7, c7⟩ := four_sorted F6.out PS.out G.out.pc ho; have F7 := Lib.hid f7; have P7 := Lib.hid p7; have J := Lib.hid (joined G1.out G.out hK6 p7 c7); have hS6 : S.length ≤ 60 := (by have := p7.length_eq; omega); have z7 := f7.m1.below.size; clear ho f7 p7 c7)
            | (at_builtin; refine wpList_append_row rfl (.tmp 95) (.tmp 96) 28 rfl w.heap.size 26 i0 (.agg #[.int .i64 0, .int .i64 0]) 2 16 Try.underlying28 hi hz0 hz1 hz2 rfl (by decide) _ _ _ rfl F7.out.rl _ _ _ _ rfl F7.out.rm (encL_all _) (by unfold maxLen; omega) (by omega) (by omega) ?_; intro v' w8 hown hgrow hfr; have o8 := ((Out.refl _ w7).grown hgrow (fun _ _ e => e)); have F8 := Lib.hid (F7.out.list1 o8 (OwnL.app hown) hfr); have NN := ex_eq (K.length + S.length); obtain ⟨N, hN⟩ := NN; rw [← hN] at hown; obtain ⟨aoj, cj, rfl⟩ := ownsRow_slice hown; have HN := Lib.hid hN; have hN1 : N ≤ 120 := (by omega); clear hN; clear hown hgrow hfr o8)
            | (go_at_call 16; (with_reducible refine (sortAny cmp2 w.heap.size _ (K ++ S) _ F8.out.rl J.out.1 J.out.2 (by simp; omega)).mono ?_); intro e w9 ho; obtain ⟨rfl, X, f9, s9, l9⟩ := four_joined F8.out J.out.2 ho; have F9 := Lib.hid f9; have S9 := Lib.hid s9; have z9 := f9.m1.below.size; rw [List.length_append, ← HN.out] at l9; have L9 := Lib.hid l9; clear l9; clear ho f9 s9)
            | (go_at_call 14; (with_reducible refine (lenX F9.out.i2 0 rfl).mono ?_); rintro e w10 ⟨rfl, rfl⟩)
            | (go_at_call 14; (with_reducible refine (lenX F9.out.i1 (N : Int) (by rw [List.length_append, HN.out])).mono ?_); rintro e w10 ⟨rfl, rfl⟩))
          go_loopw [112] (fun iv wr => Mer3 (m1 + S.length) (.slice aoj N cj) X w wr iv) (fun iv _ => N - (intOf iv).toNat)
          case atStart => exact ⟨0, va, K ++ S, rfl, by omega, F9.out.i1, F9.out.m1, F9.out.rl, by simpa using S9.out⟩
          case round =>
            clear F9 S9 F8 F7 F6 F5 F PS P7 J G G1 LN LN1
            obtain ⟨k, v3, R, rfl, hk, hI, hM, hO, hP⟩ := hrel
            have I := Lib.hid hI
            have MN := Lib.hid hM
            have OL := Lib.hid hO
            have PQ := Lib.hid hP
            have hwq := hM.below.size
            obtain rfl : N = X.length := L9.out.symm
            clear hI hM hO hP
            by_cases hlt : k < X.length
            · have hkx : k < X.length := hlt
              obtain ⟨gx, cp, hu, _, hgx, _⟩ := ownsRow_form OL.out (by omega)
              simp only [Value.slice.injEq, true_and] at hu
              obtain ⟨rfl, rfl⟩ := hu
              have hP2 := PQ.out
              rw [List.drop_eq_getElem_cons hkx] at hP2
              obtain ⟨a, ha, hx, hs⟩ := hP2.inv
              have hxk : X.getD k default = X[k] := by simp [List.getD_eq_getElem?_getD, hkx]
              generalize X[k] = x at *
              have l0 : wr.cell? ⟨gx, k * 2, none⟩ = some (.int .i64 x.1) := by have := cellsL OL.out rfl k hkx 0 (by omega); rw [hxk] at this; exact this
              have l1 : wr.cell? ⟨gx, k * 2 + 1, none⟩ = some (.int .i64 x.2) := by have := cellsL OL.out rfl k hkx 1 (by omega); rw [hxk] at this; exact this
              have HA := Lib.hid ha
              have HX := Lib.hid hx
              have HS := Lib.hid hs
              have hR0 : 0 < R.length := by have := ha.1; omega
              clear ha hx hs hP2 hxk
              have nf : ¬ HO.Foot w.heap.size v3 wr.heap.size := fun e => by have := I.out.foot _ e; omega
              have NF := Lib.hid nf
              clear nf
              have B2 := Lib.hid ((Below.refl wr.heap.size wr).alloc (Nat.le_refl _) (.cells #[.int .i64 x.1, .int .i64 x.2] 26))
              go_wp2_with (first
                | (go_at_call 10; (with_reducible refine (HO.pop_some lessO _ _ _ _ _ (I.out.below B2.out) (by omega) a HA.out x HX.out).mono ?_); rintro e w10 ⟨rfl, v4, i4, o4, f4⟩; have I4 := Lib.hid i4; have OL4 : Hid (OwnL w10 w.heap.size (.slice (some ⟨gx, 0, none⟩) X.length cj) X) := Lib.hid (ownsRow_out (OL.out.below B2.out) o4 (fun b hb hf => foot_ne (I.out.below B2.out) (OL.out.below B2.out) b hf hb)); have M4 := Lib.hid ((MN.out.quiet B2.out).step o4 f4); have z10 : wr.heap.size < w10.heap.size := (by have := o4.size; simp at this; omega); have p0 : w10.cell? ⟨wr.heap.size, 0, none⟩ = some (.int .i64 x.1) := (by rw [o4.cell _ (by simp) NF.out]; go_simp); have p1 : w10.cell? ⟨wr.heap.size, 1, none⟩ = some (.int .i64 x.2) := (by rw [o4.cell _ (by simp) NF.out]; go_simp); clear i4 o4 f4))
              go_roundw
              case rel =>
                have B10 := (Below.refl w10.heap.size w10).alloc (Nat.le_refl _) (.cells #[.int .i64 x.1, .int .i64 x.2] 26)
                exact ⟨k + 1, v4, _, by go_num, by omega, I4.out.below B10, M4.out.quiet B10, OL4.out.below B10, HS.out⟩
              case measure => simp [intOf]; omega
            · obtain rfl : k = X.length := by omega
              go_wp2_with (go_at_call 15; refine (wakes _).mono ?_; rintro e w11 ⟨rfl, hb11⟩)
              go_ret
              exact ⟨rfl, MN.out.below.trans (hb11.mono (by omega))⟩
end Go.Proofs.Ytlhmlejkfgejiaa
