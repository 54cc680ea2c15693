/-
  Two rows of ints compared; what the document fixes of shapes as cells is so: the law's 'wakes' answers true. Conditions: the borders read as the program lays them.
-/
import Derived.Test.YtilggacflpchhaaDoorNcN
import Derived.Test.YtilggacflpchhaaDoorShelf
namespace Go.Proofs.YtilggacflpchhaaDoor
open Go.RowKit Go.Proofs.YtilggacflpchhaaDoor.LexM Go.Proofs.YtilggacflpchhaaDoor.ParM Go.Proofs.YtilggacflpchhaaDoor.GrM Go.Proofs.YtilggacflpchhaaDoor.NmM

/-- A row of ints to be read. -/
def ZsAt (w : World) (v : Value) (x : List Int) (n : Nat) : Prop :=
  x.length = n ∧ ∃ A c, v = .slice A n c ∧ (0 < n → ∃ b o, A = some ⟨b, o, none⟩ ∧ b < w.heap.size ∧ ∀ k, k < n → w.cell? ⟨b, o + k, none⟩ = some (.int .i64 (x.getD k 0)))
theorem ZsAt.below {w w' : World} {C n : Nat} {v : Value} {x : List Int} (h : ZsAt w v x n) (o : Below C w w') (hC : w.heap.size ≤ C) : ZsAt w' v x n := by
  obtain ⟨hl, A, c, rfl, hA⟩ := h
  refine ⟨hl, A, c, rfl, fun h0 => ?_⟩
  obtain ⟨b, q, e, hb, hc⟩ := hA h0
  exact ⟨b, q, e, Nat.lt_of_lt_of_le hb o.size, fun k hk => (o.cell (p := ⟨b, q + k, none⟩) (Nat.lt_of_lt_of_le hb hC)).trans (hc k hk)⟩
theorem OwnZ.zs {w : World} {B n : Nat} {v : Value} {x : List Int} (h : OwnZ w B v x n) : ZsAt w v x n := by
  obtain ⟨hl, hr⟩ := h
  rcases hr.2 with ⟨h1, h2⟩ | ⟨g, cap, cur, hv, hg, r⟩
  · subst h2
    exact ⟨hl, none, 0, h1, fun h => absurd h (by omega)⟩
  · subst hv
    refine ⟨hl, _, _, rfl, fun h0 => ⟨g, 0, rfl, (World.ownsRow.lt hr _ rfl).2, fun k hk => ?_⟩⟩
    rw [Nat.zero_add]
    exact OwnZ.at_ ⟨hl, hr⟩ hk
theorem drewN_bel11 (w : World) (n : Nat) : Below w.heap.size w (w.drewN n) := ⟨rfl, rfl, rfl, Nat.le_refl _, fun _ _ => rfl⟩
theorem equalZ (v u : Value) (x y : List Int) (n m : Nat) (w : World) (hX : ZsAt w v x n) (hY : ZsAt w u y m) (hx : n ≤ 9223372036854775807) (hy : m ≤ 9223372036854775807) :
    Calls Tryd.prog 12 #[v, u] w fun e w' => e = .returned (.bool (x == y)) ∧ Below w.heap.size w w' := by
  obtain ⟨hl, A, cap, rfl, hA⟩ := hX
  obtain ⟨hm, A', cap', rfl, hA'⟩ := hY
  subst hl hm
  by_cases h0 : x.length = y.length
  · by_cases h1 : x.length = 0
    · have h2 : y.length = 0 := by omega
      obtain rfl := List.eq_nil_of_length_eq_zero h1
      obtain rfl := List.eq_nil_of_length_eq_zero h2
      refine (Go.Proofs.Tryd.slices_Equal_int_empty A A' cap 0 cap' w (by omega)).mono ?_
      rintro e w' ⟨rfl, rfl⟩
      exact ⟨rfl, Below.refl _ _⟩
    · obtain ⟨b, o, rfl, _, hc⟩ := hA (by omega)
      obtain ⟨b', o', rfl, _, hc'⟩ := hA' (by omega)
      refine (Go.Proofs.Tryd.slices_Equal_int b o x.length cap b' o' y.length cap' x y w (Nat.le_refl _) (Nat.le_refl _) (by omega) (by omega) hc hc').mono ?_
      rintro e w' ⟨rfl, q, rfl⟩
      rw [List.take_length, List.take_length]
      exact ⟨rfl, drewN_bel11 w q⟩
  · refine (Go.Proofs.Tryd.slices_Equal_int_lens A A' x.length cap y.length cap' w h0).mono ?_
    rintro e w' ⟨rfl, rfl⟩
    refine ⟨ret_bool ?_, Below.refl _ _⟩
    have : x ≠ y := fun e => h0 (by rw [e])
    simpa using this
theorem zsNew (w : World) (g : Nat) (x : List Int) (n : Nat) (hn : x.length = n) (T : TypeId) (h : w.heap[g]? = some (.cells (x.map (Value.int .i64)).toArray T (0, 0))) : ZsAt w (.slice (some ⟨g, 0, none⟩) n n) x n := by
  subst hn
  refine ⟨rfl, _, _, rfl, fun _ => ⟨g, 0, rfl, (Array.getElem?_eq_some_iff.1 h).1, fun k hk => ?_⟩⟩
  simp [World.cell?, h, hk]

theorem m11a : May [false, true] [(0, 1, 0, [])] := ⟨by decide, by decide, by decide, fun e he => by
  obtain rfl := List.mem_singleton.1 he
  exact ⟨by decide, by decide, by decide, by decide, by decide, by decide, by decide⟩⟩
theorem m11b : May [false, false] [(0, 1, 0, []), (0, 1, 0, [])] := ⟨by decide, by decide, by decide, fun e he => by
  have : e = (0, 1, 0, []) := by simpa using he
  subst this
  exact ⟨by decide, by decide, by decide, by decide, by decide, by decide, by decide⟩⟩
theorem k11a : wrN [false, true] [(0, 1, 0, [])] = 0 := by
  unfold wrN
  rw [if_neg (by decide), if_neg (by decide), if_neg, if_neg]
  · rintro ⟨i, hi, h1, _⟩
    obtain rfl : i = 0 := by simp at hi; omega
    revert h1
    decide
  · rintro ⟨v, d, hv, hd, _, h⟩
    have : ∀ v : Nat, v < 2 → ∀ d : Nat, d < 4 → ¬ 1 < (onL [(0, 1, 0, [])] (v : Int) (d : Int)).length := by decide
    exact this v hv d hd h
theorem k11e : wrN [false, false] [(0, 1, 0, []), (0, 1, 0, [])] = 8 := by
  unfold wrN
  rw [if_neg (by decide), if_neg (by decide), if_pos]
  exact ⟨0, 0, by decide, by decide, by decide, by decide⟩
theorem k11b : cntN [false, true] [(0, 1, 0, [])] = 6 := by kernel_rfl
theorem k11c : fstS [false, true] [(0, 1, 0, [])] = [0, 1] := by kernel_rfl
theorem k11d : wayS [false, true] [(0, 1, 0, [])] 0 = [0, 5] := by kernel_rfl
theorem blsNew11 (w : World) (g : Nat) (B : List Bool) (n : Nat) (hn : B.length = n) (T : TypeId) (h : w.heap[g]? = some (.cells (B.map Value.bool).toArray T (0, 0))) : BlsAt w (.slice (some ⟨g, 0, none⟩) n n) B := by
  subst hn
  refine ⟨_, _, rfl, Nat.le_refl _, fun _ => ⟨g, 0, rfl, (Array.getElem?_eq_some_iff.1 h).1, fun k hk => ?_⟩⟩
  simp [World.cell?, h, hk]
theorem edsOne11 (w : World) (g : Nat) (y1 y2 y3 : Int) (y4 : List UInt8) (T : TypeId) (h : w.heap[g]? = some (.cells #[.int .i64 y1, .int .i64 y2, .int .i64 y3, .string (bs y4)] T (0, 0))) : EdsAt w (.slice (some ⟨g, 0, none⟩) 1 1) [(y1, y2, y3, y4)] := by
  refine ⟨_, _, rfl, Nat.le_refl _, fun _ => ⟨g, 0, rfl, (Array.getElem?_eq_some_iff.1 h).1, fun k hk => ?_⟩⟩
  obtain rfl : k = 0 := by simp at hk; omega
  exact ⟨by simp [World.cell?, h], by simp [World.cell?, h], by simp [World.cell?, h], by simp [World.cell?, h]⟩
theorem edsTwo11 (w : World) (g : Nat) (y1 y2 y3 : Int) (y4 : List UInt8) (T : TypeId) (h : w.heap[g]? = some (.cells #[.int .i64 y1, .int .i64 y2, .int .i64 y3, .string (bs y4), .int .i64 y1, .int .i64 y2, .int .i64 y3, .string (bs y4)] T (0, 0))) : EdsAt w (.slice (some ⟨g, 0, none⟩) 2 2) [(y1, y2, y3, y4), (y1, y2, y3, y4)] := by
  refine ⟨_, _, rfl, Nat.le_refl _, fun _ => ⟨g, 0, rfl, (Array.getElem?_eq_some_iff.1 h).1, fun k hk => ?_⟩⟩
  have hk' : k = 0 ∨ k = 1 := by simp at hk; omega
  rcases hk' with rfl | rfl
  · exact ⟨by simp [World.cell?, h], by simp [World.cell?, h], by simp [World.cell?, h], by simp [World.cell?, h]⟩
  · exact ⟨by simp [World.cell?, h], by simp [World.cell?, h], by simp [World.cell?, h], by simp [World.cell?, h]⟩
theorem wk11a (w : World) (hT : BorT w) (bv ev : Value) (hB : BlsAt w bv [false, true]) (hE : EdsAt w ev [(0, 1, 0, [])]) :
    Calls Tryd.prog 7 #[.agg #[bv, ev]] w fun r w' => (∃ A1 c1 A2 c2 A3 c3, r = .returned (.tuple #[.agg #[.slice A1 6 c1, .slice A2 2 c2, .slice A3 1 c3], .int .i64 0]) ∧ ZsAt w' (.slice A2 2 c2) [0, 1] 2 ∧ (∃ b o A m c, A3 = some ⟨b, o, none⟩ ∧ b < w'.heap.size ∧ w'.cell? ⟨b, o, none⟩ = some (.slice A m c) ∧ ZsAt w' (.slice A m c) [0, 5] m)) ∧ Below w.heap.size w w' := by
  refine (normOf bv ev _ _ hB hE m11a hT).mono ?_
  rintro e w' ⟨hb, ⟨h, _⟩ | ⟨_, cv, fv, wv, rfl, hN⟩⟩
  · exact absurd k11a h
  · refine ⟨?_, hb⟩
    have h1 := hN.cel
    have h2 := hN.fst
    have h3 := hN.way
    rw [k11b] at h1
    rw [k11c] at h2
    obtain ⟨A1, c1, rfl⟩ := h1.form
    obtain ⟨A2, c2, rfl⟩ := h2.form
    obtain ⟨A3, c3, rfl, h4⟩ := h3
    obtain ⟨b, o, e, hl, hc⟩ := h4 (by decide)
    obtain ⟨A, m, c, h5, h6⟩ := hc 0 (by decide)
    rw [k11d] at h6
    exact ⟨A1, c1, A2, c2, A3, c3, rfl, h2.zs, b, o, A, m, c, e, hl, by simpa using h5, h6.zs⟩
theorem wk11b (w : World) (hT : BorT w) (bv ev : Value) (hB : BlsAt w bv [false, false]) (hE : EdsAt w ev [(0, 1, 0, []), (0, 1, 0, [])]) :
    Calls Tryd.prog 7 #[.agg #[bv, ev]] w fun r w' => r = .returned (.tuple #[.agg #[.slice none 0 0, .slice none 0 0, .slice none 0 0], .int .i64 8]) ∧ Below w.heap.size w w' := by
  refine (normOf bv ev _ _ hB hE m11b hT).mono ?_
  rintro e w' ⟨hb, ⟨_, h⟩ | ⟨h, _⟩⟩
  · rw [k11e] at h
    exact ⟨h, hb⟩
  · rw [k11e] at h
    exact absurd h (by decide)
end Go.Proofs.YtilggacflpchhaaDoor
