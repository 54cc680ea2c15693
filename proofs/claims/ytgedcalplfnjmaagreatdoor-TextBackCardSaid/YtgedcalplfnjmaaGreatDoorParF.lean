/-
  addEdge, add: what they answer and leave. Conditions: texts of at most 1500000 bytes.
-/
import Derived.Test.YtgedcalplfnjmaaGreatDoorParD
namespace Go.Proofs.YtgedcalplfnjmaaGreatDoor
open Go.RowKit Go.Proofs.YtgedcalplfnjmaaGreatDoor.LexM Go.Proofs.YtgedcalplfnjmaaGreatDoor.ParM

theorem newsE (w : World) (T : TypeId) (a : Edg) (b : Nat) (hb : w.heap.size = b) : ∀ j z, (encE a)[j]? = some z → (w.alloc (.cells (encE a).toArray T)).cell? ((⟨b, 0, none⟩ : Addr).add j) = some z := by
  intro j z hz
  subst hb
  have e : ((⟨w.heap.size, 0, none⟩ : Addr).add j) = ⟨w.heap.size, j, none⟩ := by
    by_cases hj : j = 0
    · subst hj; rfl
    · simp [Addr.add, hj]
  rw [e]
  simpa using hz
theorem newsEd (w : World) (T : TypeId) (a : Edg) (b : Nat) (hb : w.heap.size = b) : ∀ j z, (encE a)[j]? = some z → (w.alloc (.cells (encE a).toArray T)).drew.cell? ((⟨b, 0, none⟩ : Addr).add j) = some z := fun j z hz => newsE w T a b hb j z hz
theorem OwnE.at_ {w : World} {B n : Nat} {v : Value} {l : List Edg} (h : OwnE w B v l) (e : l.length = n) : w.ownsRow B 40 4 v n (l.flatMap encE) := by subst e; exact h
theorem OwnE.snocAt {w : World} {B n : Nat} {v : Value} {l : List Edg} {a : Edg} (e : l.length = n) (h : w.ownsRow B 40 4 v (n + 1) (l.flatMap encE ++ encE a)) : OwnE w B v (l ++ [a]) := by subst e; exact OwnE.snoc h
/-- Behind the append: the longer row, all else as it was. -/
structure GrE (w0 w w1 : World) (p x : Nat) (bg en : Bool) (bv ev : Value) (B : List Bool) (E : List Edg) (b : Nat) (a : Edg) (v' : Value) : Prop where
  mem : RdM w0 w1 p bg en bv v' B (E ++ [a]) b ∨ True
  blk : w1.heap[p]? = some (.cells #[.bool bg, .bool en, bv, ev, .int .i64 b] 37 (0, 0))
  rb : OwnB w1 w0.heap.size bv B
  re : OwnE w1 w0.heap.size v' (E ++ [a])
  base : w0.heap.size ≤ p
  below : Below w0.heap.size w0 w1
  loc : w1.heap[x]? = w.heap[x]?
section
variable {w0 w w1 W : World} {p x : Nat} {bg en : Bool} {bv ev v' : Value} {B : List Bool} {E : List Edg} {b : Nat} {a : Edg}
theorem GrE.c (h : GrE w0 w w1 p x bg en bv ev B E b a v') : w1.cell? ⟨p, 3, none⟩ = some ev ∧ w1.cell? ⟨p, 4, none⟩ = some (.int .i64 b) ∧ w1.frozen? ⟨p, 3, none⟩ = false ∧ w1.frozen? ⟨p, 4, none⟩ = false ∧ p < w1.heap.size := by
  have h1 := h.blk
  refine ⟨by simp [World.cell?, h1], by simp [World.cell?, h1], ?_, ?_, (Array.getElem?_eq_some_iff.1 h1).1⟩
  · simp only [World.frozen?, h1]; simp
  · simp only [World.frozen?, h1]; simp
theorem GrE.set (h : GrE w0 w w1 p x bg en bv ev B E b a v') : RdM w0 (w1.setCell ⟨p, 3, none⟩ v') p bg en bv v' B (E ++ [a]) b :=
  ⟨by rw [heap_setCell_at h.blk]; rfl, ownsRow_setCell_other h.rb (own_kind h.rb h.blk rdT_b) _, ownsRow_setCell_other h.re (own_kind h.re h.blk rdT_e) _, h.base, below_set h.below h.base _ _⟩
end
theorem step_edges {P : Program} {ops : Array Oper} {o : Oper} {a : Act} {w0 w W : World} {K : Act → World → Prop} {Q : Exit → Act → World → Prop} {F : Prop}
    (hg : o.guard = none) (s x : Operand) (t : TypeId) (hop : o.op = Op.call { callee := Callee.builtin Builtin.append, args := #[s, x], argTypes := #[t, t] })
    (i : TypeInfo) (h1 : P.underlying t = some (.slice 40)) (h2 : P.info? 40 = some i) (h3 : i.zero = some (.agg #[.int .i64 0, .int .i64 0, .int .i64 0, .string ByteArray.empty])) (h4 : i.size = 4) (h5 : i.bytes = 40)
    {p xb n : Nat} {bg en : Bool} {bv ev : Value} {B : List Bool} {E : List Edg} {b : Nat} (h : RdM w0 w p bg en bv ev B E b) (hn : E.length = n) (hb : Below w.heap.size w W) (hx0 : xb < w.heap.size) (hxk : ∃ cur fz, w.heap[xb]? = some (.cells cur 40 fz) ∧ ev.ownBlock ≠ some xb) (hs : a.eval s = ev)
    (ad : Addr) (cp : Nat) (e : Edg) (hx : a.eval x = .slice (some ad) 1 cp) (hc : ∀ j u, (encE e)[j]? = some u → W.cell? (ad.add j) = some u)
    (b1 : n ≤ 4096)
    (hK : ∀ ao cap w1, GrE w0 w w1 p xb bg en bv ev B E b e (.slice ao (n + 1) cap) → K (a.put o.dst (.slice ao (n + 1) cap)) w1) :
    if Region.wanted o (yielded ops a.tmps) = true then Oper.wp P o a W K Q else F := by
  have H := h.step hb
  have hsz := h.below.size
  refine step_append_fresh hg s x t hop w0.heap.size 40 i _ 4 40 h1 h2 h3 h4 h5 rfl (by decide) ev n (E.flatMap encE) hs (H.re.at_ hn) ad 1 cp (encE e) hx rfl hc (encE_one e) (by unfold maxLen; omega) (by omega) (Nat.le_trans hsz hb.size) fun v' w1 hown hgrow hfr => ?_
  have hO := OwnE.snocAt hn hown
  obtain ⟨ao, cap, hv⟩ := hO.form
  have hlen : (E ++ [e]).length = n + 1 := by rw [List.length_append, hn]; rfl
  rw [hlen] at hv
  subst hv
  obtain ⟨cur, fz, hxb, hne⟩ := hxk
  refine hK ao cap w1 ⟨Or.inr trivial, ?_, ?_, hO, h.base, ?_, ?_⟩
  · rw [hgrow.block p H.lt (fun e => H.ne e.symm)]; exact H.blk
  · refine ownsRow_block H.rb (fun q hq => hgrow.block q (World.ownsRow.lt H.rb q hq).2 (fun e => ?_))
    -- rows of bools and of edges never share a block
    rcases H.rb.2 with ⟨rfl, _⟩ | ⟨g, c1, c2, rfl, _, hgk, _⟩
    · cases hq
    · have : g = q := by simpa [Value.ownBlock] using hq
      subst this
      exact own_kind H.re hgk (by decide) e.symm
  · exact H.below.grown hgrow (Nat.le_trans hsz hb.size) (fun q hq => (World.ownsRow.lt H.re q hq).1)
  · rw [hgrow.block xb (Nat.lt_of_lt_of_le hx0 hb.size) (fun e => hne e.symm), hb.block xb hx0]

/-- What addEdge tells of a line. -/
def adE (n : Nat) (l : List UInt8) (E : List Edg) (b : Nat) : Int := if edgE n l ≠ 0 then edgE n l else if 4096 < E.length + 1 ∨ 4096 < b + (edgV n l).2.2.2.length then 6 else 0
def AdeP (w0 : World) (p : Nat) (bg en : Bool) (B : List Bool) (E : List Edg) (b : Nat) (l : List UInt8) (e : Ending) (w' : World) : Prop :=
  e = .returned (.int .i64 (adE B.length l E b)) ∧ ∃ E' b', RdAt w0 w' p bg en B E' b' ∧ (adE B.length l E b = 0 → E' = E ++ [edgV B.length l] ∧ b' = b + (edgV B.length l).2.2.2.length)
set_option maxHeartbeats 8000000 in
set_option maxRecDepth 100000 in
theorem addEdge (w0 w : World) (p : Nat) (bg en : Bool) (B : List Bool) (E : List Edg) (b : Nat) (s : ByteArray) (h : RdAt w0 w p bg en B E b) (hT : TabL w) (hs : s.size ≤ 1500000) (hE : E.length ≤ 4096) (hb : b ≤ 4096) :
    Calls Tryz.prog 17 #[.pointer (some ⟨p, 0, none⟩), .string s] w (AdeP w0 p bg en B E b s.data.toList) := by
  obtain ⟨bv, ev, hM⟩ := h
  have M := Lib.hid hM
  have HT := Lib.hid hT
  obtain ⟨nB, hnB⟩ : ∃ nB, B.length = nB := ⟨_, rfl⟩
  obtain ⟨A0, c0, e0⟩ := hM.rb.form
  rw [hnB] at e0
  subst e0
  obtain ⟨nE, hnE⟩ : ∃ nE, E.length = nE := ⟨_, rfl⟩
  obtain ⟨A1, c1, e1⟩ := hM.re.form
  rw [hnE] at e1
  subst e1
  rw [hnE] at hE
  obtain ⟨x0, x1, x2, x3, x4⟩ := hM.c
  have pl := hM.lt
  have C := Lib.hid (readEdge s nB w hT (by omega))
  clear hM hT
  by_cases he : edgE nB s.data.toList = 0
  · have q0 := Lib.hid he
    obtain ⟨f, t, d, bb, hv⟩ : ∃ f t d bb, edgV nB s.data.toList = (f, t, d, bb) := ⟨_, _, _, _, rfl⟩
    have V := Lib.hid hv
    have C2 : Hid (Calls Tryz.prog 34 #[.string s, .int .i64 nB] w fun e w' => e = .returned (.tuple #[.agg #[.int .i64 f, .int .i64 t, .int .i64 d, .string (bs bb)], .int .i64 0]) ∧ Below w.heap.size w w') := Lib.hid (by
      refine C.out.mono ?_
      rintro e w' ⟨rfl, hb⟩
      rw [he, hv]
      exact ⟨rfl, hb⟩)
    clear C he hv
    have hbz : (bs bb).size = bb.length := bs_size bb
    have hw : wrap64 (4096 - (b : Int)) = 4096 - b := by unfold wrap64; omega
    by_cases h4 : nE = 4096
    · have F : Hid (adE B.length s.data.toList E b = 6) := Lib.hid (by
        unfold adE; rw [hnB, q0.out, if_neg (by simp), if_pos (Or.inl (by omega))])
      have q4 : ((nE : Int) == 4096) = true := by rw [beq_iff_eq]; omega
      have HB := Lib.hid hbz
      generalize bs bb = sb at *
      clear hbz h4 hnE hnB hw
      go_enter Tryz.func17, Tryz.ntmps17
      go_wp2_with (go_at_call 34; refine C2.out.mono ?_; rintro e w1 ⟨rfl, b1⟩; have M1 := Lib.hid (M.out.step b1); clear b1)
      generalize hw2 : World.alloc w1 _ = w2
      have M2 : Hid (RdM w0 w2 p bg en (.slice A0 nB c0) (.slice A1 nE c1) B E b) := Lib.hid (by rw [← hw2]; exact M1.out.step ((Below.refl _ _).alloc (Nat.le_refl _) _))
      have hl : w2.heap[w1.heap.size]? = some (.cells #[.int .i64 f, .int .i64 t, .int .i64 d, .string sb] 40 (0, 0)) := by rw [← hw2]; exact heap_alloc_new w1 _
      have L2 := Lib.hid hl
      have l3 : w2.cell? ⟨w1.heap.size, 3, none⟩ = some (.string sb) := by simp [World.cell?, hl]
      have lx : w1.heap.size < w2.heap.size := (Array.getElem?_eq_some_iff.1 hl).1
      obtain ⟨y0, y1, y2, y3, y4⟩ := M2.out.c
      have yl := M2.out.lt
      clear hw2 hl x0 x1 x2 x3 x4 pl
      go_region
      all_goals
        go_wp2
        go_ret
        exact ⟨by rw [F.out]; rfl, _, _, ⟨_, _, M2.out.step ((Below.refl _ _).drew)⟩, fun h => by rw [F.out] at h; cases h⟩
    · have q4 : ((nE : Int) == 4096) = false := by rw [beq_eq_false_iff_ne]; omega
      by_cases h5 : 4096 < b + bb.length
      · have F : Hid (adE B.length s.data.toList E b = 6) := Lib.hid (by
          unfold adE; rw [hnB, q0.out, if_neg (by simp), if_pos (Or.inr (by rw [V.out]; exact h5))])
        have q5 : decide ((4096 : Int) - b < (bs bb).size) = true := by rw [decide_eq_true_eq, hbz]; omega
        have q6 : (4096 : Int) - b < (bs bb).size := by rw [hbz]; omega
        generalize bs bb = sb at *
        clear hbz h4 h5 hnE hnB
        go_enter Tryz.func17, Tryz.ntmps17
        go_wp2_with (go_at_call 34; refine C2.out.mono ?_; rintro e w1 ⟨rfl, b1⟩; have M1 := Lib.hid (M.out.step b1); clear b1)
        generalize hw2 : World.alloc w1 _ = w2
        have M2 : Hid (RdM w0 w2 p bg en (.slice A0 nB c0) (.slice A1 nE c1) B E b) := Lib.hid (by rw [← hw2]; exact M1.out.step ((Below.refl _ _).alloc (Nat.le_refl _) _))
        have hl : w2.heap[w1.heap.size]? = some (.cells #[.int .i64 f, .int .i64 t, .int .i64 d, .string sb] 40 (0, 0)) := by rw [← hw2]; exact heap_alloc_new w1 _
        have L2 := Lib.hid hl
        have l3 : w2.cell? ⟨w1.heap.size, 3, none⟩ = some (.string sb) := by simp [World.cell?, hl]
        have lx : w1.heap.size < w2.heap.size := (Array.getElem?_eq_some_iff.1 hl).1
        obtain ⟨y0, y1, y2, y3, y4⟩ := M2.out.c
        have yl := M2.out.lt
        clear hw2 hl x0 x1 x2 x3 x4 pl
        go_region
        all_goals
          go_wp2
          go_ret
          exact ⟨by rw [F.out]; rfl, _, _, ⟨_, _, M2.out.step ((Below.refl _ _).drew)⟩, fun h => by rw [F.out] at h; cases h⟩
      · have F : Hid (adE B.length s.data.toList E b = 0) := Lib.hid (by
          unfold adE; rw [hnB, q0.out, if_neg (by simp), if_neg (by
            rw [V.out]
            rintro (h | h)
            · omega
            · exact h5 h)])
        have q5 : decide ((4096 : Int) - b < (bs bb).size) = false := by rw [decide_eq_false_iff_not, hbz]; omega
        have q6 : ¬ (4096 : Int) - b < (bs bb).size := by rw [hbz]; omega
        have hw7 : wrap64 ((b : Int) + (bs bb).size) = ((b + bb.length : Nat) : Int) := by rw [hbz]; unfold wrap64; omega
        have VE : Hid (edgV B.length s.data.toList = (f, t, d, bb)) := Lib.hid (by rw [hnB]; exact V.out)
        have NE := Lib.hid hnE
        have SB : Hid (bs bb = bs bb) := Lib.hid rfl
        obtain ⟨sb, hsb⟩ : ∃ sb, bs bb = sb := ⟨_, rfl⟩
        have HS := Lib.hid hsb
        rw [hsb] at q5 q6 hw7 C2
        obtain ⟨i0, hi, hz0, hz1, hz2⟩ := info_of infoE4
        obtain ⟨bz, hbz2⟩ : ∃ bz, b + bb.length = bz := ⟨_, rfl⟩
        rw [hbz2] at hw7
        have BZ := Lib.hid hbz2
        clear hbz h4 h5 hnE hnB V SB hsb hbz2
        go_enter Tryz.func17, Tryz.ntmps17
        go_wp2_with (go_at_call 34; refine C2.out.mono ?_; rintro e w1 ⟨rfl, b1⟩; have M1 := Lib.hid (M.out.step b1); clear b1)
        generalize hw2 : World.alloc w1 _ = w2
        have M2 : Hid (RdM w0 w2 p bg en (.slice A0 nB c0) (.slice A1 nE c1) B E b) := Lib.hid (by rw [← hw2]; exact M1.out.step ((Below.refl _ _).alloc (Nat.le_refl _) _))
        have hl : w2.heap[w1.heap.size]? = some (.cells #[.int .i64 f, .int .i64 t, .int .i64 d, .string sb] 40 (0, 0)) := by rw [← hw2]; exact heap_alloc_new w1 _
        have L2 := Lib.hid hl
        have l3 : w2.cell? ⟨w1.heap.size, 3, none⟩ = some (.string sb) := by simp [World.cell?, hl]
        have lx : w1.heap.size < w2.heap.size := (Array.getElem?_eq_some_iff.1 hl).1
        obtain ⟨y0, y1, y2, y3, y4⟩ := M2.out.c
        have yl := M2.out.lt
        clear hw2 hl x0 x1 x2 x3 x4 pl
        go_region
        all_goals
          go_wp2
          generalize hw3 : World.drew w2 = w3
          have M3 : Hid (RdM w0 w3 p bg en (.slice A0 nB c0) (.slice A1 nE c1) B E b) := Lib.hid (by rw [← hw3]; exact M2.out.step ((Below.refl _ _).drew))
          have hl3 : w3.heap[w1.heap.size]? = some (.cells #[.int .i64 f, .int .i64 t, .int .i64 d, .string sb] 40 (0, 0)) := by rw [← hw3]; exact L2.out
          have L3 := Lib.hid hl3
          have n0 : w3.cell? ⟨w1.heap.size, 0, none⟩ = some (.int .i64 f) := by simp [World.cell?, hl3]
          have n1 : w3.cell? ⟨w1.heap.size, 1, none⟩ = some (.int .i64 t) := by simp [World.cell?, hl3]
          have n2 : w3.cell? ⟨w1.heap.size, 2, none⟩ = some (.int .i64 d) := by simp [World.cell?, hl3]
          have n3 : w3.cell? ⟨w1.heap.size, 3, none⟩ = some (.string sb) := by simp [World.cell?, hl3]
          have nx : w1.heap.size < w3.heap.size := (Array.getElem?_eq_some_iff.1 hl3).1
          obtain ⟨z0, z1, z2, z3, z4⟩ := M3.out.c
          have zf := M3.out.fr 3
          have zl := M3.out.lt
          have NX : Hid ((Value.slice A1 nE c1).ownBlock ≠ some w1.heap.size) := Lib.hid (fun e => Nat.lt_irrefl _ (World.ownsRow.lt M1.out.re _ e).2)
          have hsb := HS.out
          clear hl3 hw3 y0 y1 y2 y3 y4 yl l3 lx q5 q6 q4
          go_region_law (refine step_edges rfl (.tmp 46) (.tmp 48) 23 rfl i0 Tryz.underlying23 hi hz0 hz1 hz2 M3.out NE.out (by first | exact ((Below.refl _ _).alloc (Nat.le_refl _) _).drew | exact ((Below.refl _ _).drew).alloc (by simp) _ | exact (Below.refl _ _).alloc (Nat.le_refl _) _) nx ⟨_, _, L3.out, NX.out⟩ (by simp [Act.eval]) ⟨w3.heap.size, 0, none⟩ 1 (f, t, d, bb) (by simp [Act.eval]) (by subst hsb; first | exact newsEd _ _ _ _ rfl | exact newsE _ _ _ _ rfl) hE ?_; intro ao cap w5 G; have HG := Lib.hid G; obtain ⟨k3, k4, kf3, kf4, kl⟩ := G.c; have hl5 := G.loc.trans L3.out; have u3 : w5.cell? ⟨w1.heap.size, 3, none⟩ = some (.string sb) := (by simp [World.cell?, hl5]); have ul : w1.heap.size < w5.heap.size := (Array.getElem?_eq_some_iff.1 hl5).1; have une : ¬ w1.heap.size = p := (fun e => by have h1 := M1.out.lt; omega); clear G hl5)
          all_goals
            go_wp2
            generalize hw6 : World.setCell w5 _ _ = w6
            have M6 : Hid (RdM w0 w6 p bg en (.slice A0 nB c0) (.slice ao (nE + 1) cap) B (E ++ [(f, t, d, bb)]) b) := Lib.hid (by rw [← hw6]; exact HG.out.set)
            have v3 : w6.cell? ⟨w1.heap.size, 3, none⟩ = some (.string sb) := by
              rw [← hw6, World.cell?_of_block (w := w5) (a := ⟨w1.heap.size, 3, none⟩) (Below.heap_setCell _ _ _ _ une)]
              exact u3
            have vl : w1.heap.size < w6.heap.size := by rw [← hw6]; simpa [World.setCell] using ul
            obtain ⟨r0, r1, r2, r3, r4⟩ := M6.out.c
            have rf := M6.out.fr 4
            have rl := M6.out.lt
            clear hw6 k3 k4 kf3 kf4 kl u3 ul HG n0 n1 n2 n3 nx z0 z1 z2 z3 z4 zf zl
            go_region
            all_goals
              go_wp2
              go_ret
              exact ⟨by rw [F.out]; rfl, _, _, ⟨_, _, (M6.out.step ((Below.refl _ _).drew)).set4 bz⟩, fun _ => by rw [VE.out]; exact ⟨rfl, BZ.out.symm⟩⟩
  · have F : Hid (adE B.length s.data.toList E b = edgE nB s.data.toList) := Lib.hid (by unfold adE; rw [hnB, if_pos he])
    have q1 : (edgE nB s.data.toList == 0) = false := by simpa using he
    have q2 : (edgE nB s.data.toList != 0) = true := by simpa using he
    have q3 := Lib.hid he
    obtain ⟨f, t, d, bb, hv⟩ : ∃ f t d bb, edgV nB s.data.toList = (f, t, d, bb) := ⟨_, _, _, _, rfl⟩
    have C2 : Hid (Calls Tryz.prog 34 #[.string s, .int .i64 nB] w fun e w' => e = .returned (.tuple #[.agg #[.int .i64 f, .int .i64 t, .int .i64 d, .string (bs bb)], .int .i64 (edgE nB s.data.toList)]) ∧ Below w.heap.size w w') := Lib.hid (by
      refine C.out.mono ?_
      rintro e w' ⟨rfl, hb⟩
      rw [hv]
      exact ⟨rfl, hb⟩)
    clear C he hv
    generalize edgE nB s.data.toList = z at *
    go_enter Tryz.func17, Tryz.ntmps17
    go_wp2_with (go_at_call 34; refine C2.out.mono ?_; rintro e w1 ⟨rfl, b1⟩; have M1 := Lib.hid (M.out.step b1); clear b1)
    go_ret
    exact ⟨by rw [F.out]; rfl, _, _, ⟨_, _, M1.out.step ((Below.refl _ _).alloc (Nat.le_refl _) _)⟩, fun h => by rw [F.out] at h; exact absurd h q3.out⟩
end Go.Proofs.YtgedcalplfnjmaaGreatDoor
