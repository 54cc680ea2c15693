/-
  What find leaves: a way, or that its node leads nowhere. Conditions: as letFlow keeps them.
  find: a way to a node to which something has to flow. Conditions: as letFlow keeps them.
  take: what flows along a way. Conditions: the way leads from what has something left to where something is missing.
  takeWays: all ways of one round; one is taken at least. Conditions: as letFlow keeps them; something is left, and something near is missing.
  letFlow: rounds, till nothing is left. Conditions: what search and find leave.
-/
import Derived.Test.YtdpacaomkahgfaaGreatDoorCqN
namespace Go.Proofs.YtdpacaomkahgfaaGreatDoor
open Go.RowKit Go.Proofs.YtdpacaomkahgfaaGreatDoor.DagM

theorem infoS : (Tryz.prog.info? 102).map (fun i => (i.zero, i.size, i.bytes)) = some (some (.agg #[.int .i64 0, .int .i64 0, .int .i64 0, .int .i64 0]), 4, 32) := by kernel_rfl
theorem RowS.snoc {w : World} {B : Nat} {v : Value} {l : List Stp} {s : Stp} (h : w.ownsRow B 102 4 v (l.length + 1) (l.flatMap encS ++ encS s)) : RowS w B v (l ++ [s]) := by
  unfold RowS
  rw [List.length_append, List.flatMap_append]
  simpa using h
theorem RowS.short {w : World} {B g cap k : Nat} {l : List Stp} {s : Stp} (h : RowS w B (.slice (some ⟨g, 0, none⟩) (k + 1) cap) (l ++ [s])) (hk : k = l.length) : RowS w B (.slice (some ⟨g, 0, none⟩) k cap) l := by
  unfold RowS at h ⊢
  subst hk
  have h2 : w.ownsRow B 102 4 (.slice (some ⟨g, 0, none⟩) (l.length + 1) cap) (l.length + 1) ((l ++ [s]).flatMap encS) := by simpa using h
  have h3 := ownsRow_shorter h2 (show l.length ≤ l.length + 1 by omega)
  rw [flat_take encS encS_len] at h3
  simpa using h3
theorem newsS (w : World) (t : TypeId) (s : Stp) : ∀ j z, (encS s)[j]? = some z → (w.alloc (.cells #[.int .i64 (s.1 : Int), .int .i64 (s.2.1 : Int), .int .i64 (s.2.2.1 : Int), .int .i64 (s.2.2.2 : Int)] t)).cell? ((⟨w.heap.size, 0, none⟩ : Addr).add j) = some z := by
  intro j z hz
  have hj : ((⟨w.heap.size, 0, none⟩ : Addr).add j) = ⟨w.heap.size, j, none⟩ := by unfold Addr.add; split <;> simp_all
  rw [hj]
  have : (w.alloc (.cells #[.int .i64 (s.1 : Int), .int .i64 (s.2.1 : Int), .int .i64 (s.2.2.1 : Int), .int .i64 (s.2.2.2 : Int)] t)).heap[w.heap.size]? = some (.cells #[.int .i64 (s.1 : Int), .int .i64 (s.2.1 : Int), .int .i64 (s.2.2.1 : Int), .int .i64 (s.2.2.2 : Int)] t (0, 0)) := heap_alloc_new w _
  simp only [World.cell?, this]
  simpa [encS] using hz
theorem oneS (s : Stp) : ∀ z ∈ encS s, z.oneCell' = true := by
  intro z hz
  simp [encS] at hz
  rcases hz with rfl | rfl | rfl | rfl <;> rfl

/-- How far each node's steps are tried, read off the world. -/
noncomputable def trsOf (w : World) (T gt n : Nat) : Nat → Nat := Classical.epsilon fun tr : Nat → Nat => RowI w T gt n fun v => (tr v : Int)
theorem trsOf_eq {w : World} {T gt n : Nat} {tr : Nat → Nat} (h : RowI w T gt n fun v => (tr v : Int)) : ∀ v, v < n → trsOf w T gt n v = tr v := by
  have h2 : RowI w T gt n fun v => (trsOf w T gt n v : Int) := Classical.epsilon_spec (p := fun tr : Nat → Nat => RowI w T gt n fun v => (tr v : Int)) ⟨tr, h⟩
  intro v hv
  have e1 := h.cell hv
  have e2 := h2.cell hv
  rw [e1] at e2
  simp only [Option.some.injEq, Value.int.injEq, true_and] at e2
  omega
def sumN (g : Nat → Nat) : Nat → Nat
  | 0 => 0
  | m + 1 => sumN g m + g m
theorem sumN_congr {g h : Nat → Nat} : ∀ n, (∀ v, v < n → g v = h v) → sumN g n = sumN h n
  | 0, _ => rfl
  | n + 1, e => by simp only [sumN]; rw [sumN_congr n (fun v hv => e v (by omega)), e n (by omega)]
theorem sumN_le {g h : Nat → Nat} : ∀ n, (∀ v, v < n → g v ≤ h v) → sumN g n ≤ sumN h n
  | 0, _ => Nat.le_refl _
  | n + 1, e => by simp only [sumN]; have := sumN_le n (fun v hv => e v (by omega)); have := e n (by omega); omega
theorem sumN_lt {g h : Nat → Nat} : ∀ n u, u < n → (∀ v, v < n → g v ≤ h v) → g u + 1 ≤ h u → sumN g n + 1 ≤ sumN h n
  | 0, u, hu, _, _ => by omega
  | n + 1, u, hu, e, hl => by
    simp only [sumN]
    by_cases k : u = n
    · subst k
      have := sumN_le u (fun v hv => e v (by omega)); omega
    · have := sumN_lt n u (by omega) (fun v hv => e v (by omega)) hl; have := e n (by omega); omega
def lenOf (v : Value) : Nat := match v with | .slice _ k _ => k | _ => 0
/-- What find still has to do. -/
noncomputable def fdMu (E : EndL) (T gt n : Nat) (wr : World) (wv : Value) : Nat := 2 * sumN (fun u => (stps E u).length - trsOf wr T gt n u) n + (80000001 - lenOf wv)
def FdR (w0 w : World) (T p gx gf gl gs n : Nat) (E : EndL) (V : Nat → Value) (x f lf : Nat → Int) (tk : Int) (r gd gt : Nat) (far : Nat → Dst) (tr0 : Nat → Nat) (a : Nat) (wr : World) (wv vv : Value) : Prop :=
  ∃ (W : List Stp) (v : Nat) (tr : Nat → Nat), vv = .int .i64 (v : Int) ∧ RowS wr w.heap.size wv W ∧ FindI E n x f lf far tr0 tr a W v ∧ (∀ u, u < n → tr0 u ≤ tr u) ∧ RoundAt w0 wr T p gx gf gl gs n E V x f lf tk r gd gt far tr ∧ Out (fun b => b = gt) w wr
/-- What find leaves. -/
def FoundW (w0 w : World) (T p gx gf gl gs n : Nat) (E : EndL) (V : Nat → Value) (x f lf : Nat → Int) (tk : Int) (r gd gt : Nat) (far : Nat → Dst) (tr0 : Nat → Nat) (a : Nat) (e : Ending) (w' : World) : Prop :=
  ∃ tr, RoundAt w0 w' T p gx gf gl gs n E V x f lf tk r gd gt far tr ∧ Out (fun b => b = gt) w w' ∧ (∀ u, u < n → tr u ≤ (stps E u).length) ∧ (DeadI E n x f lf far tr0 → DeadI E n x f lf far tr) ∧
    ((e = .returned (.slice none 0 0) ∧ (∀ u, u < n → tr0 u ≤ tr u) ∧ deadN E lf tr a) ∨ ∃ W b g cap, e = .returned (.slice (some ⟨g, 0, none⟩) W.length cap) ∧ 0 < W.length ∧ W.length ≤ 80000000 ∧ RowS w' w.heap.size (.slice (some ⟨g, 0, none⟩) W.length cap) W ∧ DagM.Way E n x f far tr a W b ∧ b < n ∧ lf b < 0)
def FindSpec : Prop := ∀ {w0 w : World} {T p gx gf gl gs n r gd gt : Nat} {E : EndL} {V : Nat → Value} {x f lf : Nat → Int} {tk near : Int} {far : Nat → Dst} {tr : Nat → Nat} {a : Nat}
    (_h : RoundAt w0 w T p gx gf gl gs n E V x f lf tk r gd gt far tr) (_hF : Fits E n x f) (_hn : n ≤ 4096) (_hm : E.length ≤ 16384) (_hx : ∀ v, v < n → -(2 * (n : Int)) ≤ x v ∧ x v ≤ n) (_hL : Lev E n x f lf far near) (_ha : a < n) (_hl : 0 < lf a) (_ht : ∀ u, u < n → tr u ≤ (stps E u).length),
    Calls Tryz.prog 77 #[.pointer (some ⟨r, 0, none⟩), .int .i64 (a : Int)] w (FoundW w0 w T p gx gf gl gs n E V x f lf tk r gd gt far tr a)

/-- More tried, nothing else: the measure is less by twice as much. -/
theorem mu_up {E : EndL} {T gt n : Nat} {w w' : World} {wv wv' : Value} {tr tr' : Nat → Nat} (h : RowI w T gt n fun v => (tr v : Int)) (h' : RowI w' T gt n fun v => (tr' v : Int)) (hle : ∀ v, v < n → tr v ≤ tr' v) (hb : lenOf wv' = lenOf wv + 1) (hl : lenOf wv' ≤ 80000000) : fdMu E T gt n w' wv' < fdMu E T gt n w wv := by
  unfold fdMu
  have e1 := trsOf_eq h
  have e2 := trsOf_eq h'
  have := sumN_le (g := fun u => (stps E u).length - trsOf w' T gt n u) (h := fun u => (stps E u).length - trsOf w T gt n u) n (fun v hv => by (try simp only); rw [e1 v hv, e2 v hv]; have := hle v hv; omega)
  omega
theorem mu_down {E : EndL} {T gt n u : Nat} {w w' : World} {wv wv' : Value} {tr tr' : Nat → Nat} (h : RowI w T gt n fun v => (tr v : Int)) (h' : RowI w' T gt n fun v => (tr' v : Int)) (hle : ∀ v, v < n → tr v ≤ tr' v) (hu : u < n) (hlt : tr u + 1 ≤ tr' u) (hd : tr u < (stps E u).length) (hb : lenOf wv = lenOf wv' + 1) : fdMu E T gt n w' wv' < fdMu E T gt n w wv := by
  unfold fdMu
  have e1 := trsOf_eq h
  have e2 := trsOf_eq h'
  have := sumN_lt (g := fun u => (stps E u).length - trsOf w' T gt n u) (h := fun u => (stps E u).length - trsOf w T gt n u) n u hu (fun v hv => by (try simp only); rw [e1 v hv, e2 v hv]; have := hle v hv; omega) (by (try simp only); rw [e1 u hu, e2 u hu]; omega)
  omega

theorem newsS2 (w : World) (o : Obj) (t : TypeId) (s : Stp) : ∀ j z, (encS s)[j]? = some z → ((w.alloc o).alloc (.cells #[.int .i64 (s.1 : Int), .int .i64 (s.2.1 : Int), .int .i64 (s.2.2.1 : Int), .int .i64 (s.2.2.2 : Int)] t)).cell? ((⟨w.heap.size + 1, 0, none⟩ : Addr).add j) = some z := by
  have := newsS (w.alloc o) t s
  simpa using this
section
variable {w0 w w1 w2 w5 wr : World} {T p gx gf gl gs n r gd gt : Nat} {E : EndL} {V : Nat → Value} {x f lf : Nat → Int} {tk near : Int} {far : Nat → Dst} {tr0 tr trw : Nat → Nat} {a v t : Nat} {W : List Stp} {s : Stp} {ao : Option Addr} {cp : Nat} {v5 : Value}
theorem round_row (H : RoundAt w0 w T p gx gf gl gs n E V x f lf tk r gd gt far trw) (R : RoundAt w0 w2 T p gx gf gl gs n E V x f lf tk r gd gt far tr) {k : Nat} {xs : List Value} {wv : Value} {e : TypeId} (hown : w2.ownsRow w.heap.size e k wv W.length xs) (hgrow : w2.grownBy w5 wv.ownBlock) : RoundAt w0 w5 T p gx gf gl gs n E V x f lf tk r gd gt far tr := by
  refine R.away (S := fun b => wv.ownBlock = some b) ((Out.refl _ w2).grown hgrow (fun _ _ e => e)) (fun b hb => ?_)
  have h1 := (World.ownsRow.lt hown b hb).1
  have a1 := H.rl
  have a2 := H.rd.gl
  have a3 := H.rt.gl
  have a4 := H.net.top
  exact ⟨by omega, by omega, by omega, by omega⟩
theorem fd_push (hF : Fits E n x f) (hn : n ≤ 4096) (hL : Lev E n x f lf far near) (hx : ∀ v, v < n → -(2 * (n : Int)) ≤ x v ∧ x v ≤ n) (ha : a < n) (hla : 0 < lf a) (H : RoundAt w0 w T p gx gf gl gs n E V x f lf tk r gd gt far trw) (I : FindI E n x f lf far tr0 tr a W v) (MO : ∀ u, u < n → tr0 u ≤ tr u)
    (R : RoundAt w0 wr T p gx gf gl gs n E V x f lf tk r gd gt far tr) (R1 : RoundAt w0 w1 T p gx gf gl gs n E V x f lf tk r gd gt far (fun u => if u = v then t else tr u)) (O1 : Out (fun b => b = gt) w w1)
    (W2 : w2.ownsRow w.heap.size 102 4 (.slice ao W.length cp) W.length (W.flatMap encS)) (hs : (stps E v)[t]? = some s) (had : adm x f far s = true) (ht1 : tr v ≤ t) (NO : ∀ i, tr v ≤ i → i < t → ∀ s, (stps E v)[i]? = some s → adm x f far s = false)
    (B2 : Below w1.heap.size w1 w2) (hgrow : w2.grownBy w5 (Value.slice ao W.length cp).ownBlock) (hown : w5.ownsRow w.heap.size 102 4 v5 (W.length + 1) (W.flatMap encS ++ encS s)) :
    FdR w0 w T p gx gf gl gs n E V x f lf tk r gd gt far tr0 a w5 v5 (.int .i64 (s.2.2.1 : Int)) ∧ fdMu E T gt n w5 v5 < fdMu E T gt n wr (.slice ao W.length cp) := by
  have I2 := I.found hF hn hL hs had ht1 NO
  have R5 := round_row H (R1.quiet B2) W2 hgrow
  have hup : ∀ u, u < n → tr u ≤ (fun u => if u = v then t else tr u) u := fun u _ => by
    by_cases e : u = v
    · subst e; simp; exact ht1
    · simp [e]
  have hl5 : lenOf v5 = W.length + 1 := by
    obtain ⟨g, c, rfl, _⟩ := ownsRow_form hown (by omega)
    rfl
  have hlen := I2.way.len hF
  have hp1 := pot_near hn hx hL I2.vn I2.fv
  have hp2 := pot_near hn hx hL ha (by rw [hL.src a ha hla]; simp [infD])
  rw [List.length_append] at hlen
  simp only [List.length_cons, List.length_nil] at hlen
  push_cast at hlen
  refine ⟨⟨W ++ [s], _, _, rfl, RowS.snoc hown, I2, fun u hu => Nat.le_trans (MO u hu) (hup u hu), R5, ?_⟩, mu_up R.rt R5.rt hup (by rw [hl5]; rfl) (by rw [hl5]; omega)⟩
  refine (O1.trans (Out.ofBelow B2) (fun _ _ e => e)).grown hgrow (fun k hk e => ?_)
  have := (World.ownsRow.lt W2 k e).1
  omega
theorem rowk {B k : Nat} {v : Value} {l : List Stp} (hk : l.length = k) (h : RowS w B v l) : w.ownsRow B 102 4 v k (l.flatMap encS) := by subst hk; exact h
theorem rowk2_ {B k : Nat} {v : Value} {l : List Stp} (hk : l.length = k) (h : w.ownsRow B 102 4 v k (l.flatMap encS)) : w.ownsRow B 102 4 v l.length (l.flatMap encS) := by subst hk; exact h
theorem rowk3 {B k : Nat} {ao : Option Addr} {l : List Stp} (hk : l.length = k) (h : w.ownsRow B 102 4 (.slice ao k cp) l.length (l.flatMap encS)) : w.ownsRow B 102 4 (.slice ao l.length cp) l.length (l.flatMap encS) := by subst hk; exact h
theorem mu_eq {m : Nat} {ao : Option Addr} {l : List Stp} {k : Nat} (h : m < fdMu E T gt n wr (.slice ao l.length cp)) (hk : l.length = k) : m < fdMu E T gt n wr (.slice ao k cp) := by subst hk; exact h
theorem fd_nil (hF : Fits E n x f) (I : FindI E n x f lf far tr0 tr a [] v) (MO : ∀ u, u < n → tr0 u ≤ tr u) (R1 : RoundAt w0 w1 T p gx gf gl gs n E V x f lf tk r gd gt far (fun u => if u = v then t else tr u)) (O1 : Out (fun b => b = gt) w w1)
    (TL : t = (stps E v).length) (NO : ∀ i, tr v ≤ i → i < t → ∀ s, (stps E v)[i]? = some s → adm x f far s = false) (hl0 : 0 ≤ lf v) (B2 : Below w1.heap.size w1 w2) : FoundW w0 w T p gx gf gl gs n E V x f lf tk r gd gt far tr0 a (.returned (.slice none 0 0)) w2 := by
  subst TL
  have I2 := I.none hF NO
  obtain rfl : a = v := I.way.fin
  have hle := I.le a I.vn
  have hup : ∀ u, u < n → tr u ≤ (fun u => if u = a then (stps E a).length else tr u) u := fun u _ => by
    by_cases e : u = a
    · subst e; simp; exact hle
    · simp [e]
  exact ⟨_, R1.quiet B2, O1.trans (Out.ofBelow B2) (fun _ _ e => e), I2.le, I2.dead, Or.inl ⟨rfl, fun u hu => Nat.le_trans (MO u hu) (hup u hu), by simp, hl0⟩⟩
theorem fd_pop {g k : Nat} {W' : List Stp} {q : Nat} (hF : Fits E n x f) (hn : n ≤ 4096) (hL : Lev E n x f lf far near) (H : RoundAt w0 w T p gx gf gl gs n E V x f lf tk r gd gt far trw) (I : FindI E n x f lf far tr0 tr a (W' ++ [s]) v) (MO : ∀ u, u < n → tr0 u ≤ tr u)
    (R : RoundAt w0 wr T p gx gf gl gs n E V x f lf tk r gd gt far tr) (R1 : RoundAt w0 w1 T p gx gf gl gs n E V x f lf tk r gd gt far (fun u => if u = v then (stps E v).length else tr u)) (O1 : Out (fun b => b = gt) w w1)
    (W1 : RowS w1 w.heap.size (.slice (some ⟨g, 0, none⟩) (k + 1) cp) (W' ++ [s])) (hk : k = W'.length) (hl0 : 0 ≤ lf v) (NO : ∀ i, tr v ≤ i → i < (stps E v).length → ∀ s, (stps E v)[i]? = some s → adm x f far s = false)
    (hq : q = tr s.2.1) (B2 : Below (w1.setCell ⟨gt, s.2.1, none⟩ (.int .i64 ((q : Int) + 1))).heap.size (w1.setCell ⟨gt, s.2.1, none⟩ (.int .i64 ((q : Int) + 1))) w2) :
    FdR w0 w T p gx gf gl gs n E V x f lf tk r gd gt far tr0 a w2 (.slice (some ⟨g, 0, none⟩) k cp) (.int .i64 (s.2.1 : Int)) ∧ fdMu E T gt n w2 (.slice (some ⟨g, 0, none⟩) k cp) < fdMu E T gt n wr (.slice (some ⟨g, 0, none⟩) (k + 1) cp) := by
  have I2 := I.none hF NO
  have hne : s.2.1 ≠ v := I.way.off hF s (by simp)
  have hvl : (fun u => if u = v then (stps E v).length else tr u) v = (stps E v).length := by simp
  obtain ⟨p1, p2, I3⟩ := I2.pop hF hn hL hvl hl0
  have hts : (fun u => if u = v then (stps E v).length else tr u) s.2.1 = tr s.2.1 := by simp [hne]
  simp only [hts] at p1 I3
  have R3 := R1.tried s.2.1 (tr s.2.1 + 1)
  push_cast at R3
  rw [← hq] at R3 p1 I3
  have R3 := R3.quiet B2
  have hle := I.le v I.vn
  have hup : ∀ u, u < n → tr u ≤ (fun u => if u = s.2.1 then q + 1 else if u = v then (stps E v).length else tr u) u := fun u _ => by
    by_cases e : u = s.2.1
    · subst e; simp; omega
    · by_cases e2 : u = v
      · subst e2; simp [e]; exact hle
      · simp [e, e2]
  have hW2 : RowS w2 w.heap.size (.slice (some ⟨g, 0, none⟩) (k + 1) cp) (W' ++ [s]) := by
    have hg := (World.ownsRow.lt W1 g rfl)
    have hgt := H.rt.gl
    refine ownsRow_out (S := fun _ => False) (ownsRow_out (S := fun b => b = gt) W1 ((Out.refl _ w1).setIn s.2.1 (.int .i64 ((q : Int) + 1))) (fun b hb e => ?_)) (Out.ofBelow B2) (fun _ _ e => e)
    simp only [Value.ownBlock, Option.some.injEq] at hb
    omega
  refine ⟨⟨W', _, _, rfl, hW2.short hk, I3, fun u hu => Nat.le_trans (MO u hu) (hup u hu), R3, (O1.setIn _ _).trans (Out.ofBelow B2) (fun _ _ e => e)⟩, mu_down R.rt R3.rt hup p2 (by simp; omega) (by omega) rfl⟩
end

end Go.Proofs.YtdpacaomkahgfaaGreatDoor

namespace Go.Proofs.YtdpacaomkahgfaaGreatDoor
open Go.RowKit Go.Proofs.YtdpacaomkahgfaaGreatDoor.DagM

set_option maxHeartbeats 8000000 in
set_option maxRecDepth 100000 in
theorem find (NX : NextSpec) : FindSpec := by
  intro w0 w T p gx gf gl gs n r gd gt E V x f lf tk near far tr a h hF hn hm hx hL ha hl ht
  have H := Lib.hid h
  have FT := Lib.hid hF
  have LV := Lib.hid hL
  have HX := Lib.hid hx
  have HT := Lib.hid ht
  have hx8 : ∀ v, v < n → -8192 ≤ x v ∧ x v ≤ 4096 := fun v hv => by have := hx v hv; omega
  have H8 := Lib.hid hx8
  have hlz : 0 < lf a := hl
  have HLA := Lib.hid hlz
  have NXH : Hid NextSpec := Lib.hid (p := NextSpec) (@NX)
  obtain ⟨i0, hi, hz0, hz1', hz2⟩ := info_parts infoS
  clear h hF hL hx ht hx8 hl hlz NX
  go_enter Tryz.func77, Tryz.ntmps77
  go_wp2
  go_loopw [5, 6] (fun wv vv wr => FdR w0 w T p gx gf gl gs n E V x f lf tk r gd gt far tr a wr wv vv) (fun wv _ wr => fdMu E T gt n wr wv)
  case atStart => exact ⟨[], a, tr, rfl, World.ownsRow_nil _ _ _ _, FindI.start LV.out ha HLA.out HT.out, fun _ _ => Nat.le_refl _, H.out, Out.refl _ _⟩
  case round =>
    obtain ⟨W, v, tr1, rfl, hW, hI, hmo, hR, hO⟩ := hrel
    have WR := Lib.hid hW
    have I := Lib.hid hI
    have MO := Lib.hid hmo
    have R := Lib.hid hR
    have O := Lib.hid hO
    have hv := hI.vn
    have hfin := LV.out.fin v hv hI.fv
    have hlen := hI.way.len FT.out
    have hp1 := pot_near hn HX.out LV.out hv hI.fv
    have hp2 := pot_near hn HX.out LV.out ha (by rw [LV.out.src a ha HLA.out]; simp [infD])
    have hWl : W.length ≤ 80000000 := by omega
    have r0 := hR.c0
    have n2 := hR.net.c2
    have l0 := hR.net.rl.cell hv
    obtain ⟨ao, cp, hwv⟩ : ∃ ao cp, u5 = .slice ao W.length cp := by
      rcases hW.2 with ⟨h1, h2⟩ | ⟨_, _, _, h, _⟩
      · exact ⟨none, 0, by rw [h2]; exact h1⟩
      · exact ⟨_, _, h⟩
    subst hwv
    clear hW hI hmo hR hO hlen hp1 hp2
    by_cases hneg : lf v < 0
    · have q1 : decide (0 ≤ lf v) = false := by simpa using hneg
      have hW0 : 0 < W.length := by
        rcases Nat.eq_zero_or_pos W.length with e | e
        · have h1 := I.out.way.fin
          rw [e] at h1
          have h2 : a = v := h1
          subst h2
          have := HLA.out
          omega
        · exact e
      obtain ⟨g, c5, e5, _, _, _⟩ := ownsRow_form WR.out hW0
      simp only [Value.slice.injEq, true_and] at e5
      obtain ⟨rfl, rfl⟩ := e5
      have HN := Lib.hid hneg
      clear hneg
      go_wp2
      go_ret
      exact ⟨tr1, R.out, O.out, I.out.le, I.out.dead, Or.inr ⟨W, v, g, _, rfl, hW0, hWl, WR.out, I.out.way, hv, HN.out⟩⟩
    · have q1 : decide (0 ≤ lf v) = true := by simpa using hneg
      have hl0 : 0 ≤ lf v := by omega
      have L0 := Lib.hid hl0
      clear hneg hl0
      have HFV := Lib.hid (show 0 ≤ (far v).2 ∧ (far v).2 ≤ 4096 by omega)
      clear hfin
      obtain ⟨m, hml⟩ : ∃ m, W.length = m := ⟨_, rfl⟩
      rw [hml] at WR hWl ⊢
      rcases List.eq_nil_or_concat W with hW0 | ⟨W', s0, hW0⟩
      · subst hW0
        obtain rfl : 0 = m := hml
        (try clear hml)
        go_wp2_with (first
          | (go_at_call 103; refine (NXH.out R.out FT.out hn hm H8.out hv HFV.out (I.out.le v hv)).mono ?_; rintro e w1 ⟨t, ht1, hno, hR1, hO1, hres⟩; have R1 := Lib.hid hR1; have O1 := Lib.hid (O.out.trans hO1 (fun _ _ e => e)); have NO := Lib.hid hno; have hz1 : w.heap.size ≤ w1.heap.size := Nat.le_trans O.out.size hO1.size; have HT1 := Lib.hid ht1; have W1 : Hid (RowS w1 w.heap.size (.slice ao 0 cp) []) := Lib.hid (ownsRow_out WR.out hO1 (fun b hb e => by subst e; exact rows_ne WR.out R.out.rt (by decide) hb rfl)); clear hno hR1 hO1 ht1; (rcases hres with ⟨s, he, hs, had⟩ | ⟨he, htl⟩) <;> (first | (have HS := Lib.hid hs; have AD := Lib.hid had; clear hs had; simp only [stpV] at he; subst he) | (have TL := Lib.hid htl; clear htl; simp only [stpV, Int.cast_ofNat_Int, Nat.cast_zero, Int.natCast_zero] at he; subst he) | (have TL := Lib.hid htl; clear htl; simp [stpV] at he; subst he)))
          | (at_builtin; refine wpList_append_fresh rfl (.tmp 28) (.tmp 30) 100 rfl w.heap.size 102 i0 (.agg #[.int .i64 0, .int .i64 0, .int .i64 0, .int .i64 0]) 4 32 Tryz.underlying100 hi hz0 hz1' hz2 rfl (by decide) (.slice ao 0 cp) 0 (([] : List Stp).flatMap encS) rfl ((World.ownsRow.alloc W1.out _).alloc _) ⟨w1.heap.size + 1, 0, none⟩ 1 1 (encS s) rfl rfl (newsS2 w1 _ _ s) (oneS s) (by unfold maxLen; omega) (by omega) (by simp; omega) ?_; intro v5 w5 hown hgrow hfr; have HO := Lib.hid hown; have HG := Lib.hid hgrow; obtain ⟨g5, c5, rfl, _, _, _⟩ := ownsRow_form hown (by omega); have hk2 : w5.cell? ⟨w1.heap.size, 2, none⟩ = some (.int .i64 (s.2.2.1 : Int)) := hgrow.cell (a := ⟨w1.heap.size, 2, none⟩) (by go_simp) (fun e => by have := (World.ownsRow.lt W1.out _ e.symm).2; exact absurd this (Nat.lt_irrefl _)); have hz5 := hgrow.size; simp at hz5; clear hown hgrow hfr))
        · go_roundw
          case rel => exact (fd_push FT.out hn LV.out HX.out ha HLA.out H.out I.out MO.out R.out R1.out O1.out ((World.ownsRow.alloc W1.out _).alloc _) HS.out AD.out HT1.out NO.out (((Below.refl _ _).alloc (Nat.le_refl _) _).alloc (by simp) _) HG.out HO.out).1
          case measure => exact (fd_push FT.out hn LV.out HX.out ha HLA.out H.out I.out MO.out R.out R1.out O1.out ((World.ownsRow.alloc W1.out _).alloc _) HS.out AD.out HT1.out NO.out (((Below.refl _ _).alloc (Nat.le_refl _) _).alloc (by simp) _) HG.out HO.out).2
        · go_ret
          exact fd_nil FT.out I.out MO.out R1.out O1.out TL.out NO.out L0.out ((Below.refl _ _).alloc (Nat.le_refl _) _)
      · rw [List.concat_eq_append] at hW0
        subst hW0
        obtain ⟨k, hk⟩ : ∃ k, W'.length = k := ⟨_, rfl⟩
        have hWk : (W' ++ [s0]).length = k + 1 := by simp [hk]
        obtain rfl : k + 1 = m := hWk.symm.trans hml
        (try clear hml)
        have HK := Lib.hid hk
        have HWK := Lib.hid hWk
        have hs0 : s0 ∈ W' ++ [s0] := by simp
        have hsn := (FT.out.step (I.out.way.mem s0 hs0).1)
        obtain ⟨_, _, hsn, _⟩ := hsn
        have hne := I.out.way.off FT.out s0 hs0
        have NE := Lib.hid hne
        have hq0 := Nat.le_trans (I.out.le s0.2.1 hsn) (stps_len E s0.2.1)
        obtain ⟨q, hq⟩ : ∃ q, tr1 s0.2.1 = q := ⟨_, rfl⟩
        rw [hq] at hq0
        have HQ := Lib.hid hq
        have WF : RowS wr w.heap.size (.slice ao (k + 1) cp) (W' ++ [s0]) := WR.out
        obtain ⟨g, c5, e5, _, _, hcp⟩ := ownsRow_form WF (by rw [hWk]; omega)
        rw [hWk] at hcp
        simp only [Value.slice.injEq] at e5
        obtain ⟨rfl, hjunk, rfl⟩ := e5
        clear hjunk hk hWk hs0 hne hq WF
        go_wp2_with (first
          | (go_at_call 103; refine (NXH.out R.out FT.out hn hm H8.out hv HFV.out (I.out.le v hv)).mono ?_; rintro e w1 ⟨t, ht1, hno, hR1, hO1, hres⟩; have R1 := Lib.hid hR1; have O1 := Lib.hid (O.out.trans hO1 (fun _ _ e => e)); have NO := Lib.hid hno; have hz1 : w.heap.size ≤ w1.heap.size := Nat.le_trans O.out.size hO1.size; have HT1 := Lib.hid ht1; have W1 : Hid (RowS w1 w.heap.size (.slice (some ⟨g, 0, none⟩) (k + 1) cp) (W' ++ [s0])) := Lib.hid (ownsRow_out WR.out hO1 (fun b hb e => by subst e; exact rows_ne WR.out R.out.rt (by decide) hb rfl)); have hkl : k < (W' ++ [s0]).length := (by rw [HWK.out]; omega); have d1 := (RowS.cell W1.out rfl hkl).2.1; rw [show (W' ++ [s0])[k] = s0 from by simp [← HK.out]] at d1; have d2 := (World.ownsRow.lt W1.out g rfl).2; have d3 := hR1.c2; have d4 := hR1.rt.cell hsn; rw [if_neg NE.out, HQ.out] at d4; have d5 := hR1.rt.fr s0.2.1; have d6 := hR1.rl; have d7 := hR1.rt.gl.2; clear hno hR1 hO1 ht1 hkl; (rcases hres with ⟨s, he, hs, had⟩ | ⟨he, htl⟩) <;> (first | (have HS := Lib.hid hs; have AD := Lib.hid had; clear hs had; simp only [stpV] at he; subst he) | (have TL := Lib.hid htl; clear htl; simp only [stpV, Int.cast_ofNat_Int, Nat.cast_zero, Int.natCast_zero] at he; subst he) | (have TL := Lib.hid htl; clear htl; simp [stpV] at he; subst he)))
          | (at_builtin; refine wpList_append_fresh rfl (.tmp 28) (.tmp 30) 100 rfl w.heap.size 102 i0 (.agg #[.int .i64 0, .int .i64 0, .int .i64 0, .int .i64 0]) 4 32 Tryz.underlying100 hi hz0 hz1' hz2 rfl (by decide) (.slice (some ⟨g, 0, none⟩) (k + 1) cp) (k + 1) ((W' ++ [s0]).flatMap encS) rfl ((World.ownsRow.alloc (rowk HWK.out W1.out) _).alloc _) ⟨w1.heap.size + 1, 0, none⟩ 1 1 (encS s) rfl rfl (newsS2 w1 _ _ s) (oneS s) (by unfold maxLen; omega) (by omega) (by simp; omega) ?_; intro v5 w5 hown hgrow hfr; have HO := Lib.hid hown; have HG := Lib.hid hgrow; obtain ⟨g5, c5, rfl, _, _, _⟩ := ownsRow_form hown (by omega); have hk2 : w5.cell? ⟨w1.heap.size, 2, none⟩ = some (.int .i64 (s.2.2.1 : Int)) := hgrow.cell (a := ⟨w1.heap.size, 2, none⟩) (by go_simp) (fun e => by have := (World.ownsRow.lt W1.out _ e.symm).2; exact absurd this (Nat.lt_irrefl _)); have hz5 := hgrow.size; simp at hz5; clear hown hgrow hfr))
        · go_roundw
          case rel => exact (fd_push (cp := cp) (ao := some ⟨g, 0, none⟩) FT.out hn LV.out HX.out ha HLA.out H.out I.out MO.out R.out R1.out O1.out (rowk3 HWK.out ((World.ownsRow.alloc W1.out _).alloc _)) HS.out AD.out HT1.out NO.out (((Below.refl _ _).alloc (Nat.le_refl _) _).alloc (by simp) _) HG.out (by rw [HWK.out]; exact HO.out)).1
          case measure => exact (mu_eq (fd_push (cp := cp) (ao := some ⟨g, 0, none⟩) FT.out hn LV.out HX.out ha HLA.out H.out I.out MO.out R.out R1.out O1.out (rowk3 HWK.out ((World.ownsRow.alloc W1.out _).alloc _)) HS.out AD.out HT1.out NO.out (((Below.refl _ _).alloc (Nat.le_refl _) _).alloc (by simp) _) HG.out (by rw [HWK.out]; exact HO.out)).2 HWK.out)
        · have TL2 := TL.out
          subst TL2
          go_roundw
          case rel => exact (fd_pop FT.out hn LV.out H.out I.out MO.out R.out R1.out O1.out W1.out HK.out.symm L0.out NO.out HQ.out.symm ((Below.refl _ _).alloc (Nat.le_refl _) _)).1
          case measure => exact (fd_pop FT.out hn LV.out H.out I.out MO.out R.out R1.out O1.out W1.out HK.out.symm L0.out NO.out HQ.out.symm ((Below.refl _ _).alloc (Nat.le_refl _) _)).2
end Go.Proofs.YtdpacaomkahgfaaGreatDoor

namespace Go.Proofs.YtdpacaomkahgfaaGreatDoor
open Go.RowKit Go.Proofs.YtdpacaomkahgfaaGreatDoor.DagM

/-- The least of much and what flows along the first k steps that go back. -/
def leastB (f : Nat → Int) (c : Int) : List Stp → Int
  | [] => c
  | s :: l => leastB f (if 0 < s.2.2.2 then min c (f s.1) else c) l
theorem leastB_snoc (f : Nat → Int) (s : Stp) : ∀ (l : List Stp) (c : Int), leastB f c (l ++ [s]) = if 0 < s.2.2.2 then min (leastB f c l) (f s.1) else leastB f c l
  | [], _ => rfl
  | a :: l, c => by
    show leastB f _ (l ++ [s]) = _
    rw [leastB_snoc f s l]
    rfl
theorem leastB_le (f : Nat → Int) : ∀ (l : List Stp) (c : Int), leastB f c l ≤ c ∧ ∀ s ∈ l, 0 < s.2.2.2 → leastB f c l ≤ f s.1
  | [], c => ⟨Int.le_refl _, by simp⟩
  | a :: l, c => by
    have h := leastB_le f l (if 0 < a.2.2.2 then min c (f a.1) else c)
    show leastB f _ l ≤ c ∧ ∀ s ∈ a :: l, 0 < s.2.2.2 → leastB f (if 0 < a.2.2.2 then min c (f a.1) else c) l ≤ f s.1
    refine ⟨Int.le_trans h.1 ?_, fun s hs hb => ?_⟩
    · split <;> omega
    · rcases List.mem_cons.1 hs with rfl | hs
      · refine Int.le_trans h.1 ?_
        rw [if_pos hb]; omega
      · exact h.2 s hs hb
theorem leastB_pos (f : Nat → Int) : ∀ (l : List Stp) (c : Int), 0 < c → (∀ s ∈ l, 0 < s.2.2.2 → 0 < f s.1) → 0 < leastB f c l
  | [], c, h, _ => h
  | a :: l, c, h, k => by
    refine leastB_pos f l _ ?_ (fun s hs => k s (by simp [hs]))
    have := k a (by simp)
    split
    · have := this ‹_›; omega
    · exact h

def TkA (w : World) (W : List Stp) (f : Nat → Int) (c : Int) (wr : World) (iv mv : Value) : Prop :=
  ∃ k : Nat, iv = .int .i64 k ∧ k ≤ W.length ∧ mv = .int .i64 (leastB f c (W.take k)) ∧ Below w.heap.size w wr
def TkB (w0 w : World) (T p gx gf gl gs n : Nat) (E : EndL) (V : Nat → Value) (x f0 lf : Nat → Int) (tk : Int) (a : Nat) (W : List Stp) (much : Int) (wr : World) (iv : Value) : Prop :=
  ∃ (k : Nat) (f : Nat → Int), iv = .int .i64 k ∧ k ≤ W.length ∧ Took E n x f0 f much a W k ∧ NetAt w0 wr T p gx gf gl gs n E.length V (stps E) x f lf tk ∧ Out (fun b => b = gf) w wr
/-- A step in a box of the call's own. -/
structure BoxS (w : World) (b : Nat) (s : Stp) : Prop where
  lt : b < w.heap.size
  c0 : w.cell? ⟨b, 0, none⟩ = some (.int .i64 (s.1 : Int))
  c3 : w.cell? ⟨b, 3, none⟩ = some (.int .i64 (s.2.2.2 : Int))
theorem BoxS.new (w : World) (s : Stp) (T : TypeId) : BoxS (w.alloc (.cells #[.int .i64 (s.1 : Int), .int .i64 (s.2.1 : Int), .int .i64 (s.2.2.1 : Int), .int .i64 (s.2.2.2 : Int)] T)) w.heap.size s := ⟨by simp, by go_simp, by go_simp⟩
theorem take_step {W : List Stp} {k : Nat} (f : Nat → Int) (c : Int) (hk : k < W.length) : leastB f c (W.take (k + 1)) = if 0 < W[k].2.2.2 then min (leastB f c (W.take k)) (f W[k].1) else leastB f c (W.take k) := by
  rw [List.take_succ_eq_append_getElem hk, leastB_snoc]
/-- What take leaves. -/
def Taken (w0 w : World) (T p gx gf gl gs n : Nat) (E : EndL) (V : Nat → Value) (x f0 lf : Nat → Int) (tk : Int) (a b : Nat) (W : List Stp) (e : Ending) (w' : World) : Prop :=
  ∃ (much : Int) (f : Nat → Int), e = .returned (.tuple #[]) ∧ 0 < much ∧ much ≤ lf a ∧ much ≤ - lf b ∧ Took E n x f0 f much a W W.length ∧
    NetAt w0 w' T p gx gf gl gs n E.length V (stps E) x f (fun v => if v = b then lf b + much else if v = a then lf a - much else lf v) (tk + 1) ∧ Out (fun c => c = gf ∨ c = gl ∨ c = p) w w'

set_option maxHeartbeats 8000000 in
set_option maxRecDepth 100000 in
theorem take {w0 w : World} {T p gx gf gl gs n g cap B : Nat} {E : EndL} {V : Nat → Value} {x f lf : Nat → Int} {tk : Int} {far : Nat → Dst} {tr : Nat → Nat} {a b : Nat} {W : List Stp}
    (h : NetAt w0 w T p gx gf gl gs n E.length V (stps E) x f lf tk) (hF : Fits E n x f) (hfb : ∀ i, i < E.length → 0 ≤ f i ∧ f i ≤ 100000000000000) (hlb : ∀ v, v < n → -100000000000000 ≤ lf v ∧ lf v ≤ 100000000000000) (ht : 0 ≤ tk ∧ tk ≤ 100000000000000)
    (hR : RowS w B (.slice (some ⟨g, 0, none⟩) W.length cap) W) (hW : DagM.Way E n x f far tr a W b) (h0 : 0 < W.length) (h1 : W.length ≤ 80000000) (hb : b < n) (hla : 0 < lf a) (hlb2 : lf b < 0) :
    Calls Tryz.prog 78 #[.pointer (some ⟨p, 0, none⟩), .slice (some ⟨g, 0, none⟩) W.length cap] w (Taken w0 w T p gx gf gl gs n E V x f lf tk a b W) := by
  have H := Lib.hid h
  have FT := Lib.hid hF
  have HW := Lib.hid hW
  have HR := Lib.hid hR
  have HFB := Lib.hid hfb
  have HLB := Lib.hid hlb
  obtain ⟨k, hk⟩ : ∃ k, W.length = k + 1 := ⟨W.length - 1, by omega⟩
  have hgl := (World.ownsRow.lt hR g rfl).2
  have f0 := (RowS.cell hR rfl (j := 0) (by omega)).2.1
  have f1 := (RowS.cell hR rfl (j := k) (by omega)).2.2.1
  have hfa : W[0].2.1 = a := hW.lnk 0 h0
  have hfb2 : W[k].2.2.1 = b := by
    have h2 := hW.fin
    rw [hk, nodeAt_succ, List.getD_eq_getElem?_getD, List.getElem?_eq_getElem (by omega)] at h2
    exact h2
  rw [hfa] at f0
  rw [hfb2] at f1
  have han : a < n := by
    have h2 := hW.mem W[0] (List.getElem_mem h0)
    have h3 := (hF.step h2.1).2.2.1
    rw [hfa] at h3
    exact h3
  have n2 := h.c2
  have la := h.rl.cell han
  have lb := h.rl.cell hb
  have ba := hlb a han
  have bb := hlb b hb
  have hpl := h.pl
  have hll := h.rl.gl.2
  have WK := Lib.hid hk
  rw [hk]
  (try rw [Nat.zero_mul, Nat.zero_add] at f0)
  have w1 : IntKind.i64.wrap (-(lf b)) = -(lf b) := IntWalk.i64_in _ (by omega)
  have hc0 : 0 < min (lf a) (-(lf b)) := by omega
  have hc1 : min (lf a) (-(lf b)) ≤ lf a ∧ min (lf a) (-(lf b)) ≤ - lf b := by omega
  have C0 := Lib.hid hc0
  have C1 := Lib.hid hc1
  have hk8 : k ≤ 80000000 := by omega
  clear h hF hW hR hfb hlb hfa hfb2 hk hc0 hc1
  go_enter Tryz.func78, Tryz.ntmps78
  go_wp2
  go_quiet (fail)
  go_wp2
  go_quiet (fail)
  go_wp2
  clear f0 f1 n2 la lb w1
  obtain ⟨c0, hcc⟩ : ∃ c, min (lf a) (-(lf b)) = c := ⟨_, rfl⟩
  have CC := Lib.hid hcc
  rw [hcc] at C0 C1 ⊢
  clear hcc
  go_loopw [40, 6] (fun iv mv wr => TkA w W f c0 wr iv mv) (fun iv _ _ => W.length - (intOf iv).toNat)
  case atStart => exact ⟨0, rfl, by omega, rfl, belowN (Below.refl _ _) _⟩
  case round =>
    obtain ⟨j, rfl, hj, rfl, hB⟩ := hrel
    have B := Lib.hid hB
    have hz := hB.size
    clear hB
    by_cases hlt : j < k + 1
    · have hjl : j < W.length := by rw [WK.out]; exact hlt
      have hc := RowS.cell (ownsRow_out (S := fun _ => False) HR.out (Out.ofBelow B.out) (fun _ _ e => e) : RowS wr _ _ W) rfl hjl
      have hst := take_step f c0 hjl
      have hm2 := HW.out.mem W[j] (List.getElem_mem hjl)
      have hs1 := (FT.out.step hm2.1).1
      have hle := (leastB_le f (W.take j) c0).1
      have hps := leastB_pos f (W.take j) c0 C0.out (fun s hs hb3 => by
        have h5 := (adm_iff.1 (HW.out.mem s (List.mem_of_mem_take hs)).2).1
        simp only [opn, Bool.or_eq_true, decide_eq_true_eq] at h5
        omega)
      generalize W[j] = s at *
      have ST := Lib.hid hst
      obtain ⟨d0, d1, d2, d3⟩ := hc
      obtain ⟨y, hy⟩ : ∃ y, leastB f c0 (W.take j) = y := ⟨_, rfl⟩
      rw [hy] at hle hps ⊢
      have HY := Lib.hid hy
      have hgr : g < wr.heap.size := by omega
      clear hst hm2 hy
      by_cases hbk : 0 < s.2.2.2
      · have t1 : decide (0 < s.2.2.2) = true := by simpa using hbk
        have HBK := Lib.hid hbk
        clear hbk
        go_wp2
        generalize hwa : World.alloc wr _ = wa
        have hBx : BoxS wa wr.heap.size s := by rw [← hwa]; exact BoxS.new wr s _
        have hNA : NetAt w0 wa T p gx gf gl gs n E.length V (stps E) x f lf tk := by rw [← hwa]; exact (H.out.quiet B.out).quiet ((Below.refl _ _).alloc (Nat.le_refl _) _)
        have BA : Hid (Below w.heap.size w wa) := Lib.hid (by rw [← hwa]; exact B.out.trans ((Below.refl _ _).alloc hz _))
        have x0 := hBx.c0
        have x1 := hNA.c1
        have x2 := hNA.rf.cell hs1
        have x3 := hNA.pl
        have x4 := hNA.rf.gl.2
        have x5 := hBx.lt
        clear hwa hBx hNA d0 d1 d2 d3
        go_quiet (fail)
        go_wp2
        go_roundw
        case rel => exact ⟨j + 1, by go_num, by rw [WK.out]; omega, by rw [ST.out, if_pos HBK.out, HY.out], belowN BA.out _⟩
        case measure => simp [intOf]; omega
      · have t1 : decide (0 < s.2.2.2) = false := by simpa using hbk
        have HBK := Lib.hid hbk
        clear hbk
        go_wp2
        go_roundw
        case rel => exact ⟨j + 1, by go_num, by rw [WK.out]; omega, by rw [ST.out, if_neg HBK.out, HY.out], B.out.trans ((Below.refl _ _).alloc hz _)⟩
        case measure => simp [intOf]; omega
    · have hjk : j = W.length := by have := WK.out; omega
      have hjW : W.take j = W := by rw [hjk, List.take_length]
      have tf : decide ((j : Int) < (k : Int) + 1) = false := by simp; omega
      obtain ⟨y, hy⟩ : ∃ y, leastB f c0 W = y := ⟨_, rfl⟩
      rw [hjW, hy]
      have hpos := leastB_pos f W c0 C0.out (fun s hs hb3 => by
        have h5 := (adm_iff.1 (HW.out.mem s hs).2).1
        simp only [opn, Bool.or_eq_true, decide_eq_true_eq] at h5
        omega)
      have hley := leastB_le f W c0
      rw [hy] at hpos hley
      have PY := Lib.hid hpos
      have LY := Lib.hid hley
      have hyb : y ≤ 100000000000000 := by have := C1.out.1; have := hley.1; omega
      have N1 := Lib.hid (H.out.quiet B.out)
      clear hjW hy hlt hj hley hjk
      go_wp2
      obtain ⟨wz, hwz⟩ : ∃ W, W = wr := ⟨_, rfl⟩
      subst hwz
      go_loopw [60] (fun iv wr2 => TkB w0 w T p gx gf gl gs n E V x f lf tk a W y wr2 iv) (fun iv _ => W.length - (intOf iv).toNat)
      case atStart => exact ⟨0, f, rfl, by omega, Took.start FT.out (Int.le_of_lt PY.out), N1.out, Out.ofBelow B.out⟩
      case round =>
        obtain ⟨j2, f2, rfl, hj2, hT2, hN2, hO2⟩ := hrel
        have T2 := Lib.hid hT2
        have N2 := Lib.hid hN2
        have O2 := Lib.hid hO2
        clear hT2 hN2 hO2
        by_cases hlt : j2 < k + 1
        · have hjl : j2 < W.length := by rw [WK.out]; exact hlt
          have hc := RowS.cell (ownsRow_out HR.out O2.out (fun b hb e => by subst e; exact rows_ne HR.out H.out.rf (by decide) hb rfl) : RowS wr _ _ W) rfl hjl
          have T3 := T2.out.step FT.out HW.out PY.out (fun s hs hb3 => LY.out.2 s hs (by omega)) hjl
          have hm2 := HW.out.mem W[j2] (List.getElem_mem hjl)
          have hs1 := (FT.out.step hm2.1).1
          generalize W[j2] = s at *
          obtain ⟨d0, d1, d2, d3⟩ := hc
          have e1 := T2.out.up s.1 hs1
          have e2 := T2.out.fits.nn s.1 hs1
          have e3 := HFB.out s.1 hs1
          have hy0 := PY.out
          have hgr : g < wr.heap.size := Nat.lt_of_lt_of_le hgl O2.out.size
          clear hm2
          by_cases hbk : 0 < s.2.2.2
          · have t1 : decide (0 < s.2.2.2) = true := by simpa using hbk
            have hb0 : ¬ s.2.2.2 = 0 := by omega
            rw [if_neg hb0] at T3
            have T4 := Lib.hid T3
            clear hbk hb0 T3
            go_wp2
            generalize hwa : World.alloc wr _ = wa
            have hBx : BoxS wa wr.heap.size s := by rw [← hwa]; exact BoxS.new wr s _
            have NA : Hid (NetAt w0 wa T p gx gf gl gs n E.length V (stps E) x f2 lf tk) := Lib.hid (by rw [← hwa]; exact N2.out.quiet ((Below.refl _ _).alloc (Nat.le_refl _) _))
            have OA : Hid (Out (fun b => b = gf) w wa) := Lib.hid (by rw [← hwa]; exact O2.out.alloc _)
            have x0 := hBx.c0
            have x1 := NA.out.c1
            have x2 := NA.out.rf.cell hs1
            have x3 := NA.out.pl
            have x4 := NA.out.rf.gl.2
            have x5 := hBx.lt
            have x6 := NA.out.rf.fr s.1
            (try simp only at x2)
            have q1 : IntKind.i64.wrap (f2 s.1 - y) = f2 s.1 - y := IntWalk.i64_in _ (by omega)
            clear hwa hBx d0 d1 d2 d3
            go_still_tail 11, (by kernel_rfl)
            change wpList _ _ _ _ _ wa.drew
            go_wp2
            go_roundw
            case rel => exact ⟨j2 + 1, _, by go_num, by rw [WK.out]; omega, T4.out, (NA.out.turnF s.1 (f2 s.1 - y)).quiet (Below.refl _ _).drew, (OA.out.setIn _ _).drew⟩
            case measure => simp [intOf]; omega
          · have t1 : decide (0 < s.2.2.2) = false := by simpa using hbk
            have hb0 : s.2.2.2 = 0 := by omega
            rw [if_pos hb0] at T3
            have T4 := Lib.hid T3
            clear hbk hb0 T3
            go_wp2
            generalize hwa : World.alloc wr _ = wa
            have hBx : BoxS wa wr.heap.size s := by rw [← hwa]; exact BoxS.new wr s _
            have NA : Hid (NetAt w0 wa T p gx gf gl gs n E.length V (stps E) x f2 lf tk) := Lib.hid (by rw [← hwa]; exact N2.out.quiet ((Below.refl _ _).alloc (Nat.le_refl _) _))
            have OA : Hid (Out (fun b => b = gf) w wa) := Lib.hid (by rw [← hwa]; exact O2.out.alloc _)
            have x0 := hBx.c0
            have x1 := NA.out.c1
            have x2 := NA.out.rf.cell hs1
            have x3 := NA.out.pl
            have x4 := NA.out.rf.gl.2
            have x5 := hBx.lt
            have x6 := NA.out.rf.fr s.1
            (try simp only at x2)
            have q1 : IntKind.i64.wrap (f2 s.1 + y) = f2 s.1 + y := IntWalk.i64_in _ (by omega)
            clear hwa hBx d0 d1 d2 d3
            go_still_tail 11, (by kernel_rfl)
            change wpList _ _ _ _ _ wa.drew
            go_wp2
            go_roundw
            case rel => exact ⟨j2 + 1, _, by go_num, by rw [WK.out]; omega, T4.out, (NA.out.turnF s.1 (f2 s.1 + y)).quiet (Below.refl _ _).drew, (OA.out.setIn _ _).drew⟩
            case measure => simp [intOf]; omega
        · have hj3 : j2 = W.length := by have := WK.out; omega
          have T3 : Took E n x f f2 y a W W.length := by rw [← hj3]; exact T2.out
          have tf3 : decide ((j2 : Int) < (k : Int) + 1) = false := by simp; omega
          have T4 := Lib.hid T3
          have x0 := N2.out.c2
          have x1 := N2.out.c4
          have x2 := N2.out.rl.cell han
          have x3 := N2.out.rl.cell hb
          have x4 := N2.out.rl.fr a
          have x5 := N2.out.rl.fr b
          have x6 := N2.out.fr 4
          have x7 := N2.out.pl
          have x8 := N2.out.rl.gl.2
          have hab : a ≠ b := fun e => by subst e; omega
          have hgp : gl ≠ p := fun e => blk_ne N2.out.rl N2.out.blk (by decide) (by rw [e]; rfl)
          have hy0 := PY.out
          have q1 : IntKind.i64.wrap (lf a - y) = lf a - y := IntWalk.i64_in _ (by omega)
          have q2 : IntKind.i64.wrap (lf b + y) = lf b + y := IntWalk.i64_in _ (by omega)
          have q3 : IntKind.i64.wrap (tk + 1) = tk + 1 := IntWalk.i64_in _ (by omega)
          clear T3 hlt hj2 hj3
          go_wp2
          go_end0
          refine ⟨y, f2, rfl, PY.out, Int.le_trans LY.out.1 C1.out.1, Int.le_trans LY.out.1 C1.out.2, T4.out, ((N2.out.turnL a (lf a - y)).turnL b (lf b + y)).count (tk + 1), ?_⟩
          exact Out.setCell (S := fun c => c = gf ∨ c = gl ∨ c = p) (Out.setCell (S := fun c => c = gf ∨ c = gl ∨ c = p) (Out.setCell (S := fun c => c = gf ∨ c = gl ∨ c = p) (O2.out.mono (fun _ _ e => Or.inl e)) (p := ⟨gl, a, none⟩) (fun _ => Or.inr (Or.inl rfl)) _) (p := ⟨gl, b, none⟩) (fun _ => Or.inr (Or.inl rfl)) _) (p := ⟨p, 4, none⟩) (fun _ => Or.inr (Or.inr rfl)) _
end Go.Proofs.YtdpacaomkahgfaaGreatDoor

namespace Go.Proofs.YtdpacaomkahgfaaGreatDoor
open Go.RowKit Go.Proofs.YtdpacaomkahgfaaGreatDoor.DagM

/-- How many ways were taken, read off the world. -/
noncomputable def tkOf (w : World) (p : Nat) : Int := Classical.epsilon fun t : Int => w.cell? ⟨p, 4, none⟩ = some (.int .i64 t)
theorem tkOf_eq {w : World} {p : Nat} {t : Int} (h : w.cell? ⟨p, 4, none⟩ = some (.int .i64 t)) : tkOf w p = t := by
  have h2 : w.cell? ⟨p, 4, none⟩ = some (.int .i64 (tkOf w p)) := Classical.epsilon_spec (p := fun t : Int => w.cell? ⟨p, 4, none⟩ = some (.int .i64 t)) ⟨t, h⟩
  rw [h] at h2
  simp only [Option.some.injEq, Value.int.injEq, true_and] at h2
  exact h2.symm
/-- Where takeWays stands: nodes below k are done. -/
structure TwSt (w0 w : World) (T p gx gf gl gs n : Nat) (E : EndL) (V : Nat → Value) (wt x0 x f0 lf0 : Nat → Int) (tot D tk0 near : Int) (r gd gt : Nat) (far : Nat → Dst) (k : Nat) (wr : World) (f lf : Nat → Int) (tk : Int) (tr : Nat → Nat) : Prop where
  rnd : RoundAt w0 wr T p gx gf gl gs n E V x f lf tk r gd gt far tr
  net : Net E n wt x0 tot x f lf D tk
  le : ∀ u, u < n → tr u ≤ (stps E u).length
  lev : Lev E n x f lf far near
  out : Out (fun b => b = gf ∨ b = gl ∨ b = p) w wr
  prog : tk0 < tk ∨ (tk = tk0 ∧ f = f0 ∧ lf = lf0 ∧ DeadI E n x f lf far tr ∧ ∀ u, u < k → u < n → 0 < lf u → deadN E lf tr u)
def TwR (w0 w : World) (T p gx gf gl gs n : Nat) (E : EndL) (V : Nat → Value) (wt x0 x f0 lf0 : Nat → Int) (tot D tk0 near : Int) (r gd gt : Nat) (far : Nat → Dst) (wr : World) (iv : Value) : Prop :=
  ∃ (k : Nat) (f lf : Nat → Int) (tk : Int) (tr : Nat → Nat), iv = .int .i64 k ∧ k ≤ n ∧ TwSt w0 w T p gx gf gl gs n E V wt x0 x f0 lf0 tot D tk0 near r gd gt far k wr f lf tk tr
def TwI (w0 w : World) (T p gx gf gl gs n : Nat) (E : EndL) (V : Nat → Value) (wt x0 x f0 lf0 : Nat → Int) (tot D tk0 near : Int) (r gd gt : Nat) (far : Nat → Dst) (k : Nat) (wr : World) : Prop :=
  ∃ (f lf : Nat → Int) (tk : Int) (tr : Nat → Nat), TwSt w0 w T p gx gf gl gs n E V wt x0 x f0 lf0 tot D tk0 near r gd gt far k wr f lf tk tr
/-- What takeWays leaves. -/
def Tookem (w0 w : World) (T p gx gf gl gs n : Nat) (E : EndL) (V : Nat → Value) (wt x0 x : Nat → Int) (tot D tk0 : Int) (e : Ending) (w' : World) : Prop :=
  ∃ (f lf : Nat → Int) (tk : Int), e = .returned (.tuple #[]) ∧ tk0 < tk ∧ NetAt w0 w' T p gx gf gl gs n E.length V (stps E) x f lf tk ∧ Net E n wt x0 tot x f lf D tk ∧ Out (fun b => b = gf ∨ b = gl ∨ b = p) w w'
section
variable {w0 w wr w1 w2 : World} {T p gx gf gl gs n r gd gt : Nat} {E : EndL} {V : Nat → Value} {wt x0 x f0 lf0 f lf : Nat → Int} {tot D tk0 tk near : Int} {far : Nat → Dst} {tr tr' : Nat → Nat} {k : Nat}
/-- Node k leads nowhere. -/
theorem TwSt.nil (h : TwSt w0 w T p gx gf gl gs n E V wt x0 x f0 lf0 tot D tk0 near r gd gt far k wr f lf tk tr) (hg : w.heap.size ≤ gt) (hR : RoundAt w0 w1 T p gx gf gl gs n E V x f lf tk r gd gt far tr') (hO : Out (fun b => b = gt) wr w1) (hle : ∀ u, u < n → tr' u ≤ (stps E u).length) (hd : DeadI E n x f lf far tr → DeadI E n x f lf far tr') (hup : ∀ u, u < n → tr u ≤ tr' u) (hk : deadN E lf tr' k) :
    TwSt w0 w T p gx gf gl gs n E V wt x0 x f0 lf0 tot D tk0 near r gd gt far (k + 1) w1 f lf tk tr' := by
  refine ⟨hR, h.net, hle, h.lev, h.out.trans hO (fun i hi e => by omega), ?_⟩
  rcases h.prog with e | ⟨e1, e2, e3, e4, e5⟩
  · exact Or.inl e
  · refine Or.inr ⟨e1, e2, e3, hd e4, fun u hu hun hl => ?_⟩
    by_cases q : u = k
    · subst q; exact hk
    · have h1 := e5 u (by omega) hun hl
      have h2 := hup u hun
      have h3 := hle u hun
      have h4 := h1.1
      exact ⟨by omega, h1.2⟩
/-- Node k has nothing left. -/
theorem TwSt.skip (h : TwSt w0 w T p gx gf gl gs n E V wt x0 x f0 lf0 tot D tk0 near r gd gt far k wr f lf tk tr) (hl : ¬ 0 < lf k) : TwSt w0 w T p gx gf gl gs n E V wt x0 x f0 lf0 tot D tk0 near r gd gt far (k + 1) wr f lf tk tr := by
  refine ⟨h.rnd, h.net, h.le, h.lev, h.out, ?_⟩
  rcases h.prog with e | ⟨e1, e2, e3, e4, e5⟩
  · exact Or.inl e
  · refine Or.inr ⟨e1, e2, e3, e4, fun u hu hun hlu => ?_⟩
    by_cases q : u = k
    · subst q; exact absurd hlu hl
    · exact e5 u (by omega) hun hlu
/-- A way was taken. -/
theorem TwSt.took {a b : Nat} {W : List Stp} {much : Int} {f' : Nat → Int} (h : TwSt w0 w T p gx gf gl gs n E V wt x0 x f0 lf0 tot D tk0 near r gd gt far k wr f lf tk tr) (hg : w.heap.size ≤ gt) (hR : RoundAt w0 w1 T p gx gf gl gs n E V x f lf tk r gd gt far tr') (hO : Out (fun b => b = gt) wr w1) (hle : ∀ u, u < n → tr' u ≤ (stps E u).length)
    (hW : DagM.Way E n x f far tr' a W b) (ha : a < n) (hb : b < n) (hm : 0 < much) (m1 : much ≤ lf a) (m2 : much ≤ - lf b) (hT : Took E n x f f' much a W W.length)
    (hN : NetAt w0 w2 T p gx gf gl gs n E.length V (stps E) x f' (fun v => if v = b then lf b + much else if v = a then lf a - much else lf v) (tk + 1)) (hO2 : Out (fun c => c = gf ∨ c = gl ∨ c = p) w1 w2) :
    TwSt w0 w T p gx gf gl gs n E V wt x0 x f0 lf0 tot D tk0 near r gd gt far k w2 f' (fun v => if v = b then lf b + much else if v = a then lf a - much else lf v) (tk + 1) tr' := by
  have hn2 := (h.net.take hT hW.fin ha hb hm m1 m2).1
  have hS : ∀ c, (c = gf ∨ c = gl ∨ c = p) → c < T := fun c e => by
    rcases e with rfl | rfl | rfl
    · exact hR.net.fT
    · exact hR.net.lT
    · exact hR.net.pT
  refine ⟨hR.net2 hO2 hS hN, hn2, hle, ⟨h.lev.fin, fun v hv hl => ?_⟩, (h.out.trans hO (fun i hi e => by omega)).trans hO2 (fun _ _ e => e), Or.inl ?_⟩
  · (try simp only at hl)
    by_cases e : v = b
    · subst e; rw [if_pos rfl] at hl; omega
    · by_cases e2 : v = a
      · subst e2; exact h.lev.src v hv (by omega)
      · rw [if_neg e, if_neg e2] at hl; exact h.lev.src v hv hl
  · rcases h.prog with e | ⟨e1, _⟩ <;> omega
theorem tw_less (h : TwSt w0 w T p gx gf gl gs n E V wt x0 x f0 lf0 tot D tk0 near r gd gt far k wr f lf tk tr) {f' lf' : Nat → Int} (h' : TwSt w0 w T p gx gf gl gs n E V wt x0 x f0 lf0 tot D tk0 near r gd gt far k w2 f' lf' (tk + 1) tr') :
    (tot - tkOf w2 p).toNat < (tot - tkOf wr p).toNat := by
  rw [tkOf_eq h.rnd.net.c4, tkOf_eq h'.rnd.net.c4]
  have h1 := h'.net.tk1
  have h2 := h'.net.pos0
  omega
theorem tw_start (H : NetAt w0 w T p gx gf gl gs n E.length V (stps E) x f lf tk) (HD : RowD w T gd n far) (NT : Net E n wt x0 tot x f lf D tk) (LV : Lev E n x f lf far near) (hn : n ≤ 4096) :
    TwSt w0 w T p gx gf gl gs n E V wt x0 x f lf tot D tk near (w.heap.size + 1) gd w.heap.size far 0 ((w.alloc (.cells (madeCells #[.int .i64 0] n) 3)).alloc (.cells #[.pointer (some ⟨p, 0, none⟩), .slice (some ⟨gd, 0, none⟩) n n, .slice (some ⟨w.heap.size, 0, none⟩) n n] 134)) f lf tk (fun _ => 0) := by
  have b2 : Below w.heap.size w ((w.alloc (.cells (madeCells #[.int .i64 0] n) 3)).alloc (.cells #[.pointer (some ⟨p, 0, none⟩), .slice (some ⟨gd, 0, none⟩) n n, .slice (some ⟨w.heap.size, 0, none⟩) n n] 134)) := ((Below.refl _ _).alloc (Nat.le_refl _) _).alloc (by simp) _
  have h1 : (w.alloc (.cells (madeCells #[.int .i64 0] n) 3)).heap[w.heap.size]? = some (.cells (madeCells #[.int .i64 0] n) 3 (0, 0)) := heap_alloc_new w _
  have ht := H.top
  refine ⟨⟨H.quiet b2, ?_, by omega, ownsRow_out (S := fun _ => False) HD (Out.ofBelow b2) (fun _ _ e => e), ?_⟩, NT, fun u _ => Nat.zero_le _, LV, Out.ofBelow b2, Or.inr ⟨rfl, rfl, rfl, fun v _ j hj => absurd hj (by simp), fun u hu => absurd hu (by simp)⟩⟩
  · have := heap_alloc_new (w.alloc (.cells (madeCells #[.int .i64 0] n) 3)) (.cells #[.pointer (some ⟨p, 0, none⟩), .slice (some ⟨gd, 0, none⟩) n n, .slice (some ⟨w.heap.size, 0, none⟩) n n] 134)
    simpa using this
  · refine RowI.made ht ?_ (by omega)
    rw [Below.heap_alloc _ _ _ (by simp)]
    exact h1
end

set_option maxHeartbeats 8000000 in
set_option maxRecDepth 100000 in
theorem takeWays (FD : FindSpec) {w0 w : World} {T p gx gf gl gs n gd : Nat} {E : EndL} {V : Nat → Value} {wt x0 x f lf : Nat → Int} {tot D tk near : Int} {far : Nat → Dst}
    (h : NetAt w0 w T p gx gf gl gs n E.length V (stps E) x f lf tk) (hD : RowD w T gd n far) (hN : Net E n wt x0 tot x f lf D tk) (g : Dag E n wt x0 tot) (hL : Lev E n x f lf far near) (hP : LevP E n x f lf far near) (hnr : near < 9223372036854775807) :
    Calls Tryz.prog 52 #[.pointer (some ⟨p, 0, none⟩), .slice (some ⟨gd, 0, none⟩) n n] w (Tookem w0 w T p gx gf gl gs n E V wt x0 x tot D tk) := by
  have H := Lib.hid h
  have HD := Lib.hid hD
  have NT := Lib.hid hN
  have G := Lib.hid g
  have LV := Lib.hid hL
  have LP := Lib.hid hP
  have FDH : Hid FindSpec := Lib.hid (p := FindSpec) (@FD)
  have hn : n ≤ 4096 := g.n1
  have hmk := mkInts n hn
  have n2 := h.c2
  have hpl := h.pl
  have hTw := h.top
  have hgd := hD.gl
  have NR := Lib.hid hnr
  clear h hD hN g hL hP FD hnr
  go_enter Tryz.func52, Tryz.ntmps52
  go_wp2
  clear hmk
  go_loopw [18] (fun iv wr => TwR w0 w T p gx gf gl gs n E V wt x0 x f lf tot D tk near (w.heap.size + 1) gd w.heap.size far wr iv) (fun iv _ => n - (intOf iv).toNat)
  case atStart => exact ⟨0, f, lf, tk, fun _ => 0, rfl, by omega, tw_start H.out HD.out NT.out LV.out hn⟩
  case round =>
    obtain ⟨k, f1, lf1, tk1, tr1, rfl, hk, hS⟩ := hrel
    have S1 := Lib.hid hS
    clear hS
    by_cases hlt : k < n
    · have tf : decide (k < n) = true := by simpa using hlt
      go_wp2
      go_loopw [6] (fun _ wr2 => TwI w0 w T p gx gf gl gs n E V wt x0 x f lf tot D tk near (w.heap.size + 1) gd w.heap.size far k wr2) (fun _ wr2 => (tot - tkOf wr2 p).toNat)
      case atStart => exact ⟨f1, lf1, tk1, tr1, S1.out⟩
      case round =>
        obtain ⟨f2, lf2, tk2, tr2, hS⟩ := hrel
        have S2 := Lib.hid hS
        have x0' := hS.rnd.net.c2
        have x1 := hS.rnd.net.rl.cell hlt
        have x2 := hS.rnd.net.pl
        have x3 := hS.rnd.net.rl.gl.2
        clear hS S1
        by_cases hl : 0 < lf2 k
        · have t1 : decide (0 < lf2 k) = true := by simpa using hl
          have HL := Lib.hid hl
          clear hl
          go_wp2_with (first
            | (go_at_call 77; refine (FDH.out S2.out.rnd S2.out.net.fits hn G.out.m1 (fun v hv => S2.out.net.x2n G.out hv) S2.out.lev hlt HL.out S2.out.le).mono ?_; rintro e w1 ⟨tr3, hR1, hO1, hle, hdd, hres⟩; have R1 := Lib.hid hR1; have O1 := Lib.hid hO1; have LE := Lib.hid hle; have DD := Lib.hid hdd; clear hR1 hO1 hle hdd; (rcases hres with ⟨rfl, hup, hdead⟩ | ⟨W, b, g, cap, rfl, hW0, hWl, hRow, hWay, hbn, hlb⟩) <;> (first | (have UP := Lib.hid hup; have DE := Lib.hid hdead; clear hup hdead) | (have RW := Lib.hid hRow; have WY := Lib.hid hWay; have HB := Lib.hid hlb; have q0 : ((W.length : Int) == 0) = false := beq_eq_false_iff_ne.2 (by omega); have HW0 := Lib.hid hW0; clear hRow hWay hlb hW0)))
            | (go_at_call 78; refine (take R1.out.net S2.out.net.fits (fun i hi => S2.out.net.fb2 G.out hi) (fun v hv => S2.out.net.lfb G.out hv) (S2.out.net.tkb G.out) RW.out WY.out HW0.out hWl hbn HL.out HB.out).mono ?_; rintro e w2 ⟨much, f3, rfl, k1, k2, k3, hT, hN, hO2⟩; have S3 := Lib.hid (S2.out.took (Nat.le_refl _) R1.out O1.out LE.out WY.out hlt hbn k1 k2 k3 hT hN hO2); clear hT hN hO2 k1 k2 k3))
          · go_roundw
            case rel => exact ⟨k + 1, f2, lf2, tk2, tr3, by go_num, by omega, S2.out.nil (Nat.le_refl _) R1.out O1.out LE.out DD.out UP.out DE.out⟩
            case measure => simp [intOf]; omega
          · go_roundw
            case rel => exact ⟨_, _, _, _, S3.out⟩
            case measure => exact tw_less S2.out S3.out
        · have t1 : decide (0 < lf2 k) = false := by simpa using hl
          have S3 := Lib.hid (S2.out.skip hl)
          clear hl
          go_wp2
          go_roundw
          case rel => exact ⟨k + 1, f2, lf2, tk2, tr2, by go_num, by omega, S3.out⟩
          case measure => simp [intOf]; omega
    · have tf : decide (k < n) = false := by simpa using hlt
      have hkn : k = n := by omega
      have hpr : tk < tk1 := by
        rcases S1.out.prog with e | ⟨e1, e2, e3, e4, e5⟩
        · exact e
        · subst e2 e3
          exact absurd (dead_no S1.out.net.fits (fun v hv => (S1.out.net.x2n G.out hv).1) hn LV.out LP.out NR.out e4 (fun v hv hl => e5 v (by omega) hv hl)) (fun h => h)
      have PR := Lib.hid hpr
      clear hlt hkn hpr
      go_wp2
      go_end0
      exact ⟨f1, lf1, tk1, rfl, PR.out, S1.out.rnd.net, S1.out.net, S1.out.out⟩
end Go.Proofs.YtdpacaomkahgfaaGreatDoor

namespace Go.Proofs.YtdpacaomkahgfaaGreatDoor
open Go.RowKit Go.Proofs.YtdpacaomkahgfaaGreatDoor.DagM

theorem RowD.base {w : World} {B B' g n : Nat} {d : Nat → Dst} (h : RowD w B g n d) (hb : B' ≤ B) : RowD w B' g n d := by
  refine ⟨h.1, ?_⟩
  rcases h.2 with h2 | ⟨g, cap, cur, hv, hg, r⟩
  · exact Or.inl h2
  · exact Or.inr ⟨g, cap, cur, hv, Nat.le_trans hb hg, r⟩
/-- What search leaves. -/
def Searched (w : World) (E : EndL) (n : Nat) (x f lf : Nat → Int) (e : Ending) (w' : World) : Prop :=
  ∃ (gd : Nat) (far : Nat → Dst) (near : Int), e = .returned (.tuple #[.slice (some ⟨gd, 0, none⟩) n n, .int .i64 near]) ∧ DagM.Found E n x f lf far near ∧ RowD w' w.heap.size gd n far ∧ Below w.heap.size w w'
def SearchSpec : Prop := ∀ {w0 w : World} {T p gx gf gl gs n : Nat} {E : EndL} {V : Nat → Value} {wt x0 x f lf : Nat → Int} {tot D tk : Int}
    (_h : NetAt w0 w T p gx gf gl gs n E.length V (stps E) x f lf tk) (_hN : Net E n wt x0 tot x f lf D tk) (_g : Dag E n wt x0 tot),
    Calls Tryz.prog 50 #[.pointer (some ⟨p, 0, none⟩)] w (Searched w E n x f lf)
theorem far_nn {E : EndL} {n : Nat} {x f lf : Nat → Int} {far : Nat → Dst} {near : Int} (k : DagM.Found E n x f lf far near) : ∀ v, v < n → 0 ≤ (far v).1 := fun v hv => by
  by_cases e : far v = infD
  · rw [e]; simp [infD]
  · exact (k.fin v hv e).1
def LfR (w0 : World) (T p gx gf gl gs n : Nat) (E : EndL) (V : Nat → Value) (wt x0 : Nat → Int) (tot : Int) (wr : World) : Prop :=
  ∃ (x f lf : Nat → Int) (tk D : Int), NetAt w0 wr T p gx gf gl gs n E.length V (stps E) x f lf tk ∧ Net E n wt x0 tot x f lf D tk
/-- What letFlow leaves. -/
def Flowed (w0 : World) (T p gx gf gl gs n : Nat) (E : EndL) (V : Nat → Value) (wt x0 : Nat → Int) (tot : Int) (e : Ending) (w' : World) : Prop :=
  ∃ (x f lf : Nat → Int) (tk D : Int), e = .returned (.tuple #[]) ∧ NetAt w0 w' T p gx gf gl gs n E.length V (stps E) x f lf tk ∧ Net E n wt x0 tot x f lf D tk ∧ ∀ v, v < n → ¬ 0 < lf v

set_option maxHeartbeats 8000000 in
set_option maxRecDepth 100000 in
theorem letFlow (FD : FindSpec) (SR : SearchSpec) {w0 w : World} {T p gx gf gl gs n : Nat} {E : EndL} {V : Nat → Value} {wt x0 x f lf : Nat → Int} {tot D tk : Int}
    (h : NetAt w0 w T p gx gf gl gs n E.length V (stps E) x f lf tk) (hN : Net E n wt x0 tot x f lf D tk) (g : Dag E n wt x0 tot) :
    Calls Tryz.prog 26 #[.pointer (some ⟨p, 0, none⟩)] w (Flowed w0 T p gx gf gl gs n E V wt x0 tot) := by
  have H := Lib.hid h
  have NT := Lib.hid hN
  have G := Lib.hid g
  have FDH : Hid FindSpec := Lib.hid (p := FindSpec) (@FD)
  have SRH : Hid SearchSpec := Lib.hid (p := SearchSpec) (@SR)
  have hn : n ≤ 4096 := g.n1
  clear h hN g FD SR
  go_enter Tryz.func26, Tryz.ntmps26
  go_wp2
  go_loopw [2] (fun _ wr => LfR w0 T p gx gf gl gs n E V wt x0 tot wr) (fun _ wr => (tot - tkOf wr p).toNat)
  case atStart => exact ⟨x, f, lf, tk, D, H.out, NT.out⟩
  case round =>
    obtain ⟨x1, f1, lf1, tk1, D1, hI, hT⟩ := hrel
    have I := Lib.hid hI
    have N1 := Lib.hid hT
    have c2 := hI.c2
    have hpl := hI.pl
    clear hI hT
    cases hs : someLeft lf1 n with
    | false =>
      have HS := Lib.hid hs
      clear hs
      go_wp2_with (go_at_call 48; refine (containsLeft I.out.rl hn).mono ?_; rintro e w1 ⟨rfl, hb⟩; rw [HS.out]; have B1 := Lib.hid hb; clear hb)
      go_end0
      exact ⟨x1, f1, lf1, tk1, D1, rfl, I.out.quiet B1.out, N1.out, someLeft_no HS.out⟩
    | true =>
      have HS := Lib.hid hs
      clear hs
      go_wp2_with (first
        | (go_at_call 48; refine (containsLeft I.out.rl hn).mono ?_; rintro e w1 ⟨rfl, hb⟩; rw [HS.out]; have I1 := Lib.hid (I.out.quiet hb); clear hb)
        | (go_at_call 50; refine (SRH.out I1.out N1.out G.out).mono ?_; rintro e w2 ⟨gd, far, near, rfl, hF, hR, hb⟩; obtain ⟨sv, hsv, hls⟩ := someLeft_yes HS.out; have hne := hF.reach N1.out.fits N1.out.bal G.out.w0 hn (fun v hv => (N1.out.xb G.out hv).2) hsv hls; have hlow := N1.out.lower G.out hF hne; have hr1 : 0 ≤ near ∧ near ≤ 12288 := ⟨hF.n0.1, hlow.1⟩; have N2 := Lib.hid hlow.2; have HF := Lib.hid hF; have NE := Lib.hid hne; have HR := Lib.hid hR; have I2 := Lib.hid (I1.out.quiet hb); have TW := Lib.hid (Nat.le_trans I1.out.top (Nat.le_refl _)); clear hsv hls hlow hF hR hb hne)
        | (go_at_call 51; refine (lower I2.out HR.out hn (fun v hv => N1.out.xb G.out hv) hr1 (far_nn HF.out)).mono ?_; rintro e w3 ⟨rfl, hI3, hO3⟩; have I3 := Lib.hid hI3; have R3 : Hid (RowD w3 T gd n far) := Lib.hid (RowD.base (B := w1.heap.size) (ownsRow_out HR.out hO3 (fun b hb e => by subst e; exact rows_ne HR.out I2.out.rx (by decide) hb rfl)) TW.out); clear hI3 hO3)
        | (go_at_call 52; refine (takeWays FDH.out I3.out R3.out N2.out G.out (HF.out.lev N1.out.fits NE.out).1 (HF.out.lev N1.out.fits NE.out).2 (by omega)).mono ?_; rintro e w4 ⟨f4, lf4, tk4, rfl, hlt, hI4, hN4, hO4⟩; have I4 := Lib.hid hI4; have N4 := Lib.hid hN4; have LT := Lib.hid hlt; clear hlt hI4 hN4 hO4))
      go_roundw
      case rel => exact ⟨_, f4, lf4, tk4, _, I4.out, N4.out⟩
      case measure =>
        have e1 := tkOf_eq I.out.c4
        have e2 := tkOf_eq I4.out.c4
        have h1 := LT.out
        have h2 := N4.out.tk1
        have h3 := N4.out.pos0
        rw [e1, e2]
        omega
end Go.Proofs.YtdpacaomkahgfaaGreatDoor
