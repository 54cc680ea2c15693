/-
  The document's cells of a shape: they may be; how many there are at most; what its Of answers. Conditions: a shape that is not wrong.
-/
import Derived.Test.YtbdkkkpgjcfdgaaDoorVzN3
namespace Go.Proofs.YtbdkkkpgjcfdgaaDoor.NmM
open Go.Proofs.YtbdkkkpgjcfdgaaDoor.LexM Go.Proofs.YtbdkkkpgjcfdgaaDoor.ParM Go.Proofs.YtbdkkkpgjcfdgaaDoor.GrM

def GdN (s : NSt) : Prop := s.L.length = s.n * 8 ∧ GoodG s.L s.n
theorem GdN.joi {s : NSt} (h : GdN s) (a d b o : Int) : GdN (joiN s a d b o) := ⟨joiO_len.trans h.1, joi_good h.1 h.2⟩
theorem GdN.add {s : NSt} (h : GdN s) : GdN (moN s) := ⟨more_len h.1, add_good h.1 h.2⟩
theorem GdN.put {s : NSt} (h : GdN s) (t c : Int) : GdN (putE s t c) := h
theorem chK_gd {way : Int} {l : List Int} {s : NSt} {c : Int} (h : GdN s) : ∀ i, GdN (chK way l s c i).1
  | 0 => h
  | i + 1 => ((chK_gd h i).add.put _ _).joi _ _ _ _
theorem bxK_gd {E : List Edg} {v : Int} {c : Nat} {s : NSt} (h : GdN s) : ∀ d, GdN (bxK E v c s d)
  | 0 => h
  | d + 1 => (chK_gd (bxK_gd h d) _).joi _ _ _ _
theorem app_gd {L : List Int} {n : Nat} (hl : L.length = n * 8) (hg : GoodG L n) : ∀ k, (L ++ newG k).length = (n + k) * 8 ∧ GoodG (L ++ newG k) (n + k)
  | 0 => by simpa [newG] using ⟨hl, hg⟩
  | k + 1 => by
    obtain ⟨h1, h2⟩ := app_gd hl hg k
    rw [newG, ← List.append_assoc]
    exact ⟨more_len h1, add_good h1 h2⟩
theorem bxN_gd {E : List Edg} {v : Int} {s : NSt} (h : GdN s) : GdN (bxN E v s) := bxK_gd (s := { s with L := s.L ++ newG 4, n := s.n + 4 }) (app_gd h.1 h.2 4) 4
theorem ptE_gd {l : List Int} {c : Int} {s : NSt} (h : GdN s) : ∀ i, GdN (ptE l c s i) ∧ (ptE l c s i).n = s.n
  | 0 => ⟨h, rfl⟩
  | i + 1 => ⟨(ptE_gd h i).1.put _ _, (ptE_gd h i).2⟩
theorem ptK_gd {E : List Edg} {v : Int} {c : Int} {s : NSt} (h : GdN s) : ∀ d, GdN (ptK E v c s d) ∧ (ptK E v c s d).n = s.n
  | 0 => ⟨h, rfl⟩
  | d + 1 => by
    obtain ⟨h1, h2⟩ := ptK_gd (E := E) (v := v) (c := c) h d
    obtain ⟨h3, h4⟩ := ptE_gd (l := onL E v d) (c := c) h1 (onL E v d).length
    exact ⟨h3, h4.trans h2⟩
theorem ptN_gd {E : List Edg} {v : Int} {s : NSt} (h : GdN s) : GdN (ptN E v s) ∧ (ptN E v s).n = s.n + 1 := ptK_gd (c := s.n) h.add 4
theorem bxK_n {E : List Edg} {v : Int} {c : Nat} {s : NSt} : ∀ d, (bxK E v c s d).n = s.n + sidesK E v d
  | 0 => rfl
  | d + 1 => by
    have h := bxK_n (E := E) (v := v) (c := c) (s := s) d
    have h2 : ∀ {way : Int} {l : List Int} {s : NSt} {c : Int} (i : Nat), (chK way l s c i).1.n = s.n + i := by
      intro way l s c i
      induction i with
      | zero => rfl
      | succ i ih => show (chK way l s c i).1.n + 1 = _; omega
    show (chK (wyC d) (onL E v d) (bxK E v c s d) (frC c d) (onL E v d).length).1.n = _
    rw [h2, h, sidesK]
    omega
theorem vxK_gd {B : List Bool} {E : List Edg} : ∀ k, GdN (vxK B E k).1 ∧ (vxK B E k).1.n ≤ k * (4 + 8 * E.length)
  | 0 => ⟨⟨rfl, fun v _ hv => absurd hv (by show ¬ v < 0; omega)⟩, Nat.zero_le _⟩
  | k + 1 => by
    obtain ⟨h1, h2⟩ := vxK_gd (B := B) (E := E) k
    have h3 := sidesK_le E (k : Int) 4
    rw [Nat.add_mul, Nat.one_mul]
    by_cases c : B.getD k false = true
    · have e : (vxK B E (k + 1)).1 = bxN E k (vxK B E k).1 := by rw [vxK]; simp only; rw [if_pos c]
      rw [e]
      refine ⟨bxN_gd h1, ?_⟩
      have h4 : (bxN E k (vxK B E k).1).n = (vxK B E k).1.n + 4 + sidesK E k 4 := bxK_n 4
      omega
    · have e : (vxK B E (k + 1)).1 = ptN E k (vxK B E k).1 := by rw [vxK]; simp only; rw [if_neg c]
      rw [e]
      obtain ⟨h5, h6⟩ := ptN_gd (E := E) (v := k) h1
      exact ⟨h5, by omega⟩
theorem bdK_gd {i : Int} {bl : List UInt8} {s : NSt} {a d : Int} (h : GdN s) : ∀ k, GdN (bdK i bl s a d k).1
  | 0 => h
  | k + 1 => (bdK_gd h k).add.joi _ _ _ _
theorem egK_gd {E : List Edg} {s : NSt} (h : GdN s) : ∀ i, GdN (egK E s i).1
  | 0 => h
  | i + 1 => (bdK_gd (egK_gd h i) _).joi _ _ _ _
end Go.Proofs.YtbdkkkpgjcfdgaaDoor.NmM
namespace Go.Proofs.YtbdkkkpgjcfdgaaDoor
open Go.RowKit Go.Proofs.YtbdkkkpgjcfdgaaDoor.LexM Go.Proofs.YtbdkkkpgjcfdgaaDoor.ParM Go.Proofs.YtbdkkkpgjcfdgaaDoor.GrM Go.Proofs.YtbdkkkpgjcfdgaaDoor.NmM

theorem okEs_mayV {B : List Bool} {E : List Edg} (hM : May B E) : OkEs E := fun e he => by
  have h := hM.ok e he
  have := bend_le hM.bs he
  exact ⟨h.2.2.2.2.1, h.2.2.2.2.2.1, by omega⟩
theorem cnt_of_wrV {B : List Bool} {E : List Edg} (h : wrN B E = 0) : cntN B E ≤ 4096 := by
  unfold wrN at h
  by_cases h0 : chkS B E ≠ 0
  · rw [if_pos h0] at h
    exact absurd h h0
  · rw [if_neg h0] at h
    by_cases h1 : 4096 < cntN B E
    · rw [if_pos h1] at h
      exact absurd h (by decide)
    · omega
theorem normField (w : World) (A : Option Addr) (n c : Nat) (f e v : Value) : (Instr.field 45 (.agg #[.slice A n c, f, e, v]) 0).run Tryd.prog w = .ok (.slice A n c) w := by kernel_rfl
def OfC (K : Nat) (w : World) (e : Ending) (w' : World) : Prop :=
  (∃ A n c fv ev wv L, e = .returned (.agg #[.slice A n c, fv, ev, wv]) ∧ CelAt w' (.slice A n c) L n ∧ GoodG L n ∧ n ≤ K) ∧ Below w.heap.size w w'
theorem ofCells {w : World} (bv ev : Value) (B : List Bool) (E : List Edg) (hB : BlsAt w bv B) (hE : EdsAt w ev E) (hM : May B E) (hz : wrN B E = 0) {b m K : Nat} (hb : B.length ≤ b) (hm : E.length ≤ m) (h3 : bendsOf E ≤ 3 * E.length) (hK : b * (4 + 8 * m) + 3 * m ≤ K) :
    Calls Tryd.prog 12 #[.agg #[bv, ev]] w (OfC K w) := by
  refine (refOf bv ev B E hB hE hM (cnt_of_wrV hz) (okEs_mayV hM)).mono ?_
  rintro e w' ⟨cv, fv, ev, wv, V, rfl, h1, -, -, -, -, hw⟩
  obtain ⟨g1, g2⟩ := vxK_gd (B := B) (E := E) B.length
  have g3 := egK_gd (E := E) g1 E.length
  have g4 := (egK_m (E := E) (s := (vxK B E B.length).1) E.length).1
  rw [bndK_all] at g4
  have g5 : B.length * (4 + 8 * E.length) ≤ b * (4 + 8 * m) := Nat.mul_le_mul hb (by omega)
  generalize (egK E (vxK B E B.length).1 E.length).1 = s at *
  obtain ⟨A, c, rfl⟩ := h1.form
  exact ⟨⟨A, s.n, c, fv, ev, wv, s.L, rfl, h1.cel, g3.2, by omega⟩, hw⟩
end Go.Proofs.YtbdkkkpgjcfdgaaDoor
