/-
  How far cells are, in a row of the call's own; what the code's flood and nearer answer. Conditions: cells that may be.
  The code's way from a cell, nearer by each step: what nearer answers. Conditions: cells that may be, which hang together.
  Library calls on rows of ints: compared, sorted, looked up, one int repeated; how far none was met. Conditions: at most 100000 ints.
  Rows of rows of ints in memory; what the code's Parts and Whole answer. Conditions: at most 100000 cells.
  What the code's Parts says of cells that may not be; what Whole and Path answer. Conditions: at most 100000 cells.
-/
import Derived.Test.YtkakeakdgidigaaDoorVzJ1
import Derived.Test.YtkakeakdgidigaaDoorVzF2
import Derived.Test.YtkakeakdgidigaaDoorShelf
import Derived.Laws.CopyOwn
import Derived.IntWalk
import Derived.Deep.RegionHeld3
import Derived.Sort.OwnSortedInts
import Derived.Lib.OwnBridge
namespace Go.Proofs.YtkakeakdgidigaaDoor
open Go.RowKit Go.Proofs.YtkakeakdgidigaaDoor.GrM Go.Proofs.YtkakeakdgidigaaDoor.JoM

def castN (M : List Nat) : List Int := M.map fun u : Nat => (u : Int)
theorem castN_len (M : List Nat) : (castN M).length = M.length := by simp [castN]
theorem castN_get {M : List Nat} {i : Nat} (h : i < M.length) : (castN M).getD i 0 = (M.getD i 0 : Nat) := by simp [castN, List.getD_eq_getElem?_getD, h]
/-- A number of each cell, in a row of the call's own. -/
def FarAt (w : World) (B g n : Nat) (F : Nat → Int) : Prop := OwnZ w B (.slice (some ⟨g, 0, none⟩) n n) ((List.range n).map F) n
section
variable {w w' : World} {B C g n : Nat} {F : Nat → Int}
theorem FarAt.lt (h : FarAt w B g n F) : B ≤ g ∧ g < w.heap.size := World.ownsRow.lt h g rfl
theorem FarAt.cell (h : FarAt w B g n F) {u : Nat} (hu : u < n) : w.cell? ⟨g, u, none⟩ = some (.int .i64 (F u)) := by
  rw [World.ownsRow.cellAt h u (by simpa using hu)]
  simp [hu, intV]
theorem FarAt.fr (h : FarAt w B g n F) (u : Nat) : w.frozen? ⟨g, u, none⟩ = false := World.ownsRow.frozenAt h u
theorem FarAt.below (h : FarAt w B g n F) (o : Below C w w') (hC : w.heap.size ≤ C) : FarAt w' B g n F := row_below12 h o hC
theorem FarAt.out {S : Nat → Prop} (h : FarAt w B g n F) (o : Out S w w') (hS : ¬ S g) : FarAt w' B g n F := ownsRow_out h o (fun b hb => by
  have : g = b := by simpa [Value.ownBlock] using hb
  subst this; exact hS)
theorem FarAt.base (h : FarAt w B g n F) (hC : C ≤ B) : FarAt w C g n F := row_base12 h hC
theorem FarAt.set (h : FarAt w B g n F) (u : Nat) (x : Int) : FarAt (w.setCell ⟨g, u, none⟩ (.int .i64 x)) B g n (updF F u x) := by
  have := OwnZ.set h u x
  have e : ((List.range n).map (updF F u x)) = ((List.range n).map F).set u x := by
    apply List.ext_getElem?
    intro j
    rw [List.getElem?_set, List.getElem?_map, List.getElem?_map]
    by_cases hj : j < n
    · rw [List.getElem?_range hj]
      by_cases c : u = j
      · subst c; simp [hj, upd_at]
      · rw [if_neg c]; simp [upd_ne x (fun e => c e.symm)]
    · rw [List.getElem?_eq_none (by simpa using hj)]
      by_cases c : u = j
      · subst c; simp [hj]
      · rw [if_neg c]; rfl
  unfold FarAt
  rw [e]
  exact this
theorem FarAt.congr {G : Nat → Int} (h : FarAt w B g n F) (e : ∀ u, u < n → F u = G u) : FarAt w B g n G := by
  unfold FarAt at *
  rw [List.map_congr_left (g := F) (fun u hu => (e u (List.mem_range.1 hu)).symm)]
  exact h
end
theorem OwnZ.mores {w : World} {B m : Nat} {v : Value} {M : List Nat} {a : Nat} (h : w.ownsRow B 3 1 v (m + 1) ((castN M).map intV ++ [.int .i64 (a : Int)])) : OwnZ w B v (castN (M ++ [a])) (m + 1) := by
  have := OwnZ.more h
  unfold castN at *
  rw [List.map_append]
  exact this
theorem newsI13 (w : World) (g : Nat) (x : Int) (T : TypeId) (h : w.heap[g]? = some (.cells #[.int .i64 x] T (0, 0))) : ∀ j z, [Value.int .i64 x][j]? = some z → w.cell? ((⟨g, 0, none⟩ : Addr).add j) = some z := by
  intro j z hz
  match j with
  | 0 =>
    simp only [List.getElem?_cons_zero, Option.some.injEq] at hz
    subst hz
    rw [show (⟨g, 0, none⟩ : Addr).add 0 = ⟨g, 0, none⟩ by unfold Addr.add; split <;> simp_all]
    simp [World.cell?, h]
  | j + 1 => simp at hz
theorem own_one13 (w : World) (g : Nat) (x : Int) (B : Nat) (hB : B ≤ g) (h : w.heap[g]? = some (.cells #[.int .i64 x] 3 (0, 0))) : OwnZ w B (.slice (some ⟨g, 0, none⟩) 1 1) [x] 1 :=
  ⟨rfl, Or.inr ⟨g, 1, _, rfl, hB, h, Nat.le_refl _, by decide, rfl, rfl⟩⟩
/-! Flood. -/
def FloodP (L : List Int) (n s B g : Nat) (F0 : Nat → Int) (w : World) (e : Ending) (w' : World) : Prop :=
  ∃ (M : List Nat) (F : Nat → Int) (A : Option Addr) (c m : Nat), e = .returned (.slice A m c) ∧ M.length = m ∧ OwnZ w' w.heap.size (.slice A m c) (castN M) m ∧ FarAt w' B g n F ∧ Out (fun b => b = g) w w' ∧ Fl L n s F0 M F m 0
def FlO (L : List Int) (n s B g : Nat) (F0 : Nat → Int) (w0 : World) (mv iv : Value) (wr : World) : Prop :=
  ∃ (M : List Nat) (F : Nat → Int) (i : Nat), iv = .int .i64 i ∧ Fl L n s F0 M F i 0 ∧ OwnZ wr w0.heap.size mv (castN M) M.length ∧ FarAt wr B g n F ∧ Out (fun b => b = g) w0 wr
def FlI (L : List Int) (n s B g : Nat) (F0 : Nat → Int) (w0 : World) (i v : Nat) (mv dv : Value) (wr : World) : Prop :=
  ∃ (M : List Nat) (F : Nat → Int) (d : Nat), dv = .int .i64 d ∧ d ≤ 4 ∧ Fl L n s F0 M F i d ∧ i < M.length ∧ M.getD i 0 = v ∧ OwnZ wr w0.heap.size mv (castN M) M.length ∧ FarAt wr B g n F ∧ Out (fun b => b = g) w0 wr
set_option maxHeartbeats 8000000 in
set_option maxRecDepth 100000 in
theorem flood_ (lv : Value) (L : List Int) (n s B g : Nat) (F0 : Nat → Int) (w : World) (hL : CelAt w lv L n) (hn : n ≤ 100000) (hg : GoodG L n) (hs : s < n) (hF : FarAt w B g n F0) (h0 : ∀ u, Con L s u → F0 u = -1) (hq : lv.ownBlock ≠ some g) :
    Calls Tryd.prog 65 #[lv, .int .i64 s, .slice (some ⟨g, 0, none⟩) n n] w (FloodP L n s B g F0 w) := by
  obtain ⟨i0, hi, hz0, hz1, hz2⟩ := info_parts infoInt12
  have HL := Lib.hid hL
  have HG := Lib.hid hg
  have HF := Lib.hid hF
  have H0 := Lib.hid h0
  have hgw := hF.lt.2
  have fc := hF.cell hs
  have ff := hF.fr s
  obtain ⟨A0, c0, e⟩ := hL.form
  subst e
  have HQ := Lib.hid hq
  clear hL hg hF h0 hq
  go_enter Tryd.func65, Tryd.ntmps65
  go_upto_region 2 with fail
  have FA := Lib.hid (HF.out.set s 0)
  have O1 : Hid (Out (fun b => b = g) w (w.setCell ⟨g, s, none⟩ (.int .i64 0))) := Lib.hid ((Out.refl _ _).setIn s _)
  obtain ⟨w1, hw1⟩ : ∃ X, X = w.setCell ⟨g, s, none⟩ (.int .i64 0) := ⟨_, rfl⟩
  rw [← hw1] at FA O1 ⊢
  have S1 : w1.heap.size = w.heap.size := by rw [hw1]; simp [World.setCell]
  clear hw1 fc ff
  go_upto_region 3 with fail
  have M1 : Hid (OwnZ (w1.alloc (.cells #[.int .i64 s] 3)) w.heap.size (.slice (some ⟨w.heap.size, 0, none⟩) 1 1) (castN [s]) 1) := Lib.hid (own_one13 _ w.heap.size _ _ (Nat.le_refl _) (by rw [← S1]; exact heap_alloc_new w1 _))
  have ba : Below w1.heap.size w1 (w1.alloc (.cells #[.int .i64 s] 3)) := (Below.refl _ _).alloc (Nat.le_refl _) _
  have F1 := Lib.hid (FA.out.below ba (Nat.le_refl _))
  have O2 : Hid (Out (fun b => b = g) w (w1.alloc (.cells #[.int .i64 s] 3))) := Lib.hid (O1.out.alloc _)
  obtain ⟨w2, hw2⟩ : ∃ X, X = (w1.alloc (.cells #[.int .i64 s] 3)) := ⟨_, rfl⟩
  rw [← hw2] at M1 F1 O2 ⊢
  clear hw2 ba FA O1
  go_wp2_with fail
  go_loopw [7, 8] (fun mv iv wr => FlO L n s B g F0 w mv iv wr) (fun _ iv _ => n - (intOf iv).toNat)
  case atStart => exact ⟨[s], _, 0, rfl, Fl.start L hs F0, M1.out, F1.out, O2.out⟩
  case round =>
    clear M1 F1 O2 S1
    obtain ⟨M, F, i, rfl, hfl, hM, hFa, hO⟩ := hrel
    have FL := Lib.hid hfl
    have OM := Lib.hid hM
    have FAo := Lib.hid hFa
    have OU := Lib.hid hO
    have hlen := hfl.len
    have hin := hfl.hi
    obtain ⟨ao, co, e⟩ := row_form12 hM
    subst e
    obtain ⟨wo, hwo⟩ : ∃ W, W = wr := ⟨_, rfl⟩
    subst hwo
    obtain ⟨m, hm⟩ : ∃ m, M.length = m := ⟨_, rfl⟩
    have HM := Lib.hid hm
    rw [hm] at OM hlen hin ⊢
    clear hfl hM hFa hO
    by_cases hlt : i < m
    · have q0 : decide (i < m) = true := decide_eq_true hlt
      have hiM : i < M.length := by rw [HM.out]; exact hlt
      obtain ⟨b, o, c, e, hb, hx⟩ := OM.out.zs.nth hlt
      simp only [Value.slice.injEq, true_and] at e
      obtain ⟨rfl, rfl⟩ := e
      rw [castN_get hiM] at hx
      obtain ⟨v, hv⟩ : ∃ v, M.getD i 0 = v := ⟨_, rfl⟩
      have hvn : v < n := by rw [← hv]; exact FL.out.lt _ (getD_mem hiM)
      have HV := Lib.hid hv
      rw [hv] at hx
      clear hm hv
      go_upto_region 8 with fail
      clear hx hb q0
      go_loopw [7, 27] (fun mv dv wr => FlI L n s B g F0 w i v mv dv wr) (fun _ dv _ => 4 - (intOf dv).toNat)
      case atStart => exact ⟨M, F, 0, rfl, Nat.zero_le _, FL.out, hiM, HV.out, by rw [HM.out]; exact OM.out, FAo.out, OU.out⟩
      case round =>
        clear FL OM FAo OU HV hiM HM hlen hin hlt
        clear M F
        obtain ⟨M, F, d, rfl, hd, hfl, hiM, hv, hM, hFa, hO⟩ := hrel
        have FL := Lib.hid hfl
        have OM := Lib.hid hM
        have FA := Lib.hid hFa
        have OU := Lib.hid hO
        have hlen := hfl.len
        obtain ⟨ao, co, e⟩ := row_form12 hM
        subst e
        obtain ⟨m, hm⟩ : ∃ m, M.length = m := ⟨_, rfl⟩
        have HM := Lib.hid hm
        have HV := Lib.hid hv
        rw [hm] at OM hlen hiM
        rw [hm]
        have hws := hO.size
        have hgr := hFa.lt.2
        by_cases hd4 : d < 4
        · have q1 : decide (d < 4) = true := decide_eq_true hd4
          have q2 : decide ((d : Int) < 4) = true := decide_eq_true (by omega)
          obtain ⟨b, o9, c', e, hb, hx, -⟩ := HL.out.nth hvn
          simp only [Value.slice.injEq, true_and] at e
          obtain ⟨rfl, rfl⟩ := e
          have hbg : ¬ b = g := fun e => HQ.out (by rw [e]; rfl)
          have f0 := (hO.cell (o9 + v * 8 + d) hb hbg).trans (hx d hd4)
          have hbr := Nat.lt_of_lt_of_le hb hws
          have hvM : v ∈ M := by rw [← hv]; exact getD_mem (by rw [HM.out]; exact hiM)
          have hcv := hfl.con hvM
          obtain ⟨k, fv, hkm, -⟩ := hfl.far v hvM
          rw [hm] at hkm
          have hs2 := HG.out.side hvn hd4
          by_cases hz : nxG L v d = -1
          · rw [hz] at f0
            have SK := Lib.hid (hfl.skip (by rw [HM.out]; exact hiM) (Or.inl (by rw [hv]; exact hz)))
            clear hx hs2 hz hfl hM hFa hO hv hm hvM hcv fv hkm hb hbg
            go_wp2_with fail
            go_roundw
            case rel => exact ⟨M, F, d + 1, by go_num, by omega, SK.out, by rw [HM.out]; exact hiM, HV.out, by rw [HM.out]; exact OM.out, FA.out, OU.out⟩
            case measure => (simp [intOf] <;> omega)
          · obtain ⟨u, hu⟩ : ∃ u : Nat, nxG L v d = u := by
              rcases hs2 with h | h
              · exact absurd h.1 hz
              · exact ⟨(nxG L v d).toNat, by omega⟩
            have hun := (next_lt HG.out hvn hd4 hu).1
            have hcu := hcv.trans (Con.one hd4 hu)
            have met := hfl.met H0.out hcu
            rw [hu] at f0
            have n1 : ((u : Int) == -1) = false := by rw [beq_eq_false_iff_ne]; omega
            have n2 : ((u : Int) != -1) = true := by rw [bne, n1]; rfl
            have fu := hFa.cell hun
            by_cases hin : u ∈ M
            · obtain ⟨k2, e2, -, -⟩ := hfl.far u hin
              rw [e2] at fu
              have n3 : ((k2 : Int) == -1) = false := by rw [beq_eq_false_iff_ne]; omega
              have SK := Lib.hid (hfl.skip (by rw [HM.out]; exact hiM) (Or.inr ⟨u, by rw [hv]; exact hu, hin⟩))
              clear hx hs2 hz hfl hM hFa hO hv hm hvM hcv fv hkm hb hbg met hcu hin e2 hu
              go_wp2_with fail
              go_roundw
              case rel => exact ⟨M, F, d + 1, by go_num, by omega, SK.out, by rw [HM.out]; exact hiM, HV.out, by rw [HM.out]; exact OM.out, FA.out, OU.out⟩
              case measure => (simp [intOf] <;> omega)
            · have e2 := met.2 hin
              rw [e2] at fu
              have PU := Lib.hid (hfl.push HG.out (by rw [HM.out]; exact hiM) hd4 (by rw [hv]; exact hu) hin)
              rw [hv, fv] at PU
              have fV := hFa.cell hvn
              rw [fv] at fV
              have ff := hFa.fr u
              have hml : m < n := by have := PU.out.len; rw [List.length_append, HM.out] at this; exact this
              have hk9 : k < 100000 := by omega
              clear hx hs2 hz hfl hM hFa hO hv hm hvM hcv fv hb hbg met hcu hin e2 hu
              go_upto_region 13 with fail
              have FS := Lib.hid (FA.out.set u ((k : Int) + 1))
              have OS : Hid (Out (fun b => b = g) w (wr.setCell ⟨g, u, none⟩ (.int .i64 ((k : Int) + 1)))) := Lib.hid (OU.out.setIn u _)
              have og : Out (fun b => b = g) wr (wr.setCell ⟨g, u, none⟩ (.int .i64 ((k : Int) + 1))) := (Out.refl _ _).setIn u _
              have ng : ∀ b, (Value.slice ao m co).ownBlock = some b → ¬ b = g := fun b hb e => by
                have := (World.ownsRow.lt OM.out b hb).1
                subst e; exact absurd this (by omega)
              have MS : Hid (OwnZ (wr.setCell ⟨g, u, none⟩ (.int .i64 ((k : Int) + 1))) w.heap.size (.slice ao m co) (castN M) m) := Lib.hid (ownsRow_out OM.out og ng)
              have NG := Lib.hid ng
              have hsz : (wr.setCell ⟨g, u, none⟩ (.int .i64 ((k : Int) + 1))).heap.size = wr.heap.size := by simp [World.setCell]
              obtain ⟨w3, hw3⟩ : ∃ X, X = wr.setCell ⟨g, u, none⟩ (.int .i64 ((k : Int) + 1)) := ⟨_, rfl⟩
              rw [← hw3] at FS OS MS hsz ⊢
              have OA : Hid (∀ ob, (w3.alloc ob).ownsRow w.heap.size 3 1 (.slice ao m co) m ((castN M).map intV)) := Lib.hid (fun ob => row_below12 MS.out ((Below.refl _ _).alloc (Nat.le_refl _) ob) (Nat.le_refl _))
              have HSZ := Lib.hid hsz
              clear hw3 og ng ff fu fV f0 FA hsz
              go_wp2_with (at_builtin; refine wpList_append_fresh rfl (.tmp 54) (.tmp 56) 43 rfl w.heap.size 3 i0 (.int .i64 0) 1 8 Tryd.underlying43 hi hz0 hz1 hz2 rfl (by decide) (.slice ao m co) m ((castN M).map intV) rfl (OA.out _) ⟨w3.heap.size, 0, none⟩ 1 1 [.int .i64 (u : Int)] rfl rfl (newsI13 _ _ _ 3 (heap_alloc_new w3 _)) (fun z hz => by obtain rfl := List.mem_singleton.1 hz; rfl) (by unfold maxLen; omega) (by omega) (by have := HSZ.out; simp; omega) ?_; intro v5 w5 hown hgrow hfr)
              have o5 : Out (fun b => (Value.slice ao m co).ownBlock = some b) w3 w5 := ((Out.refl _ _).alloc _).grown hgrow (fun _ _ e => e)
              have M5 : Hid (OwnZ w5 w.heap.size v5 (castN (M ++ [u])) (m + 1)) := Lib.hid (OwnZ.mores hown)
              have F5 : Hid (FarAt w5 B g n (updF F u ((k : Int) + 1))) := Lib.hid (FS.out.out o5 (fun e => NG.out g e rfl))
              have O5 : Hid (Out (fun b => b = g) w w5) := Lib.hid (OS.out.trans o5 (fun j hj e => by have := (World.ownsRow.lt MS.out j e).1; omega))
              clear hown hgrow hfr o5
              go_roundw
              case rel => exact ⟨M ++ [u], _, d + 1, by go_num, by omega, PU.out, by rw [List.length_append, HM.out]; omega, by rw [getD_app (by rw [HM.out]; exact hiM)]; exact HV.out, by rw [List.length_append, HM.out]; exact M5.out, F5.out, O5.out⟩
              case measure => (simp [intOf] <;> omega)
        · have hd5 : d = 4 := by omega
          subst hd5
          have q1 : decide (4 < 4) = false := by decide
          have NX := Lib.hid (hfl.next (by rw [HM.out]; exact hiM))
          have hin2 : i < n := by omega
          clear hfl hM hFa hO hv hm
          go_wp2_with fail
          go_roundw
          case rel => exact ⟨M, F, i + 1, by go_num, NX.out, by rw [HM.out]; exact OM.out, FA.out, OU.out⟩
          case measure => (simp [intOf] <;> omega)
    · have hie : i = m := by omega
      have q0 : decide (i < m) = false := decide_eq_false hlt
      subst hie
      clear hm
      go_wp2_with fail
      go_ret
      exact ⟨M, F, ao, co, i, rfl, HM.out, OM.out, FAo.out, OU.out, FL.out⟩
end Go.Proofs.YtkakeakdgidigaaDoor

namespace Go.Proofs.YtkakeakdgidigaaDoor
open Go.RowKit Go.Proofs.YtkakeakdgidigaaDoor.GrM Go.Proofs.YtkakeakdgidigaaDoor.JoM

theorem drewN_bel13n {B : Nat} {w0 w : World} (n : Nat) (h : Below B w0 w) : Below B w0 (w.drewN n) := ⟨h.os, h.tape, h.output, h.size, h.block⟩
def lenV13 : Value → Nat
  | .slice _ n _ => n
  | _ => 0
def NearP (L : List Int) (v s : Nat) (w : World) (e : Ending) (w' : World) : Prop :=
  ∃ (P : List Nat) (A : Option Addr) (c m : Nat), e = .returned (.slice A m c) ∧ P.length = m ∧ OwnZ w' w.heap.size (.slice A m c) (castN P) m ∧ Pth L v P s ∧ farI L s v = (m : Int) ∧ Below w.heap.size w w'
def NrO (L : List Int) (n v s : Nat) (w0 : World) (vv pv : Value) (wr : World) : Prop :=
  ∃ (P : List Nat) (cur : Nat), vv = .int .i64 cur ∧ cur < n ∧ Con L s cur ∧ Pth L v P cur ∧ (P.length : Int) + farI L s cur = farI L s v ∧ OwnZ wr w0.heap.size pv (castN P) P.length ∧ Below w0.heap.size w0 wr
def NrI (L : List Int) (s cur : Nat) (p0 : Value) (w1 : World) (vv pv dv : Value) (wr : World) : Prop :=
  ∃ d : Nat, vv = .int .i64 cur ∧ pv = p0 ∧ dv = .int .i64 d ∧ d ≤ 4 ∧ Below w1.heap.size w1 wr ∧ ∀ e, e < d → ∀ u : Nat, nxG L cur e = (u : Int) → ¬ farI L s u < farI L s cur

end Go.Proofs.YtkakeakdgidigaaDoor

namespace Go
theorem run_copy13 {P : Program} (w : World) (dT sT ty elem : TypeId) (sz m g o dLen dCap : Nat) (a : Addr) (sLen sCap : Nat) (cur : Array Value) (t : TypeId) (cs : List Value)
    (hu : P.underlying dT = some (.slice elem)) (hs : (P.info? elem).map (·.size) = some sz)
    (hg : w.heap[g]? = some (.cells cur t (0, 0))) (hm : Nat.min sLen dLen = m) (hn : cs.length = m * sz)
    (hsrc : ∀ j v, cs[j]? = some v → w.cell? (a.add j) = some v) (hfit : o + cs.length ≤ cur.size) (h1 : ∀ v ∈ cs, v.oneCell' = true) :
    (Builtin.copy_ #[dT, sT] ty #[.slice (some ⟨g, o, none⟩) dLen dCap, .slice (some a) sLen sCap]).run P w =
      .ok (goInt m) (w.setRow g (cur.toList.take o ++ cs ++ cur.toList.drop (o + cs.length)).toArray) := by
  have hl := run_loadCells_list (P := P) w a cs hsrc
  have hst := run_storeCells_at P g o t cs 0 cur w hg (by simpa using hfit) h1
  cases hq : P.info? elem with
  | none => simp [hq] at hs
  | some i =>
    have hi : i.size = sz := by simpa [hq] using hs
    simp [Builtin.copy_, run_underlying hu, Builtin.lenOf, Builtin.firstCells, sizeOf, typeInfo, hq, hi, hm, ← hn, hl, hst]
theorem copy13 {P : Program} (w : World) (dT sT ty elem : TypeId) (sz m g o dLen dCap : Nat) (a : Addr) (sLen sCap : Nat) (cur : Array Value) (t : TypeId) (cs : List Value)
    (hu : P.underlying dT = some (.slice elem)) (hs : (P.info? elem).map (·.size) = some sz)
    (hg : w.heap[g]? = some (.cells cur t (0, 0))) (hm : Nat.min sLen dLen = m) (hn : cs.length = m * sz)
    (hsrc : ∀ j v, cs[j]? = some v → w.cell? (a.add j) = some v) (hfit : o + cs.length ≤ cur.size) (h1 : ∀ v ∈ cs, v.oneCell' = true) :
    ∃ w2, (Builtin.copy_ #[dT, sT] ty #[.slice (some ⟨g, o, none⟩) dLen dCap, .slice (some a) sLen sCap]).run P w = .ok (.int .i64 (m : Int)) w2 ∧
      w2.heap[g]? = some (.cells (cur.toList.take o ++ cs ++ cur.toList.drop (o + cs.length)).toArray t (0, 0)) ∧ RowKit.Below g w w2 :=
  ⟨_, run_copy13 w dT sT ty elem sz m g o dLen dCap a sLen sCap cur t cs hu hs hg hm hn hsrc hfit h1, setRow_heap w g _ _ t _ hg, below_setRow (RowKit.Below.refl _ _) (Nat.le_refl _) _⟩
end Go
namespace Go.Proofs.YtkakeakdgidigaaDoor
open Go.RowKit Go.Sort Go.Lib Go.Proofs.YtkakeakdgidigaaDoor.GrM Go.Proofs.YtkakeakdgidigaaDoor.JoM

/-! Compared. -/
theorem drewN_bel13 (w : World) (n : Nat) : Below w.heap.size w (w.drewN n) := ⟨rfl, rfl, rfl, Nat.le_refl _, fun _ _ => rfl⟩

theorem zsNew13 (w : World) (g : Nat) (x : List Int) (n : Nat) (hn : x.length = n) (T : TypeId) (h : w.heap[g]? = some (.cells (x.map (Value.int .i64)).toArray T (0, 0))) : ZsAt w (.slice (some ⟨g, 0, none⟩) n n) x n := by
  subst hn
  refine ⟨rfl, _, _, rfl, fun _ => ⟨g, 0, rfl, (Array.getElem?_eq_some_iff.1 h).1, fun k hk => ?_⟩⟩
  simp [World.cell?, h, hk]
/-! Sorted. -/
theorem intV_map (x : List Int) : x.map intV = x.map (Value.int .i64) := rfl
theorem sortZ (B n : Nat) (v : Value) (x : List Int) (w : World) (h : OwnZ w B v x n) (hs : n ≤ 1000000) :
    Calls Tryd.prog 66 #[v] w fun e w' => e = .returned (.tuple #[]) ∧ OwnZ w' B v (x.mergeSort fun a b => decide (a ≤ b)) n ∧ w.grownBy w' v.ownBlock := by
  have hl := h.len
  subst hl
  by_cases h0 : x.length = 0
  · obtain rfl : x = [] := List.eq_nil_of_length_eq_zero h0
    obtain ⟨ao, cap, rfl⟩ := row_form12 h
    refine (Go.Proofs.Tryd.slices_Sort_int_none ao cap w).mono ?_
    rintro e w' ⟨rfl, rfl⟩
    exact ⟨rfl, by simpa using h, World.grownBy.refl _ _⟩
  · rcases h.2 with ⟨_, h2⟩ | ⟨gg, cap, cur, rfl, hbase, hb, h1, h2, h3, h4⟩
    · exact absurd h2 h0
    · refine (Go.Proofs.Tryd.slices_Sort_int gg 0 cap x w (holds_of_blockI hb (by simpa [intV_map] using h4)) (Array.getElem?_eq_some_iff.1 hb).1 (by omega)).mono ?_
      rintro e w' ⟨rfl, n, os, rfl⟩
      refine ⟨rfl, ?_, grownBy_sortedI _⟩
      have hl : (x.mergeSort fun a b => decide (a ≤ b)).length = x.length := by simp
      unfold OwnZ
      exact ownsRow_sortedI hl hbase hb h1 h2 h3
/-! Looked up. -/

/-! One int repeated. -/
theorem sizeInt13 : (Tryd.prog.info? 3).map (·.size) = some 1 := by kernel_rfl
def repI (N k : Nat) (x : Int) : List Value := (List.replicate k x ++ List.replicate (N - k) 0).map intV
def oneI13 (m : Nat) (x : Int) : List Value := (List.replicate m x).map intV
theorem oneI13_len (m : Nat) (x : Int) : (oneI13 m x).length = m := by simp [oneI13]
theorem repI_len {N k : Nat} (h : k ≤ N) (x : Int) : (repI N k x).length = N := by simp [repI]; omega
theorem oneI13_cell (m : Nat) (x : Int) : ∀ v ∈ oneI13 m x, v.oneCell' = true := fun v hv => by
  obtain ⟨y, _, rfl⟩ := List.mem_map.1 hv; rfl
theorem repI_zero (N : Nat) (x : Int) : (madeCells #[.int .i64 0] N).toList = repI N 0 x := by
  rw [toList_madeCells_one]; simp [repI, intV]
theorem repI_step {N k m : Nat} (h : k + m ≤ N) (x : Int) : (repI N k x).take k ++ oneI13 m x ++ (repI N k x).drop (k + (oneI13 m x).length) = repI N (k + m) x := by
  have e : N - k = m + (N - (k + m)) := by omega
  unfold repI
  rw [e, ← List.replicate_append_replicate, ← List.replicate_append_replicate, List.map_append, List.map_append, List.map_append, List.map_append]
  have l1 : ((List.replicate k x).map intV).length = k := by simp
  have l2 : ((List.replicate m (0 : Int)).map intV).length = m := by simp
  rw [oneI13_len, List.take_left' l1, List.drop_append, l1, List.drop_of_length_le (by rw [l1]; omega), show k + m - k = m by omega, List.drop_left' l2]
  simp [oneI13]
theorem repI_pre {N k m : Nat} (h : m ≤ k) (x : Int) : ∀ (j : Nat) (v : Value), (oneI13 m x)[j]? = some v → (repI N k x)[j]? = some v := by
  intro j v hj
  have hlt : j < m := by have := (List.getElem?_eq_some_iff.1 hj).1; rwa [oneI13_len] at this
  unfold repI oneI13 at *
  rw [List.getElem?_map, List.getElem?_append_left (by simp; omega)]
  rw [List.getElem?_map] at hj
  simp [hlt] at hj
  simp [show j < k by omega, hj]
theorem srcOneI {W : World} {b m : Nat} {x : Int} (hm : m ≤ 1) (x0 : W.cell? ⟨b, 0, none⟩ = some (.int .i64 x)) : ∀ (j : Nat) (v : Value), (oneI13 m x)[j]? = some v → W.cell? ((⟨b, 0, none⟩ : Addr).add j) = some v := by
  intro j v hj
  have hlt : j < m := by have := (List.getElem?_eq_some_iff.1 hj).1; rwa [oneI13_len] at this
  obtain rfl : m = 1 := by omega
  obtain rfl : j = 0 := by omega
  simp [oneI13, intV] at hj
  subst hj
  exact x0
theorem srcRepI {W : World} {g N k m : Nat} {x : Int} {T : TypeId} (hm : m ≤ k) (hg : W.heap[g]? = some (.cells (repI N k x).toArray T (0, 0))) : ∀ (j : Nat) (v : Value), (oneI13 m x)[j]? = some v → W.cell? ((⟨g, 0, none⟩ : Addr).add j) = some v := by
  intro j v hj
  have h := repI_pre (N := N) hm x j v hj
  have e : ((⟨g, 0, none⟩ : Addr).add j) = ⟨g, j, none⟩ := by
    by_cases hj : j = 0
    · subst hj; rfl
    · simp [Addr.add, hj]
  rw [e]
  simp only [World.cell?, hg, List.getElem?_toArray]
  exact h
theorem mulOne13 (N : Nat) (hN : N ≤ 100000) (w : World) : Calls Tryd.prog 71 #[.int .u64 1, .int .u64 (N : Int)] w fun e w' => e = .returned (.tuple #[.int .u64 0, .int .u64 (N : Int)]) ∧ w = w' := by
  refine (Go.Proofs.Tryd.bits_Mul 1 N (by omega) (by omega) w).mono ?_
  rintro e w' ⟨rfl, rfl⟩
  refine ⟨?_, rfl⟩
  have e1 : 1 * N / 18446744073709551616 = 0 := Nat.div_eq_of_lt (by omega)
  have e2 : 1 * N % 18446744073709551616 = N := by rw [Nat.mod_eq_of_lt (by omega)]; omega
  rw [e1, e2]
  rfl
def RepP (N : Nat) (x : Int) (w : World) (e : Ending) (w' : World) : Prop := ∃ g, e = .returned (.slice (some ⟨g, 0, none⟩) N N) ∧ FarAt w' w.heap.size g N (fun _ => x) ∧ Below w.heap.size w w'
def RepR13 (N : Nat) (x : Int) (w : World) (wr : World) (nv : Value) : Prop :=
  ∃ k : Nat, nv = .int .i64 k ∧ (0 < N → 0 < k) ∧ k ≤ N ∧ Below w.heap.size w wr ∧ wr.heap[w.heap.size]? = some (.cells (repI N k x).toArray 3 (0, 0))
theorem repI_row {N : Nat} {x : Int} {w w' : World} (hN : N ≤ 100000) (h : w'.heap[w.heap.size]? = some (.cells (repI N N x).toArray 3 (0, 0))) : FarAt w' w.heap.size w.heap.size N (fun _ => x) := by
  have e : ((List.range N).map fun _ => x) = List.replicate N x := by rw [List.map_const', List.length_range]
  have e2 : repI N N x = (List.replicate N x).map intV := by unfold repI; simp
  unfold FarAt OwnZ
  rw [e]
  refine ⟨by simp, Or.inr ⟨_, N, _, rfl, Nat.le_refl _, h, Nat.le_refl _, by unfold maxLen; omega, by simp [repI_len], ?_⟩⟩
  rw [List.take_of_length_le (by simp [repI_len]), e2]
set_option maxHeartbeats 4000000 in
set_option maxRecDepth 100000 in
theorem repeatZ (N : Nat) (hN : N ≤ 100000) (b cap : Nat) (x : Int) (w : World) (hb : b < w.heap.size) (x0 : w.cell? ⟨b, 0, none⟩ = some (.int .i64 x)) :
    Calls Tryd.prog 68 #[.slice (some ⟨b, 0, none⟩) 1 cap, .int .i64 (N : Int)] w (RepP N x w) := by
  have hmk := mkInts12 N (by omega)
  have X0 := Lib.hid x0
  have hw1 : IntKind.u64.wrap (N : Int) = (N : Int) := by rw [IntKind.wrap_u64]; omega
  have hw2 : IntKind.i64.wrap (N : Int) = (N : Int) := IntWalk.i64_in _ (by omega)
  obtain ⟨m, hm⟩ : ∃ m, Nat.min 1 N = m := ⟨_, rfl⟩
  have hm1 : m ≤ 1 := by rw [← hm]; exact Nat.min_le_left _ _
  have hm2 : m ≤ N := by rw [← hm]; exact Nat.min_le_right _ _
  have hm3 : 0 < N → 0 < m := fun h => by rw [← hm, Nat.lt_min]; omega
  have HM := Lib.hid hm
  have HM3 := Lib.hid hm3
  clear x0 hm hm3
  have bA : Below w.heap.size w (w.alloc (.cells (madeCells #[.int .i64 0] N) 3)) := (Below.refl _ _).alloc (Nat.le_refl _) _
  obtain ⟨w2, hrun, hg2, hb2⟩ := copy13 (P := Tryd.prog) (w.alloc (.cells (madeCells #[.int .i64 0] N) 3)) 43 43 3 3 1 m w.heap.size 0 N N ⟨b, 0, none⟩ 1 cap _ 3 (oneI13 m x) Tryd.underlying43 sizeInt13 (heap_alloc_new w _) HM.out (by rw [oneI13_len]; omega) (srcOneI hm1 ((bA.cell (p := ⟨b, 0, none⟩) hb).trans X0.out)) (by rw [oneI13_len, size_madeCells]; omega) (oneI13_cell _ _)
  have G2 : Hid (w2.heap[w.heap.size]? = some (.cells (repI N m x).toArray 3 (0, 0))) := Lib.hid (by
    rw [repI_zero N x] at hg2
    have h := repI_step (N := N) (k := 0) (m := m) (by omega) x
    rw [Nat.zero_add, Nat.zero_add] at h
    rw [Nat.zero_add, h] at hg2
    exact hg2)
  have B2 : Hid (Below w.heap.size w w2) := Lib.hid (bA.trans hb2)
  clear hg2 hb2 bA
  go_enter Tryd.func68, Tryd.ntmps68
  go_wp2_with (go_at_call 71; refine (mulOne13 N hN _).mono ?_; rintro e w1 ⟨rfl, rfl⟩)
  clear hrun
  clear hmk hw1
  go_loopw [8] (fun nv wr => RepR13 N x w wr nv) (fun nv _ => N - (intOf nv).toNat)
  case atStart => exact ⟨m, rfl, HM3.out, hm2, B2.out, G2.out⟩
  case round =>
    clear B2 G2 HM HM3 hm1 hm2
    obtain ⟨k, rfl, hk0, hk, hB, hG⟩ := hrel
    have B := Lib.hid hB
    have GG := Lib.hid hG
    have HK := Lib.hid hk0
    have hgs : w.heap.size < wr.heap.size := (Array.getElem?_eq_some_iff.1 hG).1
    clear hB hG hk0
    by_cases hlt : k < N
    · have hk1 : 0 < k := HK.out (by omega)
      obtain ⟨q, hq⟩ : ∃ q, Nat.min k (N - k) = q := ⟨_, rfl⟩
      have hq1 : q ≤ k := by rw [← hq]; exact Nat.min_le_left _ _
      have hq2 : q ≤ N - k := by rw [← hq]; exact Nat.min_le_right _ _
      have hq3 : 0 < q := by rw [← hq, Nat.lt_min]; omega
      have HQ := Lib.hid hq
      have i0 : (0 : Int) ≤ (k : Int) := by omega
      have i1 : (k : Int) ≤ (N : Int) := by omega
      have i2 : ¬ N = k := by omega
      have hw3 : IntKind.i64.wrap ((k : Int) + (q : Int)) = (k : Int) + (q : Int) := IntWalk.i64_in _ (by omega)
      obtain ⟨w3, hrun, hg3, hb3⟩ := copy13 (P := Tryd.prog) wr.drew 43 43 3 3 1 q w.heap.size k (N - k) (N - k) ⟨w.heap.size, 0, none⟩ k N _ 3 (oneI13 q x) Tryd.underlying43 sizeInt13 GG.out hq (by rw [oneI13_len]; omega) (srcRepI (W := wr.drew) hq1 GG.out) (by rw [oneI13_len, List.size_toArray, repI_len hk]; omega) (oneI13_cell _ _)
      have G3 : Hid (w3.heap[w.heap.size]? = some (.cells (repI N (k + q) x).toArray 3 (0, 0))) := Lib.hid (by
        rw [List.toList_toArray, repI_step (by omega)] at hg3
        exact hg3)
      have B3 : Hid (Below w.heap.size w w3) := Lib.hid (B.out.trans ((Below.refl _ _).drew.trans hb3))
      clear hq hg3 hb3
      go_wp2
      go_region_held3 (fun _ => True) (trivial) (fail)
      all_goals
        clear hrun
        go_wp2
        go_roundw
        case rel => exact ⟨k + q, by go_num, fun _ => by omega, by omega, B3.out, G3.out⟩
        case measure => simp [intOf]; omega
    · obtain hkn : N = k := by omega
      have t0 : decide (k < N) = false := by simpa using hlt
      have G2 : Hid (wr.heap[w.heap.size]? = some (.cells (repI N N x).toArray 3 (0, 0))) := Lib.hid (by have h := GG.out; rw [← hkn] at h; exact h)
      clear hlt hkn hk
      go_wp2
      go_ret
      exact ⟨_, rfl, repI_row hN G2.out, B.out⟩
theorem unmet13 (N : Nat) (hN : N ≤ 100000) (w : World) : Calls Tryd.prog 64 #[.int .i64 (N : Int)] w (RepP N (-1) w) := by
  have RZ := Lib.hid (fun b cap w hb x0 => repeatZ N hN b cap (-1) w hb x0)
  go_enter Tryd.func64, Tryd.ntmps64
  go_wp2_with (go_at_call 68; refine (RZ.out _ _ _ (by simp) (by go_simp)).mono ?_; rintro e w2 ⟨g, rfl, f2, b2⟩; have F2 := Lib.hid f2; have B2 := Lib.hid b2; clear f2 b2)
  go_ret
  exact ⟨g, rfl, F2.out.base (by simp), ((Below.refl _ _).alloc (Nat.le_refl _) _).trans (B2.out.mono (by simp))⟩
end Go.Proofs.YtkakeakdgidigaaDoor

namespace Go.Proofs.YtkakeakdgidigaaDoor
open Go.RowKit Go.Proofs.YtkakeakdgidigaaDoor.GrM Go.Proofs.YtkakeakdgidigaaDoor.JoM

def castP (R : List (List Nat)) : List (List Int) := R.map castN
theorem castP_len (R : List (List Nat)) : (castP R).length = R.length := by simp [castP]
theorem castP_more (R : List (List Nat)) (p : List Nat) : castP (R ++ [p]) = castP R ++ [castN p] := by simp [castP]
/-! Rows of rows, to be read. -/
def RsAt (w : World) (v : Value) (R : List (List Int)) (n : Nat) : Prop :=
  R.length = n ∧ ∃ A c, v = .slice A n c ∧ (0 < n → ∃ b o, A = some ⟨b, o, none⟩ ∧ b < w.heap.size ∧ ∀ k, k < n → ∃ s, w.cell? ⟨b, o + k, none⟩ = some s ∧ ZsAt w s (R.getD k []) (R.getD k []).length)
theorem RsAt.below {w w' : World} {C n : Nat} {v : Value} {R : List (List Int)} (h : RsAt w v R n) (o : Below C w w') (hC : w.heap.size ≤ C) : RsAt w' v R n := by
  obtain ⟨hl, A, c, rfl, hA⟩ := h
  refine ⟨hl, A, c, rfl, fun h0 => ?_⟩
  obtain ⟨b, q, e, hb, hc⟩ := hA h0
  refine ⟨b, q, e, Nat.lt_of_lt_of_le hb o.size, fun k hk => ?_⟩
  obtain ⟨s, hs, hp⟩ := hc k hk
  exact ⟨s, (o.cell (p := ⟨b, q + k, none⟩) (Nat.lt_of_lt_of_le hb hC)).trans hs, hp.below o hC⟩
theorem RsAt.form {w : World} {n : Nat} {v : Value} {R : List (List Int)} (h : RsAt w v R n) : ∃ A c, v = .slice A n c := by obtain ⟨_, A, c, e, _⟩ := h; exact ⟨A, c, e⟩
theorem RsAt.nth {w : World} {n : Nat} {v : Value} {R : List (List Int)} (h : RsAt w v R n) {k : Nat} (hk : k < n) : ∃ b o c s, v = .slice (some ⟨b, o, none⟩) n c ∧ b < w.heap.size ∧ w.cell? ⟨b, o + k, none⟩ = some s ∧ ZsAt w s (R.getD k []) (R.getD k []).length := by
  obtain ⟨hl, A, c, rfl, hA⟩ := h
  obtain ⟨b, q, rfl, hb, hc⟩ := hA (by omega)
  obtain ⟨s, hs, hp⟩ := hc k hk
  exact ⟨b, q, c, s, rfl, hb, hs, hp⟩
/-! .. of the call's own: rows of their own blocks. -/
def OwnRs (w : World) (B : Nat) (v : Value) (R : List (List Int)) (n : Nat) : Prop :=
  R.length = n ∧ ∃ S : List Value, w.ownsRow B 43 1 v n S ∧ (∀ k, k < n → ∃ s, S[k]? = some s ∧ OwnZ w B s (R.getD k []) (R.getD k []).length) ∧
    ∀ (j k : Nat) (s t : Value) (b : Nat), j ≠ k → S[j]? = some s → S[k]? = some t → s.ownBlock = some b → t.ownBlock ≠ some b
section
variable {w w' : World} {B C n : Nat} {v : Value} {R : List (List Int)}
theorem OwnRs.nil (w : World) (B : Nat) : OwnRs w B (.slice none 0 0) [] 0 := ⟨rfl, [], World.ownsRow_nil _ _ _ _, fun k hk => absurd hk (by omega), fun j k s t b _ h => by simp at h⟩
theorem OwnRs.out {S : Nat → Prop} (h : OwnRs w B v R n) (o : Out S w w') (hS : ∀ b, B ≤ b → b < w.heap.size → ¬ S b) : OwnRs w' B v R n := by
  obtain ⟨hl, Z, hr, hk, hap⟩ := h
  refine ⟨hl, Z, ownsRow_out hr o (fun b hb => hS b (hr.lt b hb).1 (hr.lt b hb).2), fun k h => let ⟨s, a, b⟩ := hk k h; ⟨s, a, ?_⟩, hap⟩
  exact ownsRow_out b o (fun q hq => hS q (World.ownsRow.lt b q hq).1 (World.ownsRow.lt b q hq).2)
theorem OwnRs.below (h : OwnRs w B v R n) (o : Below C w w') (hC : w.heap.size ≤ C) : OwnRs w' B v R n := h.out (S := fun _ => False) (Out.ofBelow (o.mono hC)) (fun _ _ _ e => e)
theorem OwnRs.base (h : OwnRs w B v R n) (hC : C ≤ B) : OwnRs w C v R n := by
  obtain ⟨hl, S, hr, hk, hap⟩ := h
  exact ⟨hl, S, row_base12 hr hC, fun k h => let ⟨s, a, b⟩ := hk k h; ⟨s, a, row_base12 b hC⟩, hap⟩
theorem OwnRs.form (h : OwnRs w B v R n) : ∃ ao cap, v = .slice ao n cap := by obtain ⟨_, S, hr, _⟩ := h; exact row_form12 hr
theorem OwnRs.rs (h : OwnRs w B v R n) : RsAt w v R n := by
  obtain ⟨hl, S, hr, hk, _⟩ := h
  have hr' := hr
  rcases hr.2 with ⟨h1, h2⟩ | ⟨g, cap, cur, hv, _, hg, r⟩
  · exact ⟨hl, none, 0, by rw [h2]; exact h1, fun h => absurd h (by omega)⟩
  · refine ⟨hl, _, cap, hv, fun _ => ⟨g, 0, rfl, (Array.getElem?_eq_some_iff.1 hg).1, fun k hkn => ?_⟩⟩
    obtain ⟨s, hs, hp⟩ := hk k hkn
    rw [hv] at hr'
    have hSl : S.length = n * 1 := hr'.1
    refine ⟨s, ?_, hp.zs⟩
    rw [Nat.zero_add, hr'.cellAt k (by omega), hs]
/-- A row more. -/
theorem OwnRs.more {w1 : World} {v' s : Value} {f : List Int} {S : List Value} (hl : R.length = n) (hr : w.ownsRow B 43 1 v n S) (hk : ∀ k, k < n → ∃ s, S[k]? = some s ∧ OwnZ w B s (R.getD k []) (R.getD k []).length)
    (hap : ∀ (j k : Nat) (s t : Value) (b : Nat), j ≠ k → S[j]? = some s → S[k]? = some t → s.ownBlock = some b → t.ownBlock ≠ some b) (hnew : ∀ (k : Nat) (t : Value) (b : Nat), S[k]? = some t → t.ownBlock = some b → s.ownBlock ≠ some b)
    (hf : OwnZ w B s f f.length) (hown : w1.ownsRow B 43 1 v' (n + 1) (S ++ [s])) (hgrow : w.grownBy w1 v.ownBlock) : OwnRs w1 B v' (R ++ [f]) (n + 1) := by
  have o1 : Out (fun b => v.ownBlock = some b) w w1 := (Out.refl _ w).grown hgrow (fun _ _ e => e)
  have keep : ∀ {u : Value} {g : List Int} {m : Nat}, OwnZ w B u g m → OwnZ w1 B u g m := fun h => ownsRow_out h o1 (fun b hb e => row_ne12 h hr (by decide) b hb e)
  have hSl : S.length = n := by have := hr.1; omega
  refine ⟨by simp [hl], S ++ [s], hown, fun k hkn => ?_, fun j k x y b hne hx hy hb hc => ?_⟩
  · by_cases e : k = n
    · subst e
      refine ⟨s, by rw [List.getElem?_append_right (by omega), hSl]; simp, ?_⟩
      rw [List.getD_eq_getElem?_getD, List.getElem?_append_right (by omega), hl]
      simpa using keep hf
    · obtain ⟨u, hu, hp⟩ := hk k (by omega)
      refine ⟨u, by rw [List.getElem?_append_left (by omega)]; exact hu, ?_⟩
      rw [List.getD_eq_getElem?_getD, List.getElem?_append_left (by omega), ← List.getD_eq_getElem?_getD]
      exact keep hp
  · have side : ∀ {j : Nat} {x : Value}, (S ++ [s])[j]? = some x → (j < n ∧ S[j]? = some x) ∨ (j = n ∧ x = s) := fun {j x} h => by
      by_cases c : j < n
      · rw [List.getElem?_append_left (by omega)] at h; exact Or.inl ⟨c, h⟩
      · rw [List.getElem?_append_right (by omega), hSl] at h
        have hj : j - n = 0 := by
          have := (List.getElem?_eq_some_iff.1 h).1
          simp at this; omega
        rw [hj] at h
        simp at h
        exact Or.inr ⟨by omega, h.symm⟩
    rcases side hx with ⟨_, hx1⟩ | ⟨e1, hx1⟩ <;> rcases side hy with ⟨_, hy1⟩ | ⟨e2, hy1⟩
    · exact hap j k x y b hne hx1 hy1 hb hc
    · subst hy1; exact hnew j x b hx1 hb hc
    · subst hx1; exact hnew k y b hy1 hc hb
    · omega
end
/-! Parts. -/
def PartsP (L : List Int) (n : Nat) (w : World) (e : Ending) (w' : World) : Prop :=
  ∃ (A : Option Addr) (c m : Nat), e = .returned (.tuple #[.slice A m c, .int .i64 0]) ∧ (partsK L n n).length = m ∧ OwnRs w' w.heap.size (.slice A m c) (castP (partsK L n n)) m ∧ Below w.heap.size w w'
def PtRj (L : List Int) (n B1 g : Nat) (w0 w1 : World) (pv iv : Value) (wr : World) : Prop :=
  ∃ (v : Nat) (F : Nat → Int), iv = .int .i64 v ∧ v ≤ n ∧ FarS L n v F ∧ FarAt wr w0.heap.size g n F ∧ OwnRs wr B1 pv (castP (partsK L n v)) (partsK L n v).length ∧ Out (fun b => b = g) w1 wr
theorem infoR13 : (Tryd.prog.info? 43).map (fun i => (i.zero, i.size, i.bytes)) = some (some (.slice none 0 0), 1, 24) := by kernel_rfl
theorem newsV13 (w : World) (g : Nat) (x : Value) (T : TypeId) (h : w.heap[g]? = some (.cells #[x] T (0, 0))) : ∀ j z, [x][j]? = some z → w.cell? ((⟨g, 0, none⟩ : Addr).add j) = some z := by
  intro j z hz
  match j with
  | 0 =>
    simp only [List.getElem?_cons_zero, Option.some.injEq] at hz
    subst hz
    rw [show (⟨g, 0, none⟩ : Addr).add 0 = ⟨g, 0, none⟩ by unfold Addr.add; split <;> simp_all]
    simp [World.cell?, h]
  | j + 1 => simp at hz
set_option maxHeartbeats 8000000 in
set_option maxRecDepth 100000 in
theorem partsGood (lv : Value) (L : List Int) (n : Nat) (w : World) (hL : CelAt w lv L n) (hn : n ≤ 100000) (h0 : chkG L n = 0) :
    Calls Tryd.prog 58 #[lv] w (PartsP L n w) := by
  obtain ⟨i0, hi, hz0, hz1, hz2⟩ := info_parts infoR13
  have HL := Lib.hid hL
  have HG := Lib.hid (chk_good.1 h0).2
  have CK := Lib.hid (fun w hL => checkY lv L n w hL hn)
  rw [h0] at CK
  have UN := Lib.hid (fun w => unmet13 n hn w)
  obtain ⟨A0, c0, e⟩ := hL.form
  subst e
  clear hL h0
  go_enter Tryd.func58, Tryd.ntmps58
  go_wp2_with (first
    | (go_at_call 64; refine (UN.out _).mono ?_; rintro e w2 ⟨g, rfl, f2, b2⟩; have F2 := Lib.hid f2; have B2 := Lib.hid b2; clear f2 b2)
    | (go_at_call 47; refine (CK.out _ HL.out).mono ?_; rintro e w1 ⟨rfl, b1⟩; have B1 := Lib.hid b1; clear b1))
  have hgw := F2.out.lt
  have BB := Lib.hid (B1.out.trans (B2.out.mono B1.out.size))
  have hwg : w.heap.size ≤ g := Nat.le_trans B1.out.size hgw.1
  have FF : Hid (FarAt w2 w.heap.size g n (fun _ => -1)) := Lib.hid (F2.out.base B1.out.size)
  have hg2 := hgw.2
  clear hgw UN CK F2
  go_loopw [5, 19] (fun pv iv wr => PtRj L n w2.heap.size g w w2 pv iv wr) (fun _ iv _ => n - (intOf iv).toNat)
  case atStart => exact ⟨0, _, rfl, Nat.zero_le _, FarS.start L n, FF.out, OwnRs.nil _ _, Out.refl _ _⟩
  case round =>
    clear FF
    obtain ⟨v, F, rfl, hv, hS, hF, hR, hO⟩ := hrel
    have FS := Lib.hid hS
    have FA := Lib.hid hF
    have RR := Lib.hid hR
    have OU := Lib.hid hO
    obtain ⟨ao, co, e⟩ := hR.form
    subst e
    have hgr := hF.lt.2
    have hws := hO.size
    have hpl := parts_len L n v
    obtain ⟨p, hp⟩ : ∃ p, partsK L n v = p := ⟨_, rfl⟩
    have HP := Lib.hid hp
    rw [hp] at RR hpl ⊢
    obtain ⟨m, hm⟩ : ∃ m, p.length = m := ⟨_, rfl⟩
    have HM := Lib.hid hm
    rw [hm] at RR hpl ⊢
    clear hS hF hR hO hp hm
    by_cases hlt : v < n
    · have q0 : decide (v < n) = true := decide_eq_true hlt
      have fv := FA.out.cell hlt
      by_cases ho : oldB L v = true
      · obtain ⟨k, hk⟩ : ∃ k : Nat, F v = k := by
          rcases FS.out v hlt with ⟨e, a⟩ | ⟨e, _⟩
          · exact absurd (oldB_iff.1 ho) a
          · exact ⟨(F v).toNat, by omega⟩
        rw [hk] at fv
        have n1 : ((k : Int) == -1) = false := by rw [beq_eq_false_iff_ne]; omega
        have n2 : ((k : Int) != -1) = true := by rw [bne, n1]; rfl
        have HO := Lib.hid ho
        clear ho hk
        go_wp2_with fail
        go_roundw
        case rel => exact ⟨v + 1, F, by go_num, by omega, FS.out.skip HO.out, FA.out, by rw [parts_skip HO.out, HP.out, HM.out]; exact RR.out, OU.out⟩
        case measure => (simp [intOf] <;> omega)
      · have hk : F v = -1 := (FS.out.old hlt).2 ho
        rw [hk] at fv
        have CR := HL.out.below (BB.out.trans ((OU.out.below (B := w.heap.size) BB.out.size (fun i _ e => by subst e; exact hwg)))) (Nat.le_refl _)
        have hnb : (Value.slice A0 n c0).ownBlock ≠ some g := by
          obtain ⟨b, o, c', e, hb, _⟩ := HL.out.nth hlt
          rw [e]
          intro e2
          have : b = g := by simpa [Value.ownBlock] using e2
          omega
        have FD := Lib.hid (flood_ _ L n v w.heap.size g F wr CR hn HG.out hlt FA.out (FS.out.free HG.out hlt ho) hnb)
        have HO := Lib.hid ho
        clear CR hk ho hnb
        go_upto_region 11 with (go_at_call 65; refine FD.out.mono ?_; rintro e w3 ⟨M, F3, A3, c3, m3, rfl, hm3, o3, f3, u3, fl3⟩; have O3 := Lib.hid o3; have F3H := Lib.hid f3; have U3 := Lib.hid u3; have L3 := Lib.hid fl3; have HM3 := Lib.hid hm3; clear o3 f3 u3 fl3 hm3)
        have hmn : m3 ≤ n := by rw [← HM3.out]; exact L3.out.len
        have SO := Lib.hid (sortZ _ _ _ _ w3 O3.out (by omega))
        have hw3 := U3.out.size
        have LL : Hid (Fl L n v F M F3 M.length 0) := Lib.hid (by rw [HM3.out]; exact L3.out)
        have SP : Hid ((castN M).mergeSort (fun a b => decide (a ≤ b)) = castN (partL L n v)) := Lib.hid (by
          obtain ⟨e1, _⟩ := LL.out.end_ rfl
          exact sorted_part LL.out.nd LL.out.lt e1)
        rw [SP.out] at SO
        clear FD q0 fv SP
        go_upto_region 12 with (go_at_call 66; refine SO.out.mono ?_; rintro e w4 ⟨rfl, o4, g4⟩; have O4 := Lib.hid o4; have G4 := Lib.hid g4; clear o4 g4)
        have o34 : Out (fun b => (Value.slice A3 m3 c3).ownBlock = some b) w3 w4 := (Out.refl _ _).grown G4.out (fun _ _ e => e)
        have nb3 : ∀ b, (Value.slice A3 m3 c3).ownBlock = some b → wr.heap.size ≤ b := fun b hb => (World.ownsRow.lt O3.out b hb).1
        have U4 : Hid (Out (fun b => b = g) wr w4) := Lib.hid (U3.out.trans o34 (fun i hi e => by have := nb3 i e; omega))
        have F4 : Hid (FarAt w4 w.heap.size g n F3) := Lib.hid (F3H.out.out o34 (fun e => by have := nb3 g e; omega))
        have OU4 : Hid (Out (fun b => b = g) w2 w4) := Lib.hid (OU.out.trans U4.out (fun _ _ e => e))
        have hw4 := U4.out.size
        have NB := Lib.hid nb3
        obtain ⟨hRl, SS, hSS, hSk, hSa⟩ := RR.out
        have offg : ∀ {b : Nat}, w2.heap.size ≤ b → ¬ b = g := fun h e => by omega
        have SH : Hid (w4.ownsRow w2.heap.size 43 1 (.slice ao m co) m SS) := Lib.hid (ownsRow_out hSS U4.out (fun b hb => offg (hSS.lt b hb).1))
        have SK : Hid (∀ k, k < m → ∃ s, SS[k]? = some s ∧ OwnZ w4 w2.heap.size s ((castP p).getD k []) ((castP p).getD k []).length) := Lib.hid (fun k hk => let ⟨s, a, b⟩ := hSk k hk; ⟨s, a, ownsRow_out b U4.out (fun q hq => offg (World.ownsRow.lt b q hq).1)⟩)
        have SA := Lib.hid hSa
        have RL := Lib.hid hRl
        have LT : Hid (∀ (k : Nat) (t : Value) (b : Nat), SS[k]? = some t → t.ownBlock = some b → b < wr.heap.size) := Lib.hid (fun k t b hk hb => by
          have hkm : k < m := by
            have h1 := (List.getElem?_eq_some_iff.1 hk).1
            have h2 := hSS.1
            omega
          obtain ⟨s, hs, hz⟩ := hSk k hkm
          rw [hk] at hs
          obtain rfl := Option.some.inj hs
          exact (World.ownsRow.lt hz b hb).2)
        have hpl2 := part_len L n v
        have M4 : Hid (OwnZ w4 w2.heap.size (.slice A3 m3 c3) (castN (partL L n v)) (castN (partL L n v)).length) := Lib.hid (by
          have h := O4.out
          rw [OwnZ.len h]
          exact row_base12 h hws)
        clear o34 nb3 hSS hSk hSa hRl offg
        go_wp2_with (at_builtin; refine wpList_append_fresh rfl (.tmp 33) (.tmp 35) 67 rfl w2.heap.size 43 i0 (.slice none 0 0) 1 24 Tryd.underlying67 hi hz0 hz1 hz2 rfl (by decide) (.slice ao m co) m SS rfl (row_below12 SH.out ((Below.refl _ _).alloc (Nat.le_refl _) _) (Nat.le_refl _)) ⟨w4.heap.size, 0, none⟩ 1 1 [.slice A3 m3 c3] rfl rfl (newsV13 _ _ _ 43 (heap_alloc_new w4 _)) (fun z hz => by obtain rfl := List.mem_singleton.1 hz; rfl) (by unfold maxLen; omega) (by omega) (by simp; omega) ?_; intro v5 w5 hown hgrow hfr)
        have ba : Below w4.heap.size w4 (w4.alloc (.cells #[.slice A3 m3 c3] 43)) := (Below.refl _ _).alloc (Nat.le_refl _) _
        have R5 : Hid (OwnRs w5 w2.heap.size v5 (castP (p ++ [partL L n v])) (m + 1)) := Lib.hid (by
          rw [castP_more]
          exact OwnRs.more RL.out (row_below12 SH.out ba (Nat.le_refl _)) (fun k hk => let ⟨s, a, b⟩ := SK.out k hk; ⟨s, a, row_below12 b ba (Nat.le_refl _)⟩) SA.out (fun k t b hk hb e => by have := LT.out k t b hk hb; have := NB.out b e; omega) (row_below12 M4.out ba (Nat.le_refl _)) hown hgrow)
        have o5 : Out (fun b => (Value.slice ao m co).ownBlock = some b) w4 w5 := ((Out.refl _ _).alloc _).grown hgrow (fun _ _ e => e)
        have F5 : Hid (FarAt w5 w.heap.size g n F3) := Lib.hid (F4.out.out o5 (fun e => by have := (SH.out.lt g e).1; omega))
        have O5 : Hid (Out (fun b => b = g) w2 w5) := Lib.hid (OU4.out.trans o5 (fun i hi e => by have := (SH.out.lt i e).1; omega))
        clear hown hgrow hfr o5 ba
        go_roundw
        case rel => exact ⟨v + 1, F3, by go_num, by omega, FS.out.flood LL.out, F5.out, by rw [parts_more HO.out, HP.out, List.length_append, HM.out]; exact R5.out, O5.out⟩
        case measure => (simp [intOf] <;> omega)
    · have hvn : v = n := by omega
      have q0 : decide (v < n) = false := decide_eq_false hlt
      subst hvn
      go_wp2_with fail
      go_ret2
      exact ⟨ao, co, m, rfl, by rw [HP.out]; exact HM.out, by rw [HP.out]; exact RR.out.base BB.out.size, BB.out.trans (OU.out.below BB.out.size (fun i _ e => by subst e; exact hwg))⟩
end Go.Proofs.YtkakeakdgidigaaDoor

namespace Go.Proofs.YtkakeakdgidigaaDoor
open Go.RowKit Go.Proofs.YtkakeakdgidigaaDoor.GrM Go.Proofs.YtkakeakdgidigaaDoor.JoM

set_option maxHeartbeats 8000000 in
theorem partsBad (lv : Value) (L : List Int) (n : Nat) (w : World) (hL : CelAt w lv L n) (hn : n ≤ 100000) (h0 : chkG L n ≠ 0) :
    Calls Tryd.prog 58 #[lv] w fun e w' => e = .returned (.tuple #[.slice none 0 0, .int .i64 (chkG L n)]) ∧ Below w.heap.size w w' := by
  have CK := Lib.hid (checkY lv L n w hL hn)
  have q4 : (chkG L n == 0) = false := by rw [beq_eq_false_iff_ne]; exact h0
  have q5 : (chkG L n != 0) = true := by rw [bne, q4]; rfl
  generalize chkG L n = cv at *
  clear h0 hL
  go_enter Tryd.func58, Tryd.ntmps58
  go_wp2_with (go_at_call 47; refine CK.out.mono ?_; rintro e w1 ⟨rfl, b1⟩; have B1 := Lib.hid b1; clear b1)
  go_ret2
  exact ⟨rfl, B1.out⟩
/-- Are they whole? -/
noncomputable def wholeB (L : List Int) (n : Nat) : Bool := decide (chkG L n = 0) && decide ((partsK L n n).length = 1)
set_option maxHeartbeats 8000000 in
theorem whole_ (lv : Value) (L : List Int) (n : Nat) (w : World) (hL : CelAt w lv L n) (hn : n ≤ 100000) :
    Calls Tryd.prog 48 #[lv] w fun e w' => e = .returned (.bool (wholeB L n)) ∧ Below w.heap.size w w' := by
  unfold wholeB
  by_cases h0 : chkG L n = 0
  · have PG := Lib.hid (partsGood lv L n w hL hn h0)
    rw [decide_eq_true h0, Bool.true_and]
    obtain ⟨m, hm⟩ : ∃ m, (partsK L n n).length = m := ⟨_, rfl⟩
    have HM := Lib.hid hm
    have hmn := parts_len L n n
    rw [hm] at hmn
    rw [hm]
    clear hm hL h0
    have q0 : ((m : Int) == 1) = decide (m = 1) := by rw [Bool.eq_iff_iff]; simp; omega
    go_enter Tryd.func48, Tryd.ntmps48
    go_wp2_with (go_at_call 58; refine PG.out.mono ?_; rintro e w1 ⟨A, c, m1, rfl, hm1, -, b1⟩; obtain rfl : m = m1 := HM.out.symm.trans hm1; have B1 := Lib.hid b1; clear b1 hm1)
    go_ret
    exact ⟨ret_bool (by first | rfl | exact q0 | (rw [← q0]; rfl) | simp [q0]), B1.out⟩
  · have PB := Lib.hid (partsBad lv L n w hL hn h0)
    have q4 : (chkG L n == 0) = false := by rw [beq_eq_false_iff_ne]; exact h0
    rw [decide_eq_false h0, Bool.false_and]
    generalize chkG L n = cv at *
    clear hL h0
    go_enter Tryd.func48, Tryd.ntmps48
    go_wp2_with (go_at_call 58; refine PB.out.mono ?_; rintro e w1 ⟨rfl, b1⟩; have B1 := Lib.hid b1; clear b1)
    go_ret
    exact ⟨rfl, B1.out⟩
/-! Path. -/


def PthP (L : List Int) (n v u : Nat) (w : World) (e : Ending) (w' : World) : Prop :=
  Below w.heap.size w w' ∧ ((¬ Con L v u ∧ e = .returned (.tuple #[.slice none 0 0, .int .i64 13])) ∨
    (Con L v u ∧ ∃ (P : List Nat) (A : Option Addr) (c m : Nat), e = .returned (.tuple #[.slice A m c, .int .i64 0]) ∧ P.length = m ∧ OwnZ w' w.heap.size (.slice A m c) (castN P) m ∧ Pth L v P u ∧ farI L v u = (m : Int) ∧ m < n))

end Go.Proofs.YtkakeakdgidigaaDoor
