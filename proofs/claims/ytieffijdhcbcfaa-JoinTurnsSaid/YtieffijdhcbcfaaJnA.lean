/-
  How far cells are, in a row of the call's own; what the code's flood and nearer answer. Conditions: cells that may be.
-/
import Derived.Test.YtieffijdhcbcfaaJnM
import Derived.Test.YtieffijdhcbcfaaFcB
namespace Go.Proofs.Ytieffijdhcbcfaa
open Go.RowKit Go.Proofs.Ytieffijdhcbcfaa.GrM Go.Proofs.Ytieffijdhcbcfaa.JoM

def castN (M : List Nat) : List Int := M.map fun u : Nat => (u : Int)
theorem castN_len (M : List Nat) : (castN M).length = M.length := by simp [castN]
theorem castN_get {M : List Nat} {i : Nat} (h : i < M.length) : (castN M).getD i 0 = (M.getD i 0 : Nat) := by simp [castN, List.getD_eq_getElem?_getD, h]
/-- A number of each cell, in a row of the call's own. -/
def FarAt (w : World) (B g n : Nat) (F : Nat → Int) : Prop := OwnZ w B (.slice (some ⟨g, 0, none⟩) n n) ((List.range n).map F) n
section
variable {w w' : World} {B C g n : Nat} {F : Nat → Int}
theorem FarAt.lt (h : FarAt w B g n F) : B ≤ g ∧ g < w.heap.size := World.ownsRow.lt h g rfl
theorem FarAt.cell (h : FarAt w B g n F) {u : Nat} (hu : u < n) : w.cell? ⟨g, u, none⟩ = some (.int .i64 (F u)) := by
  rw [World.ownsRow.cellAt h u (by simpa using hu)]
  simp [hu, intV]
theorem FarAt.fr (h : FarAt w B g n F) (u : Nat) : w.frozen? ⟨g, u, none⟩ = false := World.ownsRow.frozenAt h u
theorem FarAt.below (h : FarAt w B g n F) (o : Below C w w') (hC : w.heap.size ≤ C) : FarAt w' B g n F := row_below12 h o hC
theorem FarAt.out {S : Nat → Prop} (h : FarAt w B g n F) (o : Out S w w') (hS : ¬ S g) : FarAt w' B g n F := ownsRow_out h o (fun b hb => by
  have : g = b := by simpa [Value.ownBlock] using hb
  subst this; exact hS)
theorem FarAt.base (h : FarAt w B g n F) (hC : C ≤ B) : FarAt w C g n F := row_base12 h hC
theorem FarAt.set (h : FarAt w B g n F) (u : Nat) (x : Int) : FarAt (w.setCell ⟨g, u, none⟩ (.int .i64 x)) B g n (updF F u x) := by
  have := OwnZ.set h u x
  have e : ((List.range n).map (updF F u x)) = ((List.range n).map F).set u x := by
    apply List.ext_getElem?
    intro j
    rw [List.getElem?_set, List.getElem?_map, List.getElem?_map]
    by_cases hj : j < n
    · rw [List.getElem?_range hj]
      by_cases c : u = j
      · subst c; simp [hj, upd_at]
      · rw [if_neg c]; simp [upd_ne x (fun e => c e.symm)]
    · rw [List.getElem?_eq_none (by simpa using hj)]
      by_cases c : u = j
      · subst c; simp [hj]
      · rw [if_neg c]; rfl
  unfold FarAt
  rw [e]
  exact this
theorem FarAt.congr {G : Nat → Int} (h : FarAt w B g n F) (e : ∀ u, u < n → F u = G u) : FarAt w B g n G := by
  unfold FarAt at *
  rw [List.map_congr_left (g := F) (fun u hu => (e u (List.mem_range.1 hu)).symm)]
  exact h
end
theorem OwnZ.mores {w : World} {B m : Nat} {v : Value} {M : List Nat} {a : Nat} (h : w.ownsRow B 3 1 v (m + 1) ((castN M).map intV ++ [.int .i64 (a : Int)])) : OwnZ w B v (castN (M ++ [a])) (m + 1) := by
  have := OwnZ.more h
  unfold castN at *
  rw [List.map_append]
  exact this
theorem newsI13 (w : World) (g : Nat) (x : Int) (T : TypeId) (h : w.heap[g]? = some (.cells #[.int .i64 x] T (0, 0))) : ∀ j z, [Value.int .i64 x][j]? = some z → w.cell? ((⟨g, 0, none⟩ : Addr).add j) = some z := by
  intro j z hz
  match j with
  | 0 =>
    simp only [List.getElem?_cons_zero, Option.some.injEq] at hz
    subst hz
    rw [show (⟨g, 0, none⟩ : Addr).add 0 = ⟨g, 0, none⟩ by unfold Addr.add; split <;> simp_all]
    simp [World.cell?, h]
  | j + 1 => simp at hz
theorem own_one13 (w : World) (g : Nat) (x : Int) (B : Nat) (hB : B ≤ g) (h : w.heap[g]? = some (.cells #[.int .i64 x] 3 (0, 0))) : OwnZ w B (.slice (some ⟨g, 0, none⟩) 1 1) [x] 1 :=
  ⟨rfl, Or.inr ⟨g, 1, _, rfl, hB, h, Nat.le_refl _, by decide, rfl, rfl⟩⟩
/-! Flood. -/
def FloodP (L : List Int) (n s B g : Nat) (F0 : Nat → Int) (w : World) (e : Ending) (w' : World) : Prop :=
  ∃ (M : List Nat) (F : Nat → Int) (A : Option Addr) (c m : Nat), e = .returned (.slice A m c) ∧ M.length = m ∧ OwnZ w' w.heap.size (.slice A m c) (castN M) m ∧ FarAt w' B g n F ∧ Out (fun b => b = g) w w' ∧ Fl L n s F0 M F m 0
def FlO (L : List Int) (n s B g : Nat) (F0 : Nat → Int) (w0 : World) (mv iv : Value) (wr : World) : Prop :=
  ∃ (M : List Nat) (F : Nat → Int) (i : Nat), iv = .int .i64 i ∧ Fl L n s F0 M F i 0 ∧ OwnZ wr w0.heap.size mv (castN M) M.length ∧ FarAt wr B g n F ∧ Out (fun b => b = g) w0 wr
def FlI (L : List Int) (n s B g : Nat) (F0 : Nat → Int) (w0 : World) (i v : Nat) (mv dv : Value) (wr : World) : Prop :=
  ∃ (M : List Nat) (F : Nat → Int) (d : Nat), dv = .int .i64 d ∧ d ≤ 4 ∧ Fl L n s F0 M F i d ∧ i < M.length ∧ M.getD i 0 = v ∧ OwnZ wr w0.heap.size mv (castN M) M.length ∧ FarAt wr B g n F ∧ Out (fun b => b = g) w0 wr
set_option maxHeartbeats 8000000 in
set_option maxRecDepth 100000 in
theorem flood_ (lv : Value) (L : List Int) (n s B g : Nat) (F0 : Nat → Int) (w : World) (hL : CelAt w lv L n) (hn : n ≤ 100000) (hg : GoodG L n) (hs : s < n) (hF : FarAt w B g n F0) (h0 : ∀ u, Con L s u → F0 u = -1) (hq : lv.ownBlock ≠ some g) :
    Calls Try.prog 26 #[lv, .int .i64 s, .slice (some ⟨g, 0, none⟩) n n] w (FloodP L n s B g F0 w) := by
  obtain ⟨i0, hi, hz0, hz1, hz2⟩ := info_parts infoInt12
  have HL := Lib.hid hL
  have HG := Lib.hid hg
  have HF := Lib.hid hF
  have H0 := Lib.hid h0
  have hgw := hF.lt.2
  have fc := hF.cell hs
  have ff := hF.fr s
  obtain ⟨A0, c0, e⟩ := hL.form
  subst e
  have HQ := Lib.hid hq
  clear hL hg hF h0 hq
  go_enter Try.func26, Try.ntmps26
  go_upto_region 2 with fail
  have FA := Lib.hid (HF.out.set s 0)
  have O1 : Hid (Out (fun b => b = g) w (w.setCell ⟨g, s, none⟩ (.int .i64 0))) := Lib.hid ((Out.refl _ _).setIn s _)
  obtain ⟨w1, hw1⟩ : ∃ X, X = w.setCell ⟨g, s, none⟩ (.int .i64 0) := ⟨_, rfl⟩
  rw [← hw1] at FA O1 ⊢
  have S1 : w1.heap.size = w.heap.size := by rw [hw1]; simp [World.setCell]
  clear hw1 fc ff
  go_upto_region 3 with fail
  have M1 : Hid (OwnZ (w1.alloc (.cells #[.int .i64 s] 3)) w.heap.size (.slice (some ⟨w.heap.size, 0, none⟩) 1 1) (castN [s]) 1) := Lib.hid (own_one13 _ w.heap.size _ _ (Nat.le_refl _) (by rw [← S1]; exact heap_alloc_new w1 _))
  have ba : Below w1.heap.size w1 (w1.alloc (.cells #[.int .i64 s] 3)) := (Below.refl _ _).alloc (Nat.le_refl _) _
  have F1 := Lib.hid (FA.out.below ba (Nat.le_refl _))
  have O2 : Hid (Out (fun b => b = g) w (w1.alloc (.cells #[.int .i64 s] 3))) := Lib.hid (O1.out.alloc _)
  obtain ⟨w2, hw2⟩ : ∃ X, X = (w1.alloc (.cells #[.int .i64 s] 3)) := ⟨_, rfl⟩
  rw [← hw2] at M1 F1 O2 ⊢
  clear hw2 ba FA O1
  go_wp2_with fail
  go_loopw [7, 8] (fun mv iv wr => FlO L n s B g F0 w mv iv wr) (fun _ iv _ => n - (intOf iv).toNat)
  case atStart => exact ⟨[s], _, 0, rfl, Fl.start L hs F0, M1.out, F1.out, O2.out⟩
  case round =>
    clear M1 F1 O2 S1
    obtain ⟨M, F, i, rfl, hfl, hM, hFa, hO⟩ := hrel
    have FL := Lib.hid hfl
    have OM := Lib.hid hM
    have FAo := Lib.hid hFa
    have OU := Lib.hid hO
    have hlen := hfl.len
    have hin := hfl.hi
    obtain ⟨ao, co, e⟩ := row_form12 hM
    subst e
    obtain ⟨wo, hwo⟩ : ∃ W, W = wr := ⟨_, rfl⟩
    subst hwo
    obtain ⟨m, hm⟩ : ∃ m, M.length = m := ⟨_, rfl⟩
    have HM := Lib.hid hm
    rw [hm] at OM hlen hin ⊢
    clear hfl hM hFa hO
    by_cases hlt : i < m
    · have q0 : decide (i < m) = true := decide_eq_true hlt
      have hiM : i < M.length := by rw [HM.out]; exact hlt
      obtain ⟨b, o, c, e, hb, hx⟩ := OM.out.zs.nth hlt
      simp only [Value.slice.injEq, true_and] at e
      obtain ⟨rfl, rfl⟩ := e
      rw [castN_get hiM] at hx
      obtain ⟨v, hv⟩ : ∃ v, M.getD i 0 = v := ⟨_, rfl⟩
      have hvn : v < n := by rw [← hv]; exact FL.out.lt _ (getD_mem hiM)
      have HV := Lib.hid hv
      rw [hv] at hx
      clear hm hv
      go_upto_region 8 with fail
      clear hx hb q0
      go_loopw [7, 27] (fun mv dv wr => FlI L n s B g F0 w i v mv dv wr) (fun _ dv _ => 4 - (intOf dv).toNat)
      case atStart => exact ⟨M, F, 0, rfl, Nat.zero_le _, FL.out, hiM, HV.out, by rw [HM.out]; exact OM.out, FAo.out, OU.out⟩
      case round =>
        clear FL OM FAo OU HV hiM HM hlen hin hlt
        clear M F
        obtain ⟨M, F, d, rfl, hd, hfl, hiM, hv, hM, hFa, hO⟩ := hrel
        have FL := Lib.hid hfl
        have OM := Lib.hid hM
        have FA := Lib.hid hFa
        have OU := Lib.hid hO
        have hlen := hfl.len
        obtain ⟨ao, co, e⟩ := row_form12 hM
        subst e
        obtain ⟨m, hm⟩ : ∃ m, M.length = m := ⟨_, rfl⟩
        have HM := Lib.hid hm
        have HV := Lib.hid hv
        rw [hm] at OM hlen hiM
        rw [hm]
        have hws := hO.size
        have hgr := hFa.lt.2
        by_cases hd4 : d < 4
        · have q1 : decide (d < 4) = true := decide_eq_true hd4
          have q2 : decide ((d : Int) < 4) = true := decide_eq_true (by omega)
          obtain ⟨b, o9, c', e, hb, hx, -⟩ := HL.out.nth hvn
          simp only [Value.slice.injEq, true_and] at e
          obtain ⟨rfl, rfl⟩ := e
          have hbg : ¬ b = g := fun e => HQ.out (by rw [e]; rfl)
          have f0 := (hO.cell (o9 + v * 8 + d) hb hbg).trans (hx d hd4)
          have hbr := Nat.lt_of_lt_of_le hb hws
          have hvM : v ∈ M := by rw [← hv]; exact getD_mem (by rw [HM.out]; exact hiM)
          have hcv := hfl.con hvM
          obtain ⟨k, fv, hkm, -⟩ := hfl.far v hvM
          rw [hm] at hkm
          have hs2 := HG.out.side hvn hd4
          by_cases hz : nxG L v d = -1
          · rw [hz] at f0
            have SK := Lib.hid (hfl.skip (by rw [HM.out]; exact hiM) (Or.inl (by rw [hv]; exact hz)))
            clear hx hs2 hz hfl hM hFa hO hv hm hvM hcv fv hkm hb hbg
            go_wp2_with fail
            go_roundw
            case rel => exact ⟨M, F, d + 1, by go_num, by omega, SK.out, by rw [HM.out]; exact hiM, HV.out, by rw [HM.out]; exact OM.out, FA.out, OU.out⟩
            case measure => (simp [intOf] <;> omega)
          · obtain ⟨u, hu⟩ : ∃ u : Nat, nxG L v d = u := by
              rcases hs2 with h | h
              · exact absurd h.1 hz
              · exact ⟨(nxG L v d).toNat, by omega⟩
            have hun := (next_lt HG.out hvn hd4 hu).1
            have hcu := hcv.trans (Con.one hd4 hu)
            have met := hfl.met H0.out hcu
            rw [hu] at f0
            have n1 : ((u : Int) == -1) = false := by rw [beq_eq_false_iff_ne]; omega
            have n2 : ((u : Int) != -1) = true := by rw [bne, n1]; rfl
            have fu := hFa.cell hun
            by_cases hin : u ∈ M
            · obtain ⟨k2, e2, -, -⟩ := hfl.far u hin
              rw [e2] at fu
              have n3 : ((k2 : Int) == -1) = false := by rw [beq_eq_false_iff_ne]; omega
              have SK := Lib.hid (hfl.skip (by rw [HM.out]; exact hiM) (Or.inr ⟨u, by rw [hv]; exact hu, hin⟩))
              clear hx hs2 hz hfl hM hFa hO hv hm hvM hcv fv hkm hb hbg met hcu hin e2 hu
              go_wp2_with fail
              go_roundw
              case rel => exact ⟨M, F, d + 1, by go_num, by omega, SK.out, by rw [HM.out]; exact hiM, HV.out, by rw [HM.out]; exact OM.out, FA.out, OU.out⟩
              case measure => (simp [intOf] <;> omega)
            · have e2 := met.2 hin
              rw [e2] at fu
              have PU := Lib.hid (hfl.push HG.out (by rw [HM.out]; exact hiM) hd4 (by rw [hv]; exact hu) hin)
              rw [hv, fv] at PU
              have fV := hFa.cell hvn
              rw [fv] at fV
              have ff := hFa.fr u
              have hml : m < n := by have := PU.out.len; rw [List.length_append, HM.out] at this; exact this
              have hk9 : k < 100000 := by omega
              clear hx hs2 hz hfl hM hFa hO hv hm hvM hcv fv hb hbg met hcu hin e2 hu
              go_upto_region 13 with fail
              have FS := Lib.hid (FA.out.set u ((k : Int) + 1))
              have OS : Hid (Out (fun b => b = g) w (wr.setCell ⟨g, u, none⟩ (.int .i64 ((k : Int) + 1)))) := Lib.hid (OU.out.setIn u _)
              have og : Out (fun b => b = g) wr (wr.setCell ⟨g, u, none⟩ (.int .i64 ((k : Int) + 1))) := (Out.refl _ _).setIn u _
              have ng : ∀ b, (Value.slice ao m co).ownBlock = some b → ¬ b = g := fun b hb e => by
                have := (World.ownsRow.lt OM.out b hb).1
                subst e; exact absurd this (by omega)
              have MS : Hid (OwnZ (wr.setCell ⟨g, u, none⟩ (.int .i64 ((k : Int) + 1))) w.heap.size (.slice ao m co) (castN M) m) := Lib.hid (ownsRow_out OM.out og ng)
              have NG := Lib.hid ng
              have hsz : (wr.setCell ⟨g, u, none⟩ (.int .i64 ((k : Int) + 1))).heap.size = wr.heap.size := by simp [World.setCell]
              obtain ⟨w3, hw3⟩ : ∃ X, X = wr.setCell ⟨g, u, none⟩ (.int .i64 ((k : Int) + 1)) := ⟨_, rfl⟩
              rw [← hw3] at FS OS MS hsz ⊢
              have OA : Hid (∀ ob, (w3.alloc ob).ownsRow w.heap.size 3 1 (.slice ao m co) m ((castN M).map intV)) := Lib.hid (fun ob => row_below12 MS.out ((Below.refl _ _).alloc (Nat.le_refl _) ob) (Nat.le_refl _))
              have HSZ := Lib.hid hsz
              clear hw3 og ng ff fu fV f0 FA hsz
              go_wp2_with (at_builtin; refine wpList_append_fresh rfl (.tmp 54) (.tmp 56) 38 rfl w.heap.size 3 i0 (.int .i64 0) 1 8 Try.underlying38 hi hz0 hz1 hz2 rfl (by decide) (.slice ao m co) m ((castN M).map intV) rfl (OA.out _) ⟨w3.heap.size, 0, none⟩ 1 1 [.int .i64 (u : Int)] rfl rfl (newsI13 _ _ _ 3 (heap_alloc_new w3 _)) (fun z hz => by obtain rfl := List.mem_singleton.1 hz; rfl) (by unfold maxLen; omega) (by omega) (by have := HSZ.out; simp; omega) ?_; intro v5 w5 hown hgrow hfr)
              have o5 : Out (fun b => (Value.slice ao m co).ownBlock = some b) w3 w5 := ((Out.refl _ _).alloc _).grown hgrow (fun _ _ e => e)
              have M5 : Hid (OwnZ w5 w.heap.size v5 (castN (M ++ [u])) (m + 1)) := Lib.hid (OwnZ.mores hown)
              have F5 : Hid (FarAt w5 B g n (updF F u ((k : Int) + 1))) := Lib.hid (FS.out.out o5 (fun e => NG.out g e rfl))
              have O5 : Hid (Out (fun b => b = g) w w5) := Lib.hid (OS.out.trans o5 (fun j hj e => by have := (World.ownsRow.lt MS.out j e).1; omega))
              clear hown hgrow hfr o5
              go_roundw
              case rel => exact ⟨M ++ [u], _, d + 1, by go_num, by omega, PU.out, by rw [List.length_append, HM.out]; omega, by rw [getD_app (by rw [HM.out]; exact hiM)]; exact HV.out, by rw [List.length_append, HM.out]; exact M5.out, F5.out, O5.out⟩
              case measure => (simp [intOf] <;> omega)
        · have hd5 : d = 4 := by omega
          subst hd5
          have q1 : decide (4 < 4) = false := by decide
          have NX := Lib.hid (hfl.next (by rw [HM.out]; exact hiM))
          have hin2 : i < n := by omega
          clear hfl hM hFa hO hv hm
          go_wp2_with fail
          go_roundw
          case rel => exact ⟨M, F, i + 1, by go_num, NX.out, by rw [HM.out]; exact OM.out, FA.out, OU.out⟩
          case measure => (simp [intOf] <;> omega)
    · have hie : i = m := by omega
      have q0 : decide (i < m) = false := decide_eq_false hlt
      subst hie
      clear hm
      go_wp2_with fail
      go_ret
      exact ⟨M, F, ao, co, i, rfl, HM.out, OM.out, FAo.out, OU.out, FL.out⟩
end Go.Proofs.Ytieffijdhcbcfaa
