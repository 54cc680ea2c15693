/-
  What the document fixes of what can be drawn is so: the law's 'wakes' answers true. Conditions: the ways read as the program lays them.
-/
import Derived.Test.YtbdkkkpgjcfdgaaDoorVlD
import Derived.Test.YtbdkkkpgjcfdgaaDoorNzRb
import Derived.Deep.RegionHeld3
namespace Go.Proofs.YtbdkkkpgjcfdgaaDoor.VdM
open Go.Proofs.YtbdkkkpgjcfdgaaDoor.GrM Go.Proofs.YtbdkkkpgjcfdgaaDoor.FcM Go.Proofs.YtbdkkkpgjcfdgaaDoor.JoM

/-- A square of four cells, laid side by side. -/
def sqA : List Int := joinG (newG 4) 0 0 1 0
def sqB : List Int := joinG sqA 1 1 2 0
def sqC : List Int := joinG sqB 2 2 3 0
def sqD : List Int := joinG sqC 3 3 0 0
theorem sq_chk : chkG sqD 4 = 0 := by decide +kernel
theorem sq_rots : rotsK sqD 4 = [4, -4] := by decide +kernel
theorem sq_con : ∀ a b, a < 4 → b < 4 → Con sqD a b := by
  have c01 : Con sqD 0 1 := Con.one (d := 0) (by decide) (by decide +kernel)
  have c12 : Con sqD 1 2 := Con.one (d := 1) (by decide) (by decide +kernel)
  have c23 : Con sqD 2 3 := Con.one (d := 2) (by decide) (by decide +kernel)
  have zero : ∀ b, b < 4 → Con sqD 0 b := by
    intro b hb
    match b, hb with
    | 0, _ => exact Con.refl _
    | 1, _ => exact c01
    | 2, _ => exact c01.trans c12
    | 3, _ => exact (c01.trans c12).trans c23
  have g := (chk_good.1 sq_chk).2
  intro a b ha hb
  exact ((zero a ha).symm g (by decide)).trans (zero b hb)
theorem sq_vld : vldE sqD 4 = 0 := vld_yes sq_chk ((parts_one (chk_good.1 sq_chk).2).2 ⟨by decide, sq_con⟩) (by rw [sq_rots]; exact ⟨by decide, by decide⟩)
theorem sq_out : outW sqD 4 = 1 ∧ outQ sqD 4 = 0 := by
  obtain ⟨e1, e2, -⟩ := ans_good sq_vld (by decide)
  rw [sq_rots] at e1
  exact ⟨e1, e2⟩
theorem one_chk : chkG (newG 1) 1 = 0 := by decide +kernel
theorem one_vld : vldE (newG 1) 1 = 0 := vld_one one_chk ((parts_one (chk_good.1 one_chk).2).2 ⟨by decide, fun a b ha hb => by
  obtain rfl : a = 0 := by omega
  obtain rfl : b = 0 := by omega
  exact Con.refl _⟩) rfl
theorem one_out : outW (newG 1) 1 = 0 ∧ outQ (newG 1) 1 = 2 := by
  obtain ⟨e1, e2, -⟩ := ans_one one_vld rfl
  exact ⟨e1, e2⟩
theorem two_chk : chkG (newG 2) 2 = 0 := by decide +kernel
theorem two_vld : vldE (newG 2) 2 = 13 := vld_apart two_chk (fun h => by
  have hc := ((parts_one (chk_good.1 two_chk).2).1 h).2 0 1 (by decide) (by decide)
  obtain ⟨k, hk⟩ := hc
  have none : ∀ {k u v}, Wy (newG 2) k u v → u = 0 → v = 0 := by
    intro k u v h
    induction h with
    | here => exact fun e => e
    | step h1 hd hx ih =>
      intro e
      have e2 := ih e
      subst e2
      have key : ∀ d, d < 4 → nxG (newG 2) 0 d = -1 := by decide +kernel
      rw [key _ hd] at hx
      omega
  have := none hk rfl
  omega)
theorem nil_vld : vldE [] 0 = 13 := vld_apart (by decide +kernel) (by decide)
end Go.Proofs.YtbdkkkpgjcfdgaaDoor.VdM
namespace Go.Proofs.YtbdkkkpgjcfdgaaDoor
open Go.RowKit Go.Proofs.YtbdkkkpgjcfdgaaDoor.GrM Go.Proofs.YtbdkkkpgjcfdgaaDoor.FcM Go.Proofs.YtbdkkkpgjcfdgaaDoor.JoM Go.Proofs.YtbdkkkpgjcfdgaaDoor.VdM

def JnPost (L : List Int) (w : World) (r : Ending) (w' : World) : Prop := (∃ A c, r = .returned (.tuple #[.slice A 4 c, .int .i64 0]) ∧ OwnG w' w.heap.size (.slice A 4 c) L 4) ∧ Below w.heap.size w w'
set_option maxHeartbeats 4000000 in
theorem square_ (w : World) : Calls Tryd.prog 24 #[] w fun e w' => ∃ A c, e = .returned (.slice A 4 c) ∧ CelAt w' (.slice A 4 c) sqD 4 ∧ Below w.heap.size w w' := by
  have N4 := Lib.hid (fun w => refNew 4 w (by decide))
  have J1 : Hid (∀ lv w, CelAt w lv (newG 4) 4 → Calls Tryd.prog 30 #[lv, .int .i64 0, .int .i64 0, .int .i64 1, .int .i64 0] w (JnPost sqA w)) := Lib.hid (fun lv w h =>
    refJoin_yes lv (newG 4) 4 0 0 1 0 w h (by decide) (by decide) (by decide) (by decide) (by decide) (by decide) (by decide +kernel) (by decide +kernel))
  have J2 : Hid (∀ lv w, CelAt w lv sqA 4 → Calls Tryd.prog 30 #[lv, .int .i64 1, .int .i64 1, .int .i64 2, .int .i64 0] w (JnPost sqB w)) := Lib.hid (fun lv w h =>
    refJoin_yes lv sqA 4 1 1 2 0 w h (by decide) (by decide) (by decide) (by decide) (by decide) (by decide) (by decide +kernel) (by decide +kernel))
  have J3 : Hid (∀ lv w, CelAt w lv sqB 4 → Calls Tryd.prog 30 #[lv, .int .i64 2, .int .i64 2, .int .i64 3, .int .i64 0] w (JnPost sqC w)) := Lib.hid (fun lv w h =>
    refJoin_yes lv sqB 4 2 2 3 0 w h (by decide) (by decide) (by decide) (by decide) (by decide) (by decide) (by decide +kernel) (by decide +kernel))
  have J4 : Hid (∀ lv w, CelAt w lv sqC 4 → Calls Tryd.prog 30 #[lv, .int .i64 3, .int .i64 3, .int .i64 0, .int .i64 0] w (JnPost sqD w)) := Lib.hid (fun lv w h =>
    refJoin_yes lv sqC 4 3 3 0 0 w h (by decide) (by decide) (by decide) (by decide) (by decide) (by decide) (by decide +kernel) (by decide +kernel))
  go_enter Tryd.func24, Tryd.ntmps24
  go_upto_region 2 with (go_at_call 19; refine (N4.out _).mono ?_; rintro e w1 ⟨⟨g, rfl, o1⟩, b1⟩; have O1 := Lib.hid (OwnG.cel o1); have B1 := Lib.hid b1; clear o1 b1)
  go_upto_region 3 with (go_at_call 30; refine (J1.out _ _ O1.out).mono ?_; rintro e w2 ⟨⟨A2, c2, rfl, o2⟩, b2⟩; have O2 := Lib.hid (OwnG.cel o2); have B2 := Lib.hid (B1.out.trans (b2.mono B1.out.size)); clear b2 o2)
  go_upto_region 4 with (go_at_call 30; refine (J2.out _ _ O2.out).mono ?_; rintro e w3 ⟨⟨A3, c3, rfl, o3⟩, b3⟩; have O3 := Lib.hid (OwnG.cel o3); have B3 := Lib.hid (B2.out.trans (b3.mono B2.out.size)); clear b3 o3)
  go_upto_region 5 with (go_at_call 30; refine (J3.out _ _ O3.out).mono ?_; rintro e w4 ⟨⟨A4, c4, rfl, o4⟩, b4⟩; have O4 := Lib.hid (OwnG.cel o4); have B4 := Lib.hid (B3.out.trans (b4.mono B3.out.size)); clear b4 o4)
  go_wp2_with (go_at_call 30; refine (J4.out _ _ O4.out).mono ?_; rintro e w5 ⟨⟨A5, c5, rfl, o5⟩, b5⟩; have O5 := Lib.hid (OwnG.cel o5); have B5 := Lib.hid (B4.out.trans (b5.mono B4.out.size)); clear b5 o5)
  go_ret
  exact ⟨_, _, rfl, O5.out, B5.out⟩
set_option maxHeartbeats 8000000 in
set_option maxRecDepth 100000 in
theorem wakes14 (w : World) (hT : WayT w) : Calls Tryd.prog 9 #[] w fun e w' => e = .returned (.bool true) ∧ Below w.heap.size w w' := by
  have SQ := Lib.hid square_
  have HT := Lib.hid hT
  have N1 := Lib.hid (fun w => refNew 1 w (by decide))
  have N2 := Lib.hid (fun w => refNew 2 w (by decide))
  have OS : Hid (∀ lv w, CelAt w lv sqD 4 → WayT w → Calls Tryd.prog 23 #[lv] w fun e w' => e = .returned (.tuple #[.int .i64 1, .int .i64 0]) ∧ Below w.heap.size w w') := Lib.hid (fun lv w h ht => by
    have := outer_ lv sqD 4 w h (by decide) ht
    rwa [sq_out.1, sq_out.2] at this)
  have O1 : Hid (∀ lv w, CelAt w lv (newG 1) 1 → WayT w → Calls Tryd.prog 23 #[lv] w fun e w' => e = .returned (.tuple #[.int .i64 0, .int .i64 2]) ∧ Below w.heap.size w w') := Lib.hid (fun lv w h ht => by
    have := outer_ lv (newG 1) 1 w h (by decide) ht
    rwa [one_out.1, one_out.2] at this)
  have CS : Hid (∀ lv w, CelAt w lv sqD 4 → WayT w → Calls Tryd.prog 14 #[lv] w fun e w' => e = .returned (.int .i64 0) ∧ Below w.heap.size w w') := Lib.hid (fun lv w h ht => by
    have := check_ lv sqD 4 w h (by decide) ht
    rwa [sq_vld] at this)
  have C1 : Hid (∀ lv w, CelAt w lv (newG 1) 1 → WayT w → Calls Tryd.prog 14 #[lv] w fun e w' => e = .returned (.int .i64 0) ∧ Below w.heap.size w w') := Lib.hid (fun lv w h ht => by
    have := check_ lv (newG 1) 1 w h (by decide) ht
    rwa [one_vld] at this)
  have C2 : Hid (∀ lv w, CelAt w lv (newG 2) 2 → WayT w → Calls Tryd.prog 14 #[lv] w fun e w' => e = .returned (.int .i64 13) ∧ Below w.heap.size w w') := Lib.hid (fun lv w h ht => by
    have := check_ lv (newG 2) 2 w h (by decide) ht
    rwa [two_vld] at this)
  have C0 : Hid (∀ w, WayT w → Calls Tryd.prog 14 #[.slice none 0 0] w fun e w' => e = .returned (.int .i64 13) ∧ Below w.heap.size w w') := Lib.hid (fun w ht => by
    have := check_ (.slice none 0 0) [] 0 w (CelAt.nil w) (by decide) ht
    rwa [nil_vld] at this)
  clear hT
  go_enter Tryd.func9, Tryd.ntmps9
  go_upto_region 2 with (first
    | (go_at_call 23; refine (OS.out _ _ S1.out (HT.out.below B1.out (Nat.le_refl _))).mono ?_; rintro e w2 ⟨rfl, b2⟩; have B2 := Lib.hid (B1.out.trans (b2.mono B1.out.size)); clear b2)
    | (go_at_call 24; refine (SQ.out _).mono ?_; rintro e w1 ⟨A1, c1, rfl, s1, b1⟩; have S1 := Lib.hid s1; have B1 := Lib.hid b1; clear s1 b1))
  go_upto_region 3 with (first
    | (go_at_call 23; refine (O1.out _ _ S3.out (HT.out.below B3.out (Nat.le_refl _))).mono ?_; rintro e w4 ⟨rfl, b4⟩; have B4 := Lib.hid (B3.out.trans (b4.mono B3.out.size)); clear b4)
    | (go_at_call 19; refine (N1.out _).mono ?_; rintro e w3 ⟨⟨g3, rfl, o3⟩, b3⟩; have S3 := Lib.hid (OwnG.cel o3); have B3 := Lib.hid (B2.out.trans (b3.mono B2.out.size)); clear o3 b3))
  clear OS O1 S1 S3
  go_wp2_with (first
    | (go_at_call 14; have _z := B10; refine (C0.out _ (HT.out.below B10.out (Nat.le_refl _))).mono ?_; rintro e w11 ⟨rfl, b11⟩; have B11 := Lib.hid (B10.out.trans (b11.mono B10.out.size)); clear b11)
    | (go_at_call 14; have _z := S9; refine (C2.out _ _ S9.out (HT.out.below B9.out (Nat.le_refl _))).mono ?_; rintro e w10 ⟨rfl, b10⟩; have B10 := Lib.hid (B9.out.trans (b10.mono B9.out.size)); clear b10)
    | (go_at_call 19; have _z := B8; refine (N2.out _).mono ?_; rintro e w9 ⟨⟨g9, rfl, o9⟩, b9⟩; have S9 := Lib.hid (OwnG.cel o9); have B9 := Lib.hid (B8.out.trans (b9.mono B8.out.size)); clear o9 b9)
    | (go_at_call 14; have _z := S7; refine (C1.out _ _ S7.out (HT.out.below B7.out (Nat.le_refl _))).mono ?_; rintro e w8 ⟨rfl, b8⟩; have B8 := Lib.hid (B7.out.trans (b8.mono B7.out.size)); clear b8)
    | (go_at_call 19; have _z := B6; refine (N1.out _).mono ?_; rintro e w7 ⟨⟨g7, rfl, o7⟩, b7⟩; have S7 := Lib.hid (OwnG.cel o7); have B7 := Lib.hid (B6.out.trans (b7.mono B6.out.size)); clear o7 b7)
    | (go_at_call 14; have _z := S5; refine (CS.out _ _ S5.out (HT.out.below B5.out (Nat.le_refl _))).mono ?_; rintro e w6 ⟨rfl, b6⟩; have B6 := Lib.hid (B5.out.trans (b6.mono B5.out.size)); clear b6)
    | (go_at_call 24; refine (SQ.out _).mono ?_; rintro e w5 ⟨A5, c5, rfl, s5, b5⟩; have S5 := Lib.hid s5; have B5 := Lib.hid (B4.out.trans (b5.mono B4.out.size)); clear s5 b5))
  go_ret
  exact ⟨rfl, B11.out⟩
end Go.Proofs.YtbdkkkpgjcfdgaaDoor
