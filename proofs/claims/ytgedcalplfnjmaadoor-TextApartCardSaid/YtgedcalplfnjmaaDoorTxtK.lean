/-
  What the document fixes of shapes' texts printed, and of an edge from its other end, is so: the law's 'wakes' answers true. Conditions: the library's tables are laid.
-/
import Derived.Test.YtgedcalplfnjmaaDoorTxtW
import Derived.Test.YtgedcalplfnjmaaDoorTxtQ
namespace Go.Proofs.YtgedcalplfnjmaaDoor
open Go.RowKit Go.Proofs.YtgedcalplfnjmaaDoor.LexM Go.Proofs.YtgedcalplfnjmaaDoor.ParM

theorem eqlE (w : World) (a1 a2 a3 b1 b2 b3 : Int) (s t : ByteArray) (r : Bool) (hr : (a1 == b1 && (a2 == b2 && (a3 == b3 && s.toList == t.toList))) = r) :
    (binOp .eql 23 (.agg #[.int .i64 a1, .int .i64 a2, .int .i64 a3, .string s]) (.agg #[.int .i64 b1, .int .i64 b2, .int .i64 b3, .string t])).run Tryd.prog w = .ok (.bool r) w := by
  have hu := Tryd.underlying23
  have hi := Tryd.underlying3
  have hs := Tryd.underlying9
  rw [run_eql_struct]
  have h := run_equalIn_agg (P := Tryd.prog) w 9999 23 #[.int .i64 a1, .int .i64 a2, .int .i64 a3, .string s] #[.int .i64 b1, .int .i64 b2, .int .i64 b3, .string t] (by kernel_rfl) heldE
  rw [h]
  unfold Program.fieldsOf
  rw [hu]
  simp [Op.eqFields, go_sem]
  subst hr
  by_cases h1 : a1 = b1
  · by_cases h2 : a2 = b2
    · by_cases h3 : a3 = b3
      · by_cases h4 : s.toList = t.toList
        · simp [h1, h2, h3, h4]
        · simp [h1, h2, h3, h4]
      · simp [h1, h2, h3]
    · simp [h1, h2]
  · simp [h1]
theorem eqlE_same (w : World) (a1 a2 a3 : Int) (s : ByteArray) :
    (binOp .eql 23 (.agg #[.int .i64 a1, .int .i64 a2, .int .i64 a3, .string s]) (.agg #[.int .i64 a1, .int .i64 a2, .int .i64 a3, .string s])).run Tryd.prog w = .ok (.bool true) w :=
  eqlE w a1 a2 a3 a1 a2 a3 s s true (by simp)
theorem w9p : par [115, 104, 97, 112, 101, 32, 112, 98, 10, 48, 32, 69, 32, 49, 32, 76, 10, 101, 110, 100, 10] = (0, 0, [false, true], [(0, 1, 0, [76])]) := by kernel_rfl
theorem w9a : printS [false, true] [(0, 1, 0, [76])] = [115, 104, 97, 112, 101, 32, 112, 98, 10, 48, 32, 69, 32, 49, 32, 76, 10, 101, 110, 100, 10] := by
  have h := print_par (s := [115, 104, 97, 112, 101, 32, 112, 98, 10, 48, 32, 69, 32, 49, 32, 76, 10, 101, 110, 100, 10]) (by rw [w9p])
  rw [w9p] at h
  exact h
theorem w9m : May [false, true] [(0, 1, 0, [76])] := by
  have h := par_may (s := [115, 104, 97, 112, 101, 32, 112, 98, 10, 48, 32, 69, 32, 49, 32, 76, 10, 101, 110, 100, 10]) (by rw [w9p])
  rw [w9p] at h
  exact h
theorem w9b : backE (0, 1, 0, [76]) = (1, 0, 3, [82]) := by decide
theorem w9c : chkS [] [(0, 0, 0, [])] = 3 := by decide
/-- A row of one edge, of some bools, just made. -/
theorem blsNew (w : World) (g : Nat) (B : List Bool) (n : Nat) (hn : B.length = n) (T : TypeId) (h : w.heap[g]? = some (.cells (B.map Value.bool).toArray T (0, 0))) : BlsAt w (.slice (some ⟨g, 0, none⟩) n n) B := by
  subst hn
  refine ⟨_, _, rfl, Nat.le_refl _, fun _ => ⟨g, 0, rfl, (Array.getElem?_eq_some_iff.1 h).1, fun k hk => ?_⟩⟩
  simp [World.cell?, h, hk]
theorem edsOne (w : World) (g : Nat) (y1 y2 y3 : Int) (y4 : List UInt8) (T : TypeId) (h : w.heap[g]? = some (.cells #[.int .i64 y1, .int .i64 y2, .int .i64 y3, .string (bs y4)] T (0, 0))) : EdsAt w (.slice (some ⟨g, 0, none⟩) 1 1) [(y1, y2, y3, y4)] := by
  refine ⟨_, _, rfl, Nat.le_refl _, fun _ => ⟨g, 0, rfl, (Array.getElem?_eq_some_iff.1 h).1, fun k hk => ?_⟩⟩
  obtain rfl : k = 0 := by simp at hk; omega
  exact ⟨by simp [World.cell?, h], by simp [World.cell?, h], by simp [World.cell?, h], by simp [World.cell?, h]⟩
theorem print9a (w : World) (hT : TabL w) (bv ev : Value) (hB : BlsAt w bv [false, true]) (hE : EdsAt w ev [(0, 1, 0, [76])]) :
    Calls Tryd.prog 10 #[.agg #[bv, ev]] w fun r w' => r = .returned (.tuple #[.string ⟨#[115, 104, 97, 112, 101, 32, 112, 98, 10, 48, 32, 69, 32, 49, 32, 76, 10, 101, 110, 100, 10]⟩, .int .i64 0]) ∧ Below w.heap.size w w' := by
  have h := printT bv ev _ _ w hB hE w9m hT
  rw [w9a] at h
  exact h
theorem print9c (w : World) (bv ev : Value) (hB : BlsAt w bv []) (hE : EdsAt w ev [(0, 0, 0, [])]) :
    Calls Tryd.prog 10 #[.agg #[bv, ev]] w fun r w' => r = .returned (.tuple #[.string ⟨#[]⟩, .int .i64 3]) ∧ Below w.heap.size w w' :=
  printNo bv ev _ _ 3 w hB hE (by simp) (by simp) (fun e he => by obtain rfl := List.mem_singleton.1 he; simp) w9c (by decide)
theorem back9 (w : World) : Calls Tryd.prog 5 #[.agg #[.int .i64 0, .int .i64 1, .int .i64 0, .string ⟨#[76]⟩]] w fun r w' => r = .returned (.tuple #[.agg #[.int .i64 1, .int .i64 0, .int .i64 3, .string ⟨#[82]⟩], .int .i64 0]) ∧ Below w.heap.size w w' := by
  have h := backYes (0, 1, 0, [76]) w (by simp) (by decide) (by decide) (by decide)
  rw [w9b] at h
  exact h
set_option maxHeartbeats 8000000 in
set_option maxRecDepth 100000 in
theorem wakes9 (w : World) (hT : TabL w) : Calls Tryd.prog 7 #[] w fun e w' => e = .returned (.bool true) ∧ Below w.heap.size w w' := by
  have HT := Lib.hid hT
  have P1 := Lib.hid print9a
  have P2 := Lib.hid print9c
  have BK := Lib.hid back9
  have hq := fun W => eqlE_same W 1 0 3 ⟨#[82]⟩
  clear hT
  go_enter Tryd.func7, Tryd.ntmps7
  go_wp2_with (fail)
  generalize hwa : World.alloc (World.alloc w _) _ = wa
  have BA : Hid (Below w.heap.size w wa) := Lib.hid (by rw [← hwa]; exact ((Below.refl _ _).alloc (Nat.le_refl _) _).alloc (by simp) _)
  have HB : Hid (BlsAt wa (.slice (some ⟨w.heap.size, 0, none⟩) 2 2) [false, true]) := Lib.hid (blsNew _ _ _ _ rfl _ (by rw [← hwa, Below.heap_alloc _ _ _ (by simp)]; exact heap_alloc_new w _))
  have HE : Hid (EdsAt wa (.slice (some ⟨w.heap.size + 1, 0, none⟩) 1 1) [(0, 1, 0, [76])]) := Lib.hid (edsOne _ _ _ _ _ _ _ (by rw [← hwa]; exact heap_second w _ _))
  clear hwa
  refine (P1.out wa (HT.out.below BA.out (Nat.le_refl _)) _ _ HB.out HE.out).mono ?_
  rintro e w1 ⟨rfl, b1⟩
  have B1 : Hid (Below w.heap.size w w1) := Lib.hid (BA.out.trans (b1.mono BA.out.size))
  clear b1
  go_upto_region 3 with (go_at_call 5; refine (BK.out _).mono ?_; rintro e w2 ⟨rfl, b2⟩; have B2 : Hid (Below w.heap.size w w2) := Lib.hid (B1.out.trans (b2.mono B1.out.size)); clear b2)
  generalize hwb : World.alloc w2 _ = wb
  have BB : Hid (Below w.heap.size w wb) := Lib.hid (by rw [← hwb]; exact B2.out.alloc B2.out.size _)
  have hkb : wb.heap[w2.heap.size]? = some (.cells #[.int .i64 1, .int .i64 0, .int .i64 3, .string ⟨#[82]⟩] 23 (0, 0)) := by rw [← hwb]; exact heap_alloc_new w2 _
  have K := Lib.hid hkb
  have hlb : w2.heap.size < wb.heap.size := (Array.getElem?_eq_some_iff.1 hkb).1
  clear hwb hkb
  go_wp2_with (fail)
  generalize hwc : World.alloc wb _ = wc
  have bc : Below wb.heap.size wb wc := by rw [← hwc]; exact (Below.refl _ _).alloc (Nat.le_refl _) _
  have HF : Hid (EdsAt wc (.slice (some ⟨wb.heap.size, 0, none⟩) 1 1) [(0, 0, 0, [])]) := Lib.hid (edsOne _ _ _ _ _ _ _ (by rw [← hwc]; exact heap_alloc_new wb _))
  have BC := Lib.hid bc
  clear hwc bc
  refine (P2.out wc _ _ (BlsAt.nil wc) HF.out).mono ?_
  rintro e w3 ⟨rfl, b3⟩
  have bb : Below wb.heap.size wb w3 := BC.out.trans (b3.mono BC.out.size)
  have hk3 := (bb.block _ hlb).trans K.out
  have B3 : Hid (Below w.heap.size w w3) := Lib.hid (BB.out.trans (bb.mono BB.out.size))
  have c0 : w3.cell? ⟨w2.heap.size, 0, none⟩ = some (.int .i64 1) := by simp [World.cell?, hk3]
  have c1 : w3.cell? ⟨w2.heap.size, 1, none⟩ = some (.int .i64 0) := by simp [World.cell?, hk3]
  have c2 : w3.cell? ⟨w2.heap.size, 2, none⟩ = some (.int .i64 3) := by simp [World.cell?, hk3]
  have c3 : w3.cell? ⟨w2.heap.size, 3, none⟩ = some (.string ⟨#[82]⟩) := by simp [World.cell?, hk3]
  have cl := Nat.lt_of_lt_of_le hlb bb.size
  clear b3 bb hk3
  go_wp2
  go_ret
  exact ⟨rfl, B3.out⟩
end Go.Proofs.YtgedcalplfnjmaaDoor
