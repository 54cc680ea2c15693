/-
  What the code's edgeLine and Print answer. Conditions: shapes that may be written; of others the error of Check.
-/
import Derived.Test.YtgedcalplfnjmaaDoorTxtV
import Derived.Test.YtgedcalplfnjmaaDoorLexR
import Derived.Deep.RegionHeld3
import Derived.Deep.CutRange
import Derived.Lib.Join
namespace Go.Proofs.YtgedcalplfnjmaaDoor
open Go.RowKit Go.Proofs.YtgedcalplfnjmaaDoor.LexM Go.Proofs.YtgedcalplfnjmaaDoor.ParM

theorem edgL_short {n : Nat} {e : Edg} (h : okE n e) (hn : n ≤ 4096) (hb : e.2.2.2.length ≤ 4096) : (edgL e).length ≤ 4200 := by
  obtain ⟨a1, a2, a3, a4, a5, a6, _⟩ := h
  have h1 := itoa_short a1 (by omega)
  have h2 := itoa_short a3 (by omega)
  have h3 := (dir_letD a5 a6).2.2.2.2
  rw [edgL_eq]
  simp only [List.length_append, List.length_singleton]
  split
  · simp; omega
  · simp; omega
set_option maxHeartbeats 8000000 in
set_option maxRecDepth 100000 in
theorem edgeLineT (n : Nat) (e : Edg) (w : World) (hT : TabL w) (hok : okE n e) (hn : n ≤ 4096) (hb : e.2.2.2.length ≤ 4096) :
    Calls Tryd.prog 21 #[valE e] w fun r w' => r = .returned (.string (bs (edgL e))) ∧ Below w.heap.size w w' := by
  obtain ⟨y1, y2, y3, y4⟩ := e
  show Calls Tryd.prog 21 #[.agg #[.int .i64 y1, .int .i64 y2, .int .i64 y3, .string (bs y4)]] w _
  obtain ⟨o1, o2, o3, o4, o5, o6, o7⟩ := hok
  simp only at o1 o2 o3 o4 o5 o6 o7 hb
  have HT := Lib.hid hT
  obtain ⟨sf, hsf⟩ : ∃ s, bs (Lib.itoa y1) = s := ⟨_, rfl⟩
  obtain ⟨st, hst⟩ : ∃ s, bs (Lib.itoa y2) = s := ⟨_, rfl⟩
  obtain ⟨sd, hsd⟩ : ∃ s, letterS y3 = s := ⟨_, rfl⟩
  obtain ⟨sb, hsb⟩ : ∃ s, bs y4 = s := ⟨_, rfl⟩
  rw [hsb]
  have DF : Hid (∀ w, TabL w → Calls Tryd.prog 26 #[.int .i64 y1] w fun e w' => e = .returned (.string sf) ∧ Below w.heap.size w w') := Lib.hid (fun w hT => by rw [← hsf]; exact digits y1 w hT (by omega) (by omega))
  have DT : Hid (∀ w, TabL w → Calls Tryd.prog 26 #[.int .i64 y2] w fun e w' => e = .returned (.string st) ∧ Below w.heap.size w w') := Lib.hid (fun w hT => by rw [← hst]; exact digits y2 w hT (by omega) (by omega))
  have DL : Hid (∀ w, Calls Tryd.prog 27 #[.int .i64 y3] w fun e w' => e = .returned (.string sd) ∧ w = w') := Lib.hid (fun w => by rw [← hsd]; exact kept (letter_any y3 w))
  have l1 : sf.data.toList = Lib.itoa y1 := by rw [← hsf, bs_data]
  have l2 : st.data.toList = Lib.itoa y2 := by rw [← hst, bs_data]
  have l3 : sd.data.toList = letD y3 := by rw [← hsd, letterS_letD]
  have l4 : sb.data.toList = y4 := by rw [← hsb, bs_data]
  have g1 : (sf ++ ⟨#[32]⟩ ++ sd ++ ⟨#[32]⟩ ++ st).data.toList = Lib.itoa y1 ++ [32] ++ letD y3 ++ [32] ++ Lib.itoa y2 := by
    simp only [cat_list, l1, l2, l3, List.append_assoc]
  have g2 : (sf ++ ⟨#[32]⟩ ++ sd ++ ⟨#[32]⟩ ++ st ++ (⟨#[32]⟩ ++ sb)).data.toList = Lib.itoa y1 ++ [32] ++ letD y3 ++ [32] ++ Lib.itoa y2 ++ 32 :: y4 := by
    simp only [cat_list, l1, l2, l3, l4, List.append_assoc]; rfl
  have hzf : sf.size ≤ 7 := by rw [size_list, l1]; exact itoa_short o1 (by omega)
  have hzt : st.size ≤ 7 := by rw [size_list, l2]; exact itoa_short o3 (by omega)
  have hzd : sd.size ≤ 1 := by rw [size_list, l3, (dir_letD o5 o6).2.2.2.2]; exact Nat.le_refl _
  have hzb : sb.size ≤ 4096 := by rw [size_list, l4]; exact hb
  have p1 : (sf ++ ⟨#[32]⟩).size ≤ 8 := by rw [ByteArray.size_append]; show _ + 1 ≤ 8; omega
  have p2 : (sf ++ ⟨#[32]⟩ ++ sd).size ≤ 9 := by rw [ByteArray.size_append]; omega
  have p3 : (sf ++ ⟨#[32]⟩ ++ sd ++ ⟨#[32]⟩).size ≤ 10 := by rw [ByteArray.size_append]; show _ + 1 ≤ 10; omega
  have p4 : (sf ++ ⟨#[32]⟩ ++ sd ++ ⟨#[32]⟩ ++ st).size ≤ 17 := by rw [ByteArray.size_append]; omega
  have p5 : ((⟨#[32]⟩ : ByteArray) ++ sb).size ≤ 4097 := by rw [ByteArray.size_append]; show 1 + sb.size ≤ 4097; omega
  have n1 : ¬ 9223372036854775807 < sf.size + 1 := by omega
  have n2 : ¬ 9223372036854775807 < sf.size + 1 + sd.size := by omega
  have n3 : ¬ 9223372036854775807 < sf.size + 1 + sd.size + 1 := by omega
  have n4 : ¬ 9223372036854775807 < sf.size + 1 + sd.size + 1 + st.size := by omega
  have LT : Hid (sb.data.toList = y4) := Lib.hid l4
  have G1 := Lib.hid g1
  have G2 := Lib.hid g2
  have EL := Lib.hid (edgL_eq (y1, y2, y3, y4))
  clear hT hsf hst hsd hsb l1 l2 l3 l4 o1 o2 o3 o4 o5 o6 o7 g1 g2 hb hn
  by_cases hy : y4 = []
  all_goals
    go_enter Tryd.func21, Tryd.ntmps21
    go_upto_region 1 with (fail)
    generalize hwa : World.alloc w _ = wa
    have b0 : Below w.heap.size w wa := by rw [← hwa]; exact (Below.refl _ _).alloc (Nat.le_refl _) _
    have hka : wa.heap[w.heap.size]? = some (.cells #[.int .i64 y1, .int .i64 y2, .int .i64 y3, .string sb] 23 (0, 0)) := by rw [← hwa]; exact heap_alloc_new w _
    have B0 := Lib.hid b0
    have z0 : w.heap.size < wa.heap.size := (Array.getElem?_eq_some_iff.1 hka).1
    have k0 : wa.cell? ⟨w.heap.size, 0, none⟩ = some (.int .i64 y1) := by simp [World.cell?, hka]
    have k1 : wa.cell? ⟨w.heap.size, 1, none⟩ = some (.int .i64 y2) := by simp [World.cell?, hka]
    have k2 : wa.cell? ⟨w.heap.size, 2, none⟩ = some (.int .i64 y3) := by simp [World.cell?, hka]
    have k3 := Lib.hid (show wa.cell? ⟨w.heap.size, 3, none⟩ = some (.string sb) by simp [World.cell?, hka])
    clear hwa b0 hka
    go_region_held3 (fun w' => w'.cell? ⟨w.heap.size, 0, none⟩ = some (.int .i64 y1) ∧ w'.cell? ⟨w.heap.size, 1, none⟩ = some (.int .i64 y2) ∧ w'.cell? ⟨w.heap.size, 2, none⟩ = some (.int .i64 y3))
      (first
        | go_keep
        | (go_split_ands
           refine ⟨?_, ?_, ?_⟩
           · (first | (rw [Q2.out.cell (p := ⟨w.heap.size, 0, none⟩) z0]; exact k0) | (rw [Q1.out.cell (p := ⟨w.heap.size, 0, none⟩) z0]; exact k0))
           · (first | (rw [Q2.out.cell (p := ⟨w.heap.size, 1, none⟩) z0]; exact k1) | (rw [Q1.out.cell (p := ⟨w.heap.size, 1, none⟩) z0]; exact k1))
           · (first | (rw [Q2.out.cell (p := ⟨w.heap.size, 2, none⟩) z0]; exact k2) | (rw [Q1.out.cell (p := ⟨w.heap.size, 2, none⟩) z0]; exact k2))))
      ((first
        | (go_at_call 27; refine (DL.out _).mono ?_; rintro e w3 ⟨rfl, rfl⟩)
        | (go_at_call 26; have _hz := Q1; refine (DT.out _ (HT.out.below (B0.out.trans (Q1.out.mono B0.out.size)) (Nat.le_refl _))).mono ?_; rintro e w2 ⟨rfl, hb⟩; have Q2 : Hid (Below wa.heap.size wa w2) := Lib.hid (Q1.out.trans (hb.mono Q1.out.size)); clear hb)
        | (go_at_call 26; refine (DF.out _ (HT.out.below (B0.out.trans ((Below.refl wa.heap.size wa).drew.mono B0.out.size)) (Nat.le_refl _))).mono ?_; rintro e w1 ⟨rfl, hb⟩; have Q1 : Hid (Below wa.heap.size wa w1) := Lib.hid ((Below.refl wa.heap.size wa).drew.trans hb); clear hb)))
    have m3 := (Q2.out.cell (p := ⟨w.heap.size, 3, none⟩) z0).trans k3.out
    have ml := Nat.lt_of_lt_of_le z0 Q2.out.size
    have BW := Lib.hid (B0.out.trans (Q2.out.mono B0.out.size))
    clear k0 k1 k2 k3 Q1 n1 n2 n3 n4
  · have q5 : (sb.toList == []) = true := by rw [toList_data, LT.out, hy]; rfl
    have q6 : (sb.toList != []) = false := by rw [bne, q5]; rfl
    have R : Hid ((sf ++ ⟨#[32]⟩ ++ sd ++ ⟨#[32]⟩ ++ st).data.toList = edgL (y1, y2, y3, y4)) := Lib.hid (by rw [G1.out, EL.out, if_pos hy]; simp)
    clear hy
    go_wp2
    go_ret
    exact ⟨ret_string (by rw [← R.out, bs_list]), BW.out⟩
  · have q5 : (sb.toList == []) = false := by rw [toList_data, LT.out]; simpa using hy
    have q6 : (sb.toList != []) = true := by rw [bne, q5]; rfl
    have R : Hid ((sf ++ ⟨#[32]⟩ ++ sd ++ ⟨#[32]⟩ ++ st ++ (⟨#[32]⟩ ++ sb)).data.toList = edgL (y1, y2, y3, y4)) := Lib.hid (by rw [G2.out, EL.out, if_neg hy])
    clear hy
    go_wp2
    go_ret
    exact ⟨ret_string (by rw [← R.out, bs_list]), BW.out⟩
end Go.Proofs.YtgedcalplfnjmaaDoor
