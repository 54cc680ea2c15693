/-
  Crossed: its first test, way by way. Conditions: none.
  Crossed: its second test, way by way. Conditions: none.
  That the reference's Crossed answers something. Conditions: at most 100000 cells; each edge to the right or above leads to a cell.
  Rows of points of the call's own (the reference's Make lays one), two points compared. Conditions: none.
  What the reference's Make lays: places apart, cells that may be. Conditions: at most 100000 bytes a list; what Crossed answers is a premise (CrossSpec; refCrossed gives it).
-/
import Derived.Test.YtkakeakdgidigaaDoorNzRc
import Derived.Test.YtkakeakdgidigaaDoorNzRa
import Derived.IntWalk
namespace Go.Proofs.YtkakeakdgidigaaDoor
open Go.RowKit Go.Proofs.YtkakeakdgidigaaDoor.GrM

/-- A region of a function's own text, by its number. -/
def regOf (k : Nat) : Code → Option Code
  | .region j o b => if j = k then some (.region j o b) else none
  | .seq a b => match regOf k a with
    | some c => some c
    | none => regOf k b
  | .cond _ a b => match regOf k a with
    | some c => some c
    | none => regOf k b
  | .block _ c => regOf k c
  | .loop c => regOf k c
  | .scope c => regOf k c
  | _ => none
noncomputable def crR (k : Nat) : Code := (Tryd.f13.body.bind (regOf k)).getD .skip
/-- What lies in memory when Crossed asks. -/
structure CrF (wa : World) (b o9 n i x m : Nat) (xi yi xx yx xk yk xj yj : Int) : Prop where
  hi : i < n
  hx : x < n
  b0 : wa.cell? ⟨m, 0, none⟩ = some (.int .i64 xk)
  b1 : wa.cell? ⟨m, 1, none⟩ = some (.int .i64 yk)
  b2 : wa.cell? ⟨m + 1, 0, none⟩ = some (.int .i64 xj)
  b3 : wa.cell? ⟨m + 1, 1, none⟩ = some (.int .i64 yj)
  k0 : wa.cell? ⟨b, o9 + i * 2, none⟩ = some (.int .i64 xi)
  k1 : wa.cell? ⟨b, o9 + i * 2 + 1, none⟩ = some (.int .i64 yi)
  k2 : wa.cell? ⟨b, o9 + x * 2, none⟩ = some (.int .i64 xx)
  k3 : wa.cell? ⟨b, o9 + x * 2 + 1, none⟩ = some (.int .i64 yx)
set_option maxHeartbeats 4000000 in
set_option maxRecDepth 100000 in
theorem crA_0 {s1 s4 s5 s6 s7 s8 s9 s10 s11 s14 s15 s16 s17 s18 s19 s20 s21 s22 s23 s24 s25 s26 s27 s28 s29 s30 s31 s32 s33 s34 s35 s36 s37 s38 s39 s40 s41 s42 s43 s44 s45 s46 s47 s48 s49 s50 s51 s52 s53 s54 s55 s56 s57 s58 s59 s60 s61 s62 s63 s64 s65 s66 s67 s68 s69 s70 s71 s72 s73 s74 s75 s76 s77 s78 s79 s80 s81 s82 s83 s84 s85 s86 s87 s88 s89 s90 s91 s92 s93 s94 s95 s96 s97 s98 s99 s100 s101 s102 s103 s104 s105 s106 s107 s108 s109 s110 s111 s112 s113 s114 s115 s116 s117 s118 s119 s120 s121 s122 s123 s124 s125 s126 s127 s128 s129 s130 s131 s132 s133 s134 s135 s136 s137 s138 s139 s140 s141 s142 s143 s144 s145 s146 s147 s148 s149 s150 s151 s152 s153 s154 s155 s156 : Value} {b o9 n c0 i x m : Nat} {xi yi xx yx xk yk xj yj : Int} {wa : World} {Q : Exit → Act → World → Prop} (F : CrF wa b o9 n i x m xi yi xx yx xk yk xj yj) (t0 : (yk == yj) = false)
    (hexit : ∀ (t : Bool) (u41 u42 u43 u44 u45 u46 u47 u48 u49 u50 u51 u52 u53 u54 u55 u56 u57 u58 u59 u60 u61 u62 u63 u64 u65 u66 u67 u68 u69 u70 u71 u72 u73 u74 u75 u76 u77 u78 u79 u80 u81 u82 u83 u84 u85 u86 u87 u88 u89 u90 u91 u92 u93 u94 u95 u96 u97 : Value) (w' : World), Below wa.heap.size wa w' → Q .normal ⟨#[.slice (some ⟨b, o9, none⟩) n c0, s1, .int .i64 (i : Nat), .int .i64 (x : Nat), s4, s5, s6, s7, s8, s9, s10, s11, .pointer (some ⟨m, 0, none⟩), .pointer (some ⟨m + 1, 0, none⟩), s14, s15, s16, s17, s18, s19, s20, s21, s22, s23, s24, s25, s26, s27, s28, s29, s30, s31, s32, s33, s34, s35, s36, s37, s38, s39, s40, u41, u42, u43, u44, u45, u46, u47, u48, u49, u50, u51, u52, u53, u54, u55, u56, u57, u58, u59, u60, u61, u62, u63, u64, u65, u66, u67, u68, u69, u70, u71, u72, u73, u74, u75, u76, u77, u78, u79, u80, u81, u82, u83, u84, u85, u86, u87, u88, u89, u90, u91, u92, u93, u94, u95, u96, u97, .bool t, s99, s100, s101, s102, s103, s104, s105, s106, s107, s108, s109, s110, s111, s112, s113, s114, s115, s116, s117, s118, s119, s120, s121, s122, s123, s124, s125, s126, s127, s128, s129, s130, s131, s132, s133, s134, s135, s136, s137, s138, s139, s140, s141, s142, s143, s144, s145, s146, s147, s148, s149, s150, s151, s152, s153, s154, s155, s156], []⟩ w') : Code.wp Tryd.prog (crR 11) Q ⟨#[.slice (some ⟨b, o9, none⟩) n c0, s1, .int .i64 (i : Nat), .int .i64 (x : Nat), s4, s5, s6, s7, s8, s9, s10, s11, .pointer (some ⟨m, 0, none⟩), .pointer (some ⟨m + 1, 0, none⟩), s14, s15, s16, s17, s18, s19, s20, s21, s22, s23, s24, s25, s26, s27, s28, s29, s30, s31, s32, s33, s34, s35, s36, s37, s38, s39, s40, s41, s42, s43, s44, s45, s46, s47, s48, s49, s50, s51, s52, s53, s54, s55, s56, s57, s58, s59, s60, s61, s62, s63, s64, s65, s66, s67, s68, s69, s70, s71, s72, s73, s74, s75, s76, s77, s78, s79, s80, s81, s82, s83, s84, s85, s86, s87, s88, s89, s90, s91, s92, s93, s94, s95, s96, s97, s98, s99, s100, s101, s102, s103, s104, s105, s106, s107, s108, s109, s110, s111, s112, s113, s114, s115, s116, s117, s118, s119, s120, s121, s122, s123, s124, s125, s126, s127, s128, s129, s130, s131, s132, s133, s134, s135, s136, s137, s138, s139, s140, s141, s142, s143, s144, s145, s146, s147, s148, s149, s150, s151, s152, s153, s154, s155, s156], []⟩ wa := by
  obtain ⟨hi, hx, b0, b1, b2, b3, k0, k1, k2, k3⟩ := F
  have HX := Lib.hid hexit
  clear hexit
  dsimp only
  conv => arg 2; whnf
  go_quiet (fail)
  exact HX.out false _ _ _ _ _ _ _ _ _ _ _ _ _ _ _ _ _ _ _ _ _ _ _ _ _ _ _ _ _ _ _ _ _ _ _ _ _ _ _ _ _ _ _ _ _ _ _ _ _ _ _ _ _ _ _ _ _ _ (drewN_below (Below.refl _ _) _)
set_option maxHeartbeats 4000000 in
set_option maxRecDepth 100000 in
theorem crA_1 {s1 s4 s5 s6 s7 s8 s9 s10 s11 s14 s15 s16 s17 s18 s19 s20 s21 s22 s23 s24 s25 s26 s27 s28 s29 s30 s31 s32 s33 s34 s35 s36 s37 s38 s39 s40 s41 s42 s43 s44 s45 s46 s47 s48 s49 s50 s51 s52 s53 s54 s55 s56 s57 s58 s59 s60 s61 s62 s63 s64 s65 s66 s67 s68 s69 s70 s71 s72 s73 s74 s75 s76 s77 s78 s79 s80 s81 s82 s83 s84 s85 s86 s87 s88 s89 s90 s91 s92 s93 s94 s95 s96 s97 s98 s99 s100 s101 s102 s103 s104 s105 s106 s107 s108 s109 s110 s111 s112 s113 s114 s115 s116 s117 s118 s119 s120 s121 s122 s123 s124 s125 s126 s127 s128 s129 s130 s131 s132 s133 s134 s135 s136 s137 s138 s139 s140 s141 s142 s143 s144 s145 s146 s147 s148 s149 s150 s151 s152 s153 s154 s155 s156 : Value} {b o9 n c0 i x m : Nat} {xi yi xx yx xk yk xj yj : Int} {wa : World} {Q : Exit → Act → World → Prop} (F : CrF wa b o9 n i x m xi yi xx yx xk yk xj yj) (t0 : (yk == yj) = true) (t1 : (xi == xx) = false)
    (hexit : ∀ (t : Bool) (u41 u42 u43 u44 u45 u46 u47 u48 u49 u50 u51 u52 u53 u54 u55 u56 u57 u58 u59 u60 u61 u62 u63 u64 u65 u66 u67 u68 u69 u70 u71 u72 u73 u74 u75 u76 u77 u78 u79 u80 u81 u82 u83 u84 u85 u86 u87 u88 u89 u90 u91 u92 u93 u94 u95 u96 u97 : Value) (w' : World), Below wa.heap.size wa w' → Q .normal ⟨#[.slice (some ⟨b, o9, none⟩) n c0, s1, .int .i64 (i : Nat), .int .i64 (x : Nat), s4, s5, s6, s7, s8, s9, s10, s11, .pointer (some ⟨m, 0, none⟩), .pointer (some ⟨m + 1, 0, none⟩), s14, s15, s16, s17, s18, s19, s20, s21, s22, s23, s24, s25, s26, s27, s28, s29, s30, s31, s32, s33, s34, s35, s36, s37, s38, s39, s40, u41, u42, u43, u44, u45, u46, u47, u48, u49, u50, u51, u52, u53, u54, u55, u56, u57, u58, u59, u60, u61, u62, u63, u64, u65, u66, u67, u68, u69, u70, u71, u72, u73, u74, u75, u76, u77, u78, u79, u80, u81, u82, u83, u84, u85, u86, u87, u88, u89, u90, u91, u92, u93, u94, u95, u96, u97, .bool t, s99, s100, s101, s102, s103, s104, s105, s106, s107, s108, s109, s110, s111, s112, s113, s114, s115, s116, s117, s118, s119, s120, s121, s122, s123, s124, s125, s126, s127, s128, s129, s130, s131, s132, s133, s134, s135, s136, s137, s138, s139, s140, s141, s142, s143, s144, s145, s146, s147, s148, s149, s150, s151, s152, s153, s154, s155, s156], []⟩ w') : Code.wp Tryd.prog (crR 11) Q ⟨#[.slice (some ⟨b, o9, none⟩) n c0, s1, .int .i64 (i : Nat), .int .i64 (x : Nat), s4, s5, s6, s7, s8, s9, s10, s11, .pointer (some ⟨m, 0, none⟩), .pointer (some ⟨m + 1, 0, none⟩), s14, s15, s16, s17, s18, s19, s20, s21, s22, s23, s24, s25, s26, s27, s28, s29, s30, s31, s32, s33, s34, s35, s36, s37, s38, s39, s40, s41, s42, s43, s44, s45, s46, s47, s48, s49, s50, s51, s52, s53, s54, s55, s56, s57, s58, s59, s60, s61, s62, s63, s64, s65, s66, s67, s68, s69, s70, s71, s72, s73, s74, s75, s76, s77, s78, s79, s80, s81, s82, s83, s84, s85, s86, s87, s88, s89, s90, s91, s92, s93, s94, s95, s96, s97, s98, s99, s100, s101, s102, s103, s104, s105, s106, s107, s108, s109, s110, s111, s112, s113, s114, s115, s116, s117, s118, s119, s120, s121, s122, s123, s124, s125, s126, s127, s128, s129, s130, s131, s132, s133, s134, s135, s136, s137, s138, s139, s140, s141, s142, s143, s144, s145, s146, s147, s148, s149, s150, s151, s152, s153, s154, s155, s156], []⟩ wa := by
  obtain ⟨hi, hx, b0, b1, b2, b3, k0, k1, k2, k3⟩ := F
  have HX := Lib.hid hexit
  clear hexit
  dsimp only
  conv => arg 2; whnf
  go_quiet (fail)
  exact HX.out false _ _ _ _ _ _ _ _ _ _ _ _ _ _ _ _ _ _ _ _ _ _ _ _ _ _ _ _ _ _ _ _ _ _ _ _ _ _ _ _ _ _ _ _ _ _ _ _ _ _ _ _ _ _ _ _ _ _ (drewN_below (Below.refl _ _) _)
set_option maxHeartbeats 4000000 in
set_option maxRecDepth 100000 in
theorem crA_2 {s1 s4 s5 s6 s7 s8 s9 s10 s11 s14 s15 s16 s17 s18 s19 s20 s21 s22 s23 s24 s25 s26 s27 s28 s29 s30 s31 s32 s33 s34 s35 s36 s37 s38 s39 s40 s41 s42 s43 s44 s45 s46 s47 s48 s49 s50 s51 s52 s53 s54 s55 s56 s57 s58 s59 s60 s61 s62 s63 s64 s65 s66 s67 s68 s69 s70 s71 s72 s73 s74 s75 s76 s77 s78 s79 s80 s81 s82 s83 s84 s85 s86 s87 s88 s89 s90 s91 s92 s93 s94 s95 s96 s97 s98 s99 s100 s101 s102 s103 s104 s105 s106 s107 s108 s109 s110 s111 s112 s113 s114 s115 s116 s117 s118 s119 s120 s121 s122 s123 s124 s125 s126 s127 s128 s129 s130 s131 s132 s133 s134 s135 s136 s137 s138 s139 s140 s141 s142 s143 s144 s145 s146 s147 s148 s149 s150 s151 s152 s153 s154 s155 s156 : Value} {b o9 n c0 i x m : Nat} {xi yi xx yx xk yk xj yj : Int} {wa : World} {Q : Exit → Act → World → Prop} (F : CrF wa b o9 n i x m xi yi xx yx xk yk xj yj) (t0 : (yk == yj) = true) (t1 : (xi == xx) = true) (t2 : decide (xk < xi) = false)
    (hexit : ∀ (t : Bool) (u41 u42 u43 u44 u45 u46 u47 u48 u49 u50 u51 u52 u53 u54 u55 u56 u57 u58 u59 u60 u61 u62 u63 u64 u65 u66 u67 u68 u69 u70 u71 u72 u73 u74 u75 u76 u77 u78 u79 u80 u81 u82 u83 u84 u85 u86 u87 u88 u89 u90 u91 u92 u93 u94 u95 u96 u97 : Value) (w' : World), Below wa.heap.size wa w' → Q .normal ⟨#[.slice (some ⟨b, o9, none⟩) n c0, s1, .int .i64 (i : Nat), .int .i64 (x : Nat), s4, s5, s6, s7, s8, s9, s10, s11, .pointer (some ⟨m, 0, none⟩), .pointer (some ⟨m + 1, 0, none⟩), s14, s15, s16, s17, s18, s19, s20, s21, s22, s23, s24, s25, s26, s27, s28, s29, s30, s31, s32, s33, s34, s35, s36, s37, s38, s39, s40, u41, u42, u43, u44, u45, u46, u47, u48, u49, u50, u51, u52, u53, u54, u55, u56, u57, u58, u59, u60, u61, u62, u63, u64, u65, u66, u67, u68, u69, u70, u71, u72, u73, u74, u75, u76, u77, u78, u79, u80, u81, u82, u83, u84, u85, u86, u87, u88, u89, u90, u91, u92, u93, u94, u95, u96, u97, .bool t, s99, s100, s101, s102, s103, s104, s105, s106, s107, s108, s109, s110, s111, s112, s113, s114, s115, s116, s117, s118, s119, s120, s121, s122, s123, s124, s125, s126, s127, s128, s129, s130, s131, s132, s133, s134, s135, s136, s137, s138, s139, s140, s141, s142, s143, s144, s145, s146, s147, s148, s149, s150, s151, s152, s153, s154, s155, s156], []⟩ w') : Code.wp Tryd.prog (crR 11) Q ⟨#[.slice (some ⟨b, o9, none⟩) n c0, s1, .int .i64 (i : Nat), .int .i64 (x : Nat), s4, s5, s6, s7, s8, s9, s10, s11, .pointer (some ⟨m, 0, none⟩), .pointer (some ⟨m + 1, 0, none⟩), s14, s15, s16, s17, s18, s19, s20, s21, s22, s23, s24, s25, s26, s27, s28, s29, s30, s31, s32, s33, s34, s35, s36, s37, s38, s39, s40, s41, s42, s43, s44, s45, s46, s47, s48, s49, s50, s51, s52, s53, s54, s55, s56, s57, s58, s59, s60, s61, s62, s63, s64, s65, s66, s67, s68, s69, s70, s71, s72, s73, s74, s75, s76, s77, s78, s79, s80, s81, s82, s83, s84, s85, s86, s87, s88, s89, s90, s91, s92, s93, s94, s95, s96, s97, s98, s99, s100, s101, s102, s103, s104, s105, s106, s107, s108, s109, s110, s111, s112, s113, s114, s115, s116, s117, s118, s119, s120, s121, s122, s123, s124, s125, s126, s127, s128, s129, s130, s131, s132, s133, s134, s135, s136, s137, s138, s139, s140, s141, s142, s143, s144, s145, s146, s147, s148, s149, s150, s151, s152, s153, s154, s155, s156], []⟩ wa := by
  obtain ⟨hi, hx, b0, b1, b2, b3, k0, k1, k2, k3⟩ := F
  have HX := Lib.hid hexit
  clear hexit
  dsimp only
  conv => arg 2; whnf
  go_quiet (fail)
  exact HX.out false _ _ _ _ _ _ _ _ _ _ _ _ _ _ _ _ _ _ _ _ _ _ _ _ _ _ _ _ _ _ _ _ _ _ _ _ _ _ _ _ _ _ _ _ _ _ _ _ _ _ _ _ _ _ _ _ _ _ (drewN_below (Below.refl _ _) _)
set_option maxHeartbeats 4000000 in
set_option maxRecDepth 100000 in
theorem crA_3 {s1 s4 s5 s6 s7 s8 s9 s10 s11 s14 s15 s16 s17 s18 s19 s20 s21 s22 s23 s24 s25 s26 s27 s28 s29 s30 s31 s32 s33 s34 s35 s36 s37 s38 s39 s40 s41 s42 s43 s44 s45 s46 s47 s48 s49 s50 s51 s52 s53 s54 s55 s56 s57 s58 s59 s60 s61 s62 s63 s64 s65 s66 s67 s68 s69 s70 s71 s72 s73 s74 s75 s76 s77 s78 s79 s80 s81 s82 s83 s84 s85 s86 s87 s88 s89 s90 s91 s92 s93 s94 s95 s96 s97 s98 s99 s100 s101 s102 s103 s104 s105 s106 s107 s108 s109 s110 s111 s112 s113 s114 s115 s116 s117 s118 s119 s120 s121 s122 s123 s124 s125 s126 s127 s128 s129 s130 s131 s132 s133 s134 s135 s136 s137 s138 s139 s140 s141 s142 s143 s144 s145 s146 s147 s148 s149 s150 s151 s152 s153 s154 s155 s156 : Value} {b o9 n c0 i x m : Nat} {xi yi xx yx xk yk xj yj : Int} {wa : World} {Q : Exit → Act → World → Prop} (F : CrF wa b o9 n i x m xi yi xx yx xk yk xj yj) (t0 : (yk == yj) = true) (t1 : (xi == xx) = true) (t2 : decide (xk < xi) = true) (t3 : decide (xi < xj) = false)
    (hexit : ∀ (t : Bool) (u41 u42 u43 u44 u45 u46 u47 u48 u49 u50 u51 u52 u53 u54 u55 u56 u57 u58 u59 u60 u61 u62 u63 u64 u65 u66 u67 u68 u69 u70 u71 u72 u73 u74 u75 u76 u77 u78 u79 u80 u81 u82 u83 u84 u85 u86 u87 u88 u89 u90 u91 u92 u93 u94 u95 u96 u97 : Value) (w' : World), Below wa.heap.size wa w' → Q .normal ⟨#[.slice (some ⟨b, o9, none⟩) n c0, s1, .int .i64 (i : Nat), .int .i64 (x : Nat), s4, s5, s6, s7, s8, s9, s10, s11, .pointer (some ⟨m, 0, none⟩), .pointer (some ⟨m + 1, 0, none⟩), s14, s15, s16, s17, s18, s19, s20, s21, s22, s23, s24, s25, s26, s27, s28, s29, s30, s31, s32, s33, s34, s35, s36, s37, s38, s39, s40, u41, u42, u43, u44, u45, u46, u47, u48, u49, u50, u51, u52, u53, u54, u55, u56, u57, u58, u59, u60, u61, u62, u63, u64, u65, u66, u67, u68, u69, u70, u71, u72, u73, u74, u75, u76, u77, u78, u79, u80, u81, u82, u83, u84, u85, u86, u87, u88, u89, u90, u91, u92, u93, u94, u95, u96, u97, .bool t, s99, s100, s101, s102, s103, s104, s105, s106, s107, s108, s109, s110, s111, s112, s113, s114, s115, s116, s117, s118, s119, s120, s121, s122, s123, s124, s125, s126, s127, s128, s129, s130, s131, s132, s133, s134, s135, s136, s137, s138, s139, s140, s141, s142, s143, s144, s145, s146, s147, s148, s149, s150, s151, s152, s153, s154, s155, s156], []⟩ w') : Code.wp Tryd.prog (crR 11) Q ⟨#[.slice (some ⟨b, o9, none⟩) n c0, s1, .int .i64 (i : Nat), .int .i64 (x : Nat), s4, s5, s6, s7, s8, s9, s10, s11, .pointer (some ⟨m, 0, none⟩), .pointer (some ⟨m + 1, 0, none⟩), s14, s15, s16, s17, s18, s19, s20, s21, s22, s23, s24, s25, s26, s27, s28, s29, s30, s31, s32, s33, s34, s35, s36, s37, s38, s39, s40, s41, s42, s43, s44, s45, s46, s47, s48, s49, s50, s51, s52, s53, s54, s55, s56, s57, s58, s59, s60, s61, s62, s63, s64, s65, s66, s67, s68, s69, s70, s71, s72, s73, s74, s75, s76, s77, s78, s79, s80, s81, s82, s83, s84, s85, s86, s87, s88, s89, s90, s91, s92, s93, s94, s95, s96, s97, s98, s99, s100, s101, s102, s103, s104, s105, s106, s107, s108, s109, s110, s111, s112, s113, s114, s115, s116, s117, s118, s119, s120, s121, s122, s123, s124, s125, s126, s127, s128, s129, s130, s131, s132, s133, s134, s135, s136, s137, s138, s139, s140, s141, s142, s143, s144, s145, s146, s147, s148, s149, s150, s151, s152, s153, s154, s155, s156], []⟩ wa := by
  obtain ⟨hi, hx, b0, b1, b2, b3, k0, k1, k2, k3⟩ := F
  have HX := Lib.hid hexit
  clear hexit
  dsimp only
  conv => arg 2; whnf
  go_quiet (fail)
  exact HX.out false _ _ _ _ _ _ _ _ _ _ _ _ _ _ _ _ _ _ _ _ _ _ _ _ _ _ _ _ _ _ _ _ _ _ _ _ _ _ _ _ _ _ _ _ _ _ _ _ _ _ _ _ _ _ _ _ _ _ (drewN_below (Below.refl _ _) _)
set_option maxHeartbeats 4000000 in
set_option maxRecDepth 100000 in
theorem crA_4 {s1 s4 s5 s6 s7 s8 s9 s10 s11 s14 s15 s16 s17 s18 s19 s20 s21 s22 s23 s24 s25 s26 s27 s28 s29 s30 s31 s32 s33 s34 s35 s36 s37 s38 s39 s40 s41 s42 s43 s44 s45 s46 s47 s48 s49 s50 s51 s52 s53 s54 s55 s56 s57 s58 s59 s60 s61 s62 s63 s64 s65 s66 s67 s68 s69 s70 s71 s72 s73 s74 s75 s76 s77 s78 s79 s80 s81 s82 s83 s84 s85 s86 s87 s88 s89 s90 s91 s92 s93 s94 s95 s96 s97 s98 s99 s100 s101 s102 s103 s104 s105 s106 s107 s108 s109 s110 s111 s112 s113 s114 s115 s116 s117 s118 s119 s120 s121 s122 s123 s124 s125 s126 s127 s128 s129 s130 s131 s132 s133 s134 s135 s136 s137 s138 s139 s140 s141 s142 s143 s144 s145 s146 s147 s148 s149 s150 s151 s152 s153 s154 s155 s156 : Value} {b o9 n c0 i x m : Nat} {xi yi xx yx xk yk xj yj : Int} {wa : World} {Q : Exit → Act → World → Prop} (F : CrF wa b o9 n i x m xi yi xx yx xk yk xj yj) (t0 : (yk == yj) = true) (t1 : (xi == xx) = true) (t2 : decide (xk < xi) = true) (t3 : decide (xi < xj) = true) (t4 : decide (yi < yk) = false)
    (hexit : ∀ (t : Bool) (u41 u42 u43 u44 u45 u46 u47 u48 u49 u50 u51 u52 u53 u54 u55 u56 u57 u58 u59 u60 u61 u62 u63 u64 u65 u66 u67 u68 u69 u70 u71 u72 u73 u74 u75 u76 u77 u78 u79 u80 u81 u82 u83 u84 u85 u86 u87 u88 u89 u90 u91 u92 u93 u94 u95 u96 u97 : Value) (w' : World), Below wa.heap.size wa w' → Q .normal ⟨#[.slice (some ⟨b, o9, none⟩) n c0, s1, .int .i64 (i : Nat), .int .i64 (x : Nat), s4, s5, s6, s7, s8, s9, s10, s11, .pointer (some ⟨m, 0, none⟩), .pointer (some ⟨m + 1, 0, none⟩), s14, s15, s16, s17, s18, s19, s20, s21, s22, s23, s24, s25, s26, s27, s28, s29, s30, s31, s32, s33, s34, s35, s36, s37, s38, s39, s40, u41, u42, u43, u44, u45, u46, u47, u48, u49, u50, u51, u52, u53, u54, u55, u56, u57, u58, u59, u60, u61, u62, u63, u64, u65, u66, u67, u68, u69, u70, u71, u72, u73, u74, u75, u76, u77, u78, u79, u80, u81, u82, u83, u84, u85, u86, u87, u88, u89, u90, u91, u92, u93, u94, u95, u96, u97, .bool t, s99, s100, s101, s102, s103, s104, s105, s106, s107, s108, s109, s110, s111, s112, s113, s114, s115, s116, s117, s118, s119, s120, s121, s122, s123, s124, s125, s126, s127, s128, s129, s130, s131, s132, s133, s134, s135, s136, s137, s138, s139, s140, s141, s142, s143, s144, s145, s146, s147, s148, s149, s150, s151, s152, s153, s154, s155, s156], []⟩ w') : Code.wp Tryd.prog (crR 11) Q ⟨#[.slice (some ⟨b, o9, none⟩) n c0, s1, .int .i64 (i : Nat), .int .i64 (x : Nat), s4, s5, s6, s7, s8, s9, s10, s11, .pointer (some ⟨m, 0, none⟩), .pointer (some ⟨m + 1, 0, none⟩), s14, s15, s16, s17, s18, s19, s20, s21, s22, s23, s24, s25, s26, s27, s28, s29, s30, s31, s32, s33, s34, s35, s36, s37, s38, s39, s40, s41, s42, s43, s44, s45, s46, s47, s48, s49, s50, s51, s52, s53, s54, s55, s56, s57, s58, s59, s60, s61, s62, s63, s64, s65, s66, s67, s68, s69, s70, s71, s72, s73, s74, s75, s76, s77, s78, s79, s80, s81, s82, s83, s84, s85, s86, s87, s88, s89, s90, s91, s92, s93, s94, s95, s96, s97, s98, s99, s100, s101, s102, s103, s104, s105, s106, s107, s108, s109, s110, s111, s112, s113, s114, s115, s116, s117, s118, s119, s120, s121, s122, s123, s124, s125, s126, s127, s128, s129, s130, s131, s132, s133, s134, s135, s136, s137, s138, s139, s140, s141, s142, s143, s144, s145, s146, s147, s148, s149, s150, s151, s152, s153, s154, s155, s156], []⟩ wa := by
  obtain ⟨hi, hx, b0, b1, b2, b3, k0, k1, k2, k3⟩ := F
  have HX := Lib.hid hexit
  clear hexit
  dsimp only
  conv => arg 2; whnf
  go_quiet (fail)
  exact HX.out false _ _ _ _ _ _ _ _ _ _ _ _ _ _ _ _ _ _ _ _ _ _ _ _ _ _ _ _ _ _ _ _ _ _ _ _ _ _ _ _ _ _ _ _ _ _ _ _ _ _ _ _ _ _ _ _ _ _ (drewN_below (Below.refl _ _) _)
set_option maxHeartbeats 4000000 in
set_option maxRecDepth 100000 in
theorem crA_5 {s1 s4 s5 s6 s7 s8 s9 s10 s11 s14 s15 s16 s17 s18 s19 s20 s21 s22 s23 s24 s25 s26 s27 s28 s29 s30 s31 s32 s33 s34 s35 s36 s37 s38 s39 s40 s41 s42 s43 s44 s45 s46 s47 s48 s49 s50 s51 s52 s53 s54 s55 s56 s57 s58 s59 s60 s61 s62 s63 s64 s65 s66 s67 s68 s69 s70 s71 s72 s73 s74 s75 s76 s77 s78 s79 s80 s81 s82 s83 s84 s85 s86 s87 s88 s89 s90 s91 s92 s93 s94 s95 s96 s97 s98 s99 s100 s101 s102 s103 s104 s105 s106 s107 s108 s109 s110 s111 s112 s113 s114 s115 s116 s117 s118 s119 s120 s121 s122 s123 s124 s125 s126 s127 s128 s129 s130 s131 s132 s133 s134 s135 s136 s137 s138 s139 s140 s141 s142 s143 s144 s145 s146 s147 s148 s149 s150 s151 s152 s153 s154 s155 s156 : Value} {b o9 n c0 i x m : Nat} {xi yi xx yx xk yk xj yj : Int} {wa : World} {Q : Exit → Act → World → Prop} (F : CrF wa b o9 n i x m xi yi xx yx xk yk xj yj) (t0 : (yk == yj) = true) (t1 : (xi == xx) = true) (t2 : decide (xk < xi) = true) (t3 : decide (xi < xj) = true) (t4 : decide (yi < yk) = true) (t5 : decide (yk < yx) = false)
    (hexit : ∀ (t : Bool) (u41 u42 u43 u44 u45 u46 u47 u48 u49 u50 u51 u52 u53 u54 u55 u56 u57 u58 u59 u60 u61 u62 u63 u64 u65 u66 u67 u68 u69 u70 u71 u72 u73 u74 u75 u76 u77 u78 u79 u80 u81 u82 u83 u84 u85 u86 u87 u88 u89 u90 u91 u92 u93 u94 u95 u96 u97 : Value) (w' : World), Below wa.heap.size wa w' → Q .normal ⟨#[.slice (some ⟨b, o9, none⟩) n c0, s1, .int .i64 (i : Nat), .int .i64 (x : Nat), s4, s5, s6, s7, s8, s9, s10, s11, .pointer (some ⟨m, 0, none⟩), .pointer (some ⟨m + 1, 0, none⟩), s14, s15, s16, s17, s18, s19, s20, s21, s22, s23, s24, s25, s26, s27, s28, s29, s30, s31, s32, s33, s34, s35, s36, s37, s38, s39, s40, u41, u42, u43, u44, u45, u46, u47, u48, u49, u50, u51, u52, u53, u54, u55, u56, u57, u58, u59, u60, u61, u62, u63, u64, u65, u66, u67, u68, u69, u70, u71, u72, u73, u74, u75, u76, u77, u78, u79, u80, u81, u82, u83, u84, u85, u86, u87, u88, u89, u90, u91, u92, u93, u94, u95, u96, u97, .bool t, s99, s100, s101, s102, s103, s104, s105, s106, s107, s108, s109, s110, s111, s112, s113, s114, s115, s116, s117, s118, s119, s120, s121, s122, s123, s124, s125, s126, s127, s128, s129, s130, s131, s132, s133, s134, s135, s136, s137, s138, s139, s140, s141, s142, s143, s144, s145, s146, s147, s148, s149, s150, s151, s152, s153, s154, s155, s156], []⟩ w') : Code.wp Tryd.prog (crR 11) Q ⟨#[.slice (some ⟨b, o9, none⟩) n c0, s1, .int .i64 (i : Nat), .int .i64 (x : Nat), s4, s5, s6, s7, s8, s9, s10, s11, .pointer (some ⟨m, 0, none⟩), .pointer (some ⟨m + 1, 0, none⟩), s14, s15, s16, s17, s18, s19, s20, s21, s22, s23, s24, s25, s26, s27, s28, s29, s30, s31, s32, s33, s34, s35, s36, s37, s38, s39, s40, s41, s42, s43, s44, s45, s46, s47, s48, s49, s50, s51, s52, s53, s54, s55, s56, s57, s58, s59, s60, s61, s62, s63, s64, s65, s66, s67, s68, s69, s70, s71, s72, s73, s74, s75, s76, s77, s78, s79, s80, s81, s82, s83, s84, s85, s86, s87, s88, s89, s90, s91, s92, s93, s94, s95, s96, s97, s98, s99, s100, s101, s102, s103, s104, s105, s106, s107, s108, s109, s110, s111, s112, s113, s114, s115, s116, s117, s118, s119, s120, s121, s122, s123, s124, s125, s126, s127, s128, s129, s130, s131, s132, s133, s134, s135, s136, s137, s138, s139, s140, s141, s142, s143, s144, s145, s146, s147, s148, s149, s150, s151, s152, s153, s154, s155, s156], []⟩ wa := by
  obtain ⟨hi, hx, b0, b1, b2, b3, k0, k1, k2, k3⟩ := F
  have HX := Lib.hid hexit
  clear hexit
  dsimp only
  conv => arg 2; whnf
  go_quiet (fail)
  exact HX.out false _ _ _ _ _ _ _ _ _ _ _ _ _ _ _ _ _ _ _ _ _ _ _ _ _ _ _ _ _ _ _ _ _ _ _ _ _ _ _ _ _ _ _ _ _ _ _ _ _ _ _ _ _ _ _ _ _ _ (drewN_below (Below.refl _ _) _)
set_option maxHeartbeats 4000000 in
set_option maxRecDepth 100000 in
theorem crA_6 {s1 s4 s5 s6 s7 s8 s9 s10 s11 s14 s15 s16 s17 s18 s19 s20 s21 s22 s23 s24 s25 s26 s27 s28 s29 s30 s31 s32 s33 s34 s35 s36 s37 s38 s39 s40 s41 s42 s43 s44 s45 s46 s47 s48 s49 s50 s51 s52 s53 s54 s55 s56 s57 s58 s59 s60 s61 s62 s63 s64 s65 s66 s67 s68 s69 s70 s71 s72 s73 s74 s75 s76 s77 s78 s79 s80 s81 s82 s83 s84 s85 s86 s87 s88 s89 s90 s91 s92 s93 s94 s95 s96 s97 s98 s99 s100 s101 s102 s103 s104 s105 s106 s107 s108 s109 s110 s111 s112 s113 s114 s115 s116 s117 s118 s119 s120 s121 s122 s123 s124 s125 s126 s127 s128 s129 s130 s131 s132 s133 s134 s135 s136 s137 s138 s139 s140 s141 s142 s143 s144 s145 s146 s147 s148 s149 s150 s151 s152 s153 s154 s155 s156 : Value} {b o9 n c0 i x m : Nat} {xi yi xx yx xk yk xj yj : Int} {wa : World} {Q : Exit → Act → World → Prop} (F : CrF wa b o9 n i x m xi yi xx yx xk yk xj yj) (t0 : (yk == yj) = true) (t1 : (xi == xx) = true) (t2 : decide (xk < xi) = true) (t3 : decide (xi < xj) = true) (t4 : decide (yi < yk) = true) (t5 : decide (yk < yx) = true)
    (hexit : ∀ (t : Bool) (u41 u42 u43 u44 u45 u46 u47 u48 u49 u50 u51 u52 u53 u54 u55 u56 u57 u58 u59 u60 u61 u62 u63 u64 u65 u66 u67 u68 u69 u70 u71 u72 u73 u74 u75 u76 u77 u78 u79 u80 u81 u82 u83 u84 u85 u86 u87 u88 u89 u90 u91 u92 u93 u94 u95 u96 u97 : Value) (w' : World), Below wa.heap.size wa w' → Q .normal ⟨#[.slice (some ⟨b, o9, none⟩) n c0, s1, .int .i64 (i : Nat), .int .i64 (x : Nat), s4, s5, s6, s7, s8, s9, s10, s11, .pointer (some ⟨m, 0, none⟩), .pointer (some ⟨m + 1, 0, none⟩), s14, s15, s16, s17, s18, s19, s20, s21, s22, s23, s24, s25, s26, s27, s28, s29, s30, s31, s32, s33, s34, s35, s36, s37, s38, s39, s40, u41, u42, u43, u44, u45, u46, u47, u48, u49, u50, u51, u52, u53, u54, u55, u56, u57, u58, u59, u60, u61, u62, u63, u64, u65, u66, u67, u68, u69, u70, u71, u72, u73, u74, u75, u76, u77, u78, u79, u80, u81, u82, u83, u84, u85, u86, u87, u88, u89, u90, u91, u92, u93, u94, u95, u96, u97, .bool t, s99, s100, s101, s102, s103, s104, s105, s106, s107, s108, s109, s110, s111, s112, s113, s114, s115, s116, s117, s118, s119, s120, s121, s122, s123, s124, s125, s126, s127, s128, s129, s130, s131, s132, s133, s134, s135, s136, s137, s138, s139, s140, s141, s142, s143, s144, s145, s146, s147, s148, s149, s150, s151, s152, s153, s154, s155, s156], []⟩ w') : Code.wp Tryd.prog (crR 11) Q ⟨#[.slice (some ⟨b, o9, none⟩) n c0, s1, .int .i64 (i : Nat), .int .i64 (x : Nat), s4, s5, s6, s7, s8, s9, s10, s11, .pointer (some ⟨m, 0, none⟩), .pointer (some ⟨m + 1, 0, none⟩), s14, s15, s16, s17, s18, s19, s20, s21, s22, s23, s24, s25, s26, s27, s28, s29, s30, s31, s32, s33, s34, s35, s36, s37, s38, s39, s40, s41, s42, s43, s44, s45, s46, s47, s48, s49, s50, s51, s52, s53, s54, s55, s56, s57, s58, s59, s60, s61, s62, s63, s64, s65, s66, s67, s68, s69, s70, s71, s72, s73, s74, s75, s76, s77, s78, s79, s80, s81, s82, s83, s84, s85, s86, s87, s88, s89, s90, s91, s92, s93, s94, s95, s96, s97, s98, s99, s100, s101, s102, s103, s104, s105, s106, s107, s108, s109, s110, s111, s112, s113, s114, s115, s116, s117, s118, s119, s120, s121, s122, s123, s124, s125, s126, s127, s128, s129, s130, s131, s132, s133, s134, s135, s136, s137, s138, s139, s140, s141, s142, s143, s144, s145, s146, s147, s148, s149, s150, s151, s152, s153, s154, s155, s156], []⟩ wa := by
  obtain ⟨hi, hx, b0, b1, b2, b3, k0, k1, k2, k3⟩ := F
  have HX := Lib.hid hexit
  clear hexit
  dsimp only
  conv => arg 2; whnf
  go_quiet (fail)
  exact HX.out true _ _ _ _ _ _ _ _ _ _ _ _ _ _ _ _ _ _ _ _ _ _ _ _ _ _ _ _ _ _ _ _ _ _ _ _ _ _ _ _ _ _ _ _ _ _ _ _ _ _ _ _ _ _ _ _ _ _ (drewN_below (Below.refl _ _) _)
theorem crA {s1 s4 s5 s6 s7 s8 s9 s10 s11 s14 s15 s16 s17 s18 s19 s20 s21 s22 s23 s24 s25 s26 s27 s28 s29 s30 s31 s32 s33 s34 s35 s36 s37 s38 s39 s40 s41 s42 s43 s44 s45 s46 s47 s48 s49 s50 s51 s52 s53 s54 s55 s56 s57 s58 s59 s60 s61 s62 s63 s64 s65 s66 s67 s68 s69 s70 s71 s72 s73 s74 s75 s76 s77 s78 s79 s80 s81 s82 s83 s84 s85 s86 s87 s88 s89 s90 s91 s92 s93 s94 s95 s96 s97 s98 s99 s100 s101 s102 s103 s104 s105 s106 s107 s108 s109 s110 s111 s112 s113 s114 s115 s116 s117 s118 s119 s120 s121 s122 s123 s124 s125 s126 s127 s128 s129 s130 s131 s132 s133 s134 s135 s136 s137 s138 s139 s140 s141 s142 s143 s144 s145 s146 s147 s148 s149 s150 s151 s152 s153 s154 s155 s156 : Value} {b o9 n c0 i x m : Nat} {xi yi xx yx xk yk xj yj : Int} {wa : World} {Q : Exit → Act → World → Prop} (F : CrF wa b o9 n i x m xi yi xx yx xk yk xj yj)
    (hexit : ∀ (t : Bool) (u41 u42 u43 u44 u45 u46 u47 u48 u49 u50 u51 u52 u53 u54 u55 u56 u57 u58 u59 u60 u61 u62 u63 u64 u65 u66 u67 u68 u69 u70 u71 u72 u73 u74 u75 u76 u77 u78 u79 u80 u81 u82 u83 u84 u85 u86 u87 u88 u89 u90 u91 u92 u93 u94 u95 u96 u97 : Value) (w' : World), Below wa.heap.size wa w' → Q .normal ⟨#[.slice (some ⟨b, o9, none⟩) n c0, s1, .int .i64 (i : Nat), .int .i64 (x : Nat), s4, s5, s6, s7, s8, s9, s10, s11, .pointer (some ⟨m, 0, none⟩), .pointer (some ⟨m + 1, 0, none⟩), s14, s15, s16, s17, s18, s19, s20, s21, s22, s23, s24, s25, s26, s27, s28, s29, s30, s31, s32, s33, s34, s35, s36, s37, s38, s39, s40, u41, u42, u43, u44, u45, u46, u47, u48, u49, u50, u51, u52, u53, u54, u55, u56, u57, u58, u59, u60, u61, u62, u63, u64, u65, u66, u67, u68, u69, u70, u71, u72, u73, u74, u75, u76, u77, u78, u79, u80, u81, u82, u83, u84, u85, u86, u87, u88, u89, u90, u91, u92, u93, u94, u95, u96, u97, .bool t, s99, s100, s101, s102, s103, s104, s105, s106, s107, s108, s109, s110, s111, s112, s113, s114, s115, s116, s117, s118, s119, s120, s121, s122, s123, s124, s125, s126, s127, s128, s129, s130, s131, s132, s133, s134, s135, s136, s137, s138, s139, s140, s141, s142, s143, s144, s145, s146, s147, s148, s149, s150, s151, s152, s153, s154, s155, s156], []⟩ w') : Code.wp Tryd.prog (crR 11) Q ⟨#[.slice (some ⟨b, o9, none⟩) n c0, s1, .int .i64 (i : Nat), .int .i64 (x : Nat), s4, s5, s6, s7, s8, s9, s10, s11, .pointer (some ⟨m, 0, none⟩), .pointer (some ⟨m + 1, 0, none⟩), s14, s15, s16, s17, s18, s19, s20, s21, s22, s23, s24, s25, s26, s27, s28, s29, s30, s31, s32, s33, s34, s35, s36, s37, s38, s39, s40, s41, s42, s43, s44, s45, s46, s47, s48, s49, s50, s51, s52, s53, s54, s55, s56, s57, s58, s59, s60, s61, s62, s63, s64, s65, s66, s67, s68, s69, s70, s71, s72, s73, s74, s75, s76, s77, s78, s79, s80, s81, s82, s83, s84, s85, s86, s87, s88, s89, s90, s91, s92, s93, s94, s95, s96, s97, s98, s99, s100, s101, s102, s103, s104, s105, s106, s107, s108, s109, s110, s111, s112, s113, s114, s115, s116, s117, s118, s119, s120, s121, s122, s123, s124, s125, s126, s127, s128, s129, s130, s131, s132, s133, s134, s135, s136, s137, s138, s139, s140, s141, s142, s143, s144, s145, s146, s147, s148, s149, s150, s151, s152, s153, s154, s155, s156], []⟩ wa := by
  cases t0 : (yk == yj) with
  | false => exact crA_0 F t0 hexit
  | true =>
    cases t1 : (xi == xx) with
    | false => exact crA_1 F t0 t1 hexit
    | true =>
      cases t2 : decide (xk < xi) with
      | false => exact crA_2 F t0 t1 t2 hexit
      | true =>
        cases t3 : decide (xi < xj) with
        | false => exact crA_3 F t0 t1 t2 t3 hexit
        | true =>
          cases t4 : decide (yi < yk) with
          | false => exact crA_4 F t0 t1 t2 t3 t4 hexit
          | true =>
            cases t5 : decide (yk < yx) with
            | false => exact crA_5 F t0 t1 t2 t3 t4 t5 hexit
            | true =>
              exact crA_6 F t0 t1 t2 t3 t4 t5 hexit
end Go.Proofs.YtkakeakdgidigaaDoor

namespace Go.Proofs.YtkakeakdgidigaaDoor
open Go.RowKit Go.Proofs.YtkakeakdgidigaaDoor.GrM

set_option maxHeartbeats 4000000 in
set_option maxRecDepth 100000 in
theorem crB_0 {s1 s4 s5 s6 s7 s8 s9 s10 s11 s14 s15 s16 s17 s18 s19 s20 s21 s22 s23 s24 s25 s26 s27 s28 s29 s30 s31 s32 s33 s34 s35 s36 s37 s38 s39 s40 s41 s42 s43 s44 s45 s46 s47 s48 s49 s50 s51 s52 s53 s54 s55 s56 s57 s58 s59 s60 s61 s62 s63 s64 s65 s66 s67 s68 s69 s70 s71 s72 s73 s74 s75 s76 s77 s78 s79 s80 s81 s82 s83 s84 s85 s86 s87 s88 s89 s90 s91 s92 s93 s94 s95 s96 s97 s98 s99 s100 s101 s102 s103 s104 s105 s106 s107 s108 s109 s110 s111 s112 s113 s114 s115 s116 s117 s118 s119 s120 s121 s122 s123 s124 s125 s126 s127 s128 s129 s130 s131 s132 s133 s134 s135 s136 s137 s138 s139 s140 s141 s142 s143 s144 s145 s146 s147 s148 s149 s150 s151 s152 s153 s154 s155 s156 : Value} {b o9 n c0 i x m : Nat} {xi yi xx yx xk yk xj yj : Int} {wa : World} {Q : Exit → Act → World → Prop} (F : CrF wa b o9 n i x m xi yi xx yx xk yk xj yj) (t0 : (xk == xj) = false)
    (hexit : ∀ (t : Bool) (u99 u100 u101 u102 u103 u104 u105 u106 u107 u108 u109 u110 u111 u112 u113 u114 u115 u116 u117 u118 u119 u120 u121 u122 u123 u124 u125 u126 u127 u128 u129 u130 u131 u132 u133 u134 u135 u136 u137 u138 u139 u140 u141 u142 u143 u144 u145 u146 u147 u148 u149 u150 u151 u152 u153 u154 u155 : Value) (w' : World), Below wa.heap.size wa w' → Q .normal ⟨#[.slice (some ⟨b, o9, none⟩) n c0, s1, .int .i64 (i : Nat), .int .i64 (x : Nat), s4, s5, s6, s7, s8, s9, s10, s11, .pointer (some ⟨m, 0, none⟩), .pointer (some ⟨m + 1, 0, none⟩), s14, s15, s16, s17, s18, s19, s20, s21, s22, s23, s24, s25, s26, s27, s28, s29, s30, s31, s32, s33, s34, s35, s36, s37, s38, s39, s40, s41, s42, s43, s44, s45, s46, s47, s48, s49, s50, s51, s52, s53, s54, s55, s56, s57, s58, s59, s60, s61, s62, s63, s64, s65, s66, s67, s68, s69, s70, s71, s72, s73, s74, s75, s76, s77, s78, s79, s80, s81, s82, s83, s84, s85, s86, s87, s88, s89, s90, s91, s92, s93, s94, s95, s96, s97, s98, u99, u100, u101, u102, u103, u104, u105, u106, u107, u108, u109, u110, u111, u112, u113, u114, u115, u116, u117, u118, u119, u120, u121, u122, u123, u124, u125, u126, u127, u128, u129, u130, u131, u132, u133, u134, u135, u136, u137, u138, u139, u140, u141, u142, u143, u144, u145, u146, u147, u148, u149, u150, u151, u152, u153, u154, u155, .bool t], []⟩ w') : Code.wp Tryd.prog (crR 13) Q ⟨#[.slice (some ⟨b, o9, none⟩) n c0, s1, .int .i64 (i : Nat), .int .i64 (x : Nat), s4, s5, s6, s7, s8, s9, s10, s11, .pointer (some ⟨m, 0, none⟩), .pointer (some ⟨m + 1, 0, none⟩), s14, s15, s16, s17, s18, s19, s20, s21, s22, s23, s24, s25, s26, s27, s28, s29, s30, s31, s32, s33, s34, s35, s36, s37, s38, s39, s40, s41, s42, s43, s44, s45, s46, s47, s48, s49, s50, s51, s52, s53, s54, s55, s56, s57, s58, s59, s60, s61, s62, s63, s64, s65, s66, s67, s68, s69, s70, s71, s72, s73, s74, s75, s76, s77, s78, s79, s80, s81, s82, s83, s84, s85, s86, s87, s88, s89, s90, s91, s92, s93, s94, s95, s96, s97, s98, s99, s100, s101, s102, s103, s104, s105, s106, s107, s108, s109, s110, s111, s112, s113, s114, s115, s116, s117, s118, s119, s120, s121, s122, s123, s124, s125, s126, s127, s128, s129, s130, s131, s132, s133, s134, s135, s136, s137, s138, s139, s140, s141, s142, s143, s144, s145, s146, s147, s148, s149, s150, s151, s152, s153, s154, s155, s156], []⟩ wa := by
  obtain ⟨hi, hx, b0, b1, b2, b3, k0, k1, k2, k3⟩ := F
  have HX := Lib.hid hexit
  clear hexit
  dsimp only
  conv => arg 2; whnf
  go_quiet (fail)
  exact HX.out false _ _ _ _ _ _ _ _ _ _ _ _ _ _ _ _ _ _ _ _ _ _ _ _ _ _ _ _ _ _ _ _ _ _ _ _ _ _ _ _ _ _ _ _ _ _ _ _ _ _ _ _ _ _ _ _ _ _ (drewN_below (Below.refl _ _) _)
set_option maxHeartbeats 4000000 in
set_option maxRecDepth 100000 in
theorem crB_1 {s1 s4 s5 s6 s7 s8 s9 s10 s11 s14 s15 s16 s17 s18 s19 s20 s21 s22 s23 s24 s25 s26 s27 s28 s29 s30 s31 s32 s33 s34 s35 s36 s37 s38 s39 s40 s41 s42 s43 s44 s45 s46 s47 s48 s49 s50 s51 s52 s53 s54 s55 s56 s57 s58 s59 s60 s61 s62 s63 s64 s65 s66 s67 s68 s69 s70 s71 s72 s73 s74 s75 s76 s77 s78 s79 s80 s81 s82 s83 s84 s85 s86 s87 s88 s89 s90 s91 s92 s93 s94 s95 s96 s97 s98 s99 s100 s101 s102 s103 s104 s105 s106 s107 s108 s109 s110 s111 s112 s113 s114 s115 s116 s117 s118 s119 s120 s121 s122 s123 s124 s125 s126 s127 s128 s129 s130 s131 s132 s133 s134 s135 s136 s137 s138 s139 s140 s141 s142 s143 s144 s145 s146 s147 s148 s149 s150 s151 s152 s153 s154 s155 s156 : Value} {b o9 n c0 i x m : Nat} {xi yi xx yx xk yk xj yj : Int} {wa : World} {Q : Exit → Act → World → Prop} (F : CrF wa b o9 n i x m xi yi xx yx xk yk xj yj) (t0 : (xk == xj) = true) (t1 : (yi == yx) = false)
    (hexit : ∀ (t : Bool) (u99 u100 u101 u102 u103 u104 u105 u106 u107 u108 u109 u110 u111 u112 u113 u114 u115 u116 u117 u118 u119 u120 u121 u122 u123 u124 u125 u126 u127 u128 u129 u130 u131 u132 u133 u134 u135 u136 u137 u138 u139 u140 u141 u142 u143 u144 u145 u146 u147 u148 u149 u150 u151 u152 u153 u154 u155 : Value) (w' : World), Below wa.heap.size wa w' → Q .normal ⟨#[.slice (some ⟨b, o9, none⟩) n c0, s1, .int .i64 (i : Nat), .int .i64 (x : Nat), s4, s5, s6, s7, s8, s9, s10, s11, .pointer (some ⟨m, 0, none⟩), .pointer (some ⟨m + 1, 0, none⟩), s14, s15, s16, s17, s18, s19, s20, s21, s22, s23, s24, s25, s26, s27, s28, s29, s30, s31, s32, s33, s34, s35, s36, s37, s38, s39, s40, s41, s42, s43, s44, s45, s46, s47, s48, s49, s50, s51, s52, s53, s54, s55, s56, s57, s58, s59, s60, s61, s62, s63, s64, s65, s66, s67, s68, s69, s70, s71, s72, s73, s74, s75, s76, s77, s78, s79, s80, s81, s82, s83, s84, s85, s86, s87, s88, s89, s90, s91, s92, s93, s94, s95, s96, s97, s98, u99, u100, u101, u102, u103, u104, u105, u106, u107, u108, u109, u110, u111, u112, u113, u114, u115, u116, u117, u118, u119, u120, u121, u122, u123, u124, u125, u126, u127, u128, u129, u130, u131, u132, u133, u134, u135, u136, u137, u138, u139, u140, u141, u142, u143, u144, u145, u146, u147, u148, u149, u150, u151, u152, u153, u154, u155, .bool t], []⟩ w') : Code.wp Tryd.prog (crR 13) Q ⟨#[.slice (some ⟨b, o9, none⟩) n c0, s1, .int .i64 (i : Nat), .int .i64 (x : Nat), s4, s5, s6, s7, s8, s9, s10, s11, .pointer (some ⟨m, 0, none⟩), .pointer (some ⟨m + 1, 0, none⟩), s14, s15, s16, s17, s18, s19, s20, s21, s22, s23, s24, s25, s26, s27, s28, s29, s30, s31, s32, s33, s34, s35, s36, s37, s38, s39, s40, s41, s42, s43, s44, s45, s46, s47, s48, s49, s50, s51, s52, s53, s54, s55, s56, s57, s58, s59, s60, s61, s62, s63, s64, s65, s66, s67, s68, s69, s70, s71, s72, s73, s74, s75, s76, s77, s78, s79, s80, s81, s82, s83, s84, s85, s86, s87, s88, s89, s90, s91, s92, s93, s94, s95, s96, s97, s98, s99, s100, s101, s102, s103, s104, s105, s106, s107, s108, s109, s110, s111, s112, s113, s114, s115, s116, s117, s118, s119, s120, s121, s122, s123, s124, s125, s126, s127, s128, s129, s130, s131, s132, s133, s134, s135, s136, s137, s138, s139, s140, s141, s142, s143, s144, s145, s146, s147, s148, s149, s150, s151, s152, s153, s154, s155, s156], []⟩ wa := by
  obtain ⟨hi, hx, b0, b1, b2, b3, k0, k1, k2, k3⟩ := F
  have HX := Lib.hid hexit
  clear hexit
  dsimp only
  conv => arg 2; whnf
  go_quiet (fail)
  exact HX.out false _ _ _ _ _ _ _ _ _ _ _ _ _ _ _ _ _ _ _ _ _ _ _ _ _ _ _ _ _ _ _ _ _ _ _ _ _ _ _ _ _ _ _ _ _ _ _ _ _ _ _ _ _ _ _ _ _ _ (drewN_below (Below.refl _ _) _)
set_option maxHeartbeats 4000000 in
set_option maxRecDepth 100000 in
theorem crB_2 {s1 s4 s5 s6 s7 s8 s9 s10 s11 s14 s15 s16 s17 s18 s19 s20 s21 s22 s23 s24 s25 s26 s27 s28 s29 s30 s31 s32 s33 s34 s35 s36 s37 s38 s39 s40 s41 s42 s43 s44 s45 s46 s47 s48 s49 s50 s51 s52 s53 s54 s55 s56 s57 s58 s59 s60 s61 s62 s63 s64 s65 s66 s67 s68 s69 s70 s71 s72 s73 s74 s75 s76 s77 s78 s79 s80 s81 s82 s83 s84 s85 s86 s87 s88 s89 s90 s91 s92 s93 s94 s95 s96 s97 s98 s99 s100 s101 s102 s103 s104 s105 s106 s107 s108 s109 s110 s111 s112 s113 s114 s115 s116 s117 s118 s119 s120 s121 s122 s123 s124 s125 s126 s127 s128 s129 s130 s131 s132 s133 s134 s135 s136 s137 s138 s139 s140 s141 s142 s143 s144 s145 s146 s147 s148 s149 s150 s151 s152 s153 s154 s155 s156 : Value} {b o9 n c0 i x m : Nat} {xi yi xx yx xk yk xj yj : Int} {wa : World} {Q : Exit → Act → World → Prop} (F : CrF wa b o9 n i x m xi yi xx yx xk yk xj yj) (t0 : (xk == xj) = true) (t1 : (yi == yx) = true) (t2 : decide (xi < xk) = false)
    (hexit : ∀ (t : Bool) (u99 u100 u101 u102 u103 u104 u105 u106 u107 u108 u109 u110 u111 u112 u113 u114 u115 u116 u117 u118 u119 u120 u121 u122 u123 u124 u125 u126 u127 u128 u129 u130 u131 u132 u133 u134 u135 u136 u137 u138 u139 u140 u141 u142 u143 u144 u145 u146 u147 u148 u149 u150 u151 u152 u153 u154 u155 : Value) (w' : World), Below wa.heap.size wa w' → Q .normal ⟨#[.slice (some ⟨b, o9, none⟩) n c0, s1, .int .i64 (i : Nat), .int .i64 (x : Nat), s4, s5, s6, s7, s8, s9, s10, s11, .pointer (some ⟨m, 0, none⟩), .pointer (some ⟨m + 1, 0, none⟩), s14, s15, s16, s17, s18, s19, s20, s21, s22, s23, s24, s25, s26, s27, s28, s29, s30, s31, s32, s33, s34, s35, s36, s37, s38, s39, s40, s41, s42, s43, s44, s45, s46, s47, s48, s49, s50, s51, s52, s53, s54, s55, s56, s57, s58, s59, s60, s61, s62, s63, s64, s65, s66, s67, s68, s69, s70, s71, s72, s73, s74, s75, s76, s77, s78, s79, s80, s81, s82, s83, s84, s85, s86, s87, s88, s89, s90, s91, s92, s93, s94, s95, s96, s97, s98, u99, u100, u101, u102, u103, u104, u105, u106, u107, u108, u109, u110, u111, u112, u113, u114, u115, u116, u117, u118, u119, u120, u121, u122, u123, u124, u125, u126, u127, u128, u129, u130, u131, u132, u133, u134, u135, u136, u137, u138, u139, u140, u141, u142, u143, u144, u145, u146, u147, u148, u149, u150, u151, u152, u153, u154, u155, .bool t], []⟩ w') : Code.wp Tryd.prog (crR 13) Q ⟨#[.slice (some ⟨b, o9, none⟩) n c0, s1, .int .i64 (i : Nat), .int .i64 (x : Nat), s4, s5, s6, s7, s8, s9, s10, s11, .pointer (some ⟨m, 0, none⟩), .pointer (some ⟨m + 1, 0, none⟩), s14, s15, s16, s17, s18, s19, s20, s21, s22, s23, s24, s25, s26, s27, s28, s29, s30, s31, s32, s33, s34, s35, s36, s37, s38, s39, s40, s41, s42, s43, s44, s45, s46, s47, s48, s49, s50, s51, s52, s53, s54, s55, s56, s57, s58, s59, s60, s61, s62, s63, s64, s65, s66, s67, s68, s69, s70, s71, s72, s73, s74, s75, s76, s77, s78, s79, s80, s81, s82, s83, s84, s85, s86, s87, s88, s89, s90, s91, s92, s93, s94, s95, s96, s97, s98, s99, s100, s101, s102, s103, s104, s105, s106, s107, s108, s109, s110, s111, s112, s113, s114, s115, s116, s117, s118, s119, s120, s121, s122, s123, s124, s125, s126, s127, s128, s129, s130, s131, s132, s133, s134, s135, s136, s137, s138, s139, s140, s141, s142, s143, s144, s145, s146, s147, s148, s149, s150, s151, s152, s153, s154, s155, s156], []⟩ wa := by
  obtain ⟨hi, hx, b0, b1, b2, b3, k0, k1, k2, k3⟩ := F
  have HX := Lib.hid hexit
  clear hexit
  dsimp only
  conv => arg 2; whnf
  go_quiet (fail)
  exact HX.out false _ _ _ _ _ _ _ _ _ _ _ _ _ _ _ _ _ _ _ _ _ _ _ _ _ _ _ _ _ _ _ _ _ _ _ _ _ _ _ _ _ _ _ _ _ _ _ _ _ _ _ _ _ _ _ _ _ _ (drewN_below (Below.refl _ _) _)
set_option maxHeartbeats 4000000 in
set_option maxRecDepth 100000 in
theorem crB_3 {s1 s4 s5 s6 s7 s8 s9 s10 s11 s14 s15 s16 s17 s18 s19 s20 s21 s22 s23 s24 s25 s26 s27 s28 s29 s30 s31 s32 s33 s34 s35 s36 s37 s38 s39 s40 s41 s42 s43 s44 s45 s46 s47 s48 s49 s50 s51 s52 s53 s54 s55 s56 s57 s58 s59 s60 s61 s62 s63 s64 s65 s66 s67 s68 s69 s70 s71 s72 s73 s74 s75 s76 s77 s78 s79 s80 s81 s82 s83 s84 s85 s86 s87 s88 s89 s90 s91 s92 s93 s94 s95 s96 s97 s98 s99 s100 s101 s102 s103 s104 s105 s106 s107 s108 s109 s110 s111 s112 s113 s114 s115 s116 s117 s118 s119 s120 s121 s122 s123 s124 s125 s126 s127 s128 s129 s130 s131 s132 s133 s134 s135 s136 s137 s138 s139 s140 s141 s142 s143 s144 s145 s146 s147 s148 s149 s150 s151 s152 s153 s154 s155 s156 : Value} {b o9 n c0 i x m : Nat} {xi yi xx yx xk yk xj yj : Int} {wa : World} {Q : Exit → Act → World → Prop} (F : CrF wa b o9 n i x m xi yi xx yx xk yk xj yj) (t0 : (xk == xj) = true) (t1 : (yi == yx) = true) (t2 : decide (xi < xk) = true) (t3 : decide (xk < xx) = false)
    (hexit : ∀ (t : Bool) (u99 u100 u101 u102 u103 u104 u105 u106 u107 u108 u109 u110 u111 u112 u113 u114 u115 u116 u117 u118 u119 u120 u121 u122 u123 u124 u125 u126 u127 u128 u129 u130 u131 u132 u133 u134 u135 u136 u137 u138 u139 u140 u141 u142 u143 u144 u145 u146 u147 u148 u149 u150 u151 u152 u153 u154 u155 : Value) (w' : World), Below wa.heap.size wa w' → Q .normal ⟨#[.slice (some ⟨b, o9, none⟩) n c0, s1, .int .i64 (i : Nat), .int .i64 (x : Nat), s4, s5, s6, s7, s8, s9, s10, s11, .pointer (some ⟨m, 0, none⟩), .pointer (some ⟨m + 1, 0, none⟩), s14, s15, s16, s17, s18, s19, s20, s21, s22, s23, s24, s25, s26, s27, s28, s29, s30, s31, s32, s33, s34, s35, s36, s37, s38, s39, s40, s41, s42, s43, s44, s45, s46, s47, s48, s49, s50, s51, s52, s53, s54, s55, s56, s57, s58, s59, s60, s61, s62, s63, s64, s65, s66, s67, s68, s69, s70, s71, s72, s73, s74, s75, s76, s77, s78, s79, s80, s81, s82, s83, s84, s85, s86, s87, s88, s89, s90, s91, s92, s93, s94, s95, s96, s97, s98, u99, u100, u101, u102, u103, u104, u105, u106, u107, u108, u109, u110, u111, u112, u113, u114, u115, u116, u117, u118, u119, u120, u121, u122, u123, u124, u125, u126, u127, u128, u129, u130, u131, u132, u133, u134, u135, u136, u137, u138, u139, u140, u141, u142, u143, u144, u145, u146, u147, u148, u149, u150, u151, u152, u153, u154, u155, .bool t], []⟩ w') : Code.wp Tryd.prog (crR 13) Q ⟨#[.slice (some ⟨b, o9, none⟩) n c0, s1, .int .i64 (i : Nat), .int .i64 (x : Nat), s4, s5, s6, s7, s8, s9, s10, s11, .pointer (some ⟨m, 0, none⟩), .pointer (some ⟨m + 1, 0, none⟩), s14, s15, s16, s17, s18, s19, s20, s21, s22, s23, s24, s25, s26, s27, s28, s29, s30, s31, s32, s33, s34, s35, s36, s37, s38, s39, s40, s41, s42, s43, s44, s45, s46, s47, s48, s49, s50, s51, s52, s53, s54, s55, s56, s57, s58, s59, s60, s61, s62, s63, s64, s65, s66, s67, s68, s69, s70, s71, s72, s73, s74, s75, s76, s77, s78, s79, s80, s81, s82, s83, s84, s85, s86, s87, s88, s89, s90, s91, s92, s93, s94, s95, s96, s97, s98, s99, s100, s101, s102, s103, s104, s105, s106, s107, s108, s109, s110, s111, s112, s113, s114, s115, s116, s117, s118, s119, s120, s121, s122, s123, s124, s125, s126, s127, s128, s129, s130, s131, s132, s133, s134, s135, s136, s137, s138, s139, s140, s141, s142, s143, s144, s145, s146, s147, s148, s149, s150, s151, s152, s153, s154, s155, s156], []⟩ wa := by
  obtain ⟨hi, hx, b0, b1, b2, b3, k0, k1, k2, k3⟩ := F
  have HX := Lib.hid hexit
  clear hexit
  dsimp only
  conv => arg 2; whnf
  go_quiet (fail)
  exact HX.out false _ _ _ _ _ _ _ _ _ _ _ _ _ _ _ _ _ _ _ _ _ _ _ _ _ _ _ _ _ _ _ _ _ _ _ _ _ _ _ _ _ _ _ _ _ _ _ _ _ _ _ _ _ _ _ _ _ _ (drewN_below (Below.refl _ _) _)
set_option maxHeartbeats 4000000 in
set_option maxRecDepth 100000 in
theorem crB_4 {s1 s4 s5 s6 s7 s8 s9 s10 s11 s14 s15 s16 s17 s18 s19 s20 s21 s22 s23 s24 s25 s26 s27 s28 s29 s30 s31 s32 s33 s34 s35 s36 s37 s38 s39 s40 s41 s42 s43 s44 s45 s46 s47 s48 s49 s50 s51 s52 s53 s54 s55 s56 s57 s58 s59 s60 s61 s62 s63 s64 s65 s66 s67 s68 s69 s70 s71 s72 s73 s74 s75 s76 s77 s78 s79 s80 s81 s82 s83 s84 s85 s86 s87 s88 s89 s90 s91 s92 s93 s94 s95 s96 s97 s98 s99 s100 s101 s102 s103 s104 s105 s106 s107 s108 s109 s110 s111 s112 s113 s114 s115 s116 s117 s118 s119 s120 s121 s122 s123 s124 s125 s126 s127 s128 s129 s130 s131 s132 s133 s134 s135 s136 s137 s138 s139 s140 s141 s142 s143 s144 s145 s146 s147 s148 s149 s150 s151 s152 s153 s154 s155 s156 : Value} {b o9 n c0 i x m : Nat} {xi yi xx yx xk yk xj yj : Int} {wa : World} {Q : Exit → Act → World → Prop} (F : CrF wa b o9 n i x m xi yi xx yx xk yk xj yj) (t0 : (xk == xj) = true) (t1 : (yi == yx) = true) (t2 : decide (xi < xk) = true) (t3 : decide (xk < xx) = true) (t4 : decide (yk < yi) = false)
    (hexit : ∀ (t : Bool) (u99 u100 u101 u102 u103 u104 u105 u106 u107 u108 u109 u110 u111 u112 u113 u114 u115 u116 u117 u118 u119 u120 u121 u122 u123 u124 u125 u126 u127 u128 u129 u130 u131 u132 u133 u134 u135 u136 u137 u138 u139 u140 u141 u142 u143 u144 u145 u146 u147 u148 u149 u150 u151 u152 u153 u154 u155 : Value) (w' : World), Below wa.heap.size wa w' → Q .normal ⟨#[.slice (some ⟨b, o9, none⟩) n c0, s1, .int .i64 (i : Nat), .int .i64 (x : Nat), s4, s5, s6, s7, s8, s9, s10, s11, .pointer (some ⟨m, 0, none⟩), .pointer (some ⟨m + 1, 0, none⟩), s14, s15, s16, s17, s18, s19, s20, s21, s22, s23, s24, s25, s26, s27, s28, s29, s30, s31, s32, s33, s34, s35, s36, s37, s38, s39, s40, s41, s42, s43, s44, s45, s46, s47, s48, s49, s50, s51, s52, s53, s54, s55, s56, s57, s58, s59, s60, s61, s62, s63, s64, s65, s66, s67, s68, s69, s70, s71, s72, s73, s74, s75, s76, s77, s78, s79, s80, s81, s82, s83, s84, s85, s86, s87, s88, s89, s90, s91, s92, s93, s94, s95, s96, s97, s98, u99, u100, u101, u102, u103, u104, u105, u106, u107, u108, u109, u110, u111, u112, u113, u114, u115, u116, u117, u118, u119, u120, u121, u122, u123, u124, u125, u126, u127, u128, u129, u130, u131, u132, u133, u134, u135, u136, u137, u138, u139, u140, u141, u142, u143, u144, u145, u146, u147, u148, u149, u150, u151, u152, u153, u154, u155, .bool t], []⟩ w') : Code.wp Tryd.prog (crR 13) Q ⟨#[.slice (some ⟨b, o9, none⟩) n c0, s1, .int .i64 (i : Nat), .int .i64 (x : Nat), s4, s5, s6, s7, s8, s9, s10, s11, .pointer (some ⟨m, 0, none⟩), .pointer (some ⟨m + 1, 0, none⟩), s14, s15, s16, s17, s18, s19, s20, s21, s22, s23, s24, s25, s26, s27, s28, s29, s30, s31, s32, s33, s34, s35, s36, s37, s38, s39, s40, s41, s42, s43, s44, s45, s46, s47, s48, s49, s50, s51, s52, s53, s54, s55, s56, s57, s58, s59, s60, s61, s62, s63, s64, s65, s66, s67, s68, s69, s70, s71, s72, s73, s74, s75, s76, s77, s78, s79, s80, s81, s82, s83, s84, s85, s86, s87, s88, s89, s90, s91, s92, s93, s94, s95, s96, s97, s98, s99, s100, s101, s102, s103, s104, s105, s106, s107, s108, s109, s110, s111, s112, s113, s114, s115, s116, s117, s118, s119, s120, s121, s122, s123, s124, s125, s126, s127, s128, s129, s130, s131, s132, s133, s134, s135, s136, s137, s138, s139, s140, s141, s142, s143, s144, s145, s146, s147, s148, s149, s150, s151, s152, s153, s154, s155, s156], []⟩ wa := by
  obtain ⟨hi, hx, b0, b1, b2, b3, k0, k1, k2, k3⟩ := F
  have HX := Lib.hid hexit
  clear hexit
  dsimp only
  conv => arg 2; whnf
  go_quiet (fail)
  exact HX.out false _ _ _ _ _ _ _ _ _ _ _ _ _ _ _ _ _ _ _ _ _ _ _ _ _ _ _ _ _ _ _ _ _ _ _ _ _ _ _ _ _ _ _ _ _ _ _ _ _ _ _ _ _ _ _ _ _ _ (drewN_below (Below.refl _ _) _)
set_option maxHeartbeats 4000000 in
set_option maxRecDepth 100000 in
theorem crB_5 {s1 s4 s5 s6 s7 s8 s9 s10 s11 s14 s15 s16 s17 s18 s19 s20 s21 s22 s23 s24 s25 s26 s27 s28 s29 s30 s31 s32 s33 s34 s35 s36 s37 s38 s39 s40 s41 s42 s43 s44 s45 s46 s47 s48 s49 s50 s51 s52 s53 s54 s55 s56 s57 s58 s59 s60 s61 s62 s63 s64 s65 s66 s67 s68 s69 s70 s71 s72 s73 s74 s75 s76 s77 s78 s79 s80 s81 s82 s83 s84 s85 s86 s87 s88 s89 s90 s91 s92 s93 s94 s95 s96 s97 s98 s99 s100 s101 s102 s103 s104 s105 s106 s107 s108 s109 s110 s111 s112 s113 s114 s115 s116 s117 s118 s119 s120 s121 s122 s123 s124 s125 s126 s127 s128 s129 s130 s131 s132 s133 s134 s135 s136 s137 s138 s139 s140 s141 s142 s143 s144 s145 s146 s147 s148 s149 s150 s151 s152 s153 s154 s155 s156 : Value} {b o9 n c0 i x m : Nat} {xi yi xx yx xk yk xj yj : Int} {wa : World} {Q : Exit → Act → World → Prop} (F : CrF wa b o9 n i x m xi yi xx yx xk yk xj yj) (t0 : (xk == xj) = true) (t1 : (yi == yx) = true) (t2 : decide (xi < xk) = true) (t3 : decide (xk < xx) = true) (t4 : decide (yk < yi) = true) (t5 : decide (yi < yj) = false)
    (hexit : ∀ (t : Bool) (u99 u100 u101 u102 u103 u104 u105 u106 u107 u108 u109 u110 u111 u112 u113 u114 u115 u116 u117 u118 u119 u120 u121 u122 u123 u124 u125 u126 u127 u128 u129 u130 u131 u132 u133 u134 u135 u136 u137 u138 u139 u140 u141 u142 u143 u144 u145 u146 u147 u148 u149 u150 u151 u152 u153 u154 u155 : Value) (w' : World), Below wa.heap.size wa w' → Q .normal ⟨#[.slice (some ⟨b, o9, none⟩) n c0, s1, .int .i64 (i : Nat), .int .i64 (x : Nat), s4, s5, s6, s7, s8, s9, s10, s11, .pointer (some ⟨m, 0, none⟩), .pointer (some ⟨m + 1, 0, none⟩), s14, s15, s16, s17, s18, s19, s20, s21, s22, s23, s24, s25, s26, s27, s28, s29, s30, s31, s32, s33, s34, s35, s36, s37, s38, s39, s40, s41, s42, s43, s44, s45, s46, s47, s48, s49, s50, s51, s52, s53, s54, s55, s56, s57, s58, s59, s60, s61, s62, s63, s64, s65, s66, s67, s68, s69, s70, s71, s72, s73, s74, s75, s76, s77, s78, s79, s80, s81, s82, s83, s84, s85, s86, s87, s88, s89, s90, s91, s92, s93, s94, s95, s96, s97, s98, u99, u100, u101, u102, u103, u104, u105, u106, u107, u108, u109, u110, u111, u112, u113, u114, u115, u116, u117, u118, u119, u120, u121, u122, u123, u124, u125, u126, u127, u128, u129, u130, u131, u132, u133, u134, u135, u136, u137, u138, u139, u140, u141, u142, u143, u144, u145, u146, u147, u148, u149, u150, u151, u152, u153, u154, u155, .bool t], []⟩ w') : Code.wp Tryd.prog (crR 13) Q ⟨#[.slice (some ⟨b, o9, none⟩) n c0, s1, .int .i64 (i : Nat), .int .i64 (x : Nat), s4, s5, s6, s7, s8, s9, s10, s11, .pointer (some ⟨m, 0, none⟩), .pointer (some ⟨m + 1, 0, none⟩), s14, s15, s16, s17, s18, s19, s20, s21, s22, s23, s24, s25, s26, s27, s28, s29, s30, s31, s32, s33, s34, s35, s36, s37, s38, s39, s40, s41, s42, s43, s44, s45, s46, s47, s48, s49, s50, s51, s52, s53, s54, s55, s56, s57, s58, s59, s60, s61, s62, s63, s64, s65, s66, s67, s68, s69, s70, s71, s72, s73, s74, s75, s76, s77, s78, s79, s80, s81, s82, s83, s84, s85, s86, s87, s88, s89, s90, s91, s92, s93, s94, s95, s96, s97, s98, s99, s100, s101, s102, s103, s104, s105, s106, s107, s108, s109, s110, s111, s112, s113, s114, s115, s116, s117, s118, s119, s120, s121, s122, s123, s124, s125, s126, s127, s128, s129, s130, s131, s132, s133, s134, s135, s136, s137, s138, s139, s140, s141, s142, s143, s144, s145, s146, s147, s148, s149, s150, s151, s152, s153, s154, s155, s156], []⟩ wa := by
  obtain ⟨hi, hx, b0, b1, b2, b3, k0, k1, k2, k3⟩ := F
  have HX := Lib.hid hexit
  clear hexit
  dsimp only
  conv => arg 2; whnf
  go_quiet (fail)
  exact HX.out false _ _ _ _ _ _ _ _ _ _ _ _ _ _ _ _ _ _ _ _ _ _ _ _ _ _ _ _ _ _ _ _ _ _ _ _ _ _ _ _ _ _ _ _ _ _ _ _ _ _ _ _ _ _ _ _ _ _ (drewN_below (Below.refl _ _) _)
set_option maxHeartbeats 4000000 in
set_option maxRecDepth 100000 in
theorem crB_6 {s1 s4 s5 s6 s7 s8 s9 s10 s11 s14 s15 s16 s17 s18 s19 s20 s21 s22 s23 s24 s25 s26 s27 s28 s29 s30 s31 s32 s33 s34 s35 s36 s37 s38 s39 s40 s41 s42 s43 s44 s45 s46 s47 s48 s49 s50 s51 s52 s53 s54 s55 s56 s57 s58 s59 s60 s61 s62 s63 s64 s65 s66 s67 s68 s69 s70 s71 s72 s73 s74 s75 s76 s77 s78 s79 s80 s81 s82 s83 s84 s85 s86 s87 s88 s89 s90 s91 s92 s93 s94 s95 s96 s97 s98 s99 s100 s101 s102 s103 s104 s105 s106 s107 s108 s109 s110 s111 s112 s113 s114 s115 s116 s117 s118 s119 s120 s121 s122 s123 s124 s125 s126 s127 s128 s129 s130 s131 s132 s133 s134 s135 s136 s137 s138 s139 s140 s141 s142 s143 s144 s145 s146 s147 s148 s149 s150 s151 s152 s153 s154 s155 s156 : Value} {b o9 n c0 i x m : Nat} {xi yi xx yx xk yk xj yj : Int} {wa : World} {Q : Exit → Act → World → Prop} (F : CrF wa b o9 n i x m xi yi xx yx xk yk xj yj) (t0 : (xk == xj) = true) (t1 : (yi == yx) = true) (t2 : decide (xi < xk) = true) (t3 : decide (xk < xx) = true) (t4 : decide (yk < yi) = true) (t5 : decide (yi < yj) = true)
    (hexit : ∀ (t : Bool) (u99 u100 u101 u102 u103 u104 u105 u106 u107 u108 u109 u110 u111 u112 u113 u114 u115 u116 u117 u118 u119 u120 u121 u122 u123 u124 u125 u126 u127 u128 u129 u130 u131 u132 u133 u134 u135 u136 u137 u138 u139 u140 u141 u142 u143 u144 u145 u146 u147 u148 u149 u150 u151 u152 u153 u154 u155 : Value) (w' : World), Below wa.heap.size wa w' → Q .normal ⟨#[.slice (some ⟨b, o9, none⟩) n c0, s1, .int .i64 (i : Nat), .int .i64 (x : Nat), s4, s5, s6, s7, s8, s9, s10, s11, .pointer (some ⟨m, 0, none⟩), .pointer (some ⟨m + 1, 0, none⟩), s14, s15, s16, s17, s18, s19, s20, s21, s22, s23, s24, s25, s26, s27, s28, s29, s30, s31, s32, s33, s34, s35, s36, s37, s38, s39, s40, s41, s42, s43, s44, s45, s46, s47, s48, s49, s50, s51, s52, s53, s54, s55, s56, s57, s58, s59, s60, s61, s62, s63, s64, s65, s66, s67, s68, s69, s70, s71, s72, s73, s74, s75, s76, s77, s78, s79, s80, s81, s82, s83, s84, s85, s86, s87, s88, s89, s90, s91, s92, s93, s94, s95, s96, s97, s98, u99, u100, u101, u102, u103, u104, u105, u106, u107, u108, u109, u110, u111, u112, u113, u114, u115, u116, u117, u118, u119, u120, u121, u122, u123, u124, u125, u126, u127, u128, u129, u130, u131, u132, u133, u134, u135, u136, u137, u138, u139, u140, u141, u142, u143, u144, u145, u146, u147, u148, u149, u150, u151, u152, u153, u154, u155, .bool t], []⟩ w') : Code.wp Tryd.prog (crR 13) Q ⟨#[.slice (some ⟨b, o9, none⟩) n c0, s1, .int .i64 (i : Nat), .int .i64 (x : Nat), s4, s5, s6, s7, s8, s9, s10, s11, .pointer (some ⟨m, 0, none⟩), .pointer (some ⟨m + 1, 0, none⟩), s14, s15, s16, s17, s18, s19, s20, s21, s22, s23, s24, s25, s26, s27, s28, s29, s30, s31, s32, s33, s34, s35, s36, s37, s38, s39, s40, s41, s42, s43, s44, s45, s46, s47, s48, s49, s50, s51, s52, s53, s54, s55, s56, s57, s58, s59, s60, s61, s62, s63, s64, s65, s66, s67, s68, s69, s70, s71, s72, s73, s74, s75, s76, s77, s78, s79, s80, s81, s82, s83, s84, s85, s86, s87, s88, s89, s90, s91, s92, s93, s94, s95, s96, s97, s98, s99, s100, s101, s102, s103, s104, s105, s106, s107, s108, s109, s110, s111, s112, s113, s114, s115, s116, s117, s118, s119, s120, s121, s122, s123, s124, s125, s126, s127, s128, s129, s130, s131, s132, s133, s134, s135, s136, s137, s138, s139, s140, s141, s142, s143, s144, s145, s146, s147, s148, s149, s150, s151, s152, s153, s154, s155, s156], []⟩ wa := by
  obtain ⟨hi, hx, b0, b1, b2, b3, k0, k1, k2, k3⟩ := F
  have HX := Lib.hid hexit
  clear hexit
  dsimp only
  conv => arg 2; whnf
  go_quiet (fail)
  exact HX.out true _ _ _ _ _ _ _ _ _ _ _ _ _ _ _ _ _ _ _ _ _ _ _ _ _ _ _ _ _ _ _ _ _ _ _ _ _ _ _ _ _ _ _ _ _ _ _ _ _ _ _ _ _ _ _ _ _ _ (drewN_below (Below.refl _ _) _)
theorem crB {s1 s4 s5 s6 s7 s8 s9 s10 s11 s14 s15 s16 s17 s18 s19 s20 s21 s22 s23 s24 s25 s26 s27 s28 s29 s30 s31 s32 s33 s34 s35 s36 s37 s38 s39 s40 s41 s42 s43 s44 s45 s46 s47 s48 s49 s50 s51 s52 s53 s54 s55 s56 s57 s58 s59 s60 s61 s62 s63 s64 s65 s66 s67 s68 s69 s70 s71 s72 s73 s74 s75 s76 s77 s78 s79 s80 s81 s82 s83 s84 s85 s86 s87 s88 s89 s90 s91 s92 s93 s94 s95 s96 s97 s98 s99 s100 s101 s102 s103 s104 s105 s106 s107 s108 s109 s110 s111 s112 s113 s114 s115 s116 s117 s118 s119 s120 s121 s122 s123 s124 s125 s126 s127 s128 s129 s130 s131 s132 s133 s134 s135 s136 s137 s138 s139 s140 s141 s142 s143 s144 s145 s146 s147 s148 s149 s150 s151 s152 s153 s154 s155 s156 : Value} {b o9 n c0 i x m : Nat} {xi yi xx yx xk yk xj yj : Int} {wa : World} {Q : Exit → Act → World → Prop} (F : CrF wa b o9 n i x m xi yi xx yx xk yk xj yj)
    (hexit : ∀ (t : Bool) (u99 u100 u101 u102 u103 u104 u105 u106 u107 u108 u109 u110 u111 u112 u113 u114 u115 u116 u117 u118 u119 u120 u121 u122 u123 u124 u125 u126 u127 u128 u129 u130 u131 u132 u133 u134 u135 u136 u137 u138 u139 u140 u141 u142 u143 u144 u145 u146 u147 u148 u149 u150 u151 u152 u153 u154 u155 : Value) (w' : World), Below wa.heap.size wa w' → Q .normal ⟨#[.slice (some ⟨b, o9, none⟩) n c0, s1, .int .i64 (i : Nat), .int .i64 (x : Nat), s4, s5, s6, s7, s8, s9, s10, s11, .pointer (some ⟨m, 0, none⟩), .pointer (some ⟨m + 1, 0, none⟩), s14, s15, s16, s17, s18, s19, s20, s21, s22, s23, s24, s25, s26, s27, s28, s29, s30, s31, s32, s33, s34, s35, s36, s37, s38, s39, s40, s41, s42, s43, s44, s45, s46, s47, s48, s49, s50, s51, s52, s53, s54, s55, s56, s57, s58, s59, s60, s61, s62, s63, s64, s65, s66, s67, s68, s69, s70, s71, s72, s73, s74, s75, s76, s77, s78, s79, s80, s81, s82, s83, s84, s85, s86, s87, s88, s89, s90, s91, s92, s93, s94, s95, s96, s97, s98, u99, u100, u101, u102, u103, u104, u105, u106, u107, u108, u109, u110, u111, u112, u113, u114, u115, u116, u117, u118, u119, u120, u121, u122, u123, u124, u125, u126, u127, u128, u129, u130, u131, u132, u133, u134, u135, u136, u137, u138, u139, u140, u141, u142, u143, u144, u145, u146, u147, u148, u149, u150, u151, u152, u153, u154, u155, .bool t], []⟩ w') : Code.wp Tryd.prog (crR 13) Q ⟨#[.slice (some ⟨b, o9, none⟩) n c0, s1, .int .i64 (i : Nat), .int .i64 (x : Nat), s4, s5, s6, s7, s8, s9, s10, s11, .pointer (some ⟨m, 0, none⟩), .pointer (some ⟨m + 1, 0, none⟩), s14, s15, s16, s17, s18, s19, s20, s21, s22, s23, s24, s25, s26, s27, s28, s29, s30, s31, s32, s33, s34, s35, s36, s37, s38, s39, s40, s41, s42, s43, s44, s45, s46, s47, s48, s49, s50, s51, s52, s53, s54, s55, s56, s57, s58, s59, s60, s61, s62, s63, s64, s65, s66, s67, s68, s69, s70, s71, s72, s73, s74, s75, s76, s77, s78, s79, s80, s81, s82, s83, s84, s85, s86, s87, s88, s89, s90, s91, s92, s93, s94, s95, s96, s97, s98, s99, s100, s101, s102, s103, s104, s105, s106, s107, s108, s109, s110, s111, s112, s113, s114, s115, s116, s117, s118, s119, s120, s121, s122, s123, s124, s125, s126, s127, s128, s129, s130, s131, s132, s133, s134, s135, s136, s137, s138, s139, s140, s141, s142, s143, s144, s145, s146, s147, s148, s149, s150, s151, s152, s153, s154, s155, s156], []⟩ wa := by
  cases t0 : (xk == xj) with
  | false => exact crB_0 F t0 hexit
  | true =>
    cases t1 : (yi == yx) with
    | false => exact crB_1 F t0 t1 hexit
    | true =>
      cases t2 : decide (xi < xk) with
      | false => exact crB_2 F t0 t1 t2 hexit
      | true =>
        cases t3 : decide (xk < xx) with
        | false => exact crB_3 F t0 t1 t2 t3 hexit
        | true =>
          cases t4 : decide (yk < yi) with
          | false => exact crB_4 F t0 t1 t2 t3 t4 hexit
          | true =>
            cases t5 : decide (yi < yj) with
            | false => exact crB_5 F t0 t1 t2 t3 t4 t5 hexit
            | true =>
              exact crB_6 F t0 t1 t2 t3 t4 t5 hexit
end Go.Proofs.YtkakeakdgidigaaDoor

namespace Go.Proofs.YtkakeakdgidigaaDoor
open Go.RowKit Go.Proofs.YtkakeakdgidigaaDoor.GrM

def RxRel (n : Nat) (w wr : World) (av : Value) : Prop := ∃ k : Nat, av = .int .i64 k ∧ k ≤ n ∧ Below w.heap.size w wr
def RxIn (w wr : World) (dv : Value) : Prop := ∃ d : Nat, dv = .int .i64 d ∧ d ≤ 2 ∧ Below w.heap.size w wr
set_option maxHeartbeats 16000000 in
set_option maxRecDepth 100000 in
theorem refCrossed (pv lv : Value) (P : List (Int × Int)) (L : List Int) (n i x : Nat) (w : World) (hP : PtsAt w pv P) (hL : CelAt w lv L n) (hp : P.length = n) (hi : i < n) (hx : x < n) (hn : n ≤ 100000) (hr : ∀ v d, v < n → d < 2 → nxG L v d < n) :
    Calls Tryd.prog 13 #[pv, lv, .int .i64 i, .int .i64 x] w fun r w' => (∃ t : Bool, r = .returned (.bool t)) ∧ Below w.heap.size w w' := by
  obtain ⟨A0, c0, e, hcap, hA⟩ := hP
  subst e
  rw [hp] at hcap hA ⊢
  obtain ⟨b, o9, e, hb, hA2⟩ := hA (by omega)
  clear hA
  subst e
  have HA := Lib.hid hA2
  have HL := Lib.hid hL
  have HR := Lib.hid hr
  obtain ⟨A1, c1, e⟩ := hL.form
  subst e
  obtain ⟨hxi, hyi⟩ := hA2 i hi
  obtain ⟨hxx, hyx⟩ := hA2 x hx
  clear hA2 hL hr hp
  go_enter Tryd.func13, Tryd.ntmps13
  go_wp2
  go_loopw [9] (fun av wr => RxRel n w wr av) (fun av _ => n - (intOf av).toNat)
  case atStart => exact ⟨0, rfl, Nat.zero_le _, Below.refl _ _⟩
  case round =>
    obtain ⟨k, rfl, hk, hB⟩ := hrel
    have B := Lib.hid hB
    clear hB
    obtain ⟨wo, hwo⟩ : ∃ W, W = wr := ⟨_, rfl⟩
    subst hwo
    by_cases hlt : k < n
    · go_wp2
      go_loopw [10] (fun dv wr => RxIn w wr dv) (fun dv _ => 2 - (intOf dv).toNat)
      case atStart => exact ⟨0, rfl, Nat.zero_le _, B.out⟩
      case round =>
        clear B
        obtain ⟨d, rfl, hd, hB⟩ := hrel
        have B := Lib.hid hB
        clear hB
        by_cases hd2 : d < 2
        · have ry := HR.out k d hlt hd2
          obtain ⟨b1, o1, c', e, hb1, hnx, -⟩ := HL.out.nth hlt
          simp only [Value.slice.injEq, true_and] at e
          obtain ⟨e1, e2⟩ := e
          subst e1
          obtain ⟨cc, hcc⟩ : ∃ x, x = c1 := ⟨_, rfl⟩
          rw [← hcc] at HL ⊢
          clear e2 hcc
          have f1 : wr.cell? ⟨b1, o1 + k * 8 + d, none⟩ = some (.int .i64 (nxG L k d)) := (B.out.cell (p := ⟨b1, o1 + k * 8 + d, none⟩) hb1).trans (hnx d (by omega))
          clear hnx
          generalize nxG L k d = y at *
          have z1 := Nat.lt_of_lt_of_le hb B.out.size
          have z2 := Nat.lt_of_lt_of_le hb1 B.out.size
          rcases Int.lt_or_le y 0 with g1 | g1
          · have r1 : decide (y < 0) = true := by rw [decide_eq_true_eq]; exact g1
            clear g1
            go_wp2
            go_roundw
            case rel => exact ⟨d + 1, by go_num, by omega, B.out⟩
            case measure => (simp [intOf] <;> omega)
          · obtain ⟨j, rfl⟩ : ∃ j : Nat, y = (j : Int) := ⟨y.toNat, by omega⟩
            have hj : j < n := by omega
            have r1 : decide ((j : Int) < 0) = false := by rw [decide_eq_false_iff_not]; omega
            obtain ⟨hxk, hyk⟩ := HA.out k hlt
            obtain ⟨hxj, hyj⟩ := HA.out j hj
            have fxi := (B.out.cell (p := ⟨b, o9 + i * 2, none⟩) hb).trans hxi
            have fyi := (B.out.cell (p := ⟨b, o9 + i * 2 + 1, none⟩) hb).trans hyi
            have fxx := (B.out.cell (p := ⟨b, o9 + x * 2, none⟩) hb).trans hxx
            have fyx := (B.out.cell (p := ⟨b, o9 + x * 2 + 1, none⟩) hb).trans hyx
            have fxk := (B.out.cell (p := ⟨b, o9 + k * 2, none⟩) hb).trans hxk
            have fyk := (B.out.cell (p := ⟨b, o9 + k * 2 + 1, none⟩) hb).trans hyk
            have fxj := (B.out.cell (p := ⟨b, o9 + j * 2, none⟩) hb).trans hxj
            have fyj := (B.out.cell (p := ⟨b, o9 + j * 2 + 1, none⟩) hb).trans hyj
            clear hxk hyk hxj hyj ry g1
            generalize (P.getD i (0, 0)).1 = xi at *
            generalize (P.getD i (0, 0)).2 = yi at *
            generalize (P.getD x (0, 0)).1 = xx at *
            generalize (P.getD x (0, 0)).2 = yx at *
            generalize (P.getD k (0, 0)).1 = xk at *
            generalize (P.getD k (0, 0)).2 = yk at *
            generalize (P.getD j (0, 0)).1 = xj at *
            generalize (P.getD j (0, 0)).2 = yj at *
            go_upto_region 11 with (fail)
            obtain ⟨wa, hwa⟩ : ∃ W, W = ((wr.alloc (.cells #[.int .i64 xk, .int .i64 yk] 48)).alloc (.cells #[.int .i64 xj, .int .i64 yj] 48)) := ⟨_, rfl⟩
            have BA : Hid (Below wr.heap.size wr wa) := Lib.hid (by rw [hwa]; exact ((Below.refl _ _).alloc (Nat.le_refl _) _).alloc (by simp) _)
            have za : wa.heap.size = wr.heap.size + 2 := by rw [hwa]; simp
            have b0 : wa.cell? ⟨wr.heap.size, 0, none⟩ = some (.int .i64 xk) := by rw [hwa]; go_simp
            have b1 : wa.cell? ⟨wr.heap.size, 1, none⟩ = some (.int .i64 yk) := by rw [hwa]; go_simp
            have b2 : wa.cell? ⟨wr.heap.size + 1, 0, none⟩ = some (.int .i64 xj) := by rw [hwa]; go_simp
            have b3 : wa.cell? ⟨wr.heap.size + 1, 1, none⟩ = some (.int .i64 yj) := by rw [hwa]; go_simp
            rw [← hwa]
            clear hwa
            have gxi := (BA.out.cell (p := ⟨b, o9 + i * 2, none⟩) z1).trans fxi
            have gyi := (BA.out.cell (p := ⟨b, o9 + i * 2 + 1, none⟩) z1).trans fyi
            have gxx := (BA.out.cell (p := ⟨b, o9 + x * 2, none⟩) z1).trans fxx
            have gyx := (BA.out.cell (p := ⟨b, o9 + x * 2 + 1, none⟩) z1).trans fyx
            clear fxi fyi fxx fyx fxk fyk fxj fyj f1 r1
            have z3 : b < wa.heap.size := by omega
            obtain ⟨m, hm⟩ : ∃ m, m = wr.heap.size := ⟨_, rfl⟩
            have hm1 : m < wa.heap.size := by omega
            have hm2 : m + 1 < wa.heap.size := by omega
            have BW : Hid (Below w.heap.size w wa) := Lib.hid (B.out.trans (BA.out.mono B.out.size))
            rw [← hm] at b0 b1 b2 b3 ⊢
            clear za hm z1 z2 BA B
            go_cut [98] from 41 to 97 (fun s wx => ∃ t : Bool, s = .bool t ∧ Below wa.heap.size wa wx)
            case first =>
              refine crA (b := b) (o9 := o9) (n := n) (c0 := c0) (i := i) (x := x) (m := m) (xi := xi) (yi := yi) (xx := xx) (yx := yx) (xk := xk) (yk := yk) (xj := xj) (yj := yj) ⟨hi, hx, b0, b1, b2, b3, gxi, gyi, gxx, gyx⟩ ?_
              intro t v41 v42 v43 v44 v45 v46 v47 v48 v49 v50 v51 v52 v53 v54 v55 v56 v57 v58 v59 v60 v61 v62 v63 v64 v65 v66 v67 v68 v69 v70 v71 v72 v73 v74 v75 v76 v77 v78 v79 v80 v81 v82 v83 v84 v85 v86 v87 v88 v89 v90 v91 v92 v93 v94 v95 v96 v97 w' hw
              dsimp only
              go_wp2_with fail
              go_meet
              exact ⟨t, rfl, hw⟩
            case rest =>
              obtain ⟨t, rfl, hC⟩ := hcut
              obtain ⟨wz, hwz⟩ : ∃ W, W = wc := ⟨_, rfl⟩
              subst hwz
              have BZ : Hid (Below w.heap.size w wz) := Lib.hid (BW.out.trans (hC.mono BW.out.size))
              cases t
              · have c0' := (hC.cell (p := ⟨m, 0, none⟩) hm1).trans b0
                have c1' := (hC.cell (p := ⟨m, 1, none⟩) hm1).trans b1
                have c2' := (hC.cell (p := ⟨m + 1, 0, none⟩) hm2).trans b2
                have c3' := (hC.cell (p := ⟨m + 1, 1, none⟩) hm2).trans b3
                have k0 := (hC.cell (p := ⟨b, o9 + i * 2, none⟩) z3).trans gxi
                have k1 := (hC.cell (p := ⟨b, o9 + i * 2 + 1, none⟩) z3).trans gyi
                have k2 := (hC.cell (p := ⟨b, o9 + x * 2, none⟩) z3).trans gxx
                have k3 := (hC.cell (p := ⟨b, o9 + x * 2 + 1, none⟩) z3).trans gyx
                have z4 := Nat.lt_of_lt_of_le z3 hC.size
                clear b0 b1 b2 b3 gxi gyi gxx gyx hC BW z3
                go_upto_region 13 with (fail)
                go_cut [156] from 99 to 155 (fun s wx => ∃ t : Bool, s = .bool t ∧ Below wz.heap.size wz wx)
                case first =>
                  refine crB (b := b) (o9 := o9) (n := n) (c0 := c0) (i := i) (x := x) (m := m) (xi := xi) (yi := yi) (xx := xx) (yx := yx) (xk := xk) (yk := yk) (xj := xj) (yj := yj) ⟨hi, hx, c0', c1', c2', c3', k0, k1, k2, k3⟩ ?_
                  intro t v99 v100 v101 v102 v103 v104 v105 v106 v107 v108 v109 v110 v111 v112 v113 v114 v115 v116 v117 v118 v119 v120 v121 v122 v123 v124 v125 v126 v127 v128 v129 v130 v131 v132 v133 v134 v135 v136 v137 v138 v139 v140 v141 v142 v143 v144 v145 v146 v147 v148 v149 v150 v151 v152 v153 v154 v155 w' hw
                  dsimp only
                  go_wp2_with fail
                  go_meet
                  exact ⟨t, rfl, hw⟩
                case rest =>
                  obtain ⟨t, rfl, hC⟩ := hcut
                  obtain ⟨wy, hwy⟩ : ∃ W, W = wc := ⟨_, rfl⟩
                  subst hwy
                  have BY : Hid (Below w.heap.size w wy) := Lib.hid (BZ.out.trans (hC.mono BZ.out.size))
                  clear hC
                  cases t
                  · go_wp2_with fail
                    go_roundw
                    case rel => exact ⟨d + 1, by go_num, by omega, BY.out⟩
                    case measure => (simp [intOf] <;> omega)
                  · go_wp2_with fail
                    go_ret
                    exact ⟨⟨_, rfl⟩, BY.out⟩
              · go_wp2
                go_ret
                exact ⟨⟨_, rfl⟩, BZ.out⟩
        · have hd3 : d = 2 := by omega
          subst hd3
          go_wp2
          go_roundw
          case rel => exact ⟨k + 1, by go_num, by omega, B.out⟩
          case measure => (simp [intOf] <;> omega)
    · have hkn : k = n := by omega
      subst hkn
      go_wp2
      go_ret
      exact ⟨⟨_, rfl⟩, B.out⟩
end Go.Proofs.YtkakeakdgidigaaDoor

namespace Go.Proofs.YtkakeakdgidigaaDoor
open Go.RowKit Go.Proofs.YtkakeakdgidigaaDoor.GrM

/-- A point's two cells. -/
def encP (p : Int × Int) : List Value := [.int .i64 p.1, .int .i64 p.2]
theorem encP_len (P : List (Int × Int)) : (P.flatMap encP).length = P.length * 2 := by
  induction P with
  | nil => rfl
  | cons p P ih => simp [List.flatMap_cons, encP, ih]; omega
theorem encP_at : ∀ (P : List (Int × Int)) (k : Nat), k < P.length → (P.flatMap encP)[k * 2]? = some (.int .i64 (P.getD k (0, 0)).1) ∧ (P.flatMap encP)[k * 2 + 1]? = some (.int .i64 (P.getD k (0, 0)).2)
  | [], k, h => absurd h (by simp)
  | p :: P, 0, _ => ⟨rfl, rfl⟩
  | p :: P, k + 1, h => by
    have := encP_at P k (by simpa using h)
    have e1 : (k + 1) * 2 = k * 2 + 1 + 1 := by omega
    rw [e1]
    simpa [List.flatMap_cons, encP] using this
def OwnPt (w : World) (B : Nat) (v : Value) (P : List (Int × Int)) : Prop := w.ownsRow B 48 2 v P.length (P.flatMap encP)
theorem OwnPt.form {w : World} {B : Nat} {v : Value} {P : List (Int × Int)} (h : OwnPt w B v P) : ∃ ao cap, v = .slice ao P.length cap := by
  rcases h.2 with ⟨h1, h2⟩ | ⟨_, _, _, h, _⟩
  · exact ⟨none, 0, by rw [h2]; exact h1⟩
  · exact ⟨_, _, h⟩
theorem OwnPt.below {w w' : World} {B C : Nat} {v : Value} {P : List (Int × Int)} (h : OwnPt w B v P) (o : Below C w w') (hC : w.heap.size ≤ C) : OwnPt w' B v P := ownsRow_out (S := fun _ => False) h (Out.ofBelow (o.mono hC)) (fun _ _ e => e)
theorem OwnPt.nil (w : World) (B : Nat) : OwnPt w B (.slice none 0 0) [] := World.ownsRow_nil _ _ _ _
theorem OwnPt.base {w : World} {B C : Nat} {v : Value} {P : List (Int × Int)} (h : OwnPt w B v P) (hC : C ≤ B) : OwnPt w C v P := by
  refine ⟨h.1, ?_⟩
  rcases h.2 with q | ⟨g, cap, cur, hv, hg, r⟩
  · exact Or.inl q
  · exact Or.inr ⟨g, cap, cur, hv, by omega, r⟩
theorem OwnPt.pts {w : World} {B : Nat} {v : Value} {P : List (Int × Int)} (h : OwnPt w B v P) : PtsAt w v P := by
  have h' := h
  rcases h.2 with ⟨rfl, h2⟩ | ⟨g, cap, cur, rfl, _, hg, hn, hr⟩
  · exact ⟨none, 0, by rw [h2], by omega, fun h => absurd h (by omega)⟩
  · refine ⟨_, cap, rfl, hn, fun _ => ⟨g, 0, rfl, (Array.getElem?_eq_some_iff.1 hg).1, fun k hk => ?_⟩⟩
    have e := encP_at P k hk
    have hl := encP_len P
    rw [Nat.zero_add, h'.cellAt (k * 2) (by omega), h'.cellAt (k * 2 + 1) (by omega)]
    exact e
/-- A point more. -/
theorem OwnPt.more {w : World} {B : Nat} {v : Value} {P : List (Int × Int)} {p : Int × Int} (h : w.ownsRow B 48 2 v (P.length + 1) (P.flatMap encP ++ encP p)) : OwnPt w B v (P ++ [p]) := by
  unfold OwnPt
  rw [List.length_append, List.flatMap_append]
  simpa using h
theorem heldPt : Tryd.prog.stoodInHeld 48 = false := by kernel_rfl
theorem eqPt (w : World) (a0 a1 b0 b1 : Int) : (binOp .eql 48 (.agg #[.int .i64 a0, .int .i64 a1]) (.agg #[.int .i64 b0, .int .i64 b1])).run Tryd.prog w = .ok (.bool (a0 == b0 && a1 == b1)) w := by
  have hu := Tryd.underlying48
  have hi := Tryd.underlying3
  rw [run_eql_struct]
  have h := run_equalIn_agg (P := Tryd.prog) w 9999 48 #[.int .i64 a0, .int .i64 a1] #[.int .i64 b0, .int .i64 b1] (by kernel_rfl) heldPt
  rw [h]
  unfold Program.fieldsOf
  rw [hu]
  simp [Op.eqFields, go_sem]
  by_cases h0 : a0 = b0
  · by_cases h1 : a1 = b1
    · simp [h0, h1]
    · simp [h0, h1]
  · simp [h0]
/-- One more, on a place where none lies. -/
theorem apart_more {P : List (Int × Int)} {p : Int × Int} (h : Apart P) (hn : ∀ k, k < P.length → P.getD k (0, 0) ≠ p) : Apart (P ++ [p]) := by
  have hb : ∀ k, k < P.length → (P ++ [p]).getD k (0, 0) = P.getD k (0, 0) := fun k hk => by
    simp [List.getD_eq_getElem?_getD, List.getElem?_append_left hk]
  have he : (P ++ [p]).getD P.length (0, 0) = p := by simp [List.getD_eq_getElem?_getD]
  intro i j hi hj e
  rw [List.length_append, List.length_singleton] at hi hj
  by_cases ci : i < P.length
  · by_cases cj : j < P.length
    · rw [hb i ci, hb j cj] at e; exact h i j ci cj e
    · obtain rfl : j = P.length := by omega
      rw [hb i ci, he] at e
      exact absurd e (hn i ci)
  · obtain rfl : i = P.length := by omega
    by_cases cj : j < P.length
    · rw [he, hb j cj] at e
      exact absurd e.symm (hn j cj)
    · omega
theorem apart_nil : Apart [] := fun i _ hi _ _ => absurd hi (by simp)
end Go.Proofs.YtkakeakdgidigaaDoor

namespace Go.Proofs.YtkakeakdgidigaaDoor
open Go.RowKit Go.Proofs.YtkakeakdgidigaaDoor.GrM

structure NumAt (kd : IntKind) (lo hi : Int) (w : World) (A : Option Addr) (n : Nat) (D : Nat → Int) : Prop where
  at_ : 0 < n → ∃ b o, A = some ⟨b, o, none⟩ ∧ b < w.heap.size ∧ ∀ k, k < n → w.cell? ⟨b, o + k, none⟩ = some (.int kd (D k))
  r : ∀ k, k < n → lo ≤ D k ∧ D k ≤ hi
/-- The box of the argument, at block g. -/
def BoxZ (g : Nat) (s1 s2 s3 : Value) (w : World) : Prop := g < w.heap.size ∧ w.cell? ⟨g, 0, none⟩ = some s1 ∧ w.cell? ⟨g, 1, none⟩ = some s2 ∧ w.cell? ⟨g, 2, none⟩ = some s3
theorem BoxZ.below {g : Nat} {s1 s2 s3 : Value} {w w' : World} (h : BoxZ g s1 s2 s3 w) (hb : Below (g + 1) w w') : BoxZ g s1 s2 s3 w' := by
  obtain ⟨h0, h1, h2, h3⟩ := h
  exact ⟨Nat.lt_of_lt_of_le h0 hb.size, (hb.cell (p := ⟨g, 0, none⟩) (Nat.lt_succ_self _)).trans h1, (hb.cell (p := ⟨g, 1, none⟩) (Nat.lt_succ_self _)).trans h2, (hb.cell (p := ⟨g, 2, none⟩) (Nat.lt_succ_self _)).trans h3⟩
/-- The state of Make's first loop. -/
def Mz1 (g n m : Nat) (s1 s2 s3 : Value) (wb : World) (pv iv : Value) (wr : World) : Prop :=
  ∃ (k : Nat) (P : List (Int × Int)), iv = .int .i64 k ∧ k ≤ n ∧ P.length ≤ k ∧ P.length ≤ m ∧ OwnPt wr (g + 1) pv P ∧ Apart P ∧ BoxZ g s1 s2 s3 wr ∧ Below (g + 1) wb wr
/-- The state of Make's second loop. -/
def Mz3 (P : List (Int × Int)) (g : Nat) (pv s1 s2 s3 : Value) (wb : World) (lv iv : Value) (wr : World) : Prop :=
  ∃ (k : Nat) (L : List Int), iv = .int .i64 k ∧ k ≤ P.length ∧ MkG P L (2 * k) ∧ OwnG wr (g + 1) lv L P.length ∧ OwnPt wr (g + 1) pv P ∧ BoxZ g s1 s2 s3 wr ∧ Below (g + 1) wb wr
/-- The state of Make's innermost loop. -/
def Mz4 (P : List (Int × Int)) (g k : Nat) (pv s1 s2 s3 : Value) (wb : World) (lv dv : Value) (wr : World) : Prop :=
  ∃ (d : Nat) (L : List Int), dv = .int .i64 d ∧ d ≤ 2 ∧ MkG P L (2 * k + d) ∧ OwnG wr (g + 1) lv L P.length ∧ OwnPt wr (g + 1) pv P ∧ BoxZ g s1 s2 s3 wr ∧ Below (g + 1) wb wr
theorem refNearestD (pv : Value) (P : List (Int × Int)) (i d : Nat) (w : World) (hP : PtsAt w pv P) (hi : i < P.length) (hn : P.length ≤ 100000) (hd : d < 2) :
    Calls Tryd.prog 12 #[pv, .int .i64 i, .int .i64 (d : Nat)] w fun r w' => r = .returned (.int .i64 (nearP P i d)) ∧ Below w.heap.size w w' := by
  have h : d = 0 ∨ d = 1 := by omega
  rcases h with rfl | rfl
  · exact refNearest0 pv P i w hP hi hn
  · exact refNearest1 pv P i w hP hi hn
/-- The search for a point that is there. -/
def Mz2 (P : List (Int × Int)) (p : Int × Int) (wb : World) (bv kv : Value) (wr : World) : Prop :=
  ∃ (j : Nat) (t : Bool), kv = .int .i64 j ∧ j ≤ P.length ∧ bv = .bool t ∧ (t = false → ∀ k, k < j → P.getD k (0, 0) ≠ p) ∧ Below wb.heap.size wb wr
theorem info_p2 : ∃ i, Tryd.prog.info? 48 = some i ∧ i.zero = some (.agg #[.int .i64 0, .int .i64 0]) ∧ i.size = 2 ∧ i.bytes = 16 := by
  have h : (Tryd.prog.info? 48).map (fun i => (i.zero, i.size, i.bytes)) = some (some (.agg #[.int .i64 0, .int .i64 0]), 2, 16) := by kernel_rfl
  cases e : Tryd.prog.info? 48 with
  | none => rw [e] at h; cases h
  | some i =>
    rw [e] at h
    simp only [Option.map_some, Option.some.injEq, Prod.mk.injEq] at h
    exact ⟨i, rfl, h.1, h.2.1, h.2.2⟩
theorem newsP (w : World) (t : TypeId) (c0 c1 : Int) (b : Nat) (hb : w.heap.size = b) : ∀ j z, (encP (c0, c1))[j]? = some z → (w.alloc (.cells #[.int .i64 c0, .int .i64 c1] t)).cell? ((⟨b, 0, none⟩ : Addr).add j) = some z := by
  intro j z hz
  subst hb
  have e : (⟨w.heap.size, 0, none⟩ : Addr).add j = ⟨w.heap.size, j, none⟩ := by unfold Addr.add; split <;> simp_all
  rw [e]
  simp only [World.cell?, heap_alloc_new]
  match j, hz with
  | 0, hz => simpa [encP] using hz
  | 1, hz => simpa [encP] using hz
  | j + 2, hz => simp [encP] at hz
theorem allP (p : Int × Int) : ∀ u ∈ encP p, u.oneCell' = true := fun u hu => by
  simp [encP] at hu
  rcases hu with rfl | rfl <;> rfl
/-- What Crossed answers (refCrossed says so). -/
def CrossSpec : Prop := ∀ (pv lv : Value) (P : List (Int × Int)) (L : List Int) (n i x : Nat) (w : World), PtsAt w pv P → CelAt w lv L n → P.length = n → i < n → x < n → n ≤ 100000 → (∀ v d, v < n → d < 2 → nxG L v d < n) →
    Calls Tryd.prog 13 #[pv, lv, .int .i64 i, .int .i64 x] w fun r w' => (∃ t : Bool, r = .returned (.bool t)) ∧ Below w.heap.size w w'
set_option maxHeartbeats 16000000 in
set_option maxRecDepth 100000 in
theorem refMakeG (hC : CrossSpec) (A1 A2 A3 : Option Addr) (n1 n2 n3 c1 c2 c3 m : Nat) (D1 D2 D3 : Nat → Int) (w : World) (h1 : NumAt .u8 0 255 w A1 n1 D1) (h2 : NumAt .u8 0 255 w A2 n2 D2) (h3 : NumAt .i8 (-128) 127 w A3 n3 D3) (hn1 : n1 ≤ 9223372036854775807) (hn2 : n2 ≤ 9223372036854775807) (hn3 : n3 ≤ 9223372036854775807) (hm : m ≤ 100000) :
    Calls Tryd.prog 4 #[.agg #[.slice A1 n1 c1, .slice A2 n2 c2, .slice A3 n3 c3], .int .i64 m] w fun r w' => (∃ P L lv pv t, r = .returned (.tuple #[lv, pv]) ∧ OwnG w' w.heap.size lv L P.length ∧ OwnPt w' w.heap.size pv P ∧ Apart P ∧ MkG P L t ∧ P.length ≤ m) ∧ Below w.heap.size w w' := by
  have H1 := Lib.hid h1
  have H2 := Lib.hid h2
  have H3 := Lib.hid h3
  have HC : Hid CrossSpec := Lib.hid hC
  clear h1 h2 h3 hC
  obtain ⟨i0, hi, hz0, hz1, hz2⟩ := info_p2
  go_enter Tryd.func4, Tryd.ntmps4
  go_upto_block 0 with (fail)
  obtain ⟨wb, hwb⟩ : ∃ W, W = w.alloc (.cells #[.slice A1 n1 c1, .slice A2 n2 c2, .slice A3 n3 c3] 25) := ⟨_, rfl⟩
  rw [← hwb]
  obtain ⟨g, hg⟩ : ∃ g, g = w.heap.size := ⟨_, rfl⟩
  have BB : Hid (Below w.heap.size w wb) := Lib.hid (by rw [hwb]; exact (Below.refl _ _).alloc (Nat.le_refl _) _)
  have SB : Hid (wb.heap.size = g + 1) := Lib.hid (by rw [hwb, hg]; simp)
  have ZB : Hid (BoxZ g (.slice A1 n1 c1) (.slice A2 n2 c2) (.slice A3 n3 c3) wb) := Lib.hid (by
    rw [hwb, hg]
    refine ⟨by simp, ?_, ?_, ?_⟩ <;> go_simp)
  have GW := Lib.hid hg
  rw [← hg]
  clear hwb hg
  go_cut [6, 7] from 18 to 67 (fun pv iv wx => ∃ P, OwnPt wx (g + 1) pv P ∧ Apart P ∧ P.length ≤ m ∧ P.length ≤ n1 ∧ BoxZ g (.slice A1 n1 c1) (.slice A2 n2 c2) (.slice A3 n3 c3) wx ∧ Below (g + 1) wb wx)
  case first =>
    go_wp2_with (fail)
    go_loopw [6, 7] (fun pv iv wr => Mz1 g n1 m (.slice A1 n1 c1) (.slice A2 n2 c2) (.slice A3 n3 c3) wb pv iv wr) (fun _ iv _ => n1 - (intOf iv).toNat)
    case atStart => exact ⟨0, [], rfl, Nat.zero_le _, Nat.le_refl _, Nat.zero_le _, OwnPt.nil _ _, apart_nil, ZB.out, Below.refl _ _⟩
    case round =>
      obtain ⟨k, P, rfl, hk, hPk, hPm, hO, hAp, hZ, hB⟩ := hrel
      obtain ⟨ao, co, e⟩ := hO.form
      subst e
      have O := Lib.hid hO
      have AP := Lib.hid hAp
      have Z := Lib.hid hZ
      have B := Lib.hid hB
      obtain ⟨y0, y1, -, -⟩ := hZ
      clear hO hAp hB
      by_cases hk1 : k < n1
      · by_cases hk2 : P.length < m
        · obtain ⟨b, o, e, hb, hcell⟩ := H1.out.at_ (by omega)
          subst e
          obtain ⟨p0, p1⟩ := H1.out.r k hk1
          have d0 := (B.out.cell (p := ⟨b, o + k, none⟩) (show b < g + 1 by have := GW.out; omega)).trans ((BB.out.cell (p := ⟨b, o + k, none⟩) hb).trans (hcell k hk1))
          have z3 : b < wr.heap.size := by have := GW.out; omega
          clear hcell
          generalize D1 k = z at *
          have q1 : decide (k < n1) = true := by rw [decide_eq_true_eq]; exact hk1
          have q2 : decide (P.length < m) = true := by rw [decide_eq_true_eq]; exact hk2
          obtain ⟨x1, hx1⟩ : ∃ r : Int, z % 8 = r := ⟨_, rfl⟩
          have hx1' : z.tmod 8 = x1 := by rw [Int.tmod_eq_emod_of_nonneg p0]; exact hx1
          obtain ⟨zq, hzq⟩ : ∃ r : Int, z / 8 = r := ⟨_, rfl⟩
          have hzq' : z.tdiv 8 = zq := by rw [Int.tdiv_eq_ediv_of_nonneg p0]; exact hzq
          have hzq0 : 0 ≤ zq ∧ zq ≤ 31 := by omega
          obtain ⟨x2, hx2⟩ : ∃ r : Int, zq % 8 = r := ⟨_, rfl⟩
          have hx2' : zq.tmod 8 = x2 := by rw [Int.tmod_eq_emod_of_nonneg hzq0.1]; exact hx2
          have cx1 : IntKind.i64.wrap z = z := IntWalk.i64_in _ (by omega)
          have cx2 : IntKind.i64.wrap zq = zq := IntWalk.i64_in _ (by omega)
          clear hx1 hzq hx2
          go_upto_region 5 with (fail)
          go_region_held3 (fun w' => w'.cell? ⟨g, 0, none⟩ = some (.slice (some ⟨b, o, none⟩) n1 c1) ∧ w'.cell? ⟨b, o + k, none⟩ = some (.int .u8 z)) (go_keep) (fail)
          obtain ⟨wa, hwa⟩ : ∃ W, W = (wr.alloc (.cells #[.int .i64 x1, .int .i64 x2] 48)).drew := ⟨_, rfl⟩
          have BA : Hid (Below wr.heap.size wr wa) := Lib.hid (by rw [hwa]; exact ((Below.refl _ _).alloc (Nat.le_refl _) _).drew)
          have za : wa.heap.size = wr.heap.size + 1 := by rw [hwa]; simp
          have b0 : wa.cell? ⟨wr.heap.size, 0, none⟩ = some (.int .i64 x1) := by rw [hwa]; go_simp
          have b1 : wa.cell? ⟨wr.heap.size, 1, none⟩ = some (.int .i64 x2) := by rw [hwa]; go_simp
          rw [← hwa]
          clear hwa d0 z3 p0 p1 hx1' hzq' hzq0 hx2' cx1 cx2 y1
          obtain ⟨s, hs⟩ : ∃ s, s = wr.heap.size := ⟨_, rfl⟩
          have OA : Hid (OwnPt wa (g + 1) (.slice ao P.length co) P) := Lib.hid (O.out.below BA.out (Nat.le_refl _))
          have ZA : Hid (BoxZ g (.slice (some ⟨b, o, none⟩) n1 c1) (.slice A2 n2 c2) (.slice A3 n3 c3) wa) := Lib.hid (Z.out.below (BA.out.mono (by omega)))
          have BW : Hid (Below (g + 1) wb wa) := Lib.hid (B.out.trans (BA.out.mono (by omega)))
          have hgs : g < s := by omega
          rw [← hs] at b0 b1 za ⊢
          clear BA O Z B hs y0
          obtain ⟨wo, hwo⟩ : ∃ W, W = wr := ⟨_, rfl⟩
          subst hwo
          go_wp2_with (fail)
          go_loopw [9, 10] (fun bv kv wr2 => Mz2 P (x1, x2) wa bv kv wr2) (fun _ kv _ => P.length - (intOf kv).toNat)
          case atStart => exact ⟨0, false, rfl, Nat.zero_le _, rfl, fun _ k hk => absurd hk (by omega), Below.refl _ _⟩
          case round =>
            obtain ⟨j, t, rfl, hj, rfl, hN, hB2⟩ := hrel
            have N := Lib.hid hN
            have B2 := Lib.hid hB2
            have e0 := (hB2.cell (p := ⟨s, 0, none⟩) (show s < wa.heap.size by omega)).trans b0
            have e1 := (hB2.cell (p := ⟨s, 1, none⟩) (show s < wa.heap.size by omega)).trans b1
            have z4 : s < wr.heap.size := by have := hB2.size; omega
            clear hN hB2
            by_cases hj1 : j < P.length
            · have q3 : decide (j < P.length) = true := by rw [decide_eq_true_eq]; exact hj1
              cases t
              · obtain ⟨A', cap', e, _, hA⟩ := (OA.out.below B2.out (Nat.le_refl _)).pts
                simp only [Value.slice.injEq, true_and] at e
                obtain ⟨rfl, rfl⟩ := e
                obtain ⟨b2, o2, e, hb2, hc⟩ := hA (by omega)
                subst e
                obtain ⟨f0, f1⟩ := hc j hj1
                obtain ⟨xj, hxj⟩ : ∃ r, (P.getD j (0, 0)).1 = r := ⟨_, rfl⟩
                obtain ⟨yj, hyj⟩ : ∃ r, (P.getD j (0, 0)).2 = r := ⟨_, rfl⟩
                rw [hxj] at f0
                rw [hyj] at f1
                clear hA hc
                obtain ⟨t2, ht2⟩ : ∃ t2, (xj == x1 && yj == x2) = t2 := ⟨_, rfl⟩
                have hq : ∀ W, (binOp .eql 48 (.agg #[.int .i64 xj, .int .i64 yj]) (.agg #[.int .i64 x1, .int .i64 x2])).run Tryd.prog W = .ok (.bool t2) W := fun W => by rw [← ht2]; exact eqPt W _ _ _ _
                have N2 : Hid (t2 = false → ∀ k, k < j + 1 → P.getD k (0, 0) ≠ (x1, x2)) := Lib.hid (fun h k hk => by
                  by_cases e : k = j
                  · subst e
                    intro e
                    rw [e] at hxj hyj
                    simp only at hxj hyj
                    subst hxj hyj
                    simp [h] at ht2
                  · exact N.out rfl k (by omega))
                clear hxj hyj ht2
                go_wp2_with (fail)
                go_quiet (fail)
                go_wp2_with (fail)
                go_roundw
                case rel => exact ⟨j + 1, t2, by go_num, by omega, rfl, N2.out, drewN_below B2.out _⟩
                case measure => (simp [intOf] <;> omega)
              · go_wp2_with (fail)
                go_quiet (fail)
                go_wp2_with (fail)
                go_roundw
                case rel => exact ⟨j + 1, true, by go_num, by omega, rfl, fun h => absurd h (by decide), drewN_below B2.out _⟩
                case measure => (simp [intOf] <;> omega)
            · have q3 : decide (j < P.length) = false := by rw [decide_eq_false_iff_not]; exact hj1
              cases t
              · have ZW := Lib.hid (ZA.out.below (B2.out.mono (by omega)))
                have OW := Lib.hid (OA.out.below B2.out (Nat.le_refl _))
                have BX := Lib.hid (BW.out.trans (B2.out.mono (by omega)))
                have AM := Lib.hid (apart_more (p := (x1, x2)) AP.out (fun k hk => N.out rfl k (by omega)))
                have hgz : g + 1 ≤ wr.heap.size := by omega
                clear q1 q2 b0 b1 N OA ZA BW B2
                go_wp2_with (at_builtin; refine wpList_append_fresh rfl (.tmp 64) (.tmp 66) 27 rfl (g + 1) 48 i0 (.agg #[.int .i64 0, .int .i64 0]) 2 16 Tryd.underlying27 hi hz0 hz1 hz2 rfl (by decide) (.slice ao P.length co) P.length (P.flatMap encP) rfl (OW.out.below ((Below.refl _ _).alloc (Nat.le_refl _) _) (Nat.le_refl _)) ⟨wr.heap.size, 0, none⟩ 1 1 (encP (x1, x2)) rfl rfl (newsP _ _ _ _ _ rfl) (allP _) (by unfold maxLen; omega) (by omega) (by simp; omega) ?_; intro v5 w5 hown hgrow hfr; have o5 := OwnPt.more hown; have O5 := Lib.hid o5; have B5 : Hid (Below (g + 1) wb w5) := Lib.hid ((BX.out.trans (((Below.refl _ _).alloc (Nat.le_refl _) _).mono hgz)).grown hgrow (by first | exact Nat.le_refl _ | (simp; omega)) (fun q hq => (World.ownsRow.lt OW.out q hq).1)); clear hown hgrow hfr o5)
                go_roundw
                case rel => exact ⟨k + 1, P ++ [(x1, x2)], by go_num, by omega, by simp; omega, by simp; omega, O5.out, AM.out, ZB.out.below B5.out, B5.out⟩
                case measure => (simp [intOf] <;> omega)
              · have ZW := Lib.hid (ZA.out.below (B2.out.mono (by omega)))
                have OW := Lib.hid (OA.out.below B2.out (Nat.le_refl _))
                have BX := Lib.hid (BW.out.trans (B2.out.mono (by omega)))
                go_wp2_with (fail)
                go_roundw
                case rel => exact ⟨k + 1, P, by go_num, by omega, by omega, hPm, OW.out, AP.out, ZW.out, BX.out⟩
                case measure => (simp [intOf] <;> omega)
        · have q1 : decide (k < n1) = true := by rw [decide_eq_true_eq]; exact hk1
          have q2 : decide (P.length < m) = false := by rw [decide_eq_false_iff_not]; exact hk2
          go_wp2_with (fail)
          go_meet
          exact ⟨P, O.out, AP.out, hPm, by omega, Z.out, B.out⟩
      · have q1 : decide (k < n1) = false := by rw [decide_eq_false_iff_not]; exact hk1
        go_wp2_with (fail)
        go_meet
        exact ⟨P, O.out, AP.out, hPm, by omega, Z.out, B.out⟩
  case rest =>
    obtain ⟨P, hO, hAp, hPm, hPn, hZ, hB⟩ := hcut
    obtain ⟨ap, cp, e⟩ := hO.form
    subst e
    obtain ⟨wz, hwz⟩ : ∃ W, W = wc := ⟨_, rfl⟩
    subst hwz
    have O := Lib.hid hO
    have AP := Lib.hid hAp
    have Z := Lib.hid hZ
    have B := Lib.hid hB
    have hgz : g < wz.heap.size := hZ.1
    clear hO hAp hZ hB
    go_wp2_with (go_at_call 11; go_loud (refine (refNew P.length wz (by omega)).mono ?_; rintro e w1 ⟨⟨g2, rfl, hN⟩, hb⟩; have N1 : Hid (OwnG w1 (g + 1) (.slice (some ⟨g2, 0, none⟩) P.length P.length) (newG P.length) P.length) := Lib.hid (hN.base (by omega)); have O1 := Lib.hid (O.out.below hb (Nat.le_refl _)); have B1 := Lib.hid (B.out.trans (hb.mono (by omega))); have Z1 := Lib.hid (Z.out.below (hb.mono (by omega))); clear hN hb))
    clear O Z B
    go_loopw [11, 12] (fun lv iv wr => Mz3 P g (.slice ap P.length cp) (.slice A1 n1 c1) (.slice A2 n2 c2) (.slice A3 n3 c3) wb lv iv wr) (fun _ iv _ => P.length - (intOf iv).toNat)
    case atStart => exact ⟨0, _, rfl, Nat.zero_le _, MkG.start P, N1.out, O1.out, Z1.out, B1.out⟩
    case round =>
      clear N1 O1 Z1 B1
      obtain ⟨k, L, rfl, hk, hM, hN, hO, hZ, hB⟩ := hrel
      obtain ⟨al, cl, e⟩ := hN.form
      subst e
      have M := Lib.hid hM
      have N := Lib.hid hN
      have O := Lib.hid hO
      have Z := Lib.hid hZ
      have B := Lib.hid hB
      obtain ⟨y0, y1, y2, y3⟩ := hZ
      clear hM hN hO hB
      by_cases hk1 : k < P.length
      · have q1 : decide (k < P.length) = true := by rw [decide_eq_true_eq]; exact hk1
        go_upto_if 81 with (fail)
        go_cut [13] from 77 to 86 (fun s wx => ∃ u : Int, s = .int .u8 u ∧ 0 ≤ u ∧ u ≤ 255 ∧ wx = wr)
        case first =>
          by_cases h2 : k < n2
          · have q2 : decide (k < n2) = true := by rw [decide_eq_true_eq]; exact h2
            obtain ⟨b, o, e, hb, hcell⟩ := H2.out.at_ (by omega)
            subst e
            obtain ⟨p0, p1⟩ := H2.out.r k h2
            have d0 := (B.out.cell (p := ⟨b, o + k, none⟩) (show b < g + 1 by have := GW.out; omega)).trans ((BB.out.cell (p := ⟨b, o + k, none⟩) hb).trans (hcell k h2))
            have z3 : b < wr.heap.size := by have := GW.out; omega
            clear hcell
            generalize D2 k = z at *
            go_wp2_with (fail)
            go_meet
            exact ⟨z, rfl, p0, p1, rfl⟩
          · have q2 : decide (k < n2) = false := by rw [decide_eq_false_iff_not]; exact h2
            go_wp2_with (fail)
            go_meet
            exact ⟨3, rfl, by decide, by decide, rfl⟩
        case rest =>
          obtain ⟨u, rfl, hu0, hu1, hw⟩ := hcut
          subst hw
          obtain ⟨wr, hwr⟩ : ∃ W, W = wc := ⟨_, rfl⟩
          subst hwr
          go_upto_if 92 with (fail)
          go_cut [14] from 88 to 102 (fun s wx => ∃ o : Int, s = .int .i64 o ∧ -2 ≤ o ∧ o ≤ 200000 ∧ wx = wr)
          case first =>
            by_cases h3 : k < n3
            · have q2 : decide (k < n3) = true := by rw [decide_eq_true_eq]; exact h3
              obtain ⟨b, o, e, hb, hcell⟩ := H3.out.at_ (by omega)
              subst e
              obtain ⟨p0, p1⟩ := H3.out.r k h3
              have d0 := (B.out.cell (p := ⟨b, o + k, none⟩) (show b < g + 1 by have := GW.out; omega)).trans ((BB.out.cell (p := ⟨b, o + k, none⟩) hb).trans (hcell k h3))
              have z3 : b < wr.heap.size := by have := GW.out; omega
              clear hcell
              generalize D3 k = z at *
              by_cases hz : z < -2
              · have q3 : decide (z < -2) = true := by rw [decide_eq_true_eq]; exact hz
                go_wp2_with (fail)
                go_meet
                exact ⟨-z, by go_num, by omega, by omega, rfl⟩
              · have q3 : decide (z < -2) = false := by rw [decide_eq_false_iff_not]; exact hz
                go_wp2_with (fail)
                go_meet
                exact ⟨z, rfl, by omega, by omega, rfl⟩
            · have q2 : decide (k < n3) = false := by rw [decide_eq_false_iff_not]; exact h3
              go_wp2_with (fail)
              go_meet
              exact ⟨k, rfl, by omega, by omega, rfl⟩
          case rest =>
            obtain ⟨o, rfl, ho0, ho1, hw⟩ := hcut
            subst hw
            obtain ⟨wr, hwr⟩ : ∃ W, W = wc := ⟨_, rfl⟩
            subst hwr
            obtain ⟨wo, hwo⟩ : ∃ W, W = wr := ⟨_, rfl⟩
            subst hwo
            clear y0 y1 y2 y3
            go_wp2_with (fail)
            go_loopw [11, 15] (fun lv dv wr => Mz4 P g k (.slice ap P.length cp) (.slice A1 n1 c1) (.slice A2 n2 c2) (.slice A3 n3 c3) wb lv dv wr) (fun _ dv _ => 2 - (intOf dv).toNat)
            case atStart => exact ⟨0, L, rfl, by omega, M.out, N.out, O.out, Z.out, B.out⟩
            case round =>
              clear M N O Z B
              obtain ⟨d, L, rfl, hd, hM, hN, hO, hZ, hB⟩ := hrel
              obtain ⟨al, cl, e⟩ := hN.form
              subst e
              have M := Lib.hid hM
              have N := Lib.hid hN
              have O := Lib.hid hO
              have Z := Lib.hid hZ
              have B := Lib.hid hB
              have hgz : g < wr.heap.size := hZ.1
              clear hM hN hO hZ hB
              by_cases hd2 : d < 2
              · obtain ⟨bt, hbt⟩ : ∃ t, (bits BinOp.and IntKind.u8 (u / 2 ^ d) 1 == 0) = t := ⟨_, rfl⟩
                have MM := Lib.hid (M.out.mono (u := 2 * k + (d + 1)) (by omega))
                obtain ⟨q, hq⟩ : ∃ q, nearP P k d = q := ⟨_, rfl⟩
                have NR := Lib.hid hq
                cases bt
                · rcases near_range P k d with h | ⟨j, hj, h, _, _⟩
                  · obtain rfl : q = -1 := by omega
                    clear h hq
                    go_wp2_with (go_at_call 12; go_loud (refine (refNearestD _ P k d wr O.out.pts hk1 (by omega) hd2).mono ?_; rintro e w1 ⟨h, hb⟩; rw [NR.out] at h; subst h; have N1 : Hid (OwnG w1 (g + 1) (.slice al P.length cl) L P.length) := Lib.hid (N.out.below hb (Nat.le_refl _)); have O1 := Lib.hid (O.out.below hb (Nat.le_refl _)); have B1 := Lib.hid (B.out.trans (hb.mono (by omega))); have Z1 := Lib.hid (Z.out.below (hb.mono (by omega))); have hgz1 : g < w1.heap.size := (by have := hb.size; omega); clear hb))
                    go_roundw
                    case rel => exact ⟨d + 1, L, by go_num, by omega, MM.out, N1.out, O1.out, Z1.out, B1.out⟩
                    case measure => (simp [intOf] <;> omega)
                  · obtain rfl : q = (j : Int) := by omega
                    have r1 : decide ((j : Int) < 0) = false := by rw [decide_eq_false_iff_not]; omega
                    have LJ := Lib.hid (laid_join (d := d) o M.out.len hk1 hj (by omega))
                    have MS := Lib.hid (M.out.step AP.out hk1 hd2 hq ho0)
                    have RR : Hid (∀ v d, v < P.length → d < 2 → nxG L v d < P.length) := Lib.hid (fun v d hv hd => by
                      rcases M.out.good.side hv (show d < 4 by omega) with h | h
                      · omega
                      · exact h.2.1)
                    clear h hq
                    go_upto_if 126 with (first | (go_at_call 12; go_loud (refine (refNearestD _ P k d wr O.out.pts hk1 (by omega) hd2).mono ?_; rintro e w1 ⟨h, hb⟩; rw [NR.out] at h; subst h; have N1 : Hid (OwnG w1 (g + 1) (.slice al P.length cl) L P.length) := Lib.hid (N.out.below hb (Nat.le_refl _)); have O1 := Lib.hid (O.out.below hb (Nat.le_refl _)); have B1 := Lib.hid (B.out.trans (hb.mono (by omega))); have Z1 := Lib.hid (Z.out.below (hb.mono (by omega))); have hgz1 : g < w1.heap.size := (by have := hb.size; omega); clear hb)) | (go_at_call 13; go_loud (refine (HC.out _ _ P L P.length k j w1 O1.out.pts N1.out.cel rfl hk1 hj (by omega) RR.out).mono ?_; rintro e w2 ⟨⟨t, rfl⟩, hb⟩; have N2 : Hid (OwnG w2 (g + 1) (.slice al P.length cl) L P.length) := Lib.hid (N1.out.below hb (Nat.le_refl _)); have O2 := Lib.hid (O1.out.below hb (Nat.le_refl _)); have B2 := Lib.hid (B1.out.trans (hb.mono (by omega))); have Z2 := Lib.hid (Z1.out.below (hb.mono (by omega))); have hgz2 : g < w2.heap.size := (by have := hb.size; omega); clear hb)))
                    cases t
                    · go_wp2_with (go_at_call 14; go_loud (refine (refWith _ L (joinG L k d j o) P.length d k j o w2 N2.out.cel (by omega) (by omega) LJ.out).mono ?_; rintro e w3 ⟨⟨A', c', rfl, hN⟩, hb⟩; have N3 := Lib.hid (hN.base (C := g + 1) (by omega)); have O3 := Lib.hid (O2.out.below hb (Nat.le_refl _)); have B3 := Lib.hid (B2.out.trans (hb.mono (by omega))); have Z3 := Lib.hid (Z2.out.below (hb.mono (by omega))); clear hb hN))
                      go_roundw
                      case rel => exact ⟨d + 1, _, by go_num, by omega, MS.out, N3.out, O3.out, Z3.out, B3.out⟩
                      case measure => (simp [intOf] <;> omega)
                    · go_wp2_with (fail)
                      go_roundw
                      case rel => exact ⟨d + 1, L, by go_num, by omega, MM.out, N2.out, O2.out, Z2.out, B2.out⟩
                      case measure => (simp [intOf] <;> omega)
                · go_wp2_with (go_at_call 12; go_loud (refine (refNearestD _ P k d wr O.out.pts hk1 (by omega) hd2).mono ?_; rintro e w1 ⟨h, hb⟩; rw [NR.out] at h; subst h; have N1 : Hid (OwnG w1 (g + 1) (.slice al P.length cl) L P.length) := Lib.hid (N.out.below hb (Nat.le_refl _)); have O1 := Lib.hid (O.out.below hb (Nat.le_refl _)); have B1 := Lib.hid (B.out.trans (hb.mono (by omega))); have Z1 := Lib.hid (Z.out.below (hb.mono (by omega))); have hgz1 : g < w1.heap.size := (by have := hb.size; omega); clear hb))
                  go_roundw
                  case rel => exact ⟨d + 1, L, by go_num, by omega, MM.out, N1.out, O1.out, Z1.out, B1.out⟩
                  case measure => (simp [intOf] <;> omega)
              · obtain rfl : d = 2 := by omega
                go_wp2_with (fail)
                go_roundw
                case rel => exact ⟨k + 1, L, by go_num, by omega, M.out, N.out, O.out, Z.out, B.out⟩
                case measure => (simp [intOf] <;> omega)
      · have q1 : decide (k < P.length) = false := by rw [decide_eq_false_iff_not]; exact hk1
        go_wp2_with (fail)
        go_ret2
        exact ⟨⟨P, L, _, _, 2 * k, rfl, N.out.base (by have := GW.out; omega), O.out.base (by have := GW.out; omega), AP.out, M.out, hPm⟩, BB.out.trans (B.out.mono (by have := GW.out; omega))⟩
end Go.Proofs.YtkakeakdgidigaaDoor
