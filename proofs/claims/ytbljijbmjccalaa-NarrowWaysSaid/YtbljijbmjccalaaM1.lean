/-
  Proved here: what the document's round returns, from the test on whether it is empty on. Conditions: the boxes hold what is known.
-/
import Derived.Test.YtbljijbmjccalaaHRefRound
import Derived.Deep.RegionHeld3
namespace Go.Proofs.Ytbljijbmjccalaa
open Go.RowKit
attribute [local go_sem] u_and u_or u_xor u_andNot u_add u_sub s_conv u_conv u_addH u_subH

/-- What follows n statements. -/
def tl : Nat → Code → Code
  | 0, c => c
  | n + 1, .seq _ b => tl n b
  | _ + 1, c => c

theorem wp_code {c c' : Code} (h : c = c') {P : Program} {Q : Exit → Act → World → Prop} {a : Act} {w : World} (H : c'.wp P Q a w) : c.wp P Q a w := h ▸ H
theorem tset {g : Nat} {a b x y : Value} {W : World} (h : W.heap[g]? = some (.cells #[a, b] 24)) : ((W.setCell ⟨g, 0, none⟩ x).setCell ⟨g, 1, none⟩ y).heap[g]? = some (.cells #[x, y] 24) := by
  simp [World.setCell, Array.getElem?_modify, h]
theorem rb_far {w0 W : World} {k : K} {g : Nat} (h : RB w0 k W) (hg : w0.heap.size + 1 < g) (x y : Value) : RB w0 k ((W.setCell ⟨g, 0, none⟩ x).setCell ⟨g, 1, none⟩ y) :=
  ⟨num_far (num_far h.1 (by omega) _ _) (by omega) _ _, num_far (num_far h.2.1 (by omega) _ _) (by omega) _ _, (h.2.2.setCell (by show w0.heap.size ≤ g; omega) _).setCell (by show w0.heap.size ≤ g; omega) _⟩
theorem box_keep {g : Nat} {o : Obj} {W W' : World} (h : W.heap[g]? = some o) (hb : Below W.heap.size W W') : W'.heap[g]? = some o := (hb.block _ (Array.getElem?_eq_some_iff.1 h).1).trans h
theorem rbx_keep {w0 W W' : World} {k : K} (h : RB w0 k W) (hb : Below W.heap.size W W') : RB w0 k W' :=
  ⟨num_keep h.1 hb, num_keep h.2.1 hb, h.2.2.trans (hb.mono h.2.2.size)⟩
theorem s4_of {w W : World} {r : K} (h : RB w r W) : W.cell? ⟨w.heap.size, 0, none⟩ = some (.int .u64 (u r.v)) ∧ W.cell? ⟨w.heap.size, 1, none⟩ = some (.int .u64 (u r.m)) ∧ W.cell? ⟨w.heap.size, 2, none⟩ = some (.int .u64 (u r.a)) ∧ W.cell? ⟨w.heap.size, 3, none⟩ = some (.int .u64 (u r.b)) ∧ RB w r W := by
  obtain ⟨n0, n1, n2, n3, n4, n5⟩ := num_cells h.1
  exact ⟨n0, n1, n2, n3, h⟩
theorem s4_rb {w W : World} {r : K} (h : W.cell? ⟨w.heap.size, 0, none⟩ = some (.int .u64 (u r.v)) ∧ W.cell? ⟨w.heap.size, 1, none⟩ = some (.int .u64 (u r.m)) ∧ W.cell? ⟨w.heap.size, 2, none⟩ = some (.int .u64 (u r.a)) ∧ W.cell? ⟨w.heap.size, 3, none⟩ = some (.int .u64 (u r.b)) ∧ RB w r W) : RB w r W := h.2.2.2.2
theorem w0x {w W : World} {r : K} (h : W.cell? ⟨w.heap.size, 0, none⟩ = some (.int .u64 (u r.v)) ∧ W.cell? ⟨w.heap.size, 1, none⟩ = some (.int .u64 (u r.m)) ∧ W.cell? ⟨w.heap.size, 2, none⟩ = some (.int .u64 (u r.a)) ∧ W.cell? ⟨w.heap.size, 3, none⟩ = some (.int .u64 (u r.b)) ∧ RB w r W) : NumAt (w.heap.size + 1) zeroK W := h.2.2.2.2.2.1
theorem s4_keep {w W W' : World} {r : K} (h : W.cell? ⟨w.heap.size, 0, none⟩ = some (.int .u64 (u r.v)) ∧ W.cell? ⟨w.heap.size, 1, none⟩ = some (.int .u64 (u r.m)) ∧ W.cell? ⟨w.heap.size, 2, none⟩ = some (.int .u64 (u r.a)) ∧ W.cell? ⟨w.heap.size, 3, none⟩ = some (.int .u64 (u r.b)) ∧ RB w r W) (hb : Below W.heap.size W W') : W'.cell? ⟨w.heap.size, 0, none⟩ = some (.int .u64 (u r.v)) ∧ W'.cell? ⟨w.heap.size, 1, none⟩ = some (.int .u64 (u r.m)) ∧ W'.cell? ⟨w.heap.size, 2, none⟩ = some (.int .u64 (u r.a)) ∧ W'.cell? ⟨w.heap.size, 3, none⟩ = some (.int .u64 (u r.b)) ∧ RB w r W' := s4_of (rbx_keep (s4_rb h) hb)
set_option maxRecDepth 100000 in
set_option maxHeartbeats 16000000 in
theorem end_crossed (r : K) (w W : World) (hc : r.crossed = true) (hB : RB w r W) (u0 u3 u4 u5 u6 u7 u8 u9 u10 u11 u12 u13 u14 u15 u16 u17 u18 u19 u20 u21 u22 u23 u24 u25 u26 u27 u28 u29 u30 u31 u32 u33 u34 u35 u36 u37 u38 u39 u40 u41 u42 u43 u44 u45 u46 u47 u48 u49 u50 u51 u52 u53 u54 u55 u56 u57 u58 u59 u60 u61 u62 u63 u64 u65 u66 u67 u68 u69 u70 u71 u72 u73 u74 u75 u76 u77 u78 u79 u80 u81 u82 u83 u84 u85 u86 u87 u88 u89 u90 u91 u92 u93 u94 u95 u96 u97 u98 u99 u100 u101 u102 u103 u104 u105 u106 u107 u108 u109 u110 u111 u112 u113 u114 u115 u116 u117 u118 u119 u120 u121 u122 u123 u124 u125 u126 u127 u128 u129 u130 u131 u132 u133 u134 u135 u136 u137 u138 u139 u140 u141 u142 u143 u144 u145 u146 u147 u148 u149 u150 u151 u152 u153 u154 u155 u156 u157 u158 u159 u160 u161 u162 u163 : Value) :
    (tl 12 (Try.f48.body.getD .skip)).wp Try.prog (bodyPost Try.prog Try.f48 fun e w' => e = .returned (.tuple #[numV allK, .bool false]) ∧ Below w.heap.size w w') ⟨#[u0, .pointer (some ⟨w.heap.size, 0, none⟩), .pointer (some ⟨w.heap.size + 1, 0, none⟩), u3, u4, u5, u6, u7, u8, u9, u10, u11, u12, u13, u14, u15, u16, u17, u18, u19, u20, u21, u22, u23, u24, u25, u26, u27, u28, u29, u30, u31, u32, u33, u34, u35, u36, u37, u38, u39, u40, u41, u42, u43, u44, u45, u46, u47, u48, u49, u50, u51, u52, u53, u54, u55, u56, u57, u58, u59, u60, u61, u62, u63, u64, u65, u66, u67, u68, u69, u70, u71, u72, u73, u74, u75, u76, u77, u78, u79, u80, u81, u82, u83, u84, u85, u86, u87, u88, u89, u90, u91, u92, u93, u94, u95, u96, u97, u98, u99, u100, u101, u102, u103, u104, u105, u106, u107, u108, u109, u110, u111, u112, u113, u114, u115, u116, u117, u118, u119, u120, u121, u122, u123, u124, u125, u126, u127, u128, u129, u130, u131, u132, u133, u134, u135, u136, u137, u138, u139, u140, u141, u142, u143, u144, u145, u146, u147, u148, u149, u150, u151, u152, u153, u154, u155, u156, u157, u158, u159, u160, u161, u162, u163], []⟩ W := by
  have hall := fun W => refall_num W
  obtain ⟨q, hq⟩ : ∃ q, allK = q := ⟨_, rfl⟩
  rw [hq] at hall
  simp only [hq]
  clear hq
  unfold numV at hall
  have HB := Lib.hid hB
  obtain ⟨n0, n1, n2, n3, n4, n5⟩ := num_cells hB.1
  obtain ⟨f0, f1, f2, f3, f4, f5⟩ := num_free hB.1
  clear hB
  unfold numV
  obtain ⟨code, hcode⟩ : ∃ c, tl 12 (Try.f48.body.getD .skip) = c := ⟨_, rfl⟩
  rw [hcode]
  dsimp only [tl, Try.f48, Option.getD] at hcode
  subst hcode
  unfold K.crossed at hc
  by_cases h1 : u r.b < u r.a
  · clear hc
    have h1' : decide (u r.b < u r.a) = true := decide_eq_true h1
    go_wp2_with (go_at_call 10; refine (hall _).mono ?_; rintro e w1 ⟨rfl, hb⟩; have H1 := Lib.hid (rbx_keep HB.out hb); obtain ⟨z0, z1, z2, z3, z4, z5⟩ := num_cells H1.out.2.1; obtain ⟨g0, g1, g2, g3, g4, g5⟩ := num_free H1.out.2.1; clear hb)
    refine bodyPost_ret (v := .tuple #[numV q, .bool false]) (by unfold numV; simp [results, Try.results48, go_sem, z0, z1, z2, z3, z4, z5]) rfl ⟨rfl, ?_⟩
    exact below_sixn (by omega) H1.out.2.2 _ _ _ _ _ _
  · have h2 : s r.d < s r.c := by simpa [h1] using hc
    clear hc
    go_wp2_with (go_at_call 10; refine (hall _).mono ?_; rintro e w1 ⟨rfl, hb⟩; have H1 := Lib.hid (rbx_keep HB.out hb); obtain ⟨z0, z1, z2, z3, z4, z5⟩ := num_cells H1.out.2.1; obtain ⟨g0, g1, g2, g3, g4, g5⟩ := num_free H1.out.2.1; clear hb)
    refine bodyPost_ret (v := .tuple #[numV q, .bool false]) (by unfold numV; simp [results, Try.results48, go_sem, z0, z1, z2, z3, z4, z5]) rfl ⟨rfl, ?_⟩
    exact below_sixn (by omega) H1.out.2.2 _ _ _ _ _ _
set_option maxRecDepth 100000 in
set_option maxHeartbeats 16000000 in
theorem end_ok (r : K) (w W : World) (hc : r.crossed = false) (hk : r.ok2 = true) (hB : RB w r W) (u0 u3 u4 u5 u6 u7 u8 u9 u10 u11 u12 u13 u14 u15 u16 u17 u18 u19 u20 u21 u22 u23 u24 u25 u26 u27 u28 u29 u30 u31 u32 u33 u34 u35 u36 u37 u38 u39 u40 u41 u42 u43 u44 u45 u46 u47 u48 u49 u50 u51 u52 u53 u54 u55 u56 u57 u58 u59 u60 u61 u62 u63 u64 u65 u66 u67 u68 u69 u70 u71 u72 u73 u74 u75 u76 u77 u78 u79 u80 u81 u82 u83 u84 u85 u86 u87 u88 u89 u90 u91 u92 u93 u94 u95 u96 u97 u98 u99 u100 u101 u102 u103 u104 u105 u106 u107 u108 u109 u110 u111 u112 u113 u114 u115 u116 u117 u118 u119 u120 u121 u122 u123 u124 u125 u126 u127 u128 u129 u130 u131 u132 u133 u134 u135 u136 u137 u138 u139 u140 u141 u142 u143 u144 u145 u146 u147 u148 u149 u150 u151 u152 u153 u154 u155 u156 u157 u158 u159 u160 u161 u162 u163 : Value) :
    (tl 12 (Try.f48.body.getD .skip)).wp Try.prog (bodyPost Try.prog Try.f48 fun e w' => e = .returned (.tuple #[numV r.step6, .bool true]) ∧ Below w.heap.size w w') ⟨#[u0, .pointer (some ⟨w.heap.size, 0, none⟩), .pointer (some ⟨w.heap.size + 1, 0, none⟩), u3, u4, u5, u6, u7, u8, u9, u10, u11, u12, u13, u14, u15, u16, u17, u18, u19, u20, u21, u22, u23, u24, u25, u26, u27, u28, u29, u30, u31, u32, u33, u34, u35, u36, u37, u38, u39, u40, u41, u42, u43, u44, u45, u46, u47, u48, u49, u50, u51, u52, u53, u54, u55, u56, u57, u58, u59, u60, u61, u62, u63, u64, u65, u66, u67, u68, u69, u70, u71, u72, u73, u74, u75, u76, u77, u78, u79, u80, u81, u82, u83, u84, u85, u86, u87, u88, u89, u90, u91, u92, u93, u94, u95, u96, u97, u98, u99, u100, u101, u102, u103, u104, u105, u106, u107, u108, u109, u110, u111, u112, u113, u114, u115, u116, u117, u118, u119, u120, u121, u122, u123, u124, u125, u126, u127, u128, u129, u130, u131, u132, u133, u134, u135, u136, u137, u138, u139, u140, u141, u142, u143, u144, u145, u146, u147, u148, u149, u150, u151, u152, u153, u154, u155, u156, u157, u158, u159, u160, u161, u162, u163], []⟩ W := by
  have hra := fun W => refrange_any r.a r.b W
  have hme := fun W => meet_ref r.v r.m (rgV r.a r.b) (rgM r.a r.b) W
  unfold mtV at hme
  rw [show mtOk r.v r.m (rgV r.a r.b) (rgM r.a r.b) = true from hk, if_pos rfl] at hme
  have hst : r.step6 = ⟨pv (pv r.v r.m ||| pv (rgV r.a r.b) (rgM r.a r.b)) (r.m &&& rgM r.a r.b), r.m &&& rgM r.a r.b, r.a, r.b, r.c, r.d⟩ := by rw [K.step6, K.met]
  simp only [hst]
  clear hst hk
  obtain ⟨A, hA⟩ : ∃ A, pv (pv r.v r.m ||| pv (rgV r.a r.b) (rgM r.a r.b)) (r.m &&& rgM r.a r.b) = A := ⟨_, rfl⟩
  obtain ⟨B, hB'⟩ : ∃ B, r.m &&& rgM r.a r.b = B := ⟨_, rfl⟩
  simp only [hB'] at hA hme ⊢
  simp only [hA] at hme ⊢
  clear hA hB'
  obtain ⟨X, hX⟩ : ∃ X, rgV r.a r.b = X := ⟨_, rfl⟩
  obtain ⟨Y, hY⟩ : ∃ Y, rgM r.a r.b = Y := ⟨_, rfl⟩
  rw [hX, hY] at hra hme
  clear hX hY
  unfold tnV at hra hme
  unfold K.crossed at hc
  rw [Bool.or_eq_false_iff, decide_eq_false_iff_not, decide_eq_false_iff_not] at hc
  obtain ⟨h1, h2⟩ := hc
  have HB := Lib.hid hB
  obtain ⟨n0, n1, n2, n3, n4, n5⟩ := num_cells hB.1
  obtain ⟨f0, f1, f2, f3, f4, f5⟩ := num_free hB.1
  clear hB
  unfold numV
  obtain ⟨code, hcode⟩ : ∃ c, tl 12 (Try.f48.body.getD .skip) = c := ⟨_, rfl⟩
  rw [hcode]
  dsimp only [tl, Try.f48, Option.getD] at hcode
  subst hcode
  go_upto_region 28 with fail
  go_cut [9, 10] (fun x y wx => ∃ g, x = .pointer (some ⟨g, 0, none⟩) ∧ y = .bool true ∧ w.heap.size + 1 < g ∧ wx.heap[g]? = some (.cells #[.int .u64 (u A), .int .u64 (u B)] 24) ∧ RB w r wx)
  case first =>
    have hS0 := s4_of (rbx_keep HB.out ((Below.refl W.heap.size W).drew))
    clear f0 f1 f2 f3 f4 f5 h1 h2 n0 n1 n2 n3 n4 n5
    go_region_held3 (fun W => W.cell? ⟨w.heap.size, 0, none⟩ = some (.int .u64 (u r.v)) ∧ W.cell? ⟨w.heap.size, 1, none⟩ = some (.int .u64 (u r.m)) ∧ W.cell? ⟨w.heap.size, 2, none⟩ = some (.int .u64 (u r.a)) ∧ W.cell? ⟨w.heap.size, 3, none⟩ = some (.int .u64 (u r.b)) ∧ RB w r W)
      (first | exact hS0 | exact hS8 | exact hS7 | exact s4_keep hS8 (below_box _ _) | exact s4_keep hS7 (below_box _ _) | exact s4_keep hS0 (below_box _ _) | exact s4_of (rb_far (s4_rb hS8) HG.out _ _) | assumption)
      (first
        | (go_at_call 60; refine (hra _).mono ?_; rintro e w7 ⟨rfl, hb7⟩; have hS7 := s4_keep (w := w) (r := r) (by assumption) hb7; first
            | (have HG := Lib.hid (num_lt HB.out.2.1); have HT := Lib.hid (box_keep (MapKept.heap_alloc W _).1 ((Below.refl _ _).drew.trans hb7)); clear hb7; obtain ⟨t0, t1, e0, e1, hz2⟩ := blk_facts HT.out)
            | (have HG := Lib.hid (num_lt (w0x hS0)); have HT := Lib.hid (box_keep (MapKept.heap_alloc _ _).1 hb7); clear hb7; obtain ⟨t0, t1, e0, e1, hz2⟩ := blk_facts HT.out)
            | (clear hb7))
        | (go_at_call 32; refine (hme _).mono ?_; rintro e w8 ⟨rfl, hb7⟩; have hS8 := s4_keep (w := w) (r := r) (by assumption) hb7; first
            | (replace HT := Lib.hid (box_keep HT.out hb7); clear t0 t1 e0 e1 hz2; clear hb7; obtain ⟨t0, t1, e0, e1, hz2⟩ := blk_facts HT.out)
            | (have HG := Lib.hid (num_lt (w0x hS7)); have HT := Lib.hid (box_keep (MapKept.heap_alloc _ _).1 hb7); clear hb7; obtain ⟨t0, t1, e0, e1, hz2⟩ := blk_facts HT.out)
            | (clear hb7)))
    all_goals
      go_wp2_with fail
      go_meet
      first
        | exact ⟨_, rfl, rfl, num_lt (w0x hS8), (MapKept.heap_alloc _ _).1, rbx_keep (s4_rb hS8) (below_box _ _)⟩
        | exact ⟨_, rfl, rfl, HG.out, tset HT.out, rb_far (s4_rb hS8) HG.out _ _⟩
  case rest =>
    obtain ⟨g, rfl, rfl, hg, hT, hR⟩ := hcut
    obtain ⟨t0, t1, e0, e1, hz2⟩ := blk_facts hT
    have HR := Lib.hid hR
    clear n0 n1 n2 n3 n4 n5 f0 f1 f2 f3 f4 f5 h1 h2 HB hR
    obtain ⟨n0, n1, n2, n3, n4, n5⟩ := num_cells HR.out.1
    obtain ⟨f0, f1, f2, f3, f4, f5⟩ := num_free HR.out.1
    obtain ⟨z0, z1, z2, z3, z4, z5⟩ := num_cells HR.out.2.1
    obtain ⟨g0, g1, g2, g3, g4, g5⟩ := num_free HR.out.2.1
    go_wp2
    refine bodyPost_ret (v := .tuple #[numV ⟨A, B, r.a, r.b, r.c, r.d⟩, .bool true]) (by unfold numV; simp [results, Try.results48, go_sem, z0, z1, z2, z3, z4, z5]) rfl ⟨rfl, ?_⟩
    exact below_sixn (by omega) ((HR.out.2.2.setCell (Nat.le_refl _) _).setCell (Nat.le_refl _) _) _ _ _ _ _ _
end Go.Proofs.Ytbljijbmjccalaa

/-
  Proved here: what the document's round returns, from the test on whether it is empty on, in every case. Conditions: the boxes hold what is known.
-/
namespace Go.Proofs.Ytbljijbmjccalaa
open Go.RowKit
attribute [local go_sem] u_and u_or u_xor u_andNot u_add u_sub s_conv u_conv u_addH u_subH

set_option maxRecDepth 100000 in
set_option maxHeartbeats 16000000 in
theorem end_no (r : K) (w W : World) (hc : r.crossed = false) (hk : r.ok2 = false) (hB : RB w r W) (u0 u3 u4 u5 u6 u7 u8 u9 u10 u11 u12 u13 u14 u15 u16 u17 u18 u19 u20 u21 u22 u23 u24 u25 u26 u27 u28 u29 u30 u31 u32 u33 u34 u35 u36 u37 u38 u39 u40 u41 u42 u43 u44 u45 u46 u47 u48 u49 u50 u51 u52 u53 u54 u55 u56 u57 u58 u59 u60 u61 u62 u63 u64 u65 u66 u67 u68 u69 u70 u71 u72 u73 u74 u75 u76 u77 u78 u79 u80 u81 u82 u83 u84 u85 u86 u87 u88 u89 u90 u91 u92 u93 u94 u95 u96 u97 u98 u99 u100 u101 u102 u103 u104 u105 u106 u107 u108 u109 u110 u111 u112 u113 u114 u115 u116 u117 u118 u119 u120 u121 u122 u123 u124 u125 u126 u127 u128 u129 u130 u131 u132 u133 u134 u135 u136 u137 u138 u139 u140 u141 u142 u143 u144 u145 u146 u147 u148 u149 u150 u151 u152 u153 u154 u155 u156 u157 u158 u159 u160 u161 u162 u163 : Value) :
    (tl 12 (Try.f48.body.getD .skip)).wp Try.prog (bodyPost Try.prog Try.f48 fun e w' => e = .returned (.tuple #[numV allK, .bool false]) ∧ Below w.heap.size w w') ⟨#[u0, .pointer (some ⟨w.heap.size, 0, none⟩), .pointer (some ⟨w.heap.size + 1, 0, none⟩), u3, u4, u5, u6, u7, u8, u9, u10, u11, u12, u13, u14, u15, u16, u17, u18, u19, u20, u21, u22, u23, u24, u25, u26, u27, u28, u29, u30, u31, u32, u33, u34, u35, u36, u37, u38, u39, u40, u41, u42, u43, u44, u45, u46, u47, u48, u49, u50, u51, u52, u53, u54, u55, u56, u57, u58, u59, u60, u61, u62, u63, u64, u65, u66, u67, u68, u69, u70, u71, u72, u73, u74, u75, u76, u77, u78, u79, u80, u81, u82, u83, u84, u85, u86, u87, u88, u89, u90, u91, u92, u93, u94, u95, u96, u97, u98, u99, u100, u101, u102, u103, u104, u105, u106, u107, u108, u109, u110, u111, u112, u113, u114, u115, u116, u117, u118, u119, u120, u121, u122, u123, u124, u125, u126, u127, u128, u129, u130, u131, u132, u133, u134, u135, u136, u137, u138, u139, u140, u141, u142, u143, u144, u145, u146, u147, u148, u149, u150, u151, u152, u153, u154, u155, u156, u157, u158, u159, u160, u161, u162, u163], []⟩ W := by
  have hra := fun W => refrange_any r.a r.b W
  have hme := fun W => meet_ref r.v r.m (rgV r.a r.b) (rgM r.a r.b) W
  unfold mtV at hme
  rw [show mtOk r.v r.m (rgV r.a r.b) (rgM r.a r.b) = false from hk, if_neg Bool.false_ne_true] at hme
  clear hk
  obtain ⟨A, hA⟩ : ∃ A, (0#64 : B64) = A := ⟨_, rfl⟩
  obtain ⟨B, hB'⟩ : ∃ B, (~~~A : B64) = B := ⟨_, rfl⟩
  rw [hA, hB'] at hme
  clear hA hB'
  have hall := fun W => refall_num W
  obtain ⟨q, hq⟩ : ∃ q, allK = q := ⟨_, rfl⟩
  rw [hq] at hall
  simp only [hq]
  clear hq
  unfold numV at hall
  obtain ⟨X, hX⟩ : ∃ X, rgV r.a r.b = X := ⟨_, rfl⟩
  obtain ⟨Y, hY⟩ : ∃ Y, rgM r.a r.b = Y := ⟨_, rfl⟩
  rw [hX, hY] at hra hme
  clear hX hY
  unfold tnV at hra hme
  unfold K.crossed at hc
  rw [Bool.or_eq_false_iff, decide_eq_false_iff_not, decide_eq_false_iff_not] at hc
  obtain ⟨h1, h2⟩ := hc
  have HB := Lib.hid hB
  obtain ⟨n0, n1, n2, n3, n4, n5⟩ := num_cells hB.1
  obtain ⟨f0, f1, f2, f3, f4, f5⟩ := num_free hB.1
  clear hB
  unfold numV
  obtain ⟨code, hcode⟩ : ∃ c, tl 12 (Try.f48.body.getD .skip) = c := ⟨_, rfl⟩
  rw [hcode]
  dsimp only [tl, Try.f48, Option.getD] at hcode
  subst hcode
  go_upto_region 28 with fail
  go_cut [9, 10] (fun x y wx => ∃ g, x = .pointer (some ⟨g, 0, none⟩) ∧ y = .bool false ∧ w.heap.size + 1 < g ∧ wx.heap[g]? = some (.cells #[.int .u64 (u A), .int .u64 (u B)] 24) ∧ RB w r wx)
  case first =>
    have hS0 := s4_of (rbx_keep HB.out ((Below.refl W.heap.size W).drew))
    clear f0 f1 f2 f3 f4 f5 h1 h2 n0 n1 n2 n3 n4 n5
    go_region_held3 (fun W => W.cell? ⟨w.heap.size, 0, none⟩ = some (.int .u64 (u r.v)) ∧ W.cell? ⟨w.heap.size, 1, none⟩ = some (.int .u64 (u r.m)) ∧ W.cell? ⟨w.heap.size, 2, none⟩ = some (.int .u64 (u r.a)) ∧ W.cell? ⟨w.heap.size, 3, none⟩ = some (.int .u64 (u r.b)) ∧ RB w r W)
      (first | exact hS0 | exact hS8 | exact hS7 | exact s4_keep hS8 (below_box _ _) | exact s4_keep hS7 (below_box _ _) | exact s4_keep hS0 (below_box _ _) | exact s4_of (rb_far (s4_rb hS8) HG.out _ _) | assumption)
      (first
        | (go_at_call 60; refine (hra _).mono ?_; rintro e w7 ⟨rfl, hb7⟩; have hS7 := s4_keep (w := w) (r := r) (by assumption) hb7; first
            | (have HG := Lib.hid (num_lt HB.out.2.1); have HT := Lib.hid (box_keep (MapKept.heap_alloc W _).1 ((Below.refl _ _).drew.trans hb7)); clear hb7; obtain ⟨t0, t1, e0, e1, hz2⟩ := blk_facts HT.out)
            | (have HG := Lib.hid (num_lt (w0x hS0)); have HT := Lib.hid (box_keep (MapKept.heap_alloc _ _).1 hb7); clear hb7; obtain ⟨t0, t1, e0, e1, hz2⟩ := blk_facts HT.out)
            | (clear hb7))
        | (go_at_call 32; refine (hme _).mono ?_; rintro e w8 ⟨rfl, hb7⟩; have hS8 := s4_keep (w := w) (r := r) (by assumption) hb7; first
            | (replace HT := Lib.hid (box_keep HT.out hb7); clear t0 t1 e0 e1 hz2; clear hb7; obtain ⟨t0, t1, e0, e1, hz2⟩ := blk_facts HT.out)
            | (have HG := Lib.hid (num_lt (w0x hS7)); have HT := Lib.hid (box_keep (MapKept.heap_alloc _ _).1 hb7); clear hb7; obtain ⟨t0, t1, e0, e1, hz2⟩ := blk_facts HT.out)
            | (clear hb7)))
    all_goals
      go_wp2_with fail
      go_meet
      first
        | exact ⟨_, rfl, rfl, num_lt (w0x hS8), (MapKept.heap_alloc _ _).1, rbx_keep (s4_rb hS8) (below_box _ _)⟩
        | exact ⟨_, rfl, rfl, HG.out, tset HT.out, rb_far (s4_rb hS8) HG.out _ _⟩
  case rest =>
    obtain ⟨g, rfl, rfl, hg, hT, hR⟩ := hcut
    obtain ⟨t0, t1, e0, e1, hz2⟩ := blk_facts hT
    have HR := Lib.hid hR
    clear n0 n1 n2 n3 n4 n5 f0 f1 f2 f3 f4 f5 h1 h2 HB hR
    obtain ⟨n0, n1, n2, n3, n4, n5⟩ := num_cells HR.out.1
    obtain ⟨f0, f1, f2, f3, f4, f5⟩ := num_free HR.out.1
    obtain ⟨z0, z1, z2, z3, z4, z5⟩ := num_cells HR.out.2.1
    obtain ⟨g0, g1, g2, g3, g4, g5⟩ := num_free HR.out.2.1
    clear z0 z1 z2 z3 z4 z5 g0 g1 g2 g3 g4 g5 t0 t1 e0 e1 hz2 hT
    go_wp2_with (go_at_call 10; refine (hall _).mono ?_; rintro e w1 ⟨rfl, hb⟩; have H1 := Lib.hid (rbx_keep HR.out hb); obtain ⟨z0, z1, z2, z3, z4, z5⟩ := num_cells H1.out.2.1; obtain ⟨g0, g1, g2, g3, g4, g5⟩ := num_free H1.out.2.1; clear hb)
    refine bodyPost_ret (v := .tuple #[numV q, .bool false]) (by unfold numV; simp [results, Try.results48, go_sem, z0, z1, z2, z3, z4, z5]) rfl ⟨rfl, ?_⟩
    exact below_sixn (by omega) H1.out.2.2 _ _ _ _ _ _
theorem round_end (k r : K) (w W : World) (hr : k.bound = r) (hB : RB w r W) (u0 u3 u4 u5 u6 u7 u8 u9 u10 u11 u12 u13 u14 u15 u16 u17 u18 u19 u20 u21 u22 u23 u24 u25 u26 u27 u28 u29 u30 u31 u32 u33 u34 u35 u36 u37 u38 u39 u40 u41 u42 u43 u44 u45 u46 u47 u48 u49 u50 u51 u52 u53 u54 u55 u56 u57 u58 u59 u60 u61 u62 u63 u64 u65 u66 u67 u68 u69 u70 u71 u72 u73 u74 u75 u76 u77 u78 u79 u80 u81 u82 u83 u84 u85 u86 u87 u88 u89 u90 u91 u92 u93 u94 u95 u96 u97 u98 u99 u100 u101 u102 u103 u104 u105 u106 u107 u108 u109 u110 u111 u112 u113 u114 u115 u116 u117 u118 u119 u120 u121 u122 u123 u124 u125 u126 u127 u128 u129 u130 u131 u132 u133 u134 u135 u136 u137 u138 u139 u140 u141 u142 u143 u144 u145 u146 u147 u148 u149 u150 u151 u152 u153 u154 u155 u156 u157 u158 u159 u160 u161 u162 u163 : Value) :
    (tl 12 (Try.f48.body.getD .skip)).wp Try.prog (bodyPost Try.prog Try.f48 fun e w' => e = .returned (.tuple #[numV (if k.okR = true then k.nextR else allK), .bool k.okR]) ∧ Below w.heap.size w w') ⟨#[u0, .pointer (some ⟨w.heap.size, 0, none⟩), .pointer (some ⟨w.heap.size + 1, 0, none⟩), u3, u4, u5, u6, u7, u8, u9, u10, u11, u12, u13, u14, u15, u16, u17, u18, u19, u20, u21, u22, u23, u24, u25, u26, u27, u28, u29, u30, u31, u32, u33, u34, u35, u36, u37, u38, u39, u40, u41, u42, u43, u44, u45, u46, u47, u48, u49, u50, u51, u52, u53, u54, u55, u56, u57, u58, u59, u60, u61, u62, u63, u64, u65, u66, u67, u68, u69, u70, u71, u72, u73, u74, u75, u76, u77, u78, u79, u80, u81, u82, u83, u84, u85, u86, u87, u88, u89, u90, u91, u92, u93, u94, u95, u96, u97, u98, u99, u100, u101, u102, u103, u104, u105, u106, u107, u108, u109, u110, u111, u112, u113, u114, u115, u116, u117, u118, u119, u120, u121, u122, u123, u124, u125, u126, u127, u128, u129, u130, u131, u132, u133, u134, u135, u136, u137, u138, u139, u140, u141, u142, u143, u144, u145, u146, u147, u148, u149, u150, u151, u152, u153, u154, u155, u156, u157, u158, u159, u160, u161, u162, u163], []⟩ W := by
  cases hc : r.crossed
  · cases hk : r.ok2
    · have ho : k.okR = false := by unfold K.okR; rw [hr, hk, Bool.and_false]
      rw [ho, if_neg Bool.false_ne_true]
      exact end_no r w W hc hk hB _ _ _ _ _ _ _ _ _ _ _ _ _ _ _ _ _ _ _ _ _ _ _ _ _ _ _ _ _ _ _ _ _ _ _ _ _ _ _ _ _ _ _ _ _ _ _ _ _ _ _ _ _ _ _ _ _ _ _ _ _ _ _ _ _ _ _ _ _ _ _ _ _ _ _ _ _ _ _ _ _ _ _ _ _ _ _ _ _ _ _ _ _ _ _ _ _ _ _ _ _ _ _ _ _ _ _ _ _ _ _ _ _ _ _ _ _ _ _ _ _ _ _ _ _ _ _ _ _ _ _ _ _ _ _ _ _ _ _ _ _ _ _ _ _ _ _ _ _ _ _ _ _ _ _ _ _ _ _ _ _ _
    · have ho : k.okR = true := by unfold K.okR; rw [hr, hk, hc]; rfl
      rw [ho, if_pos rfl, show k.nextR = r.step6 by unfold K.nextR; rw [hr]]
      exact end_ok r w W hc hk hB _ _ _ _ _ _ _ _ _ _ _ _ _ _ _ _ _ _ _ _ _ _ _ _ _ _ _ _ _ _ _ _ _ _ _ _ _ _ _ _ _ _ _ _ _ _ _ _ _ _ _ _ _ _ _ _ _ _ _ _ _ _ _ _ _ _ _ _ _ _ _ _ _ _ _ _ _ _ _ _ _ _ _ _ _ _ _ _ _ _ _ _ _ _ _ _ _ _ _ _ _ _ _ _ _ _ _ _ _ _ _ _ _ _ _ _ _ _ _ _ _ _ _ _ _ _ _ _ _ _ _ _ _ _ _ _ _ _ _ _ _ _ _ _ _ _ _ _ _ _ _ _ _ _ _ _ _ _ _ _ _ _
  · have ho : k.okR = false := by unfold K.okR; rw [hr, hc]; rfl
    rw [ho, if_neg Bool.false_ne_true]
    exact end_crossed r w W hc hB _ _ _ _ _ _ _ _ _ _ _ _ _ _ _ _ _ _ _ _ _ _ _ _ _ _ _ _ _ _ _ _ _ _ _ _ _ _ _ _ _ _ _ _ _ _ _ _ _ _ _ _ _ _ _ _ _ _ _ _ _ _ _ _ _ _ _ _ _ _ _ _ _ _ _ _ _ _ _ _ _ _ _ _ _ _ _ _ _ _ _ _ _ _ _ _ _ _ _ _ _ _ _ _ _ _ _ _ _ _ _ _ _ _ _ _ _ _ _ _ _ _ _ _ _ _ _ _ _ _ _ _ _ _ _ _ _ _ _ _ _ _ _ _ _ _ _ _ _ _ _ _ _ _ _ _ _ _ _ _ _ _
end Go.Proofs.Ytbljijbmjccalaa

/-
  Proved here: what the document's round returns, from the bounds of the same highest bit on. Conditions: the boxes hold what is known.
-/
namespace Go.Proofs.Ytbljijbmjccalaa
open Go.RowKit
attribute [local go_sem] u_and u_or u_xor u_andNot u_add u_sub s_conv u_conv u_addH u_subH

theorem side_div (k : K) : (IntKind.u64.wrap ((u k.a).tdiv 9223372036854775808) == IntKind.u64.wrap ((u k.b).tdiv 9223372036854775808)) = k.sideU := by
  have b1 := u_bd k.a
  have b2 := u_bd k.b
  rw [wrap_u, wrap_u, Int.tdiv_eq_ediv_of_nonneg b1.1, Int.tdiv_eq_ediv_of_nonneg b2.1]
  unfold K.sideU
  have h1 := s_neg k.a
  have h2 := s_neg k.b
  rw [Bool.eq_iff_iff, beq_iff_eq, beq_iff_eq, decide_eq_decide, h1, h2]
  omega
theorem each1_pos {k : K} (h : k.sideU = true) : k.each1 = ⟨k.v, k.m, k.a, k.b, maxS k.c k.a, minS k.d k.b⟩ := by rw [K.each1, if_pos h, K.inS]
theorem each1_neg {k : K} (h : k.sideU = false) : k.each1 = k := by rw [K.each1, if_neg (by rw [h]; exact Bool.false_ne_true)]
theorem each2_pos {k : K} (h : k.sideS = true) : k.each2 = ⟨k.v, k.m, maxU k.a k.c, minU k.b k.d, k.c, k.d⟩ := by rw [K.each2, if_pos h, K.inU]
theorem each2_neg {k : K} (h : k.sideS = false) : k.each2 = k := by rw [K.each2, if_neg (by rw [h]; exact Bool.false_ne_true)]
set_option maxRecDepth 100000 in
set_option maxHeartbeats 16000000 in
theorem round_mid (k : K) (w W : World) (hB : RB w k.byBits W) (u0 u3 u4 u5 u7 u8 u9 u10 u11 u12 u13 u14 u15 u16 u17 u18 u19 u20 u21 u22 u23 u24 u25 u26 u27 u28 u29 u30 u31 u32 u33 u34 u35 u36 u37 u38 u39 u40 u41 u42 u43 u44 u45 u46 u47 u48 u49 u50 u51 u52 u53 u54 u55 u56 u57 u58 u59 u60 u61 u62 u63 u64 u65 u66 u67 u68 u69 u70 u71 u72 u73 u74 u75 u76 u77 u78 u79 u80 u81 u82 u83 u84 u85 u86 u87 u88 u89 u90 u91 u92 u93 u94 u95 u96 u97 u98 u99 u100 u101 u102 u103 u104 u105 u106 u107 u108 u109 u110 u111 u112 u113 u114 u115 u116 u117 u118 u119 u120 u121 u122 u123 u124 u125 u126 u127 u128 u129 u130 u131 u132 u133 u134 u135 u136 u137 u138 u139 u140 u141 u142 u143 u144 u145 u146 u147 u148 u149 u150 u151 u152 u153 u154 u155 u156 u157 u158 u159 u160 u161 u162 u163 : Value) :
    (tl 10 (Try.f48.body.getD .skip)).wp Try.prog (bodyPost Try.prog Try.f48 fun e w' => e = .returned (.tuple #[numV (if k.okR = true then k.nextR else allK), .bool k.okR]) ∧ Below w.heap.size w w') ⟨#[u0, .pointer (some ⟨w.heap.size, 0, none⟩), .pointer (some ⟨w.heap.size + 1, 0, none⟩), u3, u4, u5, .int .u64 9223372036854775808, u7, u8, u9, u10, u11, u12, u13, u14, u15, u16, u17, u18, u19, u20, u21, u22, u23, u24, u25, u26, u27, u28, u29, u30, u31, u32, u33, u34, u35, u36, u37, u38, u39, u40, u41, u42, u43, u44, u45, u46, u47, u48, u49, u50, u51, u52, u53, u54, u55, u56, u57, u58, u59, u60, u61, u62, u63, u64, u65, u66, u67, u68, u69, u70, u71, u72, u73, u74, u75, u76, u77, u78, u79, u80, u81, u82, u83, u84, u85, u86, u87, u88, u89, u90, u91, u92, u93, u94, u95, u96, u97, u98, u99, u100, u101, u102, u103, u104, u105, u106, u107, u108, u109, u110, u111, u112, u113, u114, u115, u116, u117, u118, u119, u120, u121, u122, u123, u124, u125, u126, u127, u128, u129, u130, u131, u132, u133, u134, u135, u136, u137, u138, u139, u140, u141, u142, u143, u144, u145, u146, u147, u148, u149, u150, u151, u152, u153, u154, u155, u156, u157, u158, u159, u160, u161, u162, u163], []⟩ W := by
  have HB6 := Lib.hid hB
  clear hB
  obtain ⟨code, hcode⟩ : ∃ c, tl 10 (Try.f48.body.getD .skip) = c := ⟨_, rfl⟩
  rw [hcode]
  dsimp only [tl, Try.f48, Option.getD] at hcode
  subst hcode
  obtain ⟨q, hq⟩ : ∃ q, k.byBits = q := ⟨_, rfl⟩
  rw [hq] at HB6
  have HQ := Lib.hid hq
  clear hq
  obtain ⟨n0, n1, n2, n3, n4, n5⟩ := num_cells HB6.out.1
  obtain ⟨f0, f1, f2, f3, f4, f5⟩ := num_free HB6.out.1
  go_wp2_with fail
  go_quiet (fail)
  have HB7 := Lib.hid (rb_drews HB6.out nq)
  obtain ⟨W7, hW7⟩ : ∃ W7, W.drewN nq = W7 := ⟨_, rfl⟩
  rw [hW7] at HB7 ⊢
  clear hW7 n0 n1 n2 n3 n4 n5 f0 f1 f2 f3 f4 f5 HB6
  obtain ⟨n0, n1, n2, n3, n4, n5⟩ := num_cells HB7.out.1
  obtain ⟨f0, f1, f2, f3, f4, f5⟩ := num_free HB7.out.1
  go_upto_if 75 with fail
  go_cut [] (fun wx => RB w q.each1 wx)
  case first =>
    go_wp2_with fail
    all_goals
      go_meet
      first
        | (rw [each1_pos ((side_div q).symm.trans (by assumption))]
           first
             | (rw [maxs_yes (x := q.c) (y := q.a) (by assumption), mins_yes (x := q.d) (y := q.b) (by assumption)]; exact rb_d (rb_c HB7.out _) _)
             | (rw [maxs_yes (x := q.c) (y := q.a) (by assumption), mins_no (x := q.d) (y := q.b) (by assumption)]; exact rb_c HB7.out _)
             | (rw [maxs_no (x := q.c) (y := q.a) (by assumption), mins_yes (x := q.d) (y := q.b) (by assumption)]; exact rb_d HB7.out _)
             | (rw [maxs_no (x := q.c) (y := q.a) (by assumption), mins_no (x := q.d) (y := q.b) (by assumption)]; exact HB7.out))
        | (rw [each1_neg ((side_div q).symm.trans (by assumption))]; exact HB7.out)
  case rest =>
    have HB8 := Lib.hid hcut
    clear n0 n1 n2 n3 n4 n5 f0 f1 f2 f3 f4 f5 hcut HB7 W7
    obtain ⟨q1, hq1⟩ : ∃ q1, q.each1 = q1 := ⟨_, rfl⟩
    rw [hq1] at HB8
    have HQ1 := Lib.hid hq1
    clear hq1
    obtain ⟨n0, n1, n2, n3, n4, n5⟩ := num_cells HB8.out.1
    obtain ⟨f0, f1, f2, f3, f4, f5⟩ := num_free HB8.out.1
    go_upto_region 21 with fail
    go_cut [113] (fun c wx => c = .bool q1.sideS ∧ RB w q1 wx)
    case first =>
      by_cases h1 : s q1.c < 0
      · by_cases h2 : s q1.d < 0
        · have HS := Lib.hid (show q1.sideS = true by unfold K.sideS; simp [h1, h2])
          go_wp2_with fail
          go_meet
          exact ⟨by first | (rw [HS.out]; done) | (rw [HS.out]; refine congrArg Value.bool ?_; first | (rw [decide_eq_false_iff_not]; omega) | (rw [decide_eq_true_eq]; omega)), HB8.out⟩
        · have HS := Lib.hid (show q1.sideS = false by unfold K.sideS; simp [h1, h2])
          go_wp2_with fail
          go_meet
          exact ⟨by first | (rw [HS.out]; done) | (rw [HS.out]; refine congrArg Value.bool ?_; first | (rw [decide_eq_false_iff_not]; omega) | (rw [decide_eq_true_eq]; omega)), HB8.out⟩
      · by_cases h2 : s q1.d < 0
        · have HS := Lib.hid (show q1.sideS = false by unfold K.sideS; simp [h1, h2])
          go_wp2_with fail
          go_meet
          exact ⟨by first | (rw [HS.out]; done) | (rw [HS.out]; refine congrArg Value.bool ?_; first | (rw [decide_eq_false_iff_not]; omega) | (rw [decide_eq_true_eq]; omega)), HB8.out⟩
        · have HS := Lib.hid (show q1.sideS = true by unfold K.sideS; simp [h1, h2])
          go_wp2_with fail
          go_meet
          exact ⟨by first | (rw [HS.out]; done) | (rw [HS.out]; refine congrArg Value.bool ?_; first | (rw [decide_eq_false_iff_not]; omega) | (rw [decide_eq_true_eq]; omega)), HB8.out⟩
    case rest =>
      obtain ⟨rfl, hrb⟩ := hcut
      have HB9 := Lib.hid hrb
      clear n0 n1 n2 n3 n4 n5 f0 f1 f2 f3 f4 f5 hrb HB8
      obtain ⟨n0, n1, n2, n3, n4, n5⟩ := num_cells HB9.out.1
      obtain ⟨f0, f1, f2, f3, f4, f5⟩ := num_free HB9.out.1
      obtain ⟨t, ht⟩ : ∃ t, q1.sideS = t := ⟨_, rfl⟩
      rw [ht]
      have HT := Lib.hid ht
      clear ht
      go_upto_if 113 with fail
      go_cut [] (fun wx => RB w q1.each2 wx)
      case first =>
        go_wp2_with fail
        all_goals
          go_meet
          first
            | (rw [each2_pos (HT.out.trans (by assumption))]
               first
                 | (rw [max_yes (x := q1.a) (y := q1.c) (by assumption), min_yes (x := q1.b) (y := q1.d) (by assumption)]; exact rb_b (rb_a HB9.out _) _)
                 | (rw [max_yes (x := q1.a) (y := q1.c) (by assumption), min_no (x := q1.b) (y := q1.d) (by assumption)]; exact rb_a HB9.out _)
                 | (rw [max_no (x := q1.a) (y := q1.c) (by assumption), min_yes (x := q1.b) (y := q1.d) (by assumption)]; exact rb_b HB9.out _)
                 | (rw [max_no (x := q1.a) (y := q1.c) (by assumption), min_no (x := q1.b) (y := q1.d) (by assumption)]; exact HB9.out))
            | (rw [each2_neg (HT.out.trans (by assumption))]; exact HB9.out)
      case rest =>
        have HBA := Lib.hid hcut
        clear n0 n1 n2 n3 n4 n5 f0 f1 f2 f3 f4 f5 hcut HB9 HT t
        apply_assumption
        refine wp_code (c' := tl 12 (Try.f48.body.getD .skip)) (by kernel_rfl) ?_
        exact round_end k q1.each2 w wc (by rw [K.bound, HQ.out, HQ1.out]) HBA.out _ _ _ _ _ _ _ _ _ _ _ _ _ _ _ _ _ _ _ _ _ _ _ _ _ _ _ _ _ _ _ _ _ _ _ _ _ _ _ _ _ _ _ _ _ _ _ _ _ _ _ _ _ _ _ _ _ _ _ _ _ _ _ _ _ _ _ _ _ _ _ _ _ _ _ _ _ _ _ _ _ _ _ _ _ _ _ _ _ _ _ _ _ _ _ _ _ _ _ _ _ _ _ _ _ _ _ _ _ _ _ _ _ _ _ _ _ _ _ _ _ _ _ _ _ _ _ _ _ _ _ _ _ _ _ _ _ _ _ _ _ _ _ _ _ _ _ _ _ _ _ _ _ _ _ _ _ _ _ _ _ _
end Go.Proofs.Ytbljijbmjccalaa

/-
  Proved here: what the document's round returns. Conditions: none.
-/
namespace Go.Proofs.Ytbljijbmjccalaa
open Go.RowKit
attribute [local go_sem] u_and u_or u_xor u_andNot u_add u_sub s_conv u_conv u_addH u_subH

theorem byBits_eq (k : K) : (⟨k.v, k.m, maxU k.a (pv k.v k.m), minU k.b (k.v ||| k.m), maxS k.c k.lowS, minS k.d k.highS⟩ : K) = k.byBits := by
  unfold K.byBits K.inS K.inU
  rfl
set_option maxRecDepth 100000 in
set_option maxHeartbeats 16000000 in
theorem refround_num (k : K) (w : World) : Calls Try.prog 48 #[numV k] w (Gives (.tuple #[numV (if k.okR = true then k.nextR else allK), .bool k.okR]) w) := by
  have HB0 := Lib.hid (rb_new k w)
  have hls := lsR_eq k
  have hms := msR_eq k
  have hbb := byBits_eq k
  obtain ⟨W, hW⟩ : ∃ W, k.v ||| k.m = W := ⟨_, rfl⟩
  have hp := pv_plus k.v k.m
  rw [hW] at hp hls hms hbb
  unfold pv at hls hms hbb
  obtain ⟨V, hV⟩ : ∃ V, k.v &&& ~~~k.m = V := ⟨_, rfl⟩
  rw [hV] at hp hls hms hbb
  obtain ⟨LS, hLS⟩ : ∃ LS, k.lowS = LS := ⟨_, rfl⟩
  obtain ⟨HS, hHS⟩ : ∃ HS, k.highS = HS := ⟨_, rfl⟩
  rw [hLS] at hls hbb
  rw [hHS] at hms hbb
  have HLS := Lib.hid hls
  have HMS := Lib.hid hms
  have HBB := Lib.hid hbb
  clear hls hms hLS hHS hW hbb
  unfold Gives numV
  obtain ⟨n0, n1, n2, n3, n4, n5⟩ := num_cells HB0.out.1
  obtain ⟨f0, f1, f2, f3, f4, f5⟩ := num_free HB0.out.1
  obtain ⟨W0, hW0⟩ : ∃ W0, ((w.alloc (.cells #[.int .u64 (u k.v), .int .u64 (u k.m), .int .u64 (u k.a), .int .u64 (u k.b), .int .i64 (s k.c), .int .i64 (s k.d)] 26)).alloc
    (.cells #[.int .u64 0, .int .u64 0, .int .u64 0, .int .u64 0, .int .i64 0, .int .i64 0] 26)) = W0 := ⟨_, rfl⟩
  rw [hW0] at n0 n1 n2 n3 n4 n5 f0 f1 f2 f3 f4 f5 HB0
  go_enter Try.func48, Try.ntmps48
  go_upto_if 26 with fail
  clear hW0
  go_cut [] (fun wx => RB w ⟨k.v, k.m, maxU k.a V, k.b, k.c, k.d⟩ wx)
  case first =>
    go_wp2_with fail
    all_goals
      go_meet
      first
        | (rw [max_yes (x := k.a) (y := V) (by assumption)]; exact rb_a HB0.out _)
        | (rw [max_no (x := k.a) (y := V) (by assumption)]; exact HB0.out)
  case rest =>
    have HB1 := Lib.hid hcut
    clear n0 n1 n2 n3 n4 n5 f0 f1 f2 f3 f4 f5 hcut HB0 W0
    obtain ⟨n0, n1, n2, n3, n4, n5⟩ := num_cells HB1.out.1
    obtain ⟨f0, f1, f2, f3, f4, f5⟩ := num_free HB1.out.1
    go_upto_if 32 with fail
    go_cut [] (fun wx => RB w ⟨k.v, k.m, maxU k.a V, minU k.b W, k.c, k.d⟩ wx)
    case first =>
      go_wp2_with fail
      all_goals
        go_meet
        first
          | (rw [min_yes (x := k.b) (y := W) (by assumption)]; exact rb_b HB1.out _)
          | (rw [min_no (x := k.b) (y := W) (by assumption)]; exact HB1.out)
    case rest =>
      have HB2 := Lib.hid hcut
      clear n0 n1 n2 n3 n4 n5 f0 f1 f2 f3 f4 f5 hcut HB1
      obtain ⟨n0, n1, n2, n3, n4, n5⟩ := num_cells HB2.out.1
      obtain ⟨f0, f1, f2, f3, f4, f5⟩ := num_free HB2.out.1
      go_upto_region 9 with fail
      go_cut [44] (fun c wx => c = .bool (decide (9223372036854775808 ≤ u W ∧ u V < 9223372036854775808)) ∧ RB w ⟨k.v, k.m, maxU k.a V, minU k.b W, k.c, k.d⟩ wx)
      case first =>
        go_wp2_with fail
        all_goals
          go_meet
          refine ⟨congrArg Value.bool ?_, HB2.out⟩
          symm
          first
            | (rw [decide_eq_decide]; omega)
            | (rw [decide_eq_false_iff_not]; omega)
      case rest =>
        obtain ⟨rfl, hrb⟩ := hcut
        have HB3 := Lib.hid hrb
        clear n0 n1 n2 n3 n4 n5 f0 f1 f2 f3 f4 f5 hrb HB2
        obtain ⟨n0, n1, n2, n3, n4, n5⟩ := num_cells HB3.out.1
        obtain ⟨f0, f1, f2, f3, f4, f5⟩ := num_free HB3.out.1
        obtain ⟨t, ht⟩ : ∃ t, decide (9223372036854775808 ≤ u W ∧ u V < 9223372036854775808) = t := ⟨_, rfl⟩
        rw [ht]
        have HT := Lib.hid ht
        clear ht
        go_upto_if 44 with fail
        go_cut [7, 8] (fun x y wx => x = .int .u64 (u LS) ∧ y = .int .u64 (u HS) ∧ RB w ⟨k.v, k.m, maxU k.a V, minU k.b W, k.c, k.d⟩ wx)
        case first =>
          go_wp2_with fail
          all_goals
            go_meet
            first
              | (have hp2 : 9223372036854775808 ≤ u W ∧ u V < 9223372036854775808 := of_decide_eq_true (HT.out.trans (by assumption))
                 exact ⟨by rw [← HLS.out, lsR, if_pos hp2], by rw [← HMS.out, msR, if_pos hp2], HB3.out⟩)
              | (have hp2 : ¬ (9223372036854775808 ≤ u W ∧ u V < 9223372036854775808) := of_decide_eq_false (HT.out.trans (by assumption))
                 exact ⟨by rw [← HLS.out, lsR, if_neg hp2], by rw [← HMS.out, msR, if_neg hp2], HB3.out⟩)
        case rest =>
          obtain ⟨rfl, rfl, hrb⟩ := hcut
          have HB4 := Lib.hid hrb
          clear n0 n1 n2 n3 n4 n5 f0 f1 f2 f3 f4 f5 hrb HB3 HT t HLS HMS hp hV
          obtain ⟨n0, n1, n2, n3, n4, n5⟩ := num_cells HB4.out.1
          obtain ⟨f0, f1, f2, f3, f4, f5⟩ := num_free HB4.out.1
          go_upto_if 55 with fail
          go_cut [] (fun wx => RB w ⟨k.v, k.m, maxU k.a V, minU k.b W, maxS k.c LS, k.d⟩ wx)
          case first =>
            go_wp2_with fail
            all_goals
              go_meet
              first
                | (rw [maxs_yes (x := k.c) (y := LS) (by assumption)]; exact rb_c HB4.out _)
                | (rw [maxs_no (x := k.c) (y := LS) (by assumption)]; exact HB4.out)
          case rest =>
            have HB5 := Lib.hid hcut
            clear n0 n1 n2 n3 n4 n5 f0 f1 f2 f3 f4 f5 hcut HB4
            obtain ⟨n0, n1, n2, n3, n4, n5⟩ := num_cells HB5.out.1
            obtain ⟨f0, f1, f2, f3, f4, f5⟩ := num_free HB5.out.1
            go_upto_if 63 with fail
            go_cut [] (fun wx => RB w k.byBits wx)
            case first =>
              go_wp2_with fail
              all_goals
                go_meet
                rw [← HBB.out]
                first
                  | (rw [mins_yes (x := k.d) (y := HS) (by assumption)]; exact rb_d HB5.out _)
                  | (rw [mins_no (x := k.d) (y := HS) (by assumption)]; exact HB5.out)
            case rest =>
              have HB6 := Lib.hid hcut
              clear n0 n1 n2 n3 n4 n5 f0 f1 f2 f3 f4 f5 hcut HB5 HBB
              apply_assumption
              refine wp_code (c' := tl 10 (Try.f48.body.getD .skip)) (by kernel_rfl) ?_
              have hm := round_mid k w wc HB6.out
              unfold numV at hm
              refine hm _ _ _ _ _ _ _ _ _ _ _ _ _ _ _ _ _ _ _ _ _ _ _ _ _ _ _ _ _ _ _ _ _ _ _ _ _ _ _ _ _ _ _ _ _ _ _ _ _ _ _ _ _ _ _ _ _ _ _ _ _ _ _ _ _ _ _ _ _ _ _ _ _ _ _ _ _ _ _ _ _ _ _ _ _ _ _ _ _ _ _ _ _ _ _ _ _ _ _ _ _ _ _ _ _ _ _ _ _ _ _ _ _ _ _ _ _ _ _ _ _ _ _ _ _ _ _ _ _ _ _ _ _ _ _ _ _ _ _ _ _ _ _ _ _ _ _ _ _ _ _ _ _ _ _ _ _ _ _ _ _
end Go.Proofs.Ytbljijbmjccalaa

/-
  Proved here: what Refine of the document's answers returns. Conditions: none.
-/
namespace Go.Proofs.Ytbljijbmjccalaa
open Go.RowKit
attribute [local go_sem] u_and u_or u_xor u_andNot u_add u_sub s_conv u_conv max_u min_u max_s min_s

theorem rb_keep {w0 W W' : World} {k : K} (h : RB w0 k W) (hb : Below W.heap.size W W') : RB w0 k W' :=
  ⟨num_keep h.1 hb, num_keep h.2.1 hb, h.2.2.trans (hb.mono h.2.2.size)⟩
set_option maxHeartbeats 4000000 in
theorem reffine_num (k : K) (w : World) : Calls Try.prog 35 #[numV k] w (Gives (.tuple #[numV k.fine, .bool k.okF]) w) := by
  have HZ := Lib.hid (rb_new k w)
  have hr1 := fun W => refround_num k W
  cases ho : k.okR
  · rw [ho, if_neg Bool.false_ne_true] at hr1
    rw [fine_no (okF_no1 ho), okF_no1 ho]
    clear ho
    obtain ⟨q, hq⟩ : ∃ q, allK = q := ⟨_, rfl⟩
    rw [hq] at hr1 ⊢
    clear hq
    unfold numV at hr1
    unfold Gives numV
    go_enter Try.func35, Try.ntmps35
    go_wp2_with (first
      | (go_at_call 48; refine (hr1 _).mono ?_; rintro e w1 ⟨rfl, hb⟩; have H1 := Lib.hid (rb_keep HZ.out hb); obtain ⟨z0, z1, z2, z3, z4, z5⟩ := num_cells H1.out.2.1; obtain ⟨f0, f1, f2, f3, f4, f5⟩ := num_free H1.out.2.1; have hz := num_lt H1.out.2.1; clear hb))
    obtain ⟨y0, y1, y2, y3, y4, y5⟩ := num_cells (num_keep (num_six H1.out.2.1 q) (below_box _ (.cells #[.int .u64 (u q.v), .int .u64 (u q.m), .int .u64 (u q.a), .int .u64 (u q.b), .int .i64 (s q.c), .int .i64 (s q.d)] 26)))
    refine bodyPost_ret (v := .tuple #[numV q, .bool false]) (by unfold numV; simp [results, Try.results35, go_sem, y0, y1, y2, y3, y4, y5]) rfl ⟨rfl, ?_⟩
    exact (below_sixn (by omega) H1.out.2.2 _ _ _ _ _ _).alloc (below_sixn (by omega) H1.out.2.2 _ _ _ _ _ _).size _
  · rw [ho, if_pos rfl] at hr1
    have hr2 := fun W => refround_num k.nextR W
    have hf : k.fine = if k.nextR.okR = true then k.nextR.nextR else allK := by
      unfold K.fine K.okF
      rw [ho, Bool.true_and]
    have hok : k.okF = k.nextR.okR := by unfold K.okF; rw [ho, Bool.true_and]
    rw [hf, hok]
    clear hf hok ho
    obtain ⟨p, hp⟩ : ∃ p, k.nextR = p := ⟨_, rfl⟩
    rw [hp] at hr1 hr2 ⊢
    obtain ⟨q, hq⟩ : ∃ q, (if p.okR = true then p.nextR else allK) = q := ⟨_, rfl⟩
    rw [hq] at hr2 ⊢
    obtain ⟨o, ho⟩ : ∃ o, p.okR = o := ⟨_, rfl⟩
    rw [ho] at hr2 ⊢
    clear hp hq ho
    unfold numV at hr1 hr2
    unfold Gives numV
    go_enter Try.func35, Try.ntmps35
    go_wp2_with (first
      | ((go_at_call_of 48 (Value.agg #[.int .u64 (u k.v), .int .u64 (u k.m), .int .u64 (u k.a), .int .u64 (u k.b), .int .i64 (s k.c), .int .i64 (s k.d)])); refine (hr1 _).mono ?_; rintro e w1 ⟨rfl, hb⟩; have H1 := Lib.hid (rb_keep HZ.out hb); have H2 := Lib.hid (rb_keep H1.out (below_box _ (.cells #[.int .u64 (u p.v), .int .u64 (u p.m), .int .u64 (u p.a), .int .u64 (u p.b), .int .i64 (s p.c), .int .i64 (s p.d)] 26))); clear hb hr1 HZ)
      | (go_at_call 48; refine (hr2 _).mono ?_; rintro e w2 ⟨rfl, hb⟩; have H3 := Lib.hid (rb_keep H2.out hb); obtain ⟨z0, z1, z2, z3, z4, z5⟩ := num_cells H3.out.2.1; obtain ⟨f0, f1, f2, f3, f4, f5⟩ := num_free H3.out.2.1; have hz := num_lt H3.out.2.1; clear hb))
    obtain ⟨y0, y1, y2, y3, y4, y5⟩ := num_cells (num_six H3.out.2.1 q)
    refine bodyPost_ret (v := .tuple #[numV q, .bool o]) (by unfold numV; simp [results, Try.results35, go_sem, y0, y1, y2, y3, y4, y5]) rfl ⟨rfl, ?_⟩
    exact below_sixn (by omega) H3.out.2.2 _ _ _ _ _ _
end Go.Proofs.Ytbljijbmjccalaa
