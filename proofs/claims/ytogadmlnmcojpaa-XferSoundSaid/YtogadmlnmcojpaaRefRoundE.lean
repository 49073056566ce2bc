/-
  Proved here: what the document's round returns, from the test on whether it is empty on, in every case. Conditions: the boxes hold what is known.
-/
import Derived.Test.YtogadmlnmcojpaaRefRoundC
namespace Go.Proofs.Ytogadmlnmcojpaa
open Go.RowKit
attribute [local go_sem] u_and u_or u_xor u_andNot u_add u_sub s_conv u_conv u_addH u_subH

set_option maxRecDepth 100000 in
set_option maxHeartbeats 16000000 in
theorem end_no (r : K) (w W : World) (hc : r.crossed = false) (hk : r.ok2 = false) (hB : RB w r W) (u0 u3 u4 u5 u6 u7 u8 u9 u10 u11 u12 u13 u14 u15 u16 u17 u18 u19 u20 u21 u22 u23 u24 u25 u26 u27 u28 u29 u30 u31 u32 u33 u34 u35 u36 u37 u38 u39 u40 u41 u42 u43 u44 u45 u46 u47 u48 u49 u50 u51 u52 u53 u54 u55 u56 u57 u58 u59 u60 u61 u62 u63 u64 u65 u66 u67 u68 u69 u70 u71 u72 u73 u74 u75 u76 u77 u78 u79 u80 u81 u82 u83 u84 u85 u86 u87 u88 u89 u90 u91 u92 u93 u94 u95 u96 u97 u98 u99 u100 u101 u102 u103 u104 u105 u106 u107 u108 u109 u110 u111 u112 u113 u114 u115 u116 u117 u118 u119 u120 u121 u122 u123 u124 u125 u126 u127 u128 u129 u130 u131 u132 u133 u134 u135 u136 u137 u138 u139 u140 u141 u142 u143 u144 u145 u146 u147 u148 u149 u150 u151 u152 u153 u154 u155 u156 u157 u158 u159 u160 u161 u162 u163 : Value) :
    (tl 12 (Try.f26.body.getD .skip)).wp Try.prog (bodyPost Try.prog Try.f26 fun e w' => e = .returned (.tuple #[numV allK, .bool false]) ∧ Below w.heap.size w w') ⟨#[u0, .pointer (some ⟨w.heap.size, 0, none⟩), .pointer (some ⟨w.heap.size + 1, 0, none⟩), u3, u4, u5, u6, u7, u8, u9, u10, u11, u12, u13, u14, u15, u16, u17, u18, u19, u20, u21, u22, u23, u24, u25, u26, u27, u28, u29, u30, u31, u32, u33, u34, u35, u36, u37, u38, u39, u40, u41, u42, u43, u44, u45, u46, u47, u48, u49, u50, u51, u52, u53, u54, u55, u56, u57, u58, u59, u60, u61, u62, u63, u64, u65, u66, u67, u68, u69, u70, u71, u72, u73, u74, u75, u76, u77, u78, u79, u80, u81, u82, u83, u84, u85, u86, u87, u88, u89, u90, u91, u92, u93, u94, u95, u96, u97, u98, u99, u100, u101, u102, u103, u104, u105, u106, u107, u108, u109, u110, u111, u112, u113, u114, u115, u116, u117, u118, u119, u120, u121, u122, u123, u124, u125, u126, u127, u128, u129, u130, u131, u132, u133, u134, u135, u136, u137, u138, u139, u140, u141, u142, u143, u144, u145, u146, u147, u148, u149, u150, u151, u152, u153, u154, u155, u156, u157, u158, u159, u160, u161, u162, u163], []⟩ W := by
  have hra := fun W => refrange_any r.a r.b W
  have hme := fun W => meet_ref r.v r.m (rgV r.a r.b) (rgM r.a r.b) W
  unfold mtV at hme
  rw [show mtOk r.v r.m (rgV r.a r.b) (rgM r.a r.b) = false from hk, if_neg Bool.false_ne_true] at hme
  clear hk
  obtain ⟨A, hA⟩ : ∃ A, (0#64 : B64) = A := ⟨_, rfl⟩
  obtain ⟨B, hB'⟩ : ∃ B, (~~~A : B64) = B := ⟨_, rfl⟩
  rw [hA, hB'] at hme
  clear hA hB'
  have hall := fun W => refall_num W
  obtain ⟨q, hq⟩ : ∃ q, allK = q := ⟨_, rfl⟩
  rw [hq] at hall
  simp only [hq]
  clear hq
  unfold numV at hall
  obtain ⟨X, hX⟩ : ∃ X, rgV r.a r.b = X := ⟨_, rfl⟩
  obtain ⟨Y, hY⟩ : ∃ Y, rgM r.a r.b = Y := ⟨_, rfl⟩
  rw [hX, hY] at hra hme
  clear hX hY
  unfold tnV at hra hme
  unfold K.crossed at hc
  rw [Bool.or_eq_false_iff, decide_eq_false_iff_not, decide_eq_false_iff_not] at hc
  obtain ⟨h1, h2⟩ := hc
  have HB := Lib.hid hB
  obtain ⟨n0, n1, n2, n3, n4, n5⟩ := num_cells hB.1
  obtain ⟨f0, f1, f2, f3, f4, f5⟩ := num_free hB.1
  clear hB
  unfold numV
  obtain ⟨code, hcode⟩ : ∃ c, tl 12 (Try.f26.body.getD .skip) = c := ⟨_, rfl⟩
  rw [hcode]
  dsimp only [tl, Try.f26, Option.getD] at hcode
  subst hcode
  go_upto_region 28 with fail
  go_cut [9, 10] (fun x y wx => ∃ g, x = .pointer (some ⟨g, 0, none⟩) ∧ y = .bool false ∧ w.heap.size + 1 < g ∧ wx.heap[g]? = some (.cells #[.int .u64 (u A), .int .u64 (u B)] 24) ∧ RB w r wx)
  case first =>
    have hS0 := s4_of (rbx_keep HB.out ((Below.refl W.heap.size W).drew))
    clear f0 f1 f2 f3 f4 f5 h1 h2 n0 n1 n2 n3 n4 n5
    go_region_held3 (fun W => W.cell? ⟨w.heap.size, 0, none⟩ = some (.int .u64 (u r.v)) ∧ W.cell? ⟨w.heap.size, 1, none⟩ = some (.int .u64 (u r.m)) ∧ W.cell? ⟨w.heap.size, 2, none⟩ = some (.int .u64 (u r.a)) ∧ W.cell? ⟨w.heap.size, 3, none⟩ = some (.int .u64 (u r.b)) ∧ RB w r W)
      (first | exact hS0 | exact hS8 | exact hS7 | exact s4_keep hS8 (below_box _ _) | exact s4_keep hS7 (below_box _ _) | exact s4_keep hS0 (below_box _ _) | exact s4_of (rb_far (s4_rb hS8) HG.out _ _) | assumption)
      (first
        | (go_at_call 49; refine (hra _).mono ?_; rintro e w7 ⟨rfl, hb7⟩; have hS7 := s4_keep (w := w) (r := r) (by assumption) hb7; first
            | (have HG := Lib.hid (num_lt HB.out.2.1); have HT := Lib.hid (box_keep (MapKept.heap_alloc W _).1 ((Below.refl _ _).drew.trans hb7)); clear hb7; obtain ⟨t0, t1, e0, e1, hz2⟩ := blk_facts HT.out)
            | (have HG := Lib.hid (num_lt (w0x hS0)); have HT := Lib.hid (box_keep (MapKept.heap_alloc _ _).1 hb7); clear hb7; obtain ⟨t0, t1, e0, e1, hz2⟩ := blk_facts HT.out)
            | (clear hb7))
        | (go_at_call 48; refine (hme _).mono ?_; rintro e w8 ⟨rfl, hb7⟩; have hS8 := s4_keep (w := w) (r := r) (by assumption) hb7; first
            | (replace HT := Lib.hid (box_keep HT.out hb7); clear t0 t1 e0 e1 hz2; clear hb7; obtain ⟨t0, t1, e0, e1, hz2⟩ := blk_facts HT.out)
            | (have HG := Lib.hid (num_lt (w0x hS7)); have HT := Lib.hid (box_keep (MapKept.heap_alloc _ _).1 hb7); clear hb7; obtain ⟨t0, t1, e0, e1, hz2⟩ := blk_facts HT.out)
            | (clear hb7)))
    all_goals
      go_wp2_with fail
      go_meet
      first
        | exact ⟨_, rfl, rfl, num_lt (w0x hS8), (MapKept.heap_alloc _ _).1, rbx_keep (s4_rb hS8) (below_box _ _)⟩
        | exact ⟨_, rfl, rfl, HG.out, tset HT.out, rb_far (s4_rb hS8) HG.out _ _⟩
  case rest =>
    obtain ⟨g, rfl, rfl, hg, hT, hR⟩ := hcut
    obtain ⟨t0, t1, e0, e1, hz2⟩ := blk_facts hT
    have HR := Lib.hid hR
    clear n0 n1 n2 n3 n4 n5 f0 f1 f2 f3 f4 f5 h1 h2 HB hR
    obtain ⟨n0, n1, n2, n3, n4, n5⟩ := num_cells HR.out.1
    obtain ⟨f0, f1, f2, f3, f4, f5⟩ := num_free HR.out.1
    obtain ⟨z0, z1, z2, z3, z4, z5⟩ := num_cells HR.out.2.1
    obtain ⟨g0, g1, g2, g3, g4, g5⟩ := num_free HR.out.2.1
    clear z0 z1 z2 z3 z4 z5 g0 g1 g2 g3 g4 g5 t0 t1 e0 e1 hz2 hT
    go_wp2_with (go_at_call 13; refine (hall _).mono ?_; rintro e w1 ⟨rfl, hb⟩; have H1 := Lib.hid (rbx_keep HR.out hb); obtain ⟨z0, z1, z2, z3, z4, z5⟩ := num_cells H1.out.2.1; obtain ⟨g0, g1, g2, g3, g4, g5⟩ := num_free H1.out.2.1; clear hb)
    refine bodyPost_ret (v := .tuple #[numV q, .bool false]) (by unfold numV; simp [results, Try.results26, go_sem, z0, z1, z2, z3, z4, z5]) rfl ⟨rfl, ?_⟩
    exact below_sixn (by omega) H1.out.2.2 _ _ _ _ _ _
theorem round_end (k r : K) (w W : World) (hr : k.bound = r) (hB : RB w r W) (u0 u3 u4 u5 u6 u7 u8 u9 u10 u11 u12 u13 u14 u15 u16 u17 u18 u19 u20 u21 u22 u23 u24 u25 u26 u27 u28 u29 u30 u31 u32 u33 u34 u35 u36 u37 u38 u39 u40 u41 u42 u43 u44 u45 u46 u47 u48 u49 u50 u51 u52 u53 u54 u55 u56 u57 u58 u59 u60 u61 u62 u63 u64 u65 u66 u67 u68 u69 u70 u71 u72 u73 u74 u75 u76 u77 u78 u79 u80 u81 u82 u83 u84 u85 u86 u87 u88 u89 u90 u91 u92 u93 u94 u95 u96 u97 u98 u99 u100 u101 u102 u103 u104 u105 u106 u107 u108 u109 u110 u111 u112 u113 u114 u115 u116 u117 u118 u119 u120 u121 u122 u123 u124 u125 u126 u127 u128 u129 u130 u131 u132 u133 u134 u135 u136 u137 u138 u139 u140 u141 u142 u143 u144 u145 u146 u147 u148 u149 u150 u151 u152 u153 u154 u155 u156 u157 u158 u159 u160 u161 u162 u163 : Value) :
    (tl 12 (Try.f26.body.getD .skip)).wp Try.prog (bodyPost Try.prog Try.f26 fun e w' => e = .returned (.tuple #[numV (if k.okR = true then k.nextR else allK), .bool k.okR]) ∧ Below w.heap.size w w') ⟨#[u0, .pointer (some ⟨w.heap.size, 0, none⟩), .pointer (some ⟨w.heap.size + 1, 0, none⟩), u3, u4, u5, u6, u7, u8, u9, u10, u11, u12, u13, u14, u15, u16, u17, u18, u19, u20, u21, u22, u23, u24, u25, u26, u27, u28, u29, u30, u31, u32, u33, u34, u35, u36, u37, u38, u39, u40, u41, u42, u43, u44, u45, u46, u47, u48, u49, u50, u51, u52, u53, u54, u55, u56, u57, u58, u59, u60, u61, u62, u63, u64, u65, u66, u67, u68, u69, u70, u71, u72, u73, u74, u75, u76, u77, u78, u79, u80, u81, u82, u83, u84, u85, u86, u87, u88, u89, u90, u91, u92, u93, u94, u95, u96, u97, u98, u99, u100, u101, u102, u103, u104, u105, u106, u107, u108, u109, u110, u111, u112, u113, u114, u115, u116, u117, u118, u119, u120, u121, u122, u123, u124, u125, u126, u127, u128, u129, u130, u131, u132, u133, u134, u135, u136, u137, u138, u139, u140, u141, u142, u143, u144, u145, u146, u147, u148, u149, u150, u151, u152, u153, u154, u155, u156, u157, u158, u159, u160, u161, u162, u163], []⟩ W := by
  cases hc : r.crossed
  · cases hk : r.ok2
    · have ho : k.okR = false := by unfold K.okR; rw [hr, hk, Bool.and_false]
      rw [ho, if_neg Bool.false_ne_true]
      exact end_no r w W hc hk hB _ _ _ _ _ _ _ _ _ _ _ _ _ _ _ _ _ _ _ _ _ _ _ _ _ _ _ _ _ _ _ _ _ _ _ _ _ _ _ _ _ _ _ _ _ _ _ _ _ _ _ _ _ _ _ _ _ _ _ _ _ _ _ _ _ _ _ _ _ _ _ _ _ _ _ _ _ _ _ _ _ _ _ _ _ _ _ _ _ _ _ _ _ _ _ _ _ _ _ _ _ _ _ _ _ _ _ _ _ _ _ _ _ _ _ _ _ _ _ _ _ _ _ _ _ _ _ _ _ _ _ _ _ _ _ _ _ _ _ _ _ _ _ _ _ _ _ _ _ _ _ _ _ _ _ _ _ _ _ _ _ _
    · have ho : k.okR = true := by unfold K.okR; rw [hr, hk, hc]; rfl
      rw [ho, if_pos rfl, show k.nextR = r.step6 by unfold K.nextR; rw [hr]]
      exact end_ok r w W hc hk hB _ _ _ _ _ _ _ _ _ _ _ _ _ _ _ _ _ _ _ _ _ _ _ _ _ _ _ _ _ _ _ _ _ _ _ _ _ _ _ _ _ _ _ _ _ _ _ _ _ _ _ _ _ _ _ _ _ _ _ _ _ _ _ _ _ _ _ _ _ _ _ _ _ _ _ _ _ _ _ _ _ _ _ _ _ _ _ _ _ _ _ _ _ _ _ _ _ _ _ _ _ _ _ _ _ _ _ _ _ _ _ _ _ _ _ _ _ _ _ _ _ _ _ _ _ _ _ _ _ _ _ _ _ _ _ _ _ _ _ _ _ _ _ _ _ _ _ _ _ _ _ _ _ _ _ _ _ _ _ _ _ _
  · have ho : k.okR = false := by unfold K.okR; rw [hr, hc]; rfl
    rw [ho, if_neg Bool.false_ne_true]
    exact end_crossed r w W hc hB _ _ _ _ _ _ _ _ _ _ _ _ _ _ _ _ _ _ _ _ _ _ _ _ _ _ _ _ _ _ _ _ _ _ _ _ _ _ _ _ _ _ _ _ _ _ _ _ _ _ _ _ _ _ _ _ _ _ _ _ _ _ _ _ _ _ _ _ _ _ _ _ _ _ _ _ _ _ _ _ _ _ _ _ _ _ _ _ _ _ _ _ _ _ _ _ _ _ _ _ _ _ _ _ _ _ _ _ _ _ _ _ _ _ _ _ _ _ _ _ _ _ _ _ _ _ _ _ _ _ _ _ _ _ _ _ _ _ _ _ _ _ _ _ _ _ _ _ _ _ _ _ _ _ _ _ _ _ _ _ _ _
end Go.Proofs.Ytogadmlnmcojpaa
