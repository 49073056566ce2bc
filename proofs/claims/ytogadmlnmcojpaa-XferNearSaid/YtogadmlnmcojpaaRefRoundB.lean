/-
  Proved here: what the document's round returns, from the bounds of the same highest bit on. Conditions: the boxes hold what is known.
-/
import Derived.Test.YtogadmlnmcojpaaRefRoundE
namespace Go.Proofs.Ytogadmlnmcojpaa
open Go.RowKit
attribute [local go_sem] u_and u_or u_xor u_andNot u_add u_sub s_conv u_conv u_addH u_subH

theorem side_div (k : K) : (IntKind.u64.wrap ((u k.a).tdiv 9223372036854775808) == IntKind.u64.wrap ((u k.b).tdiv 9223372036854775808)) = k.sideU := by
  have b1 := u_bd k.a
  have b2 := u_bd k.b
  rw [wrap_u, wrap_u, Int.tdiv_eq_ediv_of_nonneg b1.1, Int.tdiv_eq_ediv_of_nonneg b2.1]
  unfold K.sideU
  have h1 := s_neg k.a
  have h2 := s_neg k.b
  rw [Bool.eq_iff_iff, beq_iff_eq, beq_iff_eq, decide_eq_decide, h1, h2]
  omega
theorem each1_pos {k : K} (h : k.sideU = true) : k.each1 = ⟨k.v, k.m, k.a, k.b, maxS k.c k.a, minS k.d k.b⟩ := by rw [K.each1, if_pos h, K.inS]
theorem each1_neg {k : K} (h : k.sideU = false) : k.each1 = k := by rw [K.each1, if_neg (by rw [h]; exact Bool.false_ne_true)]
theorem each2_pos {k : K} (h : k.sideS = true) : k.each2 = ⟨k.v, k.m, maxU k.a k.c, minU k.b k.d, k.c, k.d⟩ := by rw [K.each2, if_pos h, K.inU]
theorem each2_neg {k : K} (h : k.sideS = false) : k.each2 = k := by rw [K.each2, if_neg (by rw [h]; exact Bool.false_ne_true)]
set_option maxRecDepth 100000 in
set_option maxHeartbeats 16000000 in
theorem round_mid (k : K) (w W : World) (hB : RB w k.byBits W) (u0 u3 u4 u5 u7 u8 u9 u10 u11 u12 u13 u14 u15 u16 u17 u18 u19 u20 u21 u22 u23 u24 u25 u26 u27 u28 u29 u30 u31 u32 u33 u34 u35 u36 u37 u38 u39 u40 u41 u42 u43 u44 u45 u46 u47 u48 u49 u50 u51 u52 u53 u54 u55 u56 u57 u58 u59 u60 u61 u62 u63 u64 u65 u66 u67 u68 u69 u70 u71 u72 u73 u74 u75 u76 u77 u78 u79 u80 u81 u82 u83 u84 u85 u86 u87 u88 u89 u90 u91 u92 u93 u94 u95 u96 u97 u98 u99 u100 u101 u102 u103 u104 u105 u106 u107 u108 u109 u110 u111 u112 u113 u114 u115 u116 u117 u118 u119 u120 u121 u122 u123 u124 u125 u126 u127 u128 u129 u130 u131 u132 u133 u134 u135 u136 u137 u138 u139 u140 u141 u142 u143 u144 u145 u146 u147 u148 u149 u150 u151 u152 u153 u154 u155 u156 u157 u158 u159 u160 u161 u162 u163 : Value) :
    (tl 10 (Try.f26.body.getD .skip)).wp Try.prog (bodyPost Try.prog Try.f26 fun e w' => e = .returned (.tuple #[numV (if k.okR = true then k.nextR else allK), .bool k.okR]) ∧ Below w.heap.size w w') ⟨#[u0, .pointer (some ⟨w.heap.size, 0, none⟩), .pointer (some ⟨w.heap.size + 1, 0, none⟩), u3, u4, u5, .int .u64 9223372036854775808, u7, u8, u9, u10, u11, u12, u13, u14, u15, u16, u17, u18, u19, u20, u21, u22, u23, u24, u25, u26, u27, u28, u29, u30, u31, u32, u33, u34, u35, u36, u37, u38, u39, u40, u41, u42, u43, u44, u45, u46, u47, u48, u49, u50, u51, u52, u53, u54, u55, u56, u57, u58, u59, u60, u61, u62, u63, u64, u65, u66, u67, u68, u69, u70, u71, u72, u73, u74, u75, u76, u77, u78, u79, u80, u81, u82, u83, u84, u85, u86, u87, u88, u89, u90, u91, u92, u93, u94, u95, u96, u97, u98, u99, u100, u101, u102, u103, u104, u105, u106, u107, u108, u109, u110, u111, u112, u113, u114, u115, u116, u117, u118, u119, u120, u121, u122, u123, u124, u125, u126, u127, u128, u129, u130, u131, u132, u133, u134, u135, u136, u137, u138, u139, u140, u141, u142, u143, u144, u145, u146, u147, u148, u149, u150, u151, u152, u153, u154, u155, u156, u157, u158, u159, u160, u161, u162, u163], []⟩ W := by
  have HB6 := Lib.hid hB
  clear hB
  obtain ⟨code, hcode⟩ : ∃ c, tl 10 (Try.f26.body.getD .skip) = c := ⟨_, rfl⟩
  rw [hcode]
  dsimp only [tl, Try.f26, Option.getD] at hcode
  subst hcode
  obtain ⟨q, hq⟩ : ∃ q, k.byBits = q := ⟨_, rfl⟩
  rw [hq] at HB6
  have HQ := Lib.hid hq
  clear hq
  obtain ⟨n0, n1, n2, n3, n4, n5⟩ := num_cells HB6.out.1
  obtain ⟨f0, f1, f2, f3, f4, f5⟩ := num_free HB6.out.1
  go_wp2_with fail
  go_quiet (fail)
  have HB7 := Lib.hid (rb_drews HB6.out nq)
  obtain ⟨W7, hW7⟩ : ∃ W7, W.drewN nq = W7 := ⟨_, rfl⟩
  rw [hW7] at HB7 ⊢
  clear hW7 n0 n1 n2 n3 n4 n5 f0 f1 f2 f3 f4 f5 HB6
  obtain ⟨n0, n1, n2, n3, n4, n5⟩ := num_cells HB7.out.1
  obtain ⟨f0, f1, f2, f3, f4, f5⟩ := num_free HB7.out.1
  go_upto_if 75 with fail
  go_cut [] (fun wx => RB w q.each1 wx)
  case first =>
    go_wp2_with fail
    all_goals
      go_meet
      first
        | (rw [each1_pos ((side_div q).symm.trans (by assumption))]
           first
             | (rw [maxs_yes (x := q.c) (y := q.a) (by assumption), mins_yes (x := q.d) (y := q.b) (by assumption)]; exact rb_d (rb_c HB7.out _) _)
             | (rw [maxs_yes (x := q.c) (y := q.a) (by assumption), mins_no (x := q.d) (y := q.b) (by assumption)]; exact rb_c HB7.out _)
             | (rw [maxs_no (x := q.c) (y := q.a) (by assumption), mins_yes (x := q.d) (y := q.b) (by assumption)]; exact rb_d HB7.out _)
             | (rw [maxs_no (x := q.c) (y := q.a) (by assumption), mins_no (x := q.d) (y := q.b) (by assumption)]; exact HB7.out))
        | (rw [each1_neg ((side_div q).symm.trans (by assumption))]; exact HB7.out)
  case rest =>
    have HB8 := Lib.hid hcut
    clear n0 n1 n2 n3 n4 n5 f0 f1 f2 f3 f4 f5 hcut HB7 W7
    obtain ⟨q1, hq1⟩ : ∃ q1, q.each1 = q1 := ⟨_, rfl⟩
    rw [hq1] at HB8
    have HQ1 := Lib.hid hq1
    clear hq1
    obtain ⟨n0, n1, n2, n3, n4, n5⟩ := num_cells HB8.out.1
    obtain ⟨f0, f1, f2, f3, f4, f5⟩ := num_free HB8.out.1
    go_upto_region 21 with fail
    go_cut [113] (fun c wx => c = .bool q1.sideS ∧ RB w q1 wx)
    case first =>
      by_cases h1 : s q1.c < 0
      · by_cases h2 : s q1.d < 0
        · have HS := Lib.hid (show q1.sideS = true by unfold K.sideS; simp [h1, h2])
          go_wp2_with fail
          go_meet
          exact ⟨by first | (rw [HS.out]; done) | (rw [HS.out]; refine congrArg Value.bool ?_; first | (rw [decide_eq_false_iff_not]; omega) | (rw [decide_eq_true_eq]; omega)), HB8.out⟩
        · have HS := Lib.hid (show q1.sideS = false by unfold K.sideS; simp [h1, h2])
          go_wp2_with fail
          go_meet
          exact ⟨by first | (rw [HS.out]; done) | (rw [HS.out]; refine congrArg Value.bool ?_; first | (rw [decide_eq_false_iff_not]; omega) | (rw [decide_eq_true_eq]; omega)), HB8.out⟩
      · by_cases h2 : s q1.d < 0
        · have HS := Lib.hid (show q1.sideS = false by unfold K.sideS; simp [h1, h2])
          go_wp2_with fail
          go_meet
          exact ⟨by first | (rw [HS.out]; done) | (rw [HS.out]; refine congrArg Value.bool ?_; first | (rw [decide_eq_false_iff_not]; omega) | (rw [decide_eq_true_eq]; omega)), HB8.out⟩
        · have HS := Lib.hid (show q1.sideS = true by unfold K.sideS; simp [h1, h2])
          go_wp2_with fail
          go_meet
          exact ⟨by first | (rw [HS.out]; done) | (rw [HS.out]; refine congrArg Value.bool ?_; first | (rw [decide_eq_false_iff_not]; omega) | (rw [decide_eq_true_eq]; omega)), HB8.out⟩
    case rest =>
      obtain ⟨rfl, hrb⟩ := hcut
      have HB9 := Lib.hid hrb
      clear n0 n1 n2 n3 n4 n5 f0 f1 f2 f3 f4 f5 hrb HB8
      obtain ⟨n0, n1, n2, n3, n4, n5⟩ := num_cells HB9.out.1
      obtain ⟨f0, f1, f2, f3, f4, f5⟩ := num_free HB9.out.1
      obtain ⟨t, ht⟩ : ∃ t, q1.sideS = t := ⟨_, rfl⟩
      rw [ht]
      have HT := Lib.hid ht
      clear ht
      go_upto_if 113 with fail
      go_cut [] (fun wx => RB w q1.each2 wx)
      case first =>
        go_wp2_with fail
        all_goals
          go_meet
          first
            | (rw [each2_pos (HT.out.trans (by assumption))]
               first
                 | (rw [max_yes (x := q1.a) (y := q1.c) (by assumption), min_yes (x := q1.b) (y := q1.d) (by assumption)]; exact rb_b (rb_a HB9.out _) _)
                 | (rw [max_yes (x := q1.a) (y := q1.c) (by assumption), min_no (x := q1.b) (y := q1.d) (by assumption)]; exact rb_a HB9.out _)
                 | (rw [max_no (x := q1.a) (y := q1.c) (by assumption), min_yes (x := q1.b) (y := q1.d) (by assumption)]; exact rb_b HB9.out _)
                 | (rw [max_no (x := q1.a) (y := q1.c) (by assumption), min_no (x := q1.b) (y := q1.d) (by assumption)]; exact HB9.out))
            | (rw [each2_neg (HT.out.trans (by assumption))]; exact HB9.out)
      case rest =>
        have HBA := Lib.hid hcut
        clear n0 n1 n2 n3 n4 n5 f0 f1 f2 f3 f4 f5 hcut HB9 HT t
        apply_assumption
        refine wp_code (c' := tl 12 (Try.f26.body.getD .skip)) (by kernel_rfl) ?_
        exact round_end k q1.each2 w wc (by rw [K.bound, HQ.out, HQ1.out]) HBA.out _ _ _ _ _ _ _ _ _ _ _ _ _ _ _ _ _ _ _ _ _ _ _ _ _ _ _ _ _ _ _ _ _ _ _ _ _ _ _ _ _ _ _ _ _ _ _ _ _ _ _ _ _ _ _ _ _ _ _ _ _ _ _ _ _ _ _ _ _ _ _ _ _ _ _ _ _ _ _ _ _ _ _ _ _ _ _ _ _ _ _ _ _ _ _ _ _ _ _ _ _ _ _ _ _ _ _ _ _ _ _ _ _ _ _ _ _ _ _ _ _ _ _ _ _ _ _ _ _ _ _ _ _ _ _ _ _ _ _ _ _ _ _ _ _ _ _ _ _ _ _ _ _ _ _ _ _ _ _ _ _ _
end Go.Proofs.Ytogadmlnmcojpaa
