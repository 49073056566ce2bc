/-
  Proved here: what the document's round returns. Conditions: none.
-/
import Derived.Test.YtogadmlnmcojpaaRefRoundB
namespace Go.Proofs.Ytogadmlnmcojpaa
open Go.RowKit
attribute [local go_sem] u_and u_or u_xor u_andNot u_add u_sub s_conv u_conv u_addH u_subH

theorem byBits_eq (k : K) : (⟨k.v, k.m, maxU k.a (pv k.v k.m), minU k.b (k.v ||| k.m), maxS k.c k.lowS, minS k.d k.highS⟩ : K) = k.byBits := by
  unfold K.byBits K.inS K.inU
  rfl
set_option maxRecDepth 100000 in
set_option maxHeartbeats 16000000 in
theorem refround_num (k : K) (w : World) : Calls Try.prog 26 #[numV k] w (Gives (.tuple #[numV (if k.okR = true then k.nextR else allK), .bool k.okR]) w) := by
  have HB0 := Lib.hid (rb_new k w)
  have hls := lsR_eq k
  have hms := msR_eq k
  have hbb := byBits_eq k
  obtain ⟨W, hW⟩ : ∃ W, k.v ||| k.m = W := ⟨_, rfl⟩
  have hp := pv_plus k.v k.m
  rw [hW] at hp hls hms hbb
  unfold pv at hls hms hbb
  obtain ⟨V, hV⟩ : ∃ V, k.v &&& ~~~k.m = V := ⟨_, rfl⟩
  rw [hV] at hp hls hms hbb
  obtain ⟨LS, hLS⟩ : ∃ LS, k.lowS = LS := ⟨_, rfl⟩
  obtain ⟨HS, hHS⟩ : ∃ HS, k.highS = HS := ⟨_, rfl⟩
  rw [hLS] at hls hbb
  rw [hHS] at hms hbb
  have HLS := Lib.hid hls
  have HMS := Lib.hid hms
  have HBB := Lib.hid hbb
  clear hls hms hLS hHS hW hbb
  unfold Gives numV
  obtain ⟨n0, n1, n2, n3, n4, n5⟩ := num_cells HB0.out.1
  obtain ⟨f0, f1, f2, f3, f4, f5⟩ := num_free HB0.out.1
  obtain ⟨W0, hW0⟩ : ∃ W0, ((w.alloc (.cells #[.int .u64 (u k.v), .int .u64 (u k.m), .int .u64 (u k.a), .int .u64 (u k.b), .int .i64 (s k.c), .int .i64 (s k.d)] 26)).alloc
    (.cells #[.int .u64 0, .int .u64 0, .int .u64 0, .int .u64 0, .int .i64 0, .int .i64 0] 26)) = W0 := ⟨_, rfl⟩
  rw [hW0] at n0 n1 n2 n3 n4 n5 f0 f1 f2 f3 f4 f5 HB0
  go_enter Try.func26, Try.ntmps26
  go_upto_if 26 with fail
  clear hW0
  go_cut [] (fun wx => RB w ⟨k.v, k.m, maxU k.a V, k.b, k.c, k.d⟩ wx)
  case first =>
    go_wp2_with fail
    all_goals
      go_meet
      first
        | (rw [max_yes (x := k.a) (y := V) (by assumption)]; exact rb_a HB0.out _)
        | (rw [max_no (x := k.a) (y := V) (by assumption)]; exact HB0.out)
  case rest =>
    have HB1 := Lib.hid hcut
    clear n0 n1 n2 n3 n4 n5 f0 f1 f2 f3 f4 f5 hcut HB0 W0
    obtain ⟨n0, n1, n2, n3, n4, n5⟩ := num_cells HB1.out.1
    obtain ⟨f0, f1, f2, f3, f4, f5⟩ := num_free HB1.out.1
    go_upto_if 32 with fail
    go_cut [] (fun wx => RB w ⟨k.v, k.m, maxU k.a V, minU k.b W, k.c, k.d⟩ wx)
    case first =>
      go_wp2_with fail
      all_goals
        go_meet
        first
          | (rw [min_yes (x := k.b) (y := W) (by assumption)]; exact rb_b HB1.out _)
          | (rw [min_no (x := k.b) (y := W) (by assumption)]; exact HB1.out)
    case rest =>
      have HB2 := Lib.hid hcut
      clear n0 n1 n2 n3 n4 n5 f0 f1 f2 f3 f4 f5 hcut HB1
      obtain ⟨n0, n1, n2, n3, n4, n5⟩ := num_cells HB2.out.1
      obtain ⟨f0, f1, f2, f3, f4, f5⟩ := num_free HB2.out.1
      go_upto_region 9 with fail
      go_cut [44] (fun c wx => c = .bool (decide (9223372036854775808 ≤ u W ∧ u V < 9223372036854775808)) ∧ RB w ⟨k.v, k.m, maxU k.a V, minU k.b W, k.c, k.d⟩ wx)
      case first =>
        go_wp2_with fail
        all_goals
          go_meet
          refine ⟨congrArg Value.bool ?_, HB2.out⟩
          symm
          first
            | (rw [decide_eq_decide]; omega)
            | (rw [decide_eq_false_iff_not]; omega)
      case rest =>
        obtain ⟨rfl, hrb⟩ := hcut
        have HB3 := Lib.hid hrb
        clear n0 n1 n2 n3 n4 n5 f0 f1 f2 f3 f4 f5 hrb HB2
        obtain ⟨n0, n1, n2, n3, n4, n5⟩ := num_cells HB3.out.1
        obtain ⟨f0, f1, f2, f3, f4, f5⟩ := num_free HB3.out.1
        obtain ⟨t, ht⟩ : ∃ t, decide (9223372036854775808 ≤ u W ∧ u V < 9223372036854775808) = t := ⟨_, rfl⟩
        rw [ht]
        have HT := Lib.hid ht
        clear ht
        go_upto_if 44 with fail
        go_cut [7, 8] (fun x y wx => x = .int .u64 (u LS) ∧ y = .int .u64 (u HS) ∧ RB w ⟨k.v, k.m, maxU k.a V, minU k.b W, k.c, k.d⟩ wx)
        case first =>
          go_wp2_with fail
          all_goals
            go_meet
            first
              | (have hp2 : 9223372036854775808 ≤ u W ∧ u V < 9223372036854775808 := of_decide_eq_true (HT.out.trans (by assumption))
                 exact ⟨by rw [← HLS.out, lsR, if_pos hp2], by rw [← HMS.out, msR, if_pos hp2], HB3.out⟩)
              | (have hp2 : ¬ (9223372036854775808 ≤ u W ∧ u V < 9223372036854775808) := of_decide_eq_false (HT.out.trans (by assumption))
                 exact ⟨by rw [← HLS.out, lsR, if_neg hp2], by rw [← HMS.out, msR, if_neg hp2], HB3.out⟩)
        case rest =>
          obtain ⟨rfl, rfl, hrb⟩ := hcut
          have HB4 := Lib.hid hrb
          clear n0 n1 n2 n3 n4 n5 f0 f1 f2 f3 f4 f5 hrb HB3 HT t HLS HMS hp hV
          obtain ⟨n0, n1, n2, n3, n4, n5⟩ := num_cells HB4.out.1
          obtain ⟨f0, f1, f2, f3, f4, f5⟩ := num_free HB4.out.1
          go_upto_if 55 with fail
          go_cut [] (fun wx => RB w ⟨k.v, k.m, maxU k.a V, minU k.b W, maxS k.c LS, k.d⟩ wx)
          case first =>
            go_wp2_with fail
            all_goals
              go_meet
              first
                | (rw [maxs_yes (x := k.c) (y := LS) (by assumption)]; exact rb_c HB4.out _)
                | (rw [maxs_no (x := k.c) (y := LS) (by assumption)]; exact HB4.out)
          case rest =>
            have HB5 := Lib.hid hcut
            clear n0 n1 n2 n3 n4 n5 f0 f1 f2 f3 f4 f5 hcut HB4
            obtain ⟨n0, n1, n2, n3, n4, n5⟩ := num_cells HB5.out.1
            obtain ⟨f0, f1, f2, f3, f4, f5⟩ := num_free HB5.out.1
            go_upto_if 63 with fail
            go_cut [] (fun wx => RB w k.byBits wx)
            case first =>
              go_wp2_with fail
              all_goals
                go_meet
                rw [← HBB.out]
                first
                  | (rw [mins_yes (x := k.d) (y := HS) (by assumption)]; exact rb_d HB5.out _)
                  | (rw [mins_no (x := k.d) (y := HS) (by assumption)]; exact HB5.out)
            case rest =>
              have HB6 := Lib.hid hcut
              clear n0 n1 n2 n3 n4 n5 f0 f1 f2 f3 f4 f5 hcut HB5 HBB
              apply_assumption
              refine wp_code (c' := tl 10 (Try.f26.body.getD .skip)) (by kernel_rfl) ?_
              have hm := round_mid k w wc HB6.out
              unfold numV at hm
              refine hm _ _ _ _ _ _ _ _ _ _ _ _ _ _ _ _ _ _ _ _ _ _ _ _ _ _ _ _ _ _ _ _ _ _ _ _ _ _ _ _ _ _ _ _ _ _ _ _ _ _ _ _ _ _ _ _ _ _ _ _ _ _ _ _ _ _ _ _ _ _ _ _ _ _ _ _ _ _ _ _ _ _ _ _ _ _ _ _ _ _ _ _ _ _ _ _ _ _ _ _ _ _ _ _ _ _ _ _ _ _ _ _ _ _ _ _ _ _ _ _ _ _ _ _ _ _ _ _ _ _ _ _ _ _ _ _ _ _ _ _ _ _ _ _ _ _ _ _ _ _ _ _ _ _ _ _ _ _ _ _ _
end Go.Proofs.Ytogadmlnmcojpaa
