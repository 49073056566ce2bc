/-
  Proved here: what Sub, And and Or of package tnum return. Conditions: none.
-/
import Derived.Test.YtogadmlnmcojpaaPatB
namespace Go.Proofs.Ytogadmlnmcojpaa
open Go.RowKit
attribute [local go_sem ↓] eql_tn neq_tn
attribute [local go_sem] u_and u_or u_xor u_andNot u_add u_sub

set_option maxHeartbeats 4000000 in
theorem sub_tnum (va ma vb mb : B64) (w : World) : Calls Try.prog 73 #[tnV va ma, tnV vb mb] w (Gives (tnV (twoV 1 va ma vb mb) (twoM 1 va ma vb mb)) w) := by
  unfold Gives tnV
  go_enter Try.func73, Try.ntmps73
  go_upto_region 1 with fail
  go_cut [] (fun W => Three w (.int .u64 (u (pv va ma))) (.int .u64 (u ma)) (.int .u64 (u (pv vb mb))) (.int .u64 (u mb)) (.int .u64 0) (.int .u64 0) W)
  case first =>
    have hS0 := three_new w (.int .u64 (u va)) (.int .u64 (u ma)) (.int .u64 (u vb)) (.int .u64 (u mb)) (.int .u64 0) (.int .u64 0)
    go_region_with (go_at_call 101; refine (proper_tnum _ _ _).mono ?_; rintro e w1 ⟨rfl, hb⟩; unfold tnV; have hS1 := three_keep (w0 := w) (by assumption) hb; obtain ⟨c0, c1, f0, f1, z0⟩ := blk_facts hS1.1; obtain ⟨c2, c3, f2, f3, z1⟩ := blk_facts hS1.2.1; clear hb)
    all_goals
      go_wp2_with fail
      go_meet
      exact three_set hS1
  case rest =>
    obtain ⟨c0, c1, f0, f1, z0⟩ := blk_facts hcut.1
    obtain ⟨c2, c3, f2, f3, z1⟩ := blk_facts hcut.2.1
    obtain ⟨c4, c5, f4, f5, z2⟩ := blk_facts hcut.2.2.1
    have hS := Lib.hid hcut
    clear hcut
    go_wp2_with (go_at_call 63; refine (pattern_tnum _ _ _).mono ?_; rintro e w1 ⟨rfl, hb⟩; unfold tnV; have hS1 := three_keep (w0 := w) hS.out hb; obtain ⟨d4, d5, g4, g5, y2⟩ := blk_facts hS1.2.2.1; have HB := Lib.hid hS1.2.2.2; clear hb hS1)
    refine bodyPost_ret (v := .agg #[.int .u64 (u (pv (pv va ma - (pv vb mb + mb)) (ma ||| mb ||| ((pv va ma - (pv vb mb + mb)) ^^^ (pv va ma + ma - pv vb mb))))), .int .u64 (u (ma ||| mb ||| ((pv va ma - (pv vb mb + mb)) ^^^ (pv va ma + ma - pv vb mb))))]) (by simp [results, Try.results73, go_sem, d4, d5]) rfl ⟨rfl, ?_⟩
    exact (HB.out.setCell (by simp; omega) _).setCell (by simp; omega) _
set_option maxHeartbeats 4000000 in
theorem and_tnum (va ma vb mb : B64) (w : World) : Calls Try.prog 76 #[tnV va ma, tnV vb mb] w (Gives (tnV (twoV 2 va ma vb mb) (twoM 2 va ma vb mb)) w) := by
  unfold Gives tnV
  go_enter Try.func76, Try.ntmps76
  go_upto_region 1 with fail
  go_cut [] (fun W => Three w (.int .u64 (u (pv va ma))) (.int .u64 (u ma)) (.int .u64 (u (pv vb mb))) (.int .u64 (u mb)) (.int .u64 0) (.int .u64 0) W)
  case first =>
    have hS0 := three_new w (.int .u64 (u va)) (.int .u64 (u ma)) (.int .u64 (u vb)) (.int .u64 (u mb)) (.int .u64 0) (.int .u64 0)
    go_region_with (go_at_call 101; refine (proper_tnum _ _ _).mono ?_; rintro e w1 ⟨rfl, hb⟩; unfold tnV; have hS1 := three_keep (w0 := w) (by assumption) hb; obtain ⟨c0, c1, f0, f1, z0⟩ := blk_facts hS1.1; obtain ⟨c2, c3, f2, f3, z1⟩ := blk_facts hS1.2.1; clear hb)
    all_goals
      go_wp2_with fail
      go_meet
      exact three_set hS1
  case rest =>
    obtain ⟨c0, c1, f0, f1, z0⟩ := blk_facts hcut.1
    obtain ⟨c2, c3, f2, f3, z1⟩ := blk_facts hcut.2.1
    obtain ⟨c4, c5, f4, f5, z2⟩ := blk_facts hcut.2.2.1
    have hS := Lib.hid hcut
    clear hcut
    go_wp2_with (go_at_call 63; refine (pattern_tnum _ _ _).mono ?_; rintro e w1 ⟨rfl, hb⟩; unfold tnV; have hS1 := three_keep (w0 := w) hS.out hb; obtain ⟨d4, d5, g4, g5, y2⟩ := blk_facts hS1.2.2.1; have HB := Lib.hid hS1.2.2.2; clear hb hS1)
    refine bodyPost_ret (v := .agg #[.int .u64 (u (pv (pv va ma &&& pv vb mb) ((pv va ma &&& pv vb mb) ^^^ ((pv va ma ||| ma) &&& (pv vb mb ||| mb))))), .int .u64 (u ((pv va ma &&& pv vb mb) ^^^ ((pv va ma ||| ma) &&& (pv vb mb ||| mb))))]) (by simp [results, Try.results76, go_sem, d4, d5]) rfl ⟨rfl, ?_⟩
    exact (HB.out.setCell (by simp; omega) _).setCell (by simp; omega) _
set_option maxHeartbeats 4000000 in
theorem or_tnum (va ma vb mb : B64) (w : World) : Calls Try.prog 75 #[tnV va ma, tnV vb mb] w (Gives (tnV (twoV 3 va ma vb mb) (twoM 3 va ma vb mb)) w) := by
  unfold Gives tnV
  go_enter Try.func75, Try.ntmps75
  go_upto_region 1 with fail
  go_cut [] (fun W => Three w (.int .u64 (u (pv va ma))) (.int .u64 (u ma)) (.int .u64 (u (pv vb mb))) (.int .u64 (u mb)) (.int .u64 0) (.int .u64 0) W)
  case first =>
    have hS0 := three_new w (.int .u64 (u va)) (.int .u64 (u ma)) (.int .u64 (u vb)) (.int .u64 (u mb)) (.int .u64 0) (.int .u64 0)
    go_region_with (go_at_call 101; refine (proper_tnum _ _ _).mono ?_; rintro e w1 ⟨rfl, hb⟩; unfold tnV; have hS1 := three_keep (w0 := w) (by assumption) hb; obtain ⟨c0, c1, f0, f1, z0⟩ := blk_facts hS1.1; obtain ⟨c2, c3, f2, f3, z1⟩ := blk_facts hS1.2.1; clear hb)
    all_goals
      go_wp2_with fail
      go_meet
      exact three_set hS1
  case rest =>
    obtain ⟨c0, c1, f0, f1, z0⟩ := blk_facts hcut.1
    obtain ⟨c2, c3, f2, f3, z1⟩ := blk_facts hcut.2.1
    obtain ⟨c4, c5, f4, f5, z2⟩ := blk_facts hcut.2.2.1
    have hS := Lib.hid hcut
    clear hcut
    go_wp2_with (go_at_call 63; refine (pattern_tnum _ _ _).mono ?_; rintro e w1 ⟨rfl, hb⟩; unfold tnV; have hS1 := three_keep (w0 := w) hS.out hb; obtain ⟨d4, d5, g4, g5, y2⟩ := blk_facts hS1.2.2.1; have HB := Lib.hid hS1.2.2.2; clear hb hS1)
    refine bodyPost_ret (v := .agg #[.int .u64 (u (pv (pv va ma ||| pv vb mb) ((pv va ma ||| pv vb mb) ^^^ (pv va ma ||| pv vb mb ||| ma ||| mb)))), .int .u64 (u ((pv va ma ||| pv vb mb) ^^^ (pv va ma ||| pv vb mb ||| ma ||| mb)))]) (by simp [results, Try.results75, go_sem, d4, d5]) rfl ⟨rfl, ?_⟩
    exact (HB.out.setCell (by simp; omega) _).setCell (by simp; omega) _
end Go.Proofs.Ytogadmlnmcojpaa
