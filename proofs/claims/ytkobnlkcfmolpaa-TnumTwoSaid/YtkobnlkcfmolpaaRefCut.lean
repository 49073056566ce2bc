/-
  Proved here: what Cut of the document's answers returns. Conditions: none.
-/
import Derived.Test.YtkobnlkcfmolpaaRefShift
namespace Go.Proofs.Ytkobnlkcfmolpaa
open Go.RowKit
attribute [local go_sem] make64

/-- What Cut's loop does, once n is a size (8 where it was none). -/
theorem bN_1 : bN 1 = 8 := rfl
theorem bN_2 : bN 2 = 16 := rfl
theorem bN_4 : bN 4 = 32 := rfl
set_option maxHeartbeats 4000000 in
theorem cutref_1 (v m : B64) (w : World) : Calls Try.prog 27 #[tnV v m, .int .i64 1] w (Gives (tnV (pv (lowB v 8) (lowB m 8)) (lowB m 8)) w) := by
  rw [← ct_val v m 8, ← ct_mask v m 8]
  unfold Gives tnV
  go_enter Try.func27, Try.ntmps27
  go_wp2
  go_cut [5, 6] (fun a b W => ∃ g q : Nat, a = .slice (some ⟨g, 0, none⟩) 64 64 ∧ b = .slice (some ⟨q, 0, none⟩) 64 64 ∧ Rows2 w v m g q (fun _ => false) (fun _ => false) W)
  case first =>
    go_region
    all_goals
      go_wp2
      go_meet
      first | exact ⟨_, _, rfl, rfl, rows2_new w v m false⟩ | exact ⟨_, _, rfl, rfl, rows2_new w v m true⟩
  case rest =>
    obtain ⟨g, q, rfl, rfl, hR0⟩ := hcut
    have HR := Lib.hid (rows2_congr hR0 (fun i _ => rowF_zero (ctZ v m 8) i) (fun i _ => rowF_zero (ctO v m 8) i))
    clear hR0
    go_wp2
    go_loopw [7] (fun c W => ShRel w v m g q (ctZ v m 8) (ctO v m 8) c W) (fun c _ => 64 - (intOf c).toNat)
    case atStart => exact ⟨0, by omega, rfl, HR.out⟩
    case round =>
    obtain ⟨k, hk, rfl, hR⟩ := hrel
    have HR' := Lib.hid hR
    clear hR HR
    by_cases hlt : k < 64
    · obtain ⟨⟨c0, c1⟩, ⟨cg, fg⟩, ⟨cq, fq⟩, n1, n2, n3, n4, n5, n6⟩ := rows2_facts HR'.out hlt
      by_cases hc : k < 8
      · have HZ := Lib.hid (show ctZ v m 8 k = bz v m k by unfold ctZ; simp [hc])
        have HO := Lib.hid (show ctO v m 8 k = bo v m k by unfold ctO; simp [hc])
        have hci : (k : Int) < 8 := by omega
        go_wp2_with (go_at_call 32; refine (bit_ref v m k (by omega) _).mono ?_; rintro e w1 ⟨rfl, hb⟩; have HR1 := Lib.hid (rows2_keep (rows2_z HR'.out hlt true) hb); obtain ⟨⟨x0, x1⟩, ⟨xg, yg⟩, ⟨xq, yq⟩, -⟩ := rows2_facts HR1.out hlt; clear hb)
        go_roundw
        case rel =>
          refine ⟨k + 1, by omega, by go_num, rows2_congr (rows2_o (rows2_z HR1.out hlt (bz v m k)) hlt (bo v m k)) (fun i hi => ?_) (fun i hi => rowF_put _ k _ HO.out i)⟩
          rw [← rowF_put _ k _ HZ.out i]
          by_cases e : i = k <;> simp [e]
        case measure => simp [intOf]; omega
      · first
          | omega
          | (have HZ := Lib.hid (show ctZ v m 8 k = true by unfold ctZ; simp [hc])
             have HO := Lib.hid (show ctO v m 8 k = false by unfold ctO; simp [hc])
             have hci : (8 : Int) ≤ k := by omega
             go_wp2
             go_roundw
             case rel =>
               exact ⟨k + 1, by omega, by go_num, rows2_congr (rows2_z HR'.out hlt true) (fun i hi => rowF_put _ k _ HZ.out i) (fun i hi => rowF_skip _ k HO.out i)⟩
             case measure => simp [intOf]; omega)
    · obtain rfl : k = 64 := by omega
      have HR2 := Lib.hid (rows2_congr HR'.out (fun i hi => rowF_all _ i hi) (fun i hi => rowF_all _ i hi))
      go_wp2_with (go_at_call 35; refine (of_ref g q _ _ _ (row_bools HR2.out.2.2.2.2.1) (row_bools HR2.out.2.2.2.2.2) (row_lt HR2.out.2.2.2.2.1) (row_lt HR2.out.2.2.2.2.2)).mono ?_; rintro e w1 ⟨rfl, hb⟩; unfold tnV; have HT1 := Lib.hid (twain_keep HR2.out.2.2.2.1 hb); obtain ⟨d0, d1, e0, e1, _⟩ := blk_facts HT1.out.2.1; clear hb)
      refine bodyPost_ret (v := .agg #[.int .u64 (u (valB (ctZ v m 8) (ctO v m 8))), .int .u64 (u (maskB (ctZ v m 8) (ctO v m 8)))]) (by simp [results, Try.results27, go_sem, d0, d1]) rfl ⟨rfl, ?_⟩
      exact (HT1.out.2.2.setCell (by simp) _).setCell (by simp) _
set_option maxHeartbeats 4000000 in
theorem cutref_2 (v m : B64) (w : World) : Calls Try.prog 27 #[tnV v m, .int .i64 2] w (Gives (tnV (pv (lowB v 16) (lowB m 16)) (lowB m 16)) w) := by
  rw [← ct_val v m 16, ← ct_mask v m 16]
  unfold Gives tnV
  go_enter Try.func27, Try.ntmps27
  go_wp2
  go_cut [5, 6] (fun a b W => ∃ g q : Nat, a = .slice (some ⟨g, 0, none⟩) 64 64 ∧ b = .slice (some ⟨q, 0, none⟩) 64 64 ∧ Rows2 w v m g q (fun _ => false) (fun _ => false) W)
  case first =>
    go_region
    all_goals
      go_wp2
      go_meet
      first | exact ⟨_, _, rfl, rfl, rows2_new w v m false⟩ | exact ⟨_, _, rfl, rfl, rows2_new w v m true⟩
  case rest =>
    obtain ⟨g, q, rfl, rfl, hR0⟩ := hcut
    have HR := Lib.hid (rows2_congr hR0 (fun i _ => rowF_zero (ctZ v m 16) i) (fun i _ => rowF_zero (ctO v m 16) i))
    clear hR0
    go_wp2
    go_loopw [7] (fun c W => ShRel w v m g q (ctZ v m 16) (ctO v m 16) c W) (fun c _ => 64 - (intOf c).toNat)
    case atStart => exact ⟨0, by omega, rfl, HR.out⟩
    case round =>
    obtain ⟨k, hk, rfl, hR⟩ := hrel
    have HR' := Lib.hid hR
    clear hR HR
    by_cases hlt : k < 64
    · obtain ⟨⟨c0, c1⟩, ⟨cg, fg⟩, ⟨cq, fq⟩, n1, n2, n3, n4, n5, n6⟩ := rows2_facts HR'.out hlt
      by_cases hc : k < 16
      · have HZ := Lib.hid (show ctZ v m 16 k = bz v m k by unfold ctZ; simp [hc])
        have HO := Lib.hid (show ctO v m 16 k = bo v m k by unfold ctO; simp [hc])
        have hci : (k : Int) < 16 := by omega
        go_wp2_with (go_at_call 32; refine (bit_ref v m k (by omega) _).mono ?_; rintro e w1 ⟨rfl, hb⟩; have HR1 := Lib.hid (rows2_keep (rows2_z HR'.out hlt true) hb); obtain ⟨⟨x0, x1⟩, ⟨xg, yg⟩, ⟨xq, yq⟩, -⟩ := rows2_facts HR1.out hlt; clear hb)
        go_roundw
        case rel =>
          refine ⟨k + 1, by omega, by go_num, rows2_congr (rows2_o (rows2_z HR1.out hlt (bz v m k)) hlt (bo v m k)) (fun i hi => ?_) (fun i hi => rowF_put _ k _ HO.out i)⟩
          rw [← rowF_put _ k _ HZ.out i]
          by_cases e : i = k <;> simp [e]
        case measure => simp [intOf]; omega
      · first
          | omega
          | (have HZ := Lib.hid (show ctZ v m 16 k = true by unfold ctZ; simp [hc])
             have HO := Lib.hid (show ctO v m 16 k = false by unfold ctO; simp [hc])
             have hci : (16 : Int) ≤ k := by omega
             go_wp2
             go_roundw
             case rel =>
               exact ⟨k + 1, by omega, by go_num, rows2_congr (rows2_z HR'.out hlt true) (fun i hi => rowF_put _ k _ HZ.out i) (fun i hi => rowF_skip _ k HO.out i)⟩
             case measure => simp [intOf]; omega)
    · obtain rfl : k = 64 := by omega
      have HR2 := Lib.hid (rows2_congr HR'.out (fun i hi => rowF_all _ i hi) (fun i hi => rowF_all _ i hi))
      go_wp2_with (go_at_call 35; refine (of_ref g q _ _ _ (row_bools HR2.out.2.2.2.2.1) (row_bools HR2.out.2.2.2.2.2) (row_lt HR2.out.2.2.2.2.1) (row_lt HR2.out.2.2.2.2.2)).mono ?_; rintro e w1 ⟨rfl, hb⟩; unfold tnV; have HT1 := Lib.hid (twain_keep HR2.out.2.2.2.1 hb); obtain ⟨d0, d1, e0, e1, _⟩ := blk_facts HT1.out.2.1; clear hb)
      refine bodyPost_ret (v := .agg #[.int .u64 (u (valB (ctZ v m 16) (ctO v m 16))), .int .u64 (u (maskB (ctZ v m 16) (ctO v m 16)))]) (by simp [results, Try.results27, go_sem, d0, d1]) rfl ⟨rfl, ?_⟩
      exact (HT1.out.2.2.setCell (by simp) _).setCell (by simp) _
set_option maxHeartbeats 4000000 in
theorem cutref_4 (v m : B64) (w : World) : Calls Try.prog 27 #[tnV v m, .int .i64 4] w (Gives (tnV (pv (lowB v 32) (lowB m 32)) (lowB m 32)) w) := by
  rw [← ct_val v m 32, ← ct_mask v m 32]
  unfold Gives tnV
  go_enter Try.func27, Try.ntmps27
  go_wp2
  go_cut [5, 6] (fun a b W => ∃ g q : Nat, a = .slice (some ⟨g, 0, none⟩) 64 64 ∧ b = .slice (some ⟨q, 0, none⟩) 64 64 ∧ Rows2 w v m g q (fun _ => false) (fun _ => false) W)
  case first =>
    go_region
    all_goals
      go_wp2
      go_meet
      first | exact ⟨_, _, rfl, rfl, rows2_new w v m false⟩ | exact ⟨_, _, rfl, rfl, rows2_new w v m true⟩
  case rest =>
    obtain ⟨g, q, rfl, rfl, hR0⟩ := hcut
    have HR := Lib.hid (rows2_congr hR0 (fun i _ => rowF_zero (ctZ v m 32) i) (fun i _ => rowF_zero (ctO v m 32) i))
    clear hR0
    go_wp2
    go_loopw [7] (fun c W => ShRel w v m g q (ctZ v m 32) (ctO v m 32) c W) (fun c _ => 64 - (intOf c).toNat)
    case atStart => exact ⟨0, by omega, rfl, HR.out⟩
    case round =>
    obtain ⟨k, hk, rfl, hR⟩ := hrel
    have HR' := Lib.hid hR
    clear hR HR
    by_cases hlt : k < 64
    · obtain ⟨⟨c0, c1⟩, ⟨cg, fg⟩, ⟨cq, fq⟩, n1, n2, n3, n4, n5, n6⟩ := rows2_facts HR'.out hlt
      by_cases hc : k < 32
      · have HZ := Lib.hid (show ctZ v m 32 k = bz v m k by unfold ctZ; simp [hc])
        have HO := Lib.hid (show ctO v m 32 k = bo v m k by unfold ctO; simp [hc])
        have hci : (k : Int) < 32 := by omega
        go_wp2_with (go_at_call 32; refine (bit_ref v m k (by omega) _).mono ?_; rintro e w1 ⟨rfl, hb⟩; have HR1 := Lib.hid (rows2_keep (rows2_z HR'.out hlt true) hb); obtain ⟨⟨x0, x1⟩, ⟨xg, yg⟩, ⟨xq, yq⟩, -⟩ := rows2_facts HR1.out hlt; clear hb)
        go_roundw
        case rel =>
          refine ⟨k + 1, by omega, by go_num, rows2_congr (rows2_o (rows2_z HR1.out hlt (bz v m k)) hlt (bo v m k)) (fun i hi => ?_) (fun i hi => rowF_put _ k _ HO.out i)⟩
          rw [← rowF_put _ k _ HZ.out i]
          by_cases e : i = k <;> simp [e]
        case measure => simp [intOf]; omega
      · first
          | omega
          | (have HZ := Lib.hid (show ctZ v m 32 k = true by unfold ctZ; simp [hc])
             have HO := Lib.hid (show ctO v m 32 k = false by unfold ctO; simp [hc])
             have hci : (32 : Int) ≤ k := by omega
             go_wp2
             go_roundw
             case rel =>
               exact ⟨k + 1, by omega, by go_num, rows2_congr (rows2_z HR'.out hlt true) (fun i hi => rowF_put _ k _ HZ.out i) (fun i hi => rowF_skip _ k HO.out i)⟩
             case measure => simp [intOf]; omega)
    · obtain rfl : k = 64 := by omega
      have HR2 := Lib.hid (rows2_congr HR'.out (fun i hi => rowF_all _ i hi) (fun i hi => rowF_all _ i hi))
      go_wp2_with (go_at_call 35; refine (of_ref g q _ _ _ (row_bools HR2.out.2.2.2.2.1) (row_bools HR2.out.2.2.2.2.2) (row_lt HR2.out.2.2.2.2.1) (row_lt HR2.out.2.2.2.2.2)).mono ?_; rintro e w1 ⟨rfl, hb⟩; unfold tnV; have HT1 := Lib.hid (twain_keep HR2.out.2.2.2.1 hb); obtain ⟨d0, d1, e0, e1, _⟩ := blk_facts HT1.out.2.1; clear hb)
      refine bodyPost_ret (v := .agg #[.int .u64 (u (valB (ctZ v m 32) (ctO v m 32))), .int .u64 (u (maskB (ctZ v m 32) (ctO v m 32)))]) (by simp [results, Try.results27, go_sem, d0, d1]) rfl ⟨rfl, ?_⟩
      exact (HT1.out.2.2.setCell (by simp) _).setCell (by simp) _
set_option maxHeartbeats 4000000 in
theorem cutref_n (v m : B64) (n : Int) (h1 : ¬ n = 1) (h2 : ¬ n = 2) (h4 : ¬ n = 4) (w : World) : Calls Try.prog 27 #[tnV v m, .int .i64 n] w (Gives (tnV (pv (lowB v 64) (lowB m 64)) (lowB m 64)) w) := by
  rw [← ct_val v m 64, ← ct_mask v m 64]
  have g1 : (n != 1) = true := by simpa using h1
  have g2 : (n != 2) = true := by simpa using h2
  have g4 : (n != 4) = true := by simpa using h4
  unfold Gives tnV
  go_enter Try.func27, Try.ntmps27
  go_wp2
  go_cut [5, 6] (fun a b W => ∃ g q : Nat, a = .slice (some ⟨g, 0, none⟩) 64 64 ∧ b = .slice (some ⟨q, 0, none⟩) 64 64 ∧ Rows2 w v m g q (fun _ => false) (fun _ => false) W)
  case first =>
    go_region
    all_goals
      go_wp2
      go_meet
      first | exact ⟨_, _, rfl, rfl, rows2_new w v m false⟩ | exact ⟨_, _, rfl, rfl, rows2_new w v m true⟩
  case rest =>
    obtain ⟨g, q, rfl, rfl, hR0⟩ := hcut
    have HR := Lib.hid (rows2_congr hR0 (fun i _ => rowF_zero (ctZ v m 64) i) (fun i _ => rowF_zero (ctO v m 64) i))
    clear hR0
    go_wp2
    go_loopw [7] (fun c W => ShRel w v m g q (ctZ v m 64) (ctO v m 64) c W) (fun c _ => 64 - (intOf c).toNat)
    case atStart => exact ⟨0, by omega, rfl, HR.out⟩
    case round =>
    obtain ⟨k, hk, rfl, hR⟩ := hrel
    have HR' := Lib.hid hR
    clear hR HR
    by_cases hlt : k < 64
    · obtain ⟨⟨c0, c1⟩, ⟨cg, fg⟩, ⟨cq, fq⟩, n1, n2, n3, n4, n5, n6⟩ := rows2_facts HR'.out hlt
      by_cases hc : k < 64
      · have HZ := Lib.hid (show ctZ v m 64 k = bz v m k by unfold ctZ; simp [hc])
        have HO := Lib.hid (show ctO v m 64 k = bo v m k by unfold ctO; simp [hc])
        have hci : (k : Int) < 64 := by omega
        go_wp2_with (go_at_call 32; refine (bit_ref v m k (by omega) _).mono ?_; rintro e w1 ⟨rfl, hb⟩; have HR1 := Lib.hid (rows2_keep (rows2_z HR'.out hlt true) hb); obtain ⟨⟨x0, x1⟩, ⟨xg, yg⟩, ⟨xq, yq⟩, -⟩ := rows2_facts HR1.out hlt; clear hb)
        go_roundw
        case rel =>
          refine ⟨k + 1, by omega, by go_num, rows2_congr (rows2_o (rows2_z HR1.out hlt (bz v m k)) hlt (bo v m k)) (fun i hi => ?_) (fun i hi => rowF_put _ k _ HO.out i)⟩
          rw [← rowF_put _ k _ HZ.out i]
          by_cases e : i = k <;> simp [e]
        case measure => simp [intOf]; omega
      · first
          | omega
          | (have HZ := Lib.hid (show ctZ v m 64 k = true by unfold ctZ; simp [hc])
             have HO := Lib.hid (show ctO v m 64 k = false by unfold ctO; simp [hc])
             have hci : (64 : Int) ≤ k := by omega
             go_wp2
             go_roundw
             case rel =>
               exact ⟨k + 1, by omega, by go_num, rows2_congr (rows2_z HR'.out hlt true) (fun i hi => rowF_put _ k _ HZ.out i) (fun i hi => rowF_skip _ k HO.out i)⟩
             case measure => simp [intOf]; omega)
    · obtain rfl : k = 64 := by omega
      have HR2 := Lib.hid (rows2_congr HR'.out (fun i hi => rowF_all _ i hi) (fun i hi => rowF_all _ i hi))
      go_wp2_with (go_at_call 35; refine (of_ref g q _ _ _ (row_bools HR2.out.2.2.2.2.1) (row_bools HR2.out.2.2.2.2.2) (row_lt HR2.out.2.2.2.2.1) (row_lt HR2.out.2.2.2.2.2)).mono ?_; rintro e w1 ⟨rfl, hb⟩; unfold tnV; have HT1 := Lib.hid (twain_keep HR2.out.2.2.2.1 hb); obtain ⟨d0, d1, e0, e1, _⟩ := blk_facts HT1.out.2.1; clear hb)
      refine bodyPost_ret (v := .agg #[.int .u64 (u (valB (ctZ v m 64) (ctO v m 64))), .int .u64 (u (maskB (ctZ v m 64) (ctO v m 64)))]) (by simp [results, Try.results27, go_sem, d0, d1]) rfl ⟨rfl, ?_⟩
      exact (HT1.out.2.2.setCell (by simp) _).setCell (by simp) _
theorem cut_ref (v m : B64) (n : Int) (w : World) : Calls Try.prog 27 #[tnV v m, .int .i64 n] w (Gives (tnV (pv (lowB v (bN n)) (lowB m (bN n))) (lowB m (bN n))) w) := by
  by_cases h1 : n = 1
  · subst h1; exact cutref_1 v m w
  by_cases h2 : n = 2
  · subst h2; exact cutref_2 v m w
  by_cases h4 : n = 4
  · subst h4; exact cutref_4 v m w
  have e : bN n = 64 := by unfold bN; rw [if_neg h1, if_neg h2, if_neg h4]
  rw [e]
  exact cutref_n v m n h1 h2 h4 w
end Go.Proofs.Ytkobnlkcfmolpaa
