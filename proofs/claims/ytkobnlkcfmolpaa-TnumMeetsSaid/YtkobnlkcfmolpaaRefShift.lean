/-
  Proved here: what Shift of the document's answers returns. Conditions: the kind is 0, 1 or 2.
-/
import Derived.Test.YtkobnlkcfmolpaaRefRows
namespace Go.Proofs.Ytkobnlkcfmolpaa
open Go.RowKit
attribute [local go_sem] make64

/-- Two rows behind two boxes. -/
def Rows2 (w0 : World) (v m : B64) (g q : Nat) (f h : Nat → Bool) (W : World) : Prop :=
  w0.heap.size + 1 < g ∧ w0.heap.size + 1 < q ∧ g ≠ q ∧ Twain w0 (.int .u64 (u v)) (.int .u64 (u m)) (.int .u64 0) (.int .u64 0) W ∧ RowIs W g f ∧ RowIs W q h
theorem rows2_keep {w0 W W' : World} {v m : B64} {g q : Nat} {f h : Nat → Bool} (hr : Rows2 w0 v m g q f h W) (hb : Below W.heap.size W W') : Rows2 w0 v m g q f h W' := by
  obtain ⟨h1, h2, h3, hT, hf, hh⟩ := hr
  exact ⟨h1, h2, h3, twain_keep hT hb, row_keep hf hb, row_keep hh hb⟩
theorem rows2_z {w0 W : World} {v m : B64} {g q : Nat} {f h : Nat → Bool} (hr : Rows2 w0 v m g q f h W) {k : Nat} (hk : k < 64) (b : Bool) : Rows2 w0 v m g q (fun i => if i = k then b else f i) h (W.setCell ⟨g, k, none⟩ (.bool b)) := by
  obtain ⟨h1, h2, h3, hT, hf, hh⟩ := hr
  exact ⟨h1, h2, h3, twain_far hT h1 _, row_put hf hk b, row_other hh h3 _⟩
theorem rows2_o {w0 W : World} {v m : B64} {g q : Nat} {f h : Nat → Bool} (hr : Rows2 w0 v m g q f h W) {k : Nat} (hk : k < 64) (b : Bool) : Rows2 w0 v m g q f (fun i => if i = k then b else h i) (W.setCell ⟨q, k, none⟩ (.bool b)) := by
  obtain ⟨h1, h2, h3, hT, hf, hh⟩ := hr
  exact ⟨h1, h2, h3, twain_far hT h2 _, row_other hf (Ne.symm h3) _, row_put hh hk b⟩
theorem rows2_congr {w0 W : World} {v m : B64} {g q : Nat} {f h f' h' : Nat → Bool} (hr : Rows2 w0 v m g q f h W) (e1 : ∀ i, i < 64 → f i = f' i) (e2 : ∀ i, i < 64 → h i = h' i) : Rows2 w0 v m g q f' h' W := by
  obtain ⟨h1, h2, h3, hT, hf, hh⟩ := hr
  exact ⟨h1, h2, h3, hT, row_congr hf e1, row_congr hh e2⟩
/-- All that the walk asks of the memory. -/
theorem rows2_facts {w0 W : World} {v m : B64} {g q : Nat} {f h : Nat → Bool} (hr : Rows2 w0 v m g q f h W) {k : Nat} (hk : k < 64) :
    (W.cell? ⟨w0.heap.size, 0, none⟩ = some (.int .u64 (u v)) ∧ W.cell? ⟨w0.heap.size, 1, none⟩ = some (.int .u64 (u m))) ∧
    (W.cell? ⟨g, k, none⟩ = some (.bool (f k)) ∧ W.frozen? ⟨g, k, none⟩ = false) ∧ (W.cell? ⟨q, k, none⟩ = some (.bool (h k)) ∧ W.frozen? ⟨q, k, none⟩ = false) ∧
    ¬ g = q ∧ ¬ q = g ∧ ¬ g = w0.heap.size ∧ ¬ w0.heap.size = g ∧ ¬ q = w0.heap.size ∧ ¬ w0.heap.size = q := by
  obtain ⟨h1, h2, h3, hT, hf, hh⟩ := hr
  have t := twain_cells hT
  exact ⟨⟨t.1, t.2.1⟩, row_at hf hk, row_at hh hk, h3, Ne.symm h3, by omega, by omega, by omega, by omega⟩
theorem rows2_new (w : World) (v m : B64) (swap : Bool) : Rows2 w v m (w.heap.size + 2 + if swap = true then 1 else 0) (w.heap.size + 2 + if swap = true then 0 else 1) (fun _ => false) (fun _ => false)
    ((((w.alloc (Obj.cells #[.int .u64 (u v), .int .u64 (u m)] 24)).alloc (Obj.cells #[.int .u64 0, .int .u64 0] 24)).alloc (.cells zeros64 4)).alloc (.cells zeros64 4)).drew := by
  have hT := twain_new0 w (.int .u64 (u v)) (.int .u64 (u m)) (.int .u64 0) (.int .u64 0)
  have h2 := row_two ((w.alloc (Obj.cells #[.int .u64 (u v), .int .u64 (u m)] 24)).alloc (Obj.cells #[.int .u64 0, .int .u64 0] 24))
  have e : ((w.alloc (Obj.cells #[.int .u64 (u v), .int .u64 (u m)] 24)).alloc (Obj.cells #[.int .u64 0, .int .u64 0] 24)).heap.size = w.heap.size + 2 := by simp
  rw [e] at h2
  have hT' := twain_keep (twain_keep hT (below_box _ (.cells zeros64 4))) (below_box _ (.cells zeros64 4))
  have hT'' : Twain w (.int .u64 (u v)) (.int .u64 (u m)) (.int .u64 0) (.int .u64 0) ((((w.alloc (Obj.cells #[.int .u64 (u v), .int .u64 (u m)] 24)).alloc (Obj.cells #[.int .u64 0, .int .u64 0] 24)).alloc (.cells zeros64 4)).alloc (.cells zeros64 4)).drew := ⟨hT'.1, hT'.2.1, hT'.2.2.drew⟩
  cases swap
  · exact ⟨by simp, by simp, by simp, hT'', h2.1, h2.2⟩
  · exact ⟨by simp, by simp, by simp, hT'', h2.2, h2.1⟩
def ShRel (w0 : World) (v m : B64) (g q : Nat) (Z O : Nat → Bool) (c : Value) (W : World) : Prop := ∃ k : Nat, k ≤ 64 ∧ c = .int .i64 k ∧ Rows2 w0 v m g q (rowF Z k) (rowF O k) W
set_option maxHeartbeats 4000000 in
theorem shift_ref0 (v m n : B64) (w : World) : Calls Try.prog 23 #[.int .i64 0, tnV v m, .int .u64 (u n)] w (Gives (tnV (pv (shX 0 v (n.toNat % 64)) (shX 0 m (n.toNat % 64))) (shX 0 m (n.toNat % 64))) w) := by
  have hn := u_bd n
  obtain ⟨K, hK⟩ : ∃ K : Nat, n.toNat % 64 = K := ⟨_, rfl⟩
  have hK64 : K < 64 := by omega
  have hnK : u n % 64 = (K : Int) := by unfold u; omega
  rw [hK, ← sh_val 0 v m K, ← sh_mask 0 v m K]
  clear hK
  unfold Gives tnV
  go_enter Try.func23, Try.ntmps23
  go_wp2
  go_cut [8, 9] (fun a b W => ∃ g q : Nat, a = .slice (some ⟨g, 0, none⟩) 64 64 ∧ b = .slice (some ⟨q, 0, none⟩) 64 64 ∧ Rows2 w v m g q (fun _ => false) (fun _ => false) W)
  case first =>
    go_region
    all_goals
      go_wp2
      go_meet
      first | exact ⟨_, _, rfl, rfl, rows2_new w v m false⟩ | exact ⟨_, _, rfl, rfl, rows2_new w v m true⟩
  case rest =>
    obtain ⟨g, q, rfl, rfl, hR0⟩ := hcut
    have HR := Lib.hid (rows2_congr hR0 (fun i _ => rowF_zero (shZ 0 v m K) i) (fun i _ => rowF_zero (shO 0 v m K) i))
    clear hR0
    go_wp2
    go_loopw [10] (fun c W => ShRel w v m g q (shZ 0 v m K) (shO 0 v m K) c W) (fun c _ => 64 - (intOf c).toNat)
    case atStart => exact ⟨0, by omega, rfl, HR.out⟩
    case round =>
    obtain ⟨k, hk, rfl, hR⟩ := hrel
    have HR' := Lib.hid hR
    clear hR HR
    by_cases hlt : k < 64
    · obtain ⟨⟨c0, c1⟩, ⟨cg, fg⟩, ⟨cq, fq⟩, n1, n2, n3, n4, n5, n6⟩ := rows2_facts HR'.out hlt
      by_cases hc : K ≤ k
      · have HZ := Lib.hid (show shZ 0 v m K k = bz v m (k - K) by unfold shZ; simp [hc])
        have HO := Lib.hid (show shO 0 v m K k = bo v m (k - K) by unfold shO; simp [hc])
        obtain ⟨J, hJ⟩ : ∃ J : Nat, k - K = J := ⟨_, rfl⟩
        rw [hJ] at HZ HO
        have hR : (k : Int) - (K : Int) = (J : Int) := by omega
        have hJ63 : (J : Int) ≤ 63 := by omega
        clear hJ
        go_wp2_with (go_at_call 32; refine (bit_ref v m J (by omega) _).mono ?_; rintro e w1 ⟨rfl, hb⟩; have HR1 := Lib.hid (rows2_keep (rows2_z HR'.out hlt true) hb); obtain ⟨⟨x0, x1⟩, ⟨xg, yg⟩, ⟨xq, yq⟩, -⟩ := rows2_facts HR1.out hlt; clear hb)
        go_roundw
        case rel =>
          refine ⟨k + 1, by omega, by go_num, rows2_congr (rows2_o (rows2_z HR1.out hlt (bz v m J)) hlt (bo v m J)) (fun i hi => ?_) (fun i hi => rowF_put _ k _ HO.out i)⟩
          rw [← rowF_put _ k _ HZ.out i]
          by_cases e : i = k <;> simp [e]
        case measure => simp [intOf]; omega
      · have HZ := Lib.hid (show shZ 0 v m K k = true by unfold shZ; simp [hc])
        have HO := Lib.hid (show shO 0 v m K k = false by unfold shO; simp [hc])
        obtain ⟨N, hN⟩ : ∃ N : Int, (k : Int) - (K : Int) = N := ⟨_, rfl⟩
        have hN0 : N < 0 := by omega
        go_wp2
        go_roundw
        case rel =>
          exact ⟨k + 1, by omega, by go_num, rows2_congr (rows2_z HR'.out hlt true) (fun i hi => rowF_put _ k _ HZ.out i) (fun i hi => rowF_skip _ k HO.out i)⟩
        case measure => simp [intOf]; omega
    · obtain rfl : k = 64 := by omega
      have HR2 := Lib.hid (rows2_congr HR'.out (fun i hi => rowF_all _ i hi) (fun i hi => rowF_all _ i hi))
      go_wp2_with (go_at_call 35; refine (of_ref g q _ _ _ (row_bools HR2.out.2.2.2.2.1) (row_bools HR2.out.2.2.2.2.2) (row_lt HR2.out.2.2.2.2.1) (row_lt HR2.out.2.2.2.2.2)).mono ?_; rintro e w1 ⟨rfl, hb⟩; unfold tnV; have HT1 := Lib.hid (twain_keep HR2.out.2.2.2.1 hb); obtain ⟨d0, d1, e0, e1, _⟩ := blk_facts HT1.out.2.1; clear hb)
      refine bodyPost_ret (v := .agg #[.int .u64 (u (valB (shZ 0 v m K) (shO 0 v m K))), .int .u64 (u (maskB (shZ 0 v m K) (shO 0 v m K)))]) (by simp [results, Try.results23, go_sem, d0, d1]) rfl ⟨rfl, ?_⟩
      exact (HT1.out.2.2.setCell (by simp) _).setCell (by simp) _
set_option maxHeartbeats 4000000 in
theorem shift_ref1 (v m n : B64) (w : World) : Calls Try.prog 23 #[.int .i64 1, tnV v m, .int .u64 (u n)] w (Gives (tnV (pv (shX 1 v (n.toNat % 64)) (shX 1 m (n.toNat % 64))) (shX 1 m (n.toNat % 64))) w) := by
  have hn := u_bd n
  obtain ⟨K, hK⟩ : ∃ K : Nat, n.toNat % 64 = K := ⟨_, rfl⟩
  have hK64 : K < 64 := by omega
  have hnK : u n % 64 = (K : Int) := by unfold u; omega
  rw [hK, ← sh_val 1 v m K, ← sh_mask 1 v m K]
  clear hK
  unfold Gives tnV
  go_enter Try.func23, Try.ntmps23
  go_wp2
  go_cut [8, 9] (fun a b W => ∃ g q : Nat, a = .slice (some ⟨g, 0, none⟩) 64 64 ∧ b = .slice (some ⟨q, 0, none⟩) 64 64 ∧ Rows2 w v m g q (fun _ => false) (fun _ => false) W)
  case first =>
    go_region
    all_goals
      go_wp2
      go_meet
      first | exact ⟨_, _, rfl, rfl, rows2_new w v m false⟩ | exact ⟨_, _, rfl, rfl, rows2_new w v m true⟩
  case rest =>
    obtain ⟨g, q, rfl, rfl, hR0⟩ := hcut
    have HR := Lib.hid (rows2_congr hR0 (fun i _ => rowF_zero (shZ 1 v m K) i) (fun i _ => rowF_zero (shO 1 v m K) i))
    clear hR0
    go_wp2
    go_loopw [10] (fun c W => ShRel w v m g q (shZ 1 v m K) (shO 1 v m K) c W) (fun c _ => 64 - (intOf c).toNat)
    case atStart => exact ⟨0, by omega, rfl, HR.out⟩
    case round =>
    obtain ⟨k, hk, rfl, hR⟩ := hrel
    have HR' := Lib.hid hR
    clear hR HR
    by_cases hlt : k < 64
    · obtain ⟨⟨c0, c1⟩, ⟨cg, fg⟩, ⟨cq, fq⟩, n1, n2, n3, n4, n5, n6⟩ := rows2_facts HR'.out hlt
      by_cases hc : k + K < 64
      · have HZ := Lib.hid (show shZ 1 v m K k = bz v m (k + K) by unfold shZ; simp [hc])
        have HO := Lib.hid (show shO 1 v m K k = bo v m (k + K) by unfold shO; simp [hc])
        obtain ⟨J, hJ⟩ : ∃ J : Nat, k + K = J := ⟨_, rfl⟩
        rw [hJ] at HZ HO
        have hR : (k : Int) + (K : Int) = (J : Int) := by omega
        have hJ63 : (J : Int) ≤ 63 := by omega
        clear hJ
        go_wp2_with (go_at_call 32; refine (bit_ref v m J (by omega) _).mono ?_; rintro e w1 ⟨rfl, hb⟩; have HR1 := Lib.hid (rows2_keep (rows2_z HR'.out hlt true) hb); obtain ⟨⟨x0, x1⟩, ⟨xg, yg⟩, ⟨xq, yq⟩, -⟩ := rows2_facts HR1.out hlt; clear hb)
        go_roundw
        case rel =>
          refine ⟨k + 1, by omega, by go_num, rows2_congr (rows2_o (rows2_z HR1.out hlt (bz v m J)) hlt (bo v m J)) (fun i hi => ?_) (fun i hi => rowF_put _ k _ HO.out i)⟩
          rw [← rowF_put _ k _ HZ.out i]
          by_cases e : i = k <;> simp [e]
        case measure => simp [intOf]; omega
      · have HZ := Lib.hid (show shZ 1 v m K k = true by unfold shZ; simp [hc])
        have HO := Lib.hid (show shO 1 v m K k = false by unfold shO; simp [hc])
        obtain ⟨N, hN⟩ : ∃ N : Int, (k : Int) + (K : Int) = N := ⟨_, rfl⟩
        have hN0 : 64 ≤ N := by omega
        go_wp2
        go_roundw
        case rel =>
          exact ⟨k + 1, by omega, by go_num, rows2_congr (rows2_z HR'.out hlt true) (fun i hi => rowF_put _ k _ HZ.out i) (fun i hi => rowF_skip _ k HO.out i)⟩
        case measure => simp [intOf]; omega
    · obtain rfl : k = 64 := by omega
      have HR2 := Lib.hid (rows2_congr HR'.out (fun i hi => rowF_all _ i hi) (fun i hi => rowF_all _ i hi))
      go_wp2_with (go_at_call 35; refine (of_ref g q _ _ _ (row_bools HR2.out.2.2.2.2.1) (row_bools HR2.out.2.2.2.2.2) (row_lt HR2.out.2.2.2.2.1) (row_lt HR2.out.2.2.2.2.2)).mono ?_; rintro e w1 ⟨rfl, hb⟩; unfold tnV; have HT1 := Lib.hid (twain_keep HR2.out.2.2.2.1 hb); obtain ⟨d0, d1, e0, e1, _⟩ := blk_facts HT1.out.2.1; clear hb)
      refine bodyPost_ret (v := .agg #[.int .u64 (u (valB (shZ 1 v m K) (shO 1 v m K))), .int .u64 (u (maskB (shZ 1 v m K) (shO 1 v m K)))]) (by simp [results, Try.results23, go_sem, d0, d1]) rfl ⟨rfl, ?_⟩
      exact (HT1.out.2.2.setCell (by simp) _).setCell (by simp) _
set_option maxHeartbeats 4000000 in
theorem shift_ref2 (v m n : B64) (w : World) : Calls Try.prog 23 #[.int .i64 2, tnV v m, .int .u64 (u n)] w (Gives (tnV (pv (shX 2 v (n.toNat % 64)) (shX 2 m (n.toNat % 64))) (shX 2 m (n.toNat % 64))) w) := by
  have hn := u_bd n
  obtain ⟨K, hK⟩ : ∃ K : Nat, n.toNat % 64 = K := ⟨_, rfl⟩
  have hK64 : K < 64 := by omega
  have hnK : u n % 64 = (K : Int) := by unfold u; omega
  rw [hK, ← sh_val 2 v m K, ← sh_mask 2 v m K]
  clear hK
  unfold Gives tnV
  go_enter Try.func23, Try.ntmps23
  go_wp2
  go_cut [8, 9] (fun a b W => ∃ g q : Nat, a = .slice (some ⟨g, 0, none⟩) 64 64 ∧ b = .slice (some ⟨q, 0, none⟩) 64 64 ∧ Rows2 w v m g q (fun _ => false) (fun _ => false) W)
  case first =>
    go_region
    all_goals
      go_wp2
      go_meet
      first | exact ⟨_, _, rfl, rfl, rows2_new w v m false⟩ | exact ⟨_, _, rfl, rfl, rows2_new w v m true⟩
  case rest =>
    obtain ⟨g, q, rfl, rfl, hR0⟩ := hcut
    have HR := Lib.hid (rows2_congr hR0 (fun i _ => rowF_zero (shZ 2 v m K) i) (fun i _ => rowF_zero (shO 2 v m K) i))
    clear hR0
    go_wp2
    go_loopw [10] (fun c W => ShRel w v m g q (shZ 2 v m K) (shO 2 v m K) c W) (fun c _ => 64 - (intOf c).toNat)
    case atStart => exact ⟨0, by omega, rfl, HR.out⟩
    case round =>
    obtain ⟨k, hk, rfl, hR⟩ := hrel
    have HR' := Lib.hid hR
    clear hR HR
    by_cases hlt : k < 64
    · obtain ⟨⟨c0, c1⟩, ⟨cg, fg⟩, ⟨cq, fq⟩, n1, n2, n3, n4, n5, n6⟩ := rows2_facts HR'.out hlt
      by_cases hc : k + K < 64
      · have HZ := Lib.hid (show shZ 2 v m K k = bz v m (k + K) by unfold shZ; simp [hc])
        have HO := Lib.hid (show shO 2 v m K k = bo v m (k + K) by unfold shO; simp [hc])
        obtain ⟨J, hJ⟩ : ∃ J : Nat, k + K = J := ⟨_, rfl⟩
        rw [hJ] at HZ HO
        have hR : (k : Int) + (K : Int) = (J : Int) := by omega
        have hJ63 : (J : Int) ≤ 63 := by omega
        clear hJ
        go_wp2_with (go_at_call 32; refine (bit_ref v m J (by omega) _).mono ?_; rintro e w1 ⟨rfl, hb⟩; have HR1 := Lib.hid (rows2_keep (rows2_z HR'.out hlt true) hb); obtain ⟨⟨x0, x1⟩, ⟨xg, yg⟩, ⟨xq, yq⟩, -⟩ := rows2_facts HR1.out hlt; clear hb)
        go_roundw
        case rel =>
          refine ⟨k + 1, by omega, by go_num, rows2_congr (rows2_o (rows2_z HR1.out hlt (bz v m J)) hlt (bo v m J)) (fun i hi => ?_) (fun i hi => rowF_put _ k _ HO.out i)⟩
          rw [← rowF_put _ k _ HZ.out i]
          by_cases e : i = k <;> simp [e]
        case measure => simp [intOf]; omega
      · have HZ := Lib.hid (show shZ 2 v m K k = bz v m (63) by unfold shZ; simp [hc])
        have HO := Lib.hid (show shO 2 v m K k = bo v m (63) by unfold shO; simp [hc])
        obtain ⟨N, hN⟩ : ∃ N : Int, (k : Int) + (K : Int) = N := ⟨_, rfl⟩
        have hN0 : 64 ≤ N := by omega
        go_wp2_with (go_at_call 32; refine (bit_ref v m 63 (by omega) _).mono ?_; rintro e w1 ⟨rfl, hb⟩; have HR1 := Lib.hid (rows2_keep (rows2_z HR'.out hlt true) hb); obtain ⟨⟨x0, x1⟩, ⟨xg, yg⟩, ⟨xq, yq⟩, -⟩ := rows2_facts HR1.out hlt; clear hb)
        go_roundw
        case rel =>
          refine ⟨k + 1, by omega, by go_num, rows2_congr (rows2_o (rows2_z HR1.out hlt (bz v m 63)) hlt (bo v m 63)) (fun i hi => ?_) (fun i hi => rowF_put _ k _ HO.out i)⟩
          rw [← rowF_put _ k _ HZ.out i]
          by_cases e : i = k <;> simp [e]
        case measure => simp [intOf]; omega
    · obtain rfl : k = 64 := by omega
      have HR2 := Lib.hid (rows2_congr HR'.out (fun i hi => rowF_all _ i hi) (fun i hi => rowF_all _ i hi))
      go_wp2_with (go_at_call 35; refine (of_ref g q _ _ _ (row_bools HR2.out.2.2.2.2.1) (row_bools HR2.out.2.2.2.2.2) (row_lt HR2.out.2.2.2.2.1) (row_lt HR2.out.2.2.2.2.2)).mono ?_; rintro e w1 ⟨rfl, hb⟩; unfold tnV; have HT1 := Lib.hid (twain_keep HR2.out.2.2.2.1 hb); obtain ⟨d0, d1, e0, e1, _⟩ := blk_facts HT1.out.2.1; clear hb)
      refine bodyPost_ret (v := .agg #[.int .u64 (u (valB (shZ 2 v m K) (shO 2 v m K))), .int .u64 (u (maskB (shZ 2 v m K) (shO 2 v m K)))]) (by simp [results, Try.results23, go_sem, d0, d1]) rfl ⟨rfl, ?_⟩
      exact (HT1.out.2.2.setCell (by simp) _).setCell (by simp) _
end Go.Proofs.Ytkobnlkcfmolpaa
