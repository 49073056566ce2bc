/-
  Proved here: what Shift of the document's answers returns. Conditions: the kind is 0, 1 or 2.
-/
import Derived.Test.YtogadmlnmcojpaaRefRows
import Derived.Test.YtogadmlnmcojpaaG3
import Derived.Test.YtogadmlnmcojpaaM0
import Derived.Deep.QuietTactic
import Derived.BigQuiet
import Derived.Test.YtogadmlnmcojpaaRefTwoC
import Derived.Test.YtogadmlnmcojpaaRefTwoD
import Derived.Test.YtogadmlnmcojpaaRefTwoE
import Derived.Test.YtogadmlnmcojpaaRefNum
import Derived.Test.YtogadmlnmcojpaaM4
import Derived.Test.YtogadmlnmcojpaaRefTwoA
import Derived.Deep.RegionWith
import Derived.Test.YtogadmlnmcojpaaRefTwoB
namespace Go.Proofs.Ytogadmlnmcojpaa
open Go.RowKit
attribute [local go_sem] make64

/-- Two rows behind two boxes. -/
def Rows2 (w0 : World) (v m : B64) (g q : Nat) (f h : Nat → Bool) (W : World) : Prop :=
  w0.heap.size + 1 < g ∧ w0.heap.size + 1 < q ∧ g ≠ q ∧ Twain w0 (.int .u64 (u v)) (.int .u64 (u m)) (.int .u64 0) (.int .u64 0) W ∧ RowIs W g f ∧ RowIs W q h
theorem rows2_keep {w0 W W' : World} {v m : B64} {g q : Nat} {f h : Nat → Bool} (hr : Rows2 w0 v m g q f h W) (hb : Below W.heap.size W W') : Rows2 w0 v m g q f h W' := by
  obtain ⟨h1, h2, h3, hT, hf, hh⟩ := hr
  exact ⟨h1, h2, h3, twain_keep hT hb, row_keep hf hb, row_keep hh hb⟩
theorem rows2_z {w0 W : World} {v m : B64} {g q : Nat} {f h : Nat → Bool} (hr : Rows2 w0 v m g q f h W) {k : Nat} (hk : k < 64) (b : Bool) : Rows2 w0 v m g q (fun i => if i = k then b else f i) h (W.setCell ⟨g, k, none⟩ (.bool b)) := by
  obtain ⟨h1, h2, h3, hT, hf, hh⟩ := hr
  exact ⟨h1, h2, h3, twain_far hT h1 _, row_put hf hk b, row_other hh h3 _⟩
theorem rows2_o {w0 W : World} {v m : B64} {g q : Nat} {f h : Nat → Bool} (hr : Rows2 w0 v m g q f h W) {k : Nat} (hk : k < 64) (b : Bool) : Rows2 w0 v m g q f (fun i => if i = k then b else h i) (W.setCell ⟨q, k, none⟩ (.bool b)) := by
  obtain ⟨h1, h2, h3, hT, hf, hh⟩ := hr
  exact ⟨h1, h2, h3, twain_far hT h2 _, row_other hf (Ne.symm h3) _, row_put hh hk b⟩
theorem rows2_congr {w0 W : World} {v m : B64} {g q : Nat} {f h f' h' : Nat → Bool} (hr : Rows2 w0 v m g q f h W) (e1 : ∀ i, i < 64 → f i = f' i) (e2 : ∀ i, i < 64 → h i = h' i) : Rows2 w0 v m g q f' h' W := by
  obtain ⟨h1, h2, h3, hT, hf, hh⟩ := hr
  exact ⟨h1, h2, h3, hT, row_congr hf e1, row_congr hh e2⟩
/-- All that the walk asks of the memory. -/
theorem rows2_facts {w0 W : World} {v m : B64} {g q : Nat} {f h : Nat → Bool} (hr : Rows2 w0 v m g q f h W) {k : Nat} (hk : k < 64) :
    (W.cell? ⟨w0.heap.size, 0, none⟩ = some (.int .u64 (u v)) ∧ W.cell? ⟨w0.heap.size, 1, none⟩ = some (.int .u64 (u m))) ∧
    (W.cell? ⟨g, k, none⟩ = some (.bool (f k)) ∧ W.frozen? ⟨g, k, none⟩ = false) ∧ (W.cell? ⟨q, k, none⟩ = some (.bool (h k)) ∧ W.frozen? ⟨q, k, none⟩ = false) ∧
    ¬ g = q ∧ ¬ q = g ∧ ¬ g = w0.heap.size ∧ ¬ w0.heap.size = g ∧ ¬ q = w0.heap.size ∧ ¬ w0.heap.size = q := by
  obtain ⟨h1, h2, h3, hT, hf, hh⟩ := hr
  have t := twain_cells hT
  exact ⟨⟨t.1, t.2.1⟩, row_at hf hk, row_at hh hk, h3, Ne.symm h3, by omega, by omega, by omega, by omega⟩
theorem rows2_new (w : World) (v m : B64) (swap : Bool) : Rows2 w v m (w.heap.size + 2 + if swap = true then 1 else 0) (w.heap.size + 2 + if swap = true then 0 else 1) (fun _ => false) (fun _ => false)
    ((((w.alloc (Obj.cells #[.int .u64 (u v), .int .u64 (u m)] 24)).alloc (Obj.cells #[.int .u64 0, .int .u64 0] 24)).alloc (.cells zeros64 4)).alloc (.cells zeros64 4)).drew := by
  have hT := twain_new0 w (.int .u64 (u v)) (.int .u64 (u m)) (.int .u64 0) (.int .u64 0)
  have h2 := row_two ((w.alloc (Obj.cells #[.int .u64 (u v), .int .u64 (u m)] 24)).alloc (Obj.cells #[.int .u64 0, .int .u64 0] 24))
  have e : ((w.alloc (Obj.cells #[.int .u64 (u v), .int .u64 (u m)] 24)).alloc (Obj.cells #[.int .u64 0, .int .u64 0] 24)).heap.size = w.heap.size + 2 := by simp
  rw [e] at h2
  have hT' := twain_keep (twain_keep hT (below_box _ (.cells zeros64 4))) (below_box _ (.cells zeros64 4))
  have hT'' : Twain w (.int .u64 (u v)) (.int .u64 (u m)) (.int .u64 0) (.int .u64 0) ((((w.alloc (Obj.cells #[.int .u64 (u v), .int .u64 (u m)] 24)).alloc (Obj.cells #[.int .u64 0, .int .u64 0] 24)).alloc (.cells zeros64 4)).alloc (.cells zeros64 4)).drew := ⟨hT'.1, hT'.2.1, hT'.2.2.drew⟩
  cases swap
  · exact ⟨by simp, by simp, by simp, hT'', h2.1, h2.2⟩
  · exact ⟨by simp, by simp, by simp, hT'', h2.2, h2.1⟩
def ShRel (w0 : World) (v m : B64) (g q : Nat) (Z O : Nat → Bool) (c : Value) (W : World) : Prop := ∃ k : Nat, k ≤ 64 ∧ c = .int .i64 k ∧ Rows2 w0 v m g q (rowF Z k) (rowF O k) W
set_option maxHeartbeats 4000000 in
theorem shift_ref0 (v m n : B64) (w : World) : Calls Try.prog 45 #[.int .i64 0, tnV v m, .int .u64 (u n)] w (Gives (tnV (pv (shX 0 v (n.toNat % 64)) (shX 0 m (n.toNat % 64))) (shX 0 m (n.toNat % 64))) w) := by
  have hn := u_bd n
  obtain ⟨K, hK⟩ : ∃ K : Nat, n.toNat % 64 = K := ⟨_, rfl⟩
  have hK64 : K < 64 := by omega
  have hnK : u n % 64 = (K : Int) := by unfold u; omega
  rw [hK, ← sh_val 0 v m K, ← sh_mask 0 v m K]
  clear hK
  unfold Gives tnV
  go_enter Try.func45, Try.ntmps45
  go_wp2
  go_cut [8, 9] (fun a b W => ∃ g q : Nat, a = .slice (some ⟨g, 0, none⟩) 64 64 ∧ b = .slice (some ⟨q, 0, none⟩) 64 64 ∧ Rows2 w v m g q (fun _ => false) (fun _ => false) W)
  case first =>
    go_region
    all_goals
      go_wp2
      go_meet
      first | exact ⟨_, _, rfl, rfl, rows2_new w v m false⟩ | exact ⟨_, _, rfl, rfl, rows2_new w v m true⟩
  case rest =>
    obtain ⟨g, q, rfl, rfl, hR0⟩ := hcut
    have HR := Lib.hid (rows2_congr hR0 (fun i _ => rowF_zero (shZ 0 v m K) i) (fun i _ => rowF_zero (shO 0 v m K) i))
    clear hR0
    go_wp2
    go_loopw [10] (fun c W => ShRel w v m g q (shZ 0 v m K) (shO 0 v m K) c W) (fun c _ => 64 - (intOf c).toNat)
    case atStart => exact ⟨0, by omega, rfl, HR.out⟩
    case round =>
    obtain ⟨k, hk, rfl, hR⟩ := hrel
    have HR' := Lib.hid hR
    clear hR HR
    by_cases hlt : k < 64
    · obtain ⟨⟨c0, c1⟩, ⟨cg, fg⟩, ⟨cq, fq⟩, n1, n2, n3, n4, n5, n6⟩ := rows2_facts HR'.out hlt
      by_cases hc : K ≤ k
      · have HZ := Lib.hid (show shZ 0 v m K k = bz v m (k - K) by unfold shZ; simp [hc])
        have HO := Lib.hid (show shO 0 v m K k = bo v m (k - K) by unfold shO; simp [hc])
        obtain ⟨J, hJ⟩ : ∃ J : Nat, k - K = J := ⟨_, rfl⟩
        rw [hJ] at HZ HO
        have hR : (k : Int) - (K : Int) = (J : Int) := by omega
        have hJ63 : (J : Int) ≤ 63 := by omega
        clear hJ
        go_wp2_with (go_at_call 46; refine (bit_ref v m J (by omega) _).mono ?_; rintro e w1 ⟨rfl, hb⟩; have HR1 := Lib.hid (rows2_keep (rows2_z HR'.out hlt true) hb); obtain ⟨⟨x0, x1⟩, ⟨xg, yg⟩, ⟨xq, yq⟩, -⟩ := rows2_facts HR1.out hlt; clear hb)
        go_roundw
        case rel =>
          refine ⟨k + 1, by omega, by go_num, rows2_congr (rows2_o (rows2_z HR1.out hlt (bz v m J)) hlt (bo v m J)) (fun i hi => ?_) (fun i hi => rowF_put _ k _ HO.out i)⟩
          rw [← rowF_put _ k _ HZ.out i]
          by_cases e : i = k <;> simp [e]
        case measure => simp [intOf]; omega
      · have HZ := Lib.hid (show shZ 0 v m K k = true by unfold shZ; simp [hc])
        have HO := Lib.hid (show shO 0 v m K k = false by unfold shO; simp [hc])
        obtain ⟨N, hN⟩ : ∃ N : Int, (k : Int) - (K : Int) = N := ⟨_, rfl⟩
        have hN0 : N < 0 := by omega
        go_wp2
        go_roundw
        case rel =>
          exact ⟨k + 1, by omega, by go_num, rows2_congr (rows2_z HR'.out hlt true) (fun i hi => rowF_put _ k _ HZ.out i) (fun i hi => rowF_skip _ k HO.out i)⟩
        case measure => simp [intOf]; omega
    · obtain rfl : k = 64 := by omega
      have HR2 := Lib.hid (rows2_congr HR'.out (fun i hi => rowF_all _ i hi) (fun i hi => rowF_all _ i hi))
      go_wp2_with (go_at_call 68; refine (of_ref g q _ _ _ (row_bools HR2.out.2.2.2.2.1) (row_bools HR2.out.2.2.2.2.2) (row_lt HR2.out.2.2.2.2.1) (row_lt HR2.out.2.2.2.2.2)).mono ?_; rintro e w1 ⟨rfl, hb⟩; unfold tnV; have HT1 := Lib.hid (twain_keep HR2.out.2.2.2.1 hb); obtain ⟨d0, d1, e0, e1, _⟩ := blk_facts HT1.out.2.1; clear hb)
      refine bodyPost_ret (v := .agg #[.int .u64 (u (valB (shZ 0 v m K) (shO 0 v m K))), .int .u64 (u (maskB (shZ 0 v m K) (shO 0 v m K)))]) (by simp [results, Try.results45, go_sem, d0, d1]) rfl ⟨rfl, ?_⟩
      exact (HT1.out.2.2.setCell (by simp) _).setCell (by simp) _
set_option maxHeartbeats 4000000 in
theorem shift_ref1 (v m n : B64) (w : World) : Calls Try.prog 45 #[.int .i64 1, tnV v m, .int .u64 (u n)] w (Gives (tnV (pv (shX 1 v (n.toNat % 64)) (shX 1 m (n.toNat % 64))) (shX 1 m (n.toNat % 64))) w) := by
  have hn := u_bd n
  obtain ⟨K, hK⟩ : ∃ K : Nat, n.toNat % 64 = K := ⟨_, rfl⟩
  have hK64 : K < 64 := by omega
  have hnK : u n % 64 = (K : Int) := by unfold u; omega
  rw [hK, ← sh_val 1 v m K, ← sh_mask 1 v m K]
  clear hK
  unfold Gives tnV
  go_enter Try.func45, Try.ntmps45
  go_wp2
  go_cut [8, 9] (fun a b W => ∃ g q : Nat, a = .slice (some ⟨g, 0, none⟩) 64 64 ∧ b = .slice (some ⟨q, 0, none⟩) 64 64 ∧ Rows2 w v m g q (fun _ => false) (fun _ => false) W)
  case first =>
    go_region
    all_goals
      go_wp2
      go_meet
      first | exact ⟨_, _, rfl, rfl, rows2_new w v m false⟩ | exact ⟨_, _, rfl, rfl, rows2_new w v m true⟩
  case rest =>
    obtain ⟨g, q, rfl, rfl, hR0⟩ := hcut
    have HR := Lib.hid (rows2_congr hR0 (fun i _ => rowF_zero (shZ 1 v m K) i) (fun i _ => rowF_zero (shO 1 v m K) i))
    clear hR0
    go_wp2
    go_loopw [10] (fun c W => ShRel w v m g q (shZ 1 v m K) (shO 1 v m K) c W) (fun c _ => 64 - (intOf c).toNat)
    case atStart => exact ⟨0, by omega, rfl, HR.out⟩
    case round =>
    obtain ⟨k, hk, rfl, hR⟩ := hrel
    have HR' := Lib.hid hR
    clear hR HR
    by_cases hlt : k < 64
    · obtain ⟨⟨c0, c1⟩, ⟨cg, fg⟩, ⟨cq, fq⟩, n1, n2, n3, n4, n5, n6⟩ := rows2_facts HR'.out hlt
      by_cases hc : k + K < 64
      · have HZ := Lib.hid (show shZ 1 v m K k = bz v m (k + K) by unfold shZ; simp [hc])
        have HO := Lib.hid (show shO 1 v m K k = bo v m (k + K) by unfold shO; simp [hc])
        obtain ⟨J, hJ⟩ : ∃ J : Nat, k + K = J := ⟨_, rfl⟩
        rw [hJ] at HZ HO
        have hR : (k : Int) + (K : Int) = (J : Int) := by omega
        have hJ63 : (J : Int) ≤ 63 := by omega
        clear hJ
        go_wp2_with (go_at_call 46; refine (bit_ref v m J (by omega) _).mono ?_; rintro e w1 ⟨rfl, hb⟩; have HR1 := Lib.hid (rows2_keep (rows2_z HR'.out hlt true) hb); obtain ⟨⟨x0, x1⟩, ⟨xg, yg⟩, ⟨xq, yq⟩, -⟩ := rows2_facts HR1.out hlt; clear hb)
        go_roundw
        case rel =>
          refine ⟨k + 1, by omega, by go_num, rows2_congr (rows2_o (rows2_z HR1.out hlt (bz v m J)) hlt (bo v m J)) (fun i hi => ?_) (fun i hi => rowF_put _ k _ HO.out i)⟩
          rw [← rowF_put _ k _ HZ.out i]
          by_cases e : i = k <;> simp [e]
        case measure => simp [intOf]; omega
      · have HZ := Lib.hid (show shZ 1 v m K k = true by unfold shZ; simp [hc])
        have HO := Lib.hid (show shO 1 v m K k = false by unfold shO; simp [hc])
        obtain ⟨N, hN⟩ : ∃ N : Int, (k : Int) + (K : Int) = N := ⟨_, rfl⟩
        have hN0 : 64 ≤ N := by omega
        go_wp2
        go_roundw
        case rel =>
          exact ⟨k + 1, by omega, by go_num, rows2_congr (rows2_z HR'.out hlt true) (fun i hi => rowF_put _ k _ HZ.out i) (fun i hi => rowF_skip _ k HO.out i)⟩
        case measure => simp [intOf]; omega
    · obtain rfl : k = 64 := by omega
      have HR2 := Lib.hid (rows2_congr HR'.out (fun i hi => rowF_all _ i hi) (fun i hi => rowF_all _ i hi))
      go_wp2_with (go_at_call 68; refine (of_ref g q _ _ _ (row_bools HR2.out.2.2.2.2.1) (row_bools HR2.out.2.2.2.2.2) (row_lt HR2.out.2.2.2.2.1) (row_lt HR2.out.2.2.2.2.2)).mono ?_; rintro e w1 ⟨rfl, hb⟩; unfold tnV; have HT1 := Lib.hid (twain_keep HR2.out.2.2.2.1 hb); obtain ⟨d0, d1, e0, e1, _⟩ := blk_facts HT1.out.2.1; clear hb)
      refine bodyPost_ret (v := .agg #[.int .u64 (u (valB (shZ 1 v m K) (shO 1 v m K))), .int .u64 (u (maskB (shZ 1 v m K) (shO 1 v m K)))]) (by simp [results, Try.results45, go_sem, d0, d1]) rfl ⟨rfl, ?_⟩
      exact (HT1.out.2.2.setCell (by simp) _).setCell (by simp) _
set_option maxHeartbeats 4000000 in
theorem shift_ref2 (v m n : B64) (w : World) : Calls Try.prog 45 #[.int .i64 2, tnV v m, .int .u64 (u n)] w (Gives (tnV (pv (shX 2 v (n.toNat % 64)) (shX 2 m (n.toNat % 64))) (shX 2 m (n.toNat % 64))) w) := by
  have hn := u_bd n
  obtain ⟨K, hK⟩ : ∃ K : Nat, n.toNat % 64 = K := ⟨_, rfl⟩
  have hK64 : K < 64 := by omega
  have hnK : u n % 64 = (K : Int) := by unfold u; omega
  rw [hK, ← sh_val 2 v m K, ← sh_mask 2 v m K]
  clear hK
  unfold Gives tnV
  go_enter Try.func45, Try.ntmps45
  go_wp2
  go_cut [8, 9] (fun a b W => ∃ g q : Nat, a = .slice (some ⟨g, 0, none⟩) 64 64 ∧ b = .slice (some ⟨q, 0, none⟩) 64 64 ∧ Rows2 w v m g q (fun _ => false) (fun _ => false) W)
  case first =>
    go_region
    all_goals
      go_wp2
      go_meet
      first | exact ⟨_, _, rfl, rfl, rows2_new w v m false⟩ | exact ⟨_, _, rfl, rfl, rows2_new w v m true⟩
  case rest =>
    obtain ⟨g, q, rfl, rfl, hR0⟩ := hcut
    have HR := Lib.hid (rows2_congr hR0 (fun i _ => rowF_zero (shZ 2 v m K) i) (fun i _ => rowF_zero (shO 2 v m K) i))
    clear hR0
    go_wp2
    go_loopw [10] (fun c W => ShRel w v m g q (shZ 2 v m K) (shO 2 v m K) c W) (fun c _ => 64 - (intOf c).toNat)
    case atStart => exact ⟨0, by omega, rfl, HR.out⟩
    case round =>
    obtain ⟨k, hk, rfl, hR⟩ := hrel
    have HR' := Lib.hid hR
    clear hR HR
    by_cases hlt : k < 64
    · obtain ⟨⟨c0, c1⟩, ⟨cg, fg⟩, ⟨cq, fq⟩, n1, n2, n3, n4, n5, n6⟩ := rows2_facts HR'.out hlt
      by_cases hc : k + K < 64
      · have HZ := Lib.hid (show shZ 2 v m K k = bz v m (k + K) by unfold shZ; simp [hc])
        have HO := Lib.hid (show shO 2 v m K k = bo v m (k + K) by unfold shO; simp [hc])
        obtain ⟨J, hJ⟩ : ∃ J : Nat, k + K = J := ⟨_, rfl⟩
        rw [hJ] at HZ HO
        have hR : (k : Int) + (K : Int) = (J : Int) := by omega
        have hJ63 : (J : Int) ≤ 63 := by omega
        clear hJ
        go_wp2_with (go_at_call 46; refine (bit_ref v m J (by omega) _).mono ?_; rintro e w1 ⟨rfl, hb⟩; have HR1 := Lib.hid (rows2_keep (rows2_z HR'.out hlt true) hb); obtain ⟨⟨x0, x1⟩, ⟨xg, yg⟩, ⟨xq, yq⟩, -⟩ := rows2_facts HR1.out hlt; clear hb)
        go_roundw
        case rel =>
          refine ⟨k + 1, by omega, by go_num, rows2_congr (rows2_o (rows2_z HR1.out hlt (bz v m J)) hlt (bo v m J)) (fun i hi => ?_) (fun i hi => rowF_put _ k _ HO.out i)⟩
          rw [← rowF_put _ k _ HZ.out i]
          by_cases e : i = k <;> simp [e]
        case measure => simp [intOf]; omega
      · have HZ := Lib.hid (show shZ 2 v m K k = bz v m (63) by unfold shZ; simp [hc])
        have HO := Lib.hid (show shO 2 v m K k = bo v m (63) by unfold shO; simp [hc])
        obtain ⟨N, hN⟩ : ∃ N : Int, (k : Int) + (K : Int) = N := ⟨_, rfl⟩
        have hN0 : 64 ≤ N := by omega
        go_wp2_with (go_at_call 46; refine (bit_ref v m 63 (by omega) _).mono ?_; rintro e w1 ⟨rfl, hb⟩; have HR1 := Lib.hid (rows2_keep (rows2_z HR'.out hlt true) hb); obtain ⟨⟨x0, x1⟩, ⟨xg, yg⟩, ⟨xq, yq⟩, -⟩ := rows2_facts HR1.out hlt; clear hb)
        go_roundw
        case rel =>
          refine ⟨k + 1, by omega, by go_num, rows2_congr (rows2_o (rows2_z HR1.out hlt (bz v m 63)) hlt (bo v m 63)) (fun i hi => ?_) (fun i hi => rowF_put _ k _ HO.out i)⟩
          rw [← rowF_put _ k _ HZ.out i]
          by_cases e : i = k <;> simp [e]
        case measure => simp [intOf]; omega
    · obtain rfl : k = 64 := by omega
      have HR2 := Lib.hid (rows2_congr HR'.out (fun i hi => rowF_all _ i hi) (fun i hi => rowF_all _ i hi))
      go_wp2_with (go_at_call 68; refine (of_ref g q _ _ _ (row_bools HR2.out.2.2.2.2.1) (row_bools HR2.out.2.2.2.2.2) (row_lt HR2.out.2.2.2.2.1) (row_lt HR2.out.2.2.2.2.2)).mono ?_; rintro e w1 ⟨rfl, hb⟩; unfold tnV; have HT1 := Lib.hid (twain_keep HR2.out.2.2.2.1 hb); obtain ⟨d0, d1, e0, e1, _⟩ := blk_facts HT1.out.2.1; clear hb)
      refine bodyPost_ret (v := .agg #[.int .u64 (u (valB (shZ 2 v m K) (shO 2 v m K))), .int .u64 (u (maskB (shZ 2 v m K) (shO 2 v m K)))]) (by simp [results, Try.results45, go_sem, d0, d1]) rfl ⟨rfl, ?_⟩
      exact (HT1.out.2.2.setCell (by simp) _).setCell (by simp) _
end Go.Proofs.Ytogadmlnmcojpaa

/-
  Proved here: what Cut of the document's answers returns. Conditions: none.
-/
namespace Go.Proofs.Ytogadmlnmcojpaa
open Go.RowKit
attribute [local go_sem] make64

/-- What Cut's loop does, once n is a size (8 where it was none). -/
theorem bN_1 : bN 1 = 8 := rfl
theorem bN_2 : bN 2 = 16 := rfl
theorem bN_4 : bN 4 = 32 := rfl
set_option maxHeartbeats 4000000 in
theorem cutref_1 (v m : B64) (w : World) : Calls Try.prog 41 #[tnV v m, .int .i64 1] w (Gives (tnV (pv (lowB v 8) (lowB m 8)) (lowB m 8)) w) := by
  rw [← ct_val v m 8, ← ct_mask v m 8]
  unfold Gives tnV
  go_enter Try.func41, Try.ntmps41
  go_wp2
  go_cut [5, 6] (fun a b W => ∃ g q : Nat, a = .slice (some ⟨g, 0, none⟩) 64 64 ∧ b = .slice (some ⟨q, 0, none⟩) 64 64 ∧ Rows2 w v m g q (fun _ => false) (fun _ => false) W)
  case first =>
    go_region
    all_goals
      go_wp2
      go_meet
      first | exact ⟨_, _, rfl, rfl, rows2_new w v m false⟩ | exact ⟨_, _, rfl, rfl, rows2_new w v m true⟩
  case rest =>
    obtain ⟨g, q, rfl, rfl, hR0⟩ := hcut
    have HR := Lib.hid (rows2_congr hR0 (fun i _ => rowF_zero (ctZ v m 8) i) (fun i _ => rowF_zero (ctO v m 8) i))
    clear hR0
    go_wp2
    go_loopw [7] (fun c W => ShRel w v m g q (ctZ v m 8) (ctO v m 8) c W) (fun c _ => 64 - (intOf c).toNat)
    case atStart => exact ⟨0, by omega, rfl, HR.out⟩
    case round =>
    obtain ⟨k, hk, rfl, hR⟩ := hrel
    have HR' := Lib.hid hR
    clear hR HR
    by_cases hlt : k < 64
    · obtain ⟨⟨c0, c1⟩, ⟨cg, fg⟩, ⟨cq, fq⟩, n1, n2, n3, n4, n5, n6⟩ := rows2_facts HR'.out hlt
      by_cases hc : k < 8
      · have HZ := Lib.hid (show ctZ v m 8 k = bz v m k by unfold ctZ; simp [hc])
        have HO := Lib.hid (show ctO v m 8 k = bo v m k by unfold ctO; simp [hc])
        have hci : (k : Int) < 8 := by omega
        go_wp2_with (go_at_call 46; refine (bit_ref v m k (by omega) _).mono ?_; rintro e w1 ⟨rfl, hb⟩; have HR1 := Lib.hid (rows2_keep (rows2_z HR'.out hlt true) hb); obtain ⟨⟨x0, x1⟩, ⟨xg, yg⟩, ⟨xq, yq⟩, -⟩ := rows2_facts HR1.out hlt; clear hb)
        go_roundw
        case rel =>
          refine ⟨k + 1, by omega, by go_num, rows2_congr (rows2_o (rows2_z HR1.out hlt (bz v m k)) hlt (bo v m k)) (fun i hi => ?_) (fun i hi => rowF_put _ k _ HO.out i)⟩
          rw [← rowF_put _ k _ HZ.out i]
          by_cases e : i = k <;> simp [e]
        case measure => simp [intOf]; omega
      · first
          | omega
          | (have HZ := Lib.hid (show ctZ v m 8 k = true by unfold ctZ; simp [hc])
             have HO := Lib.hid (show ctO v m 8 k = false by unfold ctO; simp [hc])
             have hci : (8 : Int) ≤ k := by omega
             go_wp2
             go_roundw
             case rel =>
               exact ⟨k + 1, by omega, by go_num, rows2_congr (rows2_z HR'.out hlt true) (fun i hi => rowF_put _ k _ HZ.out i) (fun i hi => rowF_skip _ k HO.out i)⟩
             case measure => simp [intOf]; omega)
    · obtain rfl : k = 64 := by omega
      have HR2 := Lib.hid (rows2_congr HR'.out (fun i hi => rowF_all _ i hi) (fun i hi => rowF_all _ i hi))
      go_wp2_with (go_at_call 68; refine (of_ref g q _ _ _ (row_bools HR2.out.2.2.2.2.1) (row_bools HR2.out.2.2.2.2.2) (row_lt HR2.out.2.2.2.2.1) (row_lt HR2.out.2.2.2.2.2)).mono ?_; rintro e w1 ⟨rfl, hb⟩; unfold tnV; have HT1 := Lib.hid (twain_keep HR2.out.2.2.2.1 hb); obtain ⟨d0, d1, e0, e1, _⟩ := blk_facts HT1.out.2.1; clear hb)
      refine bodyPost_ret (v := .agg #[.int .u64 (u (valB (ctZ v m 8) (ctO v m 8))), .int .u64 (u (maskB (ctZ v m 8) (ctO v m 8)))]) (by simp [results, Try.results41, go_sem, d0, d1]) rfl ⟨rfl, ?_⟩
      exact (HT1.out.2.2.setCell (by simp) _).setCell (by simp) _
set_option maxHeartbeats 4000000 in
theorem cutref_2 (v m : B64) (w : World) : Calls Try.prog 41 #[tnV v m, .int .i64 2] w (Gives (tnV (pv (lowB v 16) (lowB m 16)) (lowB m 16)) w) := by
  rw [← ct_val v m 16, ← ct_mask v m 16]
  unfold Gives tnV
  go_enter Try.func41, Try.ntmps41
  go_wp2
  go_cut [5, 6] (fun a b W => ∃ g q : Nat, a = .slice (some ⟨g, 0, none⟩) 64 64 ∧ b = .slice (some ⟨q, 0, none⟩) 64 64 ∧ Rows2 w v m g q (fun _ => false) (fun _ => false) W)
  case first =>
    go_region
    all_goals
      go_wp2
      go_meet
      first | exact ⟨_, _, rfl, rfl, rows2_new w v m false⟩ | exact ⟨_, _, rfl, rfl, rows2_new w v m true⟩
  case rest =>
    obtain ⟨g, q, rfl, rfl, hR0⟩ := hcut
    have HR := Lib.hid (rows2_congr hR0 (fun i _ => rowF_zero (ctZ v m 16) i) (fun i _ => rowF_zero (ctO v m 16) i))
    clear hR0
    go_wp2
    go_loopw [7] (fun c W => ShRel w v m g q (ctZ v m 16) (ctO v m 16) c W) (fun c _ => 64 - (intOf c).toNat)
    case atStart => exact ⟨0, by omega, rfl, HR.out⟩
    case round =>
    obtain ⟨k, hk, rfl, hR⟩ := hrel
    have HR' := Lib.hid hR
    clear hR HR
    by_cases hlt : k < 64
    · obtain ⟨⟨c0, c1⟩, ⟨cg, fg⟩, ⟨cq, fq⟩, n1, n2, n3, n4, n5, n6⟩ := rows2_facts HR'.out hlt
      by_cases hc : k < 16
      · have HZ := Lib.hid (show ctZ v m 16 k = bz v m k by unfold ctZ; simp [hc])
        have HO := Lib.hid (show ctO v m 16 k = bo v m k by unfold ctO; simp [hc])
        have hci : (k : Int) < 16 := by omega
        go_wp2_with (go_at_call 46; refine (bit_ref v m k (by omega) _).mono ?_; rintro e w1 ⟨rfl, hb⟩; have HR1 := Lib.hid (rows2_keep (rows2_z HR'.out hlt true) hb); obtain ⟨⟨x0, x1⟩, ⟨xg, yg⟩, ⟨xq, yq⟩, -⟩ := rows2_facts HR1.out hlt; clear hb)
        go_roundw
        case rel =>
          refine ⟨k + 1, by omega, by go_num, rows2_congr (rows2_o (rows2_z HR1.out hlt (bz v m k)) hlt (bo v m k)) (fun i hi => ?_) (fun i hi => rowF_put _ k _ HO.out i)⟩
          rw [← rowF_put _ k _ HZ.out i]
          by_cases e : i = k <;> simp [e]
        case measure => simp [intOf]; omega
      · first
          | omega
          | (have HZ := Lib.hid (show ctZ v m 16 k = true by unfold ctZ; simp [hc])
             have HO := Lib.hid (show ctO v m 16 k = false by unfold ctO; simp [hc])
             have hci : (16 : Int) ≤ k := by omega
             go_wp2
             go_roundw
             case rel =>
               exact ⟨k + 1, by omega, by go_num, rows2_congr (rows2_z HR'.out hlt true) (fun i hi => rowF_put _ k _ HZ.out i) (fun i hi => rowF_skip _ k HO.out i)⟩
             case measure => simp [intOf]; omega)
    · obtain rfl : k = 64 := by omega
      have HR2 := Lib.hid (rows2_congr HR'.out (fun i hi => rowF_all _ i hi) (fun i hi => rowF_all _ i hi))
      go_wp2_with (go_at_call 68; refine (of_ref g q _ _ _ (row_bools HR2.out.2.2.2.2.1) (row_bools HR2.out.2.2.2.2.2) (row_lt HR2.out.2.2.2.2.1) (row_lt HR2.out.2.2.2.2.2)).mono ?_; rintro e w1 ⟨rfl, hb⟩; unfold tnV; have HT1 := Lib.hid (twain_keep HR2.out.2.2.2.1 hb); obtain ⟨d0, d1, e0, e1, _⟩ := blk_facts HT1.out.2.1; clear hb)
      refine bodyPost_ret (v := .agg #[.int .u64 (u (valB (ctZ v m 16) (ctO v m 16))), .int .u64 (u (maskB (ctZ v m 16) (ctO v m 16)))]) (by simp [results, Try.results41, go_sem, d0, d1]) rfl ⟨rfl, ?_⟩
      exact (HT1.out.2.2.setCell (by simp) _).setCell (by simp) _
set_option maxHeartbeats 4000000 in
theorem cutref_4 (v m : B64) (w : World) : Calls Try.prog 41 #[tnV v m, .int .i64 4] w (Gives (tnV (pv (lowB v 32) (lowB m 32)) (lowB m 32)) w) := by
  rw [← ct_val v m 32, ← ct_mask v m 32]
  unfold Gives tnV
  go_enter Try.func41, Try.ntmps41
  go_wp2
  go_cut [5, 6] (fun a b W => ∃ g q : Nat, a = .slice (some ⟨g, 0, none⟩) 64 64 ∧ b = .slice (some ⟨q, 0, none⟩) 64 64 ∧ Rows2 w v m g q (fun _ => false) (fun _ => false) W)
  case first =>
    go_region
    all_goals
      go_wp2
      go_meet
      first | exact ⟨_, _, rfl, rfl, rows2_new w v m false⟩ | exact ⟨_, _, rfl, rfl, rows2_new w v m true⟩
  case rest =>
    obtain ⟨g, q, rfl, rfl, hR0⟩ := hcut
    have HR := Lib.hid (rows2_congr hR0 (fun i _ => rowF_zero (ctZ v m 32) i) (fun i _ => rowF_zero (ctO v m 32) i))
    clear hR0
    go_wp2
    go_loopw [7] (fun c W => ShRel w v m g q (ctZ v m 32) (ctO v m 32) c W) (fun c _ => 64 - (intOf c).toNat)
    case atStart => exact ⟨0, by omega, rfl, HR.out⟩
    case round =>
    obtain ⟨k, hk, rfl, hR⟩ := hrel
    have HR' := Lib.hid hR
    clear hR HR
    by_cases hlt : k < 64
    · obtain ⟨⟨c0, c1⟩, ⟨cg, fg⟩, ⟨cq, fq⟩, n1, n2, n3, n4, n5, n6⟩ := rows2_facts HR'.out hlt
      by_cases hc : k < 32
      · have HZ := Lib.hid (show ctZ v m 32 k = bz v m k by unfold ctZ; simp [hc])
        have HO := Lib.hid (show ctO v m 32 k = bo v m k by unfold ctO; simp [hc])
        have hci : (k : Int) < 32 := by omega
        go_wp2_with (go_at_call 46; refine (bit_ref v m k (by omega) _).mono ?_; rintro e w1 ⟨rfl, hb⟩; have HR1 := Lib.hid (rows2_keep (rows2_z HR'.out hlt true) hb); obtain ⟨⟨x0, x1⟩, ⟨xg, yg⟩, ⟨xq, yq⟩, -⟩ := rows2_facts HR1.out hlt; clear hb)
        go_roundw
        case rel =>
          refine ⟨k + 1, by omega, by go_num, rows2_congr (rows2_o (rows2_z HR1.out hlt (bz v m k)) hlt (bo v m k)) (fun i hi => ?_) (fun i hi => rowF_put _ k _ HO.out i)⟩
          rw [← rowF_put _ k _ HZ.out i]
          by_cases e : i = k <;> simp [e]
        case measure => simp [intOf]; omega
      · first
          | omega
          | (have HZ := Lib.hid (show ctZ v m 32 k = true by unfold ctZ; simp [hc])
             have HO := Lib.hid (show ctO v m 32 k = false by unfold ctO; simp [hc])
             have hci : (32 : Int) ≤ k := by omega
             go_wp2
             go_roundw
             case rel =>
               exact ⟨k + 1, by omega, by go_num, rows2_congr (rows2_z HR'.out hlt true) (fun i hi => rowF_put _ k _ HZ.out i) (fun i hi => rowF_skip _ k HO.out i)⟩
             case measure => simp [intOf]; omega)
    · obtain rfl : k = 64 := by omega
      have HR2 := Lib.hid (rows2_congr HR'.out (fun i hi => rowF_all _ i hi) (fun i hi => rowF_all _ i hi))
      go_wp2_with (go_at_call 68; refine (of_ref g q _ _ _ (row_bools HR2.out.2.2.2.2.1) (row_bools HR2.out.2.2.2.2.2) (row_lt HR2.out.2.2.2.2.1) (row_lt HR2.out.2.2.2.2.2)).mono ?_; rintro e w1 ⟨rfl, hb⟩; unfold tnV; have HT1 := Lib.hid (twain_keep HR2.out.2.2.2.1 hb); obtain ⟨d0, d1, e0, e1, _⟩ := blk_facts HT1.out.2.1; clear hb)
      refine bodyPost_ret (v := .agg #[.int .u64 (u (valB (ctZ v m 32) (ctO v m 32))), .int .u64 (u (maskB (ctZ v m 32) (ctO v m 32)))]) (by simp [results, Try.results41, go_sem, d0, d1]) rfl ⟨rfl, ?_⟩
      exact (HT1.out.2.2.setCell (by simp) _).setCell (by simp) _
set_option maxHeartbeats 4000000 in
theorem cutref_n (v m : B64) (n : Int) (h1 : ¬ n = 1) (h2 : ¬ n = 2) (h4 : ¬ n = 4) (w : World) : Calls Try.prog 41 #[tnV v m, .int .i64 n] w (Gives (tnV (pv (lowB v 64) (lowB m 64)) (lowB m 64)) w) := by
  rw [← ct_val v m 64, ← ct_mask v m 64]
  have g1 : (n != 1) = true := by simpa using h1
  have g2 : (n != 2) = true := by simpa using h2
  have g4 : (n != 4) = true := by simpa using h4
  unfold Gives tnV
  go_enter Try.func41, Try.ntmps41
  go_wp2
  go_cut [5, 6] (fun a b W => ∃ g q : Nat, a = .slice (some ⟨g, 0, none⟩) 64 64 ∧ b = .slice (some ⟨q, 0, none⟩) 64 64 ∧ Rows2 w v m g q (fun _ => false) (fun _ => false) W)
  case first =>
    go_region
    all_goals
      go_wp2
      go_meet
      first | exact ⟨_, _, rfl, rfl, rows2_new w v m false⟩ | exact ⟨_, _, rfl, rfl, rows2_new w v m true⟩
  case rest =>
    obtain ⟨g, q, rfl, rfl, hR0⟩ := hcut
    have HR := Lib.hid (rows2_congr hR0 (fun i _ => rowF_zero (ctZ v m 64) i) (fun i _ => rowF_zero (ctO v m 64) i))
    clear hR0
    go_wp2
    go_loopw [7] (fun c W => ShRel w v m g q (ctZ v m 64) (ctO v m 64) c W) (fun c _ => 64 - (intOf c).toNat)
    case atStart => exact ⟨0, by omega, rfl, HR.out⟩
    case round =>
    obtain ⟨k, hk, rfl, hR⟩ := hrel
    have HR' := Lib.hid hR
    clear hR HR
    by_cases hlt : k < 64
    · obtain ⟨⟨c0, c1⟩, ⟨cg, fg⟩, ⟨cq, fq⟩, n1, n2, n3, n4, n5, n6⟩ := rows2_facts HR'.out hlt
      by_cases hc : k < 64
      · have HZ := Lib.hid (show ctZ v m 64 k = bz v m k by unfold ctZ; simp [hc])
        have HO := Lib.hid (show ctO v m 64 k = bo v m k by unfold ctO; simp [hc])
        have hci : (k : Int) < 64 := by omega
        go_wp2_with (go_at_call 46; refine (bit_ref v m k (by omega) _).mono ?_; rintro e w1 ⟨rfl, hb⟩; have HR1 := Lib.hid (rows2_keep (rows2_z HR'.out hlt true) hb); obtain ⟨⟨x0, x1⟩, ⟨xg, yg⟩, ⟨xq, yq⟩, -⟩ := rows2_facts HR1.out hlt; clear hb)
        go_roundw
        case rel =>
          refine ⟨k + 1, by omega, by go_num, rows2_congr (rows2_o (rows2_z HR1.out hlt (bz v m k)) hlt (bo v m k)) (fun i hi => ?_) (fun i hi => rowF_put _ k _ HO.out i)⟩
          rw [← rowF_put _ k _ HZ.out i]
          by_cases e : i = k <;> simp [e]
        case measure => simp [intOf]; omega
      · first
          | omega
          | (have HZ := Lib.hid (show ctZ v m 64 k = true by unfold ctZ; simp [hc])
             have HO := Lib.hid (show ctO v m 64 k = false by unfold ctO; simp [hc])
             have hci : (64 : Int) ≤ k := by omega
             go_wp2
             go_roundw
             case rel =>
               exact ⟨k + 1, by omega, by go_num, rows2_congr (rows2_z HR'.out hlt true) (fun i hi => rowF_put _ k _ HZ.out i) (fun i hi => rowF_skip _ k HO.out i)⟩
             case measure => simp [intOf]; omega)
    · obtain rfl : k = 64 := by omega
      have HR2 := Lib.hid (rows2_congr HR'.out (fun i hi => rowF_all _ i hi) (fun i hi => rowF_all _ i hi))
      go_wp2_with (go_at_call 68; refine (of_ref g q _ _ _ (row_bools HR2.out.2.2.2.2.1) (row_bools HR2.out.2.2.2.2.2) (row_lt HR2.out.2.2.2.2.1) (row_lt HR2.out.2.2.2.2.2)).mono ?_; rintro e w1 ⟨rfl, hb⟩; unfold tnV; have HT1 := Lib.hid (twain_keep HR2.out.2.2.2.1 hb); obtain ⟨d0, d1, e0, e1, _⟩ := blk_facts HT1.out.2.1; clear hb)
      refine bodyPost_ret (v := .agg #[.int .u64 (u (valB (ctZ v m 64) (ctO v m 64))), .int .u64 (u (maskB (ctZ v m 64) (ctO v m 64)))]) (by simp [results, Try.results41, go_sem, d0, d1]) rfl ⟨rfl, ?_⟩
      exact (HT1.out.2.2.setCell (by simp) _).setCell (by simp) _
theorem cutref_any (v m : B64) (n : Int) (w : World) : Calls Try.prog 41 #[tnV v m, .int .i64 n] w (Gives (tnV (pv (lowB v (bN n)) (lowB m (bN n))) (lowB m (bN n))) w) := by
  by_cases h1 : n = 1
  · subst h1; exact cutref_1 v m w
  by_cases h2 : n = 2
  · subst h2; exact cutref_2 v m w
  by_cases h4 : n = 4
  · subst h4; exact cutref_4 v m w
  have e : bN n = 64 := by unfold bN; rw [if_neg h1, if_neg h2, if_neg h4]
  rw [e]
  exact cutref_n v m n h1 h2 h4 w
end Go.Proofs.Ytogadmlnmcojpaa

/-
  Proved here: what over of the document's answers tells: whether a sum, or a difference, with a sign goes over. Conditions: none.
-/
namespace Go.Proofs.Ytogadmlnmcojpaa
open Go.RowKit

theorem w64 {n : Int} (h0 : -9223372036854775808 ≤ n) (h1 : n ≤ 9223372036854775807) : wrap64 n = n := by
  unfold wrap64
  omega
theorem tmod_side (x : Int) : (0 ≤ x → 0 ≤ x.tmod 2) ∧ (x ≤ 0 → x.tmod 2 ≤ 0) := by
  refine ⟨fun h => Int.tmod_nonneg 2 h, fun h => ?_⟩
  have h1 := Int.tmod_nonneg 2 (show 0 ≤ -x by omega)
  rw [Int.neg_tmod] at h1
  omega
set_option maxHeartbeats 2000000 in
theorem over_core (x y a b p q b' q' S r : Int) (v m : Bool) (w : World)
    (ha : x.tdiv 2 = a) (hb : y.tdiv 2 = b) (hp : x.tmod 2 = p) (hq : y.tmod 2 = q) (wa : wrap64 a = a) (wb : wrap64 b = b) (hb' : if m = true then wrap64 (-b) = b' ∧ wrap64 (-q) = q' else b' = b ∧ q' = q)
    (hS : wrap64 (a + b') = S) (hr : wrap64 (p + q') = r) (bS : -9223372036854775808 ≤ S ∧ S ≤ 9223372036854775807 ∧ (r = 2 → S ≤ 9223372036854775806) ∧ (r < 0 → -9223372036854775807 ≤ S)) (br : -2 ≤ r ∧ r ≤ 2)
    (hv : ∀ S' r', 0 ≤ r' → r' ≤ 1 → 2 * S' + r' = 2 * S + r → (decide (4611686018427387904 ≤ S') || decide (S' < -4611686018427387904)) = v) :
    Calls Try.prog 44 #[.int .i64 x, .int .i64 y, .bool m] w (Ret (.bool v) w) := by
  unfold Ret
  have way : (r = 2 ∧ wrap64 (r - 2) = 0 ∧ wrap64 (S + 1) = S + 1) ∨ (r < 0 ∧ wrap64 (S - 1) = S - 1 ∧ ¬ 1 < r) ∨ (0 ≤ r ∧ r ≤ 1) := by
    by_cases h2 : r = 2
    · left
      exact ⟨h2, by rw [h2]; exact w64 (by decide) (by decide), w64 (by omega) (by omega)⟩
    · by_cases h3 : r < 0
      · right; left
        exact ⟨h3, w64 (by omega) (by omega), by omega⟩
      · right; right
        omega
  rcases way with ⟨e1, e2, e3⟩ | ⟨e1, e2, e3⟩ | ⟨e1, e2⟩
  · have hv' := hv (S + 1) 0 (by decide) (by decide) (by omega)
    obtain ⟨T, hT⟩ : ∃ T, S + 1 = T := ⟨_, rfl⟩
    replace e3 := e3.trans hT
    rw [hT] at hv'
    have e0 : 1 < r := by omega
    have HV := Lib.hid hv'
    clear hv hv' e1 br bS hT
    cases m
    · obtain ⟨rfl, rfl⟩ := hb'
      go_enter Try.func44, Try.ntmps44
      obtain g1 | ⟨g1, g2⟩ | ⟨g1, g2⟩ : 4611686018427387904 ≤ T ∨ (T < -4611686018427387904 ∧ ¬ 4611686018427387904 ≤ T) ∨ (¬ T < -4611686018427387904 ∧ ¬ 4611686018427387904 ≤ T) := by omega
      all_goals
        go_wp2
        go_ret
        exact ⟨ret_bool (by rw [← HV.out]; simp [*]), rfl⟩
    · obtain ⟨f1, f2⟩ := hb'
      go_enter Try.func44, Try.ntmps44
      obtain g1 | ⟨g1, g2⟩ | ⟨g1, g2⟩ : 4611686018427387904 ≤ T ∨ (T < -4611686018427387904 ∧ ¬ 4611686018427387904 ≤ T) ∨ (¬ T < -4611686018427387904 ∧ ¬ 4611686018427387904 ≤ T) := by omega
      all_goals
        go_wp2
        go_ret
        exact ⟨ret_bool (by rw [← HV.out]; simp [*]), rfl⟩
  · have hv' := hv (S - 1) (r + 2) (by omega) (by omega) (by omega)
    obtain ⟨T, hT⟩ : ∃ T, S - 1 = T := ⟨_, rfl⟩
    replace e2 := e2.trans hT
    rw [hT] at hv'
    have HV := Lib.hid hv'
    clear hv hv' br bS hT
    cases m
    · obtain ⟨rfl, rfl⟩ := hb'
      go_enter Try.func44, Try.ntmps44
      obtain g1 | ⟨g1, g2⟩ | ⟨g1, g2⟩ : 4611686018427387904 ≤ T ∨ (T < -4611686018427387904 ∧ ¬ 4611686018427387904 ≤ T) ∨ (¬ T < -4611686018427387904 ∧ ¬ 4611686018427387904 ≤ T) := by omega
      all_goals
        go_wp2
        go_ret
        exact ⟨ret_bool (by rw [← HV.out]; simp [*]), rfl⟩
    · obtain ⟨f1, f2⟩ := hb'
      go_enter Try.func44, Try.ntmps44
      obtain g1 | ⟨g1, g2⟩ | ⟨g1, g2⟩ : 4611686018427387904 ≤ T ∨ (T < -4611686018427387904 ∧ ¬ 4611686018427387904 ≤ T) ∨ (¬ T < -4611686018427387904 ∧ ¬ 4611686018427387904 ≤ T) := by omega
      all_goals
        go_wp2
        go_ret
        exact ⟨ret_bool (by rw [← HV.out]; simp [*]), rfl⟩
  · have hv' := hv S r e1 e2 rfl
    have HV := Lib.hid hv'
    have e3 : ¬ 1 < r := by omega
    have e4 : ¬ r < 0 := by omega
    clear hv hv' br bS e1 e2
    cases m
    · obtain ⟨rfl, rfl⟩ := hb'
      go_enter Try.func44, Try.ntmps44
      obtain g1 | ⟨g1, g2⟩ | ⟨g1, g2⟩ : 4611686018427387904 ≤ S ∨ (S < -4611686018427387904 ∧ ¬ 4611686018427387904 ≤ S) ∨ (¬ S < -4611686018427387904 ∧ ¬ 4611686018427387904 ≤ S) := by omega
      all_goals
        go_wp2
        go_ret
        exact ⟨ret_bool (by rw [← HV.out]; simp [*]), rfl⟩
    · obtain ⟨f1, f2⟩ := hb'
      go_enter Try.func44, Try.ntmps44
      obtain g1 | ⟨g1, g2⟩ | ⟨g1, g2⟩ : 4611686018427387904 ≤ S ∨ (S < -4611686018427387904 ∧ ¬ 4611686018427387904 ≤ S) ∨ (¬ S < -4611686018427387904 ∧ ¬ 4611686018427387904 ≤ S) := by omega
      all_goals
        go_wp2
        go_ret
        exact ⟨ret_bool (by rw [← HV.out]; simp [*]), rfl⟩
theorem over_plus (x y : B64) (w : World) : Calls Try.prog 44 #[.int .i64 (s x), .int .i64 (s y), .bool false] w (Ret (.bool (!fitS (s x + s y))) w) := by
  have hx := s_bd x
  have hy := s_bd y
  have dx := tdiv2 (s x)
  have dy := tdiv2 (s y)
  have gx := tmod_side (s x)
  have gy := tmod_side (s y)
  refine over_core (s x) (s y) _ _ _ _ _ _ ((s x).tdiv 2 + (s y).tdiv 2) ((s x).tmod 2 + (s y).tmod 2) _ false w rfl rfl rfl rfl (w64 (by omega) (by omega)) (w64 (by omega) (by omega)) (by rw [if_neg Bool.false_ne_true]; exact ⟨rfl, rfl⟩) (w64 (by omega) (by omega)) (w64 (by omega) (by omega)) (by omega) (by omega) ?_
  intro S' r' h0 h1 e
  exact over_fit (show s x + s y = 2 * S' + r' by omega) h0 h1
theorem over_less (x y : B64) (w : World) : Calls Try.prog 44 #[.int .i64 (s x), .int .i64 (s y), .bool true] w (Ret (.bool (!fitS (s x - s y))) w) := by
  have hx := s_bd x
  have hy := s_bd y
  have dx := tdiv2 (s x)
  have dy := tdiv2 (s y)
  have gx := tmod_side (s x)
  have gy := tmod_side (s y)
  refine over_core (s x) (s y) _ _ _ _ (-(s y).tdiv 2) (-(s y).tmod 2) ((s x).tdiv 2 + -(s y).tdiv 2) ((s x).tmod 2 + -(s y).tmod 2) _ true w rfl rfl rfl rfl (w64 (by omega) (by omega)) (w64 (by omega) (by omega)) (by rw [if_pos rfl]; exact ⟨w64 (by omega) (by omega), w64 (by omega) (by omega)⟩) (w64 (by omega) (by omega)) (w64 (by omega) (by omega)) (by omega) (by omega) ?_
  intro S' r' h0 h1 e
  exact over_fit (show s x - s y = 2 * S' + r' by omega) h0 h1
end Go.Proofs.Ytogadmlnmcojpaa

/-
  Proved here: the memory of a row of the document's answer for package xfer. Conditions: none.
-/
namespace Go.Proofs.Ytogadmlnmcojpaa
open Go.RowKit

/-- Both that are known, the result's box, and what is under way. -/
def RrB (w0 : World) (a b : K) (m : Nat) (r : K) (W : World) : Prop := Box3 w0 a b zeroK W ∧ NumAt m r W ∧ w0.heap.size + 2 < m
section
variable {w0 W W' w1 : World} {a b r : K} {m : Nat}
theorem rr_keep (h : RrB w0 a b m r W) (hb : Below W.heap.size W W') : RrB w0 a b m r W' := ⟨box3_far h.1 hb, num_keep h.2.1 hb, h.2.2⟩
theorem rr_drew (h : RrB w0 a b m r W) : RrB w0 a b m r W.drew := rr_keep h ((Below.refl _ _).drew)
theorem rr_drews (h : RrB w0 a b m r W) (n : Nat) : RrB w0 a b m r (W.drewN n) := by
  induction n with
  | zero => exact h
  | succ n ih => exact rr_drew ih
theorem rr_new (h : Box3 w0 a b zeroK W) (hb : Below W.heap.size W w1) (r : K) : RrB w0 a b w1.heap.size r (w1.alloc (.cells #[.int .u64 (u r.v), .int .u64 (u r.m), .int .u64 (u r.a), .int .u64 (u r.b), .int .i64 (s r.c), .int .i64 (s r.d)] 26)) := by
  have h1 := box3_far h hb
  exact ⟨box3_far h1 (below_box _ _), num_new r w1, num_lt h1.2.2.1⟩
theorem rr_put {r' : K} (h : RrB w0 a b m r W) (o : Nat) (x : Value) (hr : NumAt m r' (W.setCell ⟨m, o, none⟩ x)) : RrB w0 a b m r' (W.setCell ⟨m, o, none⟩ x) := by
  have h3 := h.2.2
  exact ⟨box3_keep h.1 ((below_set (Below.refl m W) o x).mono (by omega)), hr, h.2.2⟩
theorem rr_v (h : RrB w0 a b m r W) (x : B64) : RrB w0 a b m ⟨x, r.m, r.a, r.b, r.c, r.d⟩ (W.setCell ⟨m, 0, none⟩ (.int .u64 (u x))) := rr_put h _ _ (by have h2 := h.2.1; unfold NumAt at *; simp [World.setCell, Array.getElem?_modify, h2])
theorem rr_m (h : RrB w0 a b m r W) (x : B64) : RrB w0 a b m ⟨r.v, x, r.a, r.b, r.c, r.d⟩ (W.setCell ⟨m, 1, none⟩ (.int .u64 (u x))) := rr_put h _ _ (by have h2 := h.2.1; unfold NumAt at *; simp [World.setCell, Array.getElem?_modify, h2])
theorem rr_a (h : RrB w0 a b m r W) (x : B64) : RrB w0 a b m ⟨r.v, r.m, x, r.b, r.c, r.d⟩ (W.setCell ⟨m, 2, none⟩ (.int .u64 (u x))) := rr_put h _ _ (by have h2 := h.2.1; unfold NumAt at *; simp [World.setCell, Array.getElem?_modify, h2])
theorem rr_b (h : RrB w0 a b m r W) (x : B64) : RrB w0 a b m ⟨r.v, r.m, r.a, x, r.c, r.d⟩ (W.setCell ⟨m, 3, none⟩ (.int .u64 (u x))) := rr_put h _ _ (by have h2 := h.2.1; unfold NumAt at *; simp [World.setCell, Array.getElem?_modify, h2])
theorem rr_c (h : RrB w0 a b m r W) (x : B64) : RrB w0 a b m ⟨r.v, r.m, r.a, r.b, x, r.d⟩ (W.setCell ⟨m, 4, none⟩ (.int .i64 (s x))) := rr_put h _ _ (by have h2 := h.2.1; unfold NumAt at *; simp [World.setCell, Array.getElem?_modify, h2])
theorem rr_d (h : RrB w0 a b m r W) (x : B64) : RrB w0 a b m ⟨r.v, r.m, r.a, r.b, r.c, x⟩ (W.setCell ⟨m, 5, none⟩ (.int .i64 (s x))) := rr_put h _ _ (by have h2 := h.2.1; unfold NumAt at *; simp [World.setCell, Array.getElem?_modify, h2])
theorem rr_vm (h : RrB w0 a b m r W) (x y : B64) : RrB w0 a b m ⟨x, y, r.a, r.b, r.c, r.d⟩ ((W.setCell ⟨m, 0, none⟩ (.int .u64 (u x))).setCell ⟨m, 1, none⟩ (.int .u64 (u y))) := rr_m (rr_v h x) y
/-- The result, told. -/
theorem rr_out (h : RrB w0 a b m r W) (q : K) : NumAt (w0.heap.size + 2) q ((((((W.setCell ⟨w0.heap.size + 2, 0, none⟩ (.int .u64 (u q.v))).setCell ⟨w0.heap.size + 2, 1, none⟩ (.int .u64 (u q.m))).setCell ⟨w0.heap.size + 2, 2, none⟩ (.int .u64 (u q.a))).setCell ⟨w0.heap.size + 2, 3, none⟩ (.int .u64 (u q.b))).setCell ⟨w0.heap.size + 2, 4, none⟩ (.int .i64 (s q.c))).setCell ⟨w0.heap.size + 2, 5, none⟩ (.int .i64 (s q.d))) ∧
    Below w0.heap.size w0 ((((((W.setCell ⟨w0.heap.size + 2, 0, none⟩ (.int .u64 (u q.v))).setCell ⟨w0.heap.size + 2, 1, none⟩ (.int .u64 (u q.m))).setCell ⟨w0.heap.size + 2, 2, none⟩ (.int .u64 (u q.a))).setCell ⟨w0.heap.size + 2, 3, none⟩ (.int .u64 (u q.b))).setCell ⟨w0.heap.size + 2, 4, none⟩ (.int .i64 (s q.c))).setCell ⟨w0.heap.size + 2, 5, none⟩ (.int .i64 (s q.d))) :=
  ⟨num_six h.1.2.2.1 q, h.1.2.2.2.trans ((below_six (Below.refl (w0.heap.size + 2) W) _ _ _ _ _ _).mono (by omega))⟩
end
end Go.Proofs.Ytogadmlnmcojpaa

/-
  Proved here: what Cut of halberdref07 returns, of four bytes. Conditions: none.
-/
namespace Go.Proofs.Ytogadmlnmcojpaa
open Go.RowKit
attribute [local go_sem] u_and u_or u_xor u_andNot u_add u_sub s_conv u_conv

/-- What is cut, the result's box, and what is under way. -/
def CuB (w0 : World) (a : K) (m : Nat) (r : K) (W : World) : Prop := NumAt w0.heap.size a W ∧ NumAt (w0.heap.size + 1) zeroK W ∧ NumAt m r W ∧ w0.heap.size + 1 < m ∧ Below w0.heap.size w0 W
section
variable {w0 W W' w1 : World} {a r : K} {m : Nat}
theorem cu_keep (h : CuB w0 a m r W) (hb : Below W.heap.size W W') : CuB w0 a m r W' := ⟨num_keep h.1 hb, num_keep h.2.1 hb, num_keep h.2.2.1 hb, h.2.2.2.1, h.2.2.2.2.trans (hb.mono h.2.2.2.2.size)⟩
theorem cu_drews (h : CuB w0 a m r W) (n : Nat) : CuB w0 a m r (W.drewN n) := by
  induction n with
  | zero => exact h
  | succ n ih => exact cu_keep ih ((Below.refl _ _).drew)
theorem cu_new (h : NumAt w0.heap.size a W ∧ NumAt (w0.heap.size + 1) zeroK W ∧ Below w0.heap.size w0 W) (hb : Below W.heap.size W w1) (r : K) : CuB w0 a w1.heap.size r (w1.alloc (.cells #[.int .u64 (u r.v), .int .u64 (u r.m), .int .u64 (u r.a), .int .u64 (u r.b), .int .i64 (s r.c), .int .i64 (s r.d)] 26)) := by
  have h1 := num_keep h.1 hb
  have h2 := num_keep h.2.1 hb
  exact ⟨num_keep h1 (below_box _ _), num_keep h2 (below_box _ _), num_new r w1, num_lt h2, (h.2.2.trans (hb.mono h.2.2.size)).alloc (h.2.2.trans (hb.mono h.2.2.size)).size _⟩
theorem cu_put {r' : K} (h : CuB w0 a m r W) (o : Nat) (x : Value) (hr : NumAt m r' (W.setCell ⟨m, o, none⟩ x)) : CuB w0 a m r' (W.setCell ⟨m, o, none⟩ x) := by
  have hb := below_set (Below.refl m W) o x
  obtain ⟨h1, h2, h3, h4, h5⟩ := h
  exact ⟨(hb.block _ (by omega)).trans h1, (hb.block _ (by omega)).trans h2, hr, h4, h5.trans (hb.mono (by omega))⟩
theorem cu_v (h : CuB w0 a m r W) (x : B64) : CuB w0 a m ⟨x, r.m, r.a, r.b, r.c, r.d⟩ (W.setCell ⟨m, 0, none⟩ (.int .u64 (u x))) := cu_put h _ _ (by have h2 := h.2.2.1; unfold NumAt at *; simp [World.setCell, Array.getElem?_modify, h2])
theorem cu_m (h : CuB w0 a m r W) (x : B64) : CuB w0 a m ⟨r.v, x, r.a, r.b, r.c, r.d⟩ (W.setCell ⟨m, 1, none⟩ (.int .u64 (u x))) := cu_put h _ _ (by have h2 := h.2.2.1; unfold NumAt at *; simp [World.setCell, Array.getElem?_modify, h2])
theorem cu_a (h : CuB w0 a m r W) (x : B64) : CuB w0 a m ⟨r.v, r.m, x, r.b, r.c, r.d⟩ (W.setCell ⟨m, 2, none⟩ (.int .u64 (u x))) := cu_put h _ _ (by have h2 := h.2.2.1; unfold NumAt at *; simp [World.setCell, Array.getElem?_modify, h2])
theorem cu_b (h : CuB w0 a m r W) (x : B64) : CuB w0 a m ⟨r.v, r.m, r.a, x, r.c, r.d⟩ (W.setCell ⟨m, 3, none⟩ (.int .u64 (u x))) := cu_put h _ _ (by have h2 := h.2.2.1; unfold NumAt at *; simp [World.setCell, Array.getElem?_modify, h2])
theorem cu_start (a : K) (w : World) : NumAt w.heap.size a ((w.alloc (.cells #[.int .u64 (u a.v), .int .u64 (u a.m), .int .u64 (u a.a), .int .u64 (u a.b), .int .i64 (s a.c), .int .i64 (s a.d)] 26)).alloc (.cells #[.int .u64 0, .int .u64 0, .int .u64 0, .int .u64 0, .int .i64 0, .int .i64 0] 26)) ∧ NumAt (w.heap.size + 1) zeroK ((w.alloc (.cells #[.int .u64 (u a.v), .int .u64 (u a.m), .int .u64 (u a.a), .int .u64 (u a.b), .int .i64 (s a.c), .int .i64 (s a.d)] 26)).alloc (.cells #[.int .u64 0, .int .u64 0, .int .u64 0, .int .u64 0, .int .i64 0, .int .i64 0] 26)) ∧ Below w.heap.size w ((w.alloc (.cells #[.int .u64 (u a.v), .int .u64 (u a.m), .int .u64 (u a.a), .int .u64 (u a.b), .int .i64 (s a.c), .int .i64 (s a.d)] 26)).alloc (.cells #[.int .u64 0, .int .u64 0, .int .u64 0, .int .u64 0, .int .i64 0, .int .i64 0] 26)) := by
  have h1 := num_new a w
  obtain ⟨W1, hW1⟩ : ∃ W, w.alloc (.cells #[.int .u64 (u a.v), .int .u64 (u a.m), .int .u64 (u a.a), .int .u64 (u a.b), .int .i64 (s a.c), .int .i64 (s a.d)] 26) = W := ⟨_, rfl⟩
  have b1 : Below w.heap.size w W1 := by rw [← hW1]; exact below_box _ _
  have e1 : W1.heap.size = w.heap.size + 1 := by rw [← hW1]; simp
  rw [hW1] at h1 ⊢
  have h2 := zero_new W1
  have b2 := below_box W1 (.cells #[.int .u64 0, .int .u64 0, .int .u64 0, .int .u64 0, .int .i64 0, .int .i64 0] 26)
  rw [e1] at h2
  exact ⟨num_keep h1 b2, h2, b1.trans (b2.mono (by omega))⟩
theorem cu_out (h : CuB w0 a m r W) (q : K) : NumAt (w0.heap.size + 1) q ((((((W.setCell ⟨w0.heap.size + 1, 0, none⟩ (.int .u64 (u q.v))).setCell ⟨w0.heap.size + 1, 1, none⟩ (.int .u64 (u q.m))).setCell ⟨w0.heap.size + 1, 2, none⟩ (.int .u64 (u q.a))).setCell ⟨w0.heap.size + 1, 3, none⟩ (.int .u64 (u q.b))).setCell ⟨w0.heap.size + 1, 4, none⟩ (.int .i64 (s q.c))).setCell ⟨w0.heap.size + 1, 5, none⟩ (.int .i64 (s q.d))) ∧
    Below w0.heap.size w0 ((((((W.setCell ⟨w0.heap.size + 1, 0, none⟩ (.int .u64 (u q.v))).setCell ⟨w0.heap.size + 1, 1, none⟩ (.int .u64 (u q.m))).setCell ⟨w0.heap.size + 1, 2, none⟩ (.int .u64 (u q.a))).setCell ⟨w0.heap.size + 1, 3, none⟩ (.int .u64 (u q.b))).setCell ⟨w0.heap.size + 1, 4, none⟩ (.int .i64 (s q.c))).setCell ⟨w0.heap.size + 1, 5, none⟩ (.int .i64 (s q.d))) :=
  ⟨num_six h.2.1 q, below_out h.2.2.2.2 _ _ _ _ _ _⟩
end
theorem low4 : u (lowM (bN 4)) = 4294967295 := by decide
theorem max_0 (x : B64) : maxU 0#64 x = x := by
  unfold maxU
  have hx := u_bd x
  by_cases h : u 0#64 < u x
  · rw [if_pos h]
  · rw [if_neg h]
    apply u_inj
    rw [u_0] at *
    omega
theorem min_full (x : B64) : minU full x = x := by
  unfold minU
  have hx := u_bd x
  by_cases h : u x < u full
  · rw [if_pos h]
  · rw [if_neg h]
    apply u_inj
    rw [u_full] at *
    omega
theorem lows_eq (k : K) : k.lows 4 = ⟨pv (lowB k.v (bN 4)) (lowB k.m (bN 4)), lowB k.m (bN 4), if k.fits 4 = true then k.a else 0#64, if k.fits 4 = true then k.b else lowM (bN 4), half, most⟩ := by
  unfold K.lows K.put K.inU allK
  simp only [max_0, min_full]
theorem pow_32 (W : World) : Calls Try.prog 42 #[.int .i64 32] W (Ret (.int .u64 4294967296) W) := power 32 W (by decide) (by decide)
set_option maxHeartbeats 4000000 in
theorem cutK_n (k : K) (w : World) (h1 : decide (u k.b < 4294967296) = false) : Calls Try.prog 21 #[numV k, .int .i64 4] w (Gives (numV (⟨pv (lowB k.v (bN 4)) (lowB k.m (bN 4)), lowB k.m (bN 4), 0#64, lowM (bN 4), half, most⟩ : K).fine) w) := by
  have HN := Lib.hid (cu_start k w)
  have hall := fun W => refall_num W
  have hct := fun W => cutref_any k.v k.m 4 W
  have hpw := fun W => pow_32 W
  have e4 : (4294967295 : Int) = u (lowM (bN 4)) := low4.symm
  obtain ⟨L, hL⟩ : ∃ t, lowM (bN 4) = t := ⟨_, rfl⟩
  rw [hL] at e4 ⊢
  obtain ⟨tm, hm⟩ : ∃ t, lowB k.m (bN 4) = t := ⟨_, rfl⟩
  rw [hm] at hct ⊢
  obtain ⟨tv, hv⟩ : ∃ t, pv (lowB k.v (bN 4)) tm = t := ⟨_, rfl⟩
  rw [hv] at hct ⊢
  clear hL hm hv
  unfold tnV at hct
  obtain ⟨A, hA⟩ : ∃ A, allK = A := ⟨_, rfl⟩
  rw [hA] at hall
  have HA := Lib.hid hA
  clear hA
  obtain ⟨Q, hQ⟩ : ∃ q, (⟨tv, tm, 0#64, L, half, most⟩ : K) = q := ⟨_, rfl⟩
  rw [hQ]
  have HQ := Lib.hid (show (⟨tv, tm, A.a, L, A.c, A.d⟩ : K) = Q by rw [← hQ, ← HA.out]; rfl)
  have hrq := fun W => reffine_num Q W
  obtain ⟨F, hF⟩ : ∃ q, Q.fine = q := ⟨_, rfl⟩
  obtain ⟨O, hO⟩ : ∃ q, Q.okF = q := ⟨_, rfl⟩
  rw [hF, hO] at hrq
  rw [hF]
  clear hF hO hQ HA
  have HL := Lib.hid e4
  clear e4
  unfold numV at hall hrq
  unfold Gives numV
  go_enter Try.func21, Try.ntmps21
  go_upto_region 1 with fail
  generalize World.alloc _ _ = W0 at HN ⊢
  go_upto_region 4 with (go_at_call 13; refine (hall _).mono ?_; rintro e w1 ⟨rfl, hb⟩; have HB := Lib.hid (cu_new HN.out hb A); clear hb)
  generalize w1.alloc _ = W at HB ⊢
  generalize w1.heap.size = m at HB ⊢
  clear hall HN
  obtain ⟨p0, p1, p2, p3, p4, p5⟩ := num_cells HB.out.1
  go_upto_region 5 with (go_at_call 41; refine (hct _).mono ?_; rintro e w2 ⟨rfl, hb⟩; have HC := Lib.hid (cu_keep HB.out hb); clear hb p0 p1 p2 p3 p4 p5; obtain ⟨r0, r1, r2, r3, r4, r5⟩ := num_cells HC.out.2.2.1; obtain ⟨f0, f1, f2, f3, f4, f5⟩ := num_free HC.out.2.2.1)
  have HD := Lib.hid (cu_m (cu_v HC.out tv) tm)
  generalize World.setCell _ _ _ = W2 at HD ⊢
  clear r0 r1 r2 r3 r4 r5 f0 f1 f2 f3 f4 f5 HB HC hct
  obtain ⟨r0, r1, r2, r3, r4, r5⟩ := num_cells HD.out.2.2.1
  obtain ⟨f0, f1, f2, f3, f4, f5⟩ := num_free HD.out.2.2.1
  go_upto_region 6 with (go_at_call 42; refine (hpw _).mono ?_; rintro e w3 ⟨rfl, rfl⟩)
  have HE := cu_b HD.out L
  rw [← HL.out] at HE
  have HE := Lib.hid HE
  generalize World.setCell _ _ _ = W3 at HE ⊢
  clear r0 r1 r2 r3 r4 r5 f0 f1 f2 f3 f4 f5 HD
  obtain ⟨p0, p1, p2, p3, p4, p5⟩ := num_cells HE.out.1
  go_quiet ((go_at_call 42; exact Calls.quiet_of_same (ret_same (hpw _))))
  have HG := Lib.hid (cu_drews HE.out nq)
  generalize World.drewN _ _ = W4 at HG ⊢
  clear HE p0 p1 p2 p3 p4 p5
  have HH := HG.out
  clear HG
  dsimp only at HH
  rw [HQ.out] at HH
  have HG := Lib.hid HH
  clear HH
  obtain ⟨r0, r1, r2, r3, r4, r5⟩ := num_cells HG.out.2.2.1
  go_upto_region 10 with (go_at_call 12; refine (hrq _).mono ?_; rintro e w7 ⟨rfl, hb⟩; have HC := Lib.hid (cu_keep HG.out hb); clear hb)
  have HI := Lib.hid (cu_keep HC.out (below_box w7 (.cells #[.int .u64 (u F.v), .int .u64 (u F.m), .int .u64 (u F.a), .int .u64 (u F.b), .int .i64 (s F.c), .int .i64 (s F.d)] 26)))
  obtain ⟨g0, g1, g2, g3, g4, g5⟩ := num_free HI.out.2.1
  obtain ⟨z0, z1, z2, z3, z4, z5⟩ := num_cells HI.out.2.1
  go_wp2
  have HZ := Lib.hid (cu_out HI.out F)
  generalize World.setCell _ _ _ = WZ at HZ ⊢
  clear z0 z1 z2 z3 z4 z5
  obtain ⟨z0, z1, z2, z3, z4, z5⟩ := num_cells HZ.out.1
  exact bodyPost_ret (v := numV F) (by unfold numV; simp [results, Try.results21, go_sem, z0, z1, z2, z3, z4, z5]) rfl ⟨rfl, HZ.out.2⟩
set_option maxHeartbeats 4000000 in
theorem cutK_y (k : K) (w : World) (h1 : decide (u k.b < 4294967296) = true) : Calls Try.prog 21 #[numV k, .int .i64 4] w (Gives (numV (⟨pv (lowB k.v (bN 4)) (lowB k.m (bN 4)), lowB k.m (bN 4), k.a, k.b, half, most⟩ : K).fine) w) := by
  have HN := Lib.hid (cu_start k w)
  have hall := fun W => refall_num W
  have hct := fun W => cutref_any k.v k.m 4 W
  have hpw := fun W => pow_32 W
  have e4 : (4294967295 : Int) = u (lowM (bN 4)) := low4.symm
  obtain ⟨L, hL⟩ : ∃ t, lowM (bN 4) = t := ⟨_, rfl⟩
  rw [hL] at e4
  obtain ⟨tm, hm⟩ : ∃ t, lowB k.m (bN 4) = t := ⟨_, rfl⟩
  rw [hm] at hct ⊢
  obtain ⟨tv, hv⟩ : ∃ t, pv (lowB k.v (bN 4)) tm = t := ⟨_, rfl⟩
  rw [hv] at hct ⊢
  clear hL hm hv
  unfold tnV at hct
  obtain ⟨A, hA⟩ : ∃ A, allK = A := ⟨_, rfl⟩
  rw [hA] at hall
  have HA := Lib.hid hA
  clear hA
  obtain ⟨Q, hQ⟩ : ∃ q, (⟨tv, tm, k.a, k.b, half, most⟩ : K) = q := ⟨_, rfl⟩
  rw [hQ]
  have HQ := Lib.hid (show (⟨tv, tm, k.a, k.b, A.c, A.d⟩ : K) = Q by rw [← hQ, ← HA.out]; rfl)
  have hrq := fun W => reffine_num Q W
  obtain ⟨F, hF⟩ : ∃ q, Q.fine = q := ⟨_, rfl⟩
  obtain ⟨O, hO⟩ : ∃ q, Q.okF = q := ⟨_, rfl⟩
  rw [hF, hO] at hrq
  rw [hF]
  clear hF hO hQ HA
  have HL := Lib.hid e4
  clear e4
  unfold numV at hall hrq
  unfold Gives numV
  go_enter Try.func21, Try.ntmps21
  go_upto_region 1 with fail
  generalize World.alloc _ _ = W0 at HN ⊢
  go_upto_region 4 with (go_at_call 13; refine (hall _).mono ?_; rintro e w1 ⟨rfl, hb⟩; have HB := Lib.hid (cu_new HN.out hb A); clear hb)
  generalize w1.alloc _ = W at HB ⊢
  generalize w1.heap.size = m at HB ⊢
  clear hall HN
  obtain ⟨p0, p1, p2, p3, p4, p5⟩ := num_cells HB.out.1
  go_upto_region 5 with (go_at_call 41; refine (hct _).mono ?_; rintro e w2 ⟨rfl, hb⟩; have HC := Lib.hid (cu_keep HB.out hb); clear hb p0 p1 p2 p3 p4 p5; obtain ⟨r0, r1, r2, r3, r4, r5⟩ := num_cells HC.out.2.2.1; obtain ⟨f0, f1, f2, f3, f4, f5⟩ := num_free HC.out.2.2.1)
  have HD := Lib.hid (cu_m (cu_v HC.out tv) tm)
  generalize World.setCell _ _ _ = W2 at HD ⊢
  clear r0 r1 r2 r3 r4 r5 f0 f1 f2 f3 f4 f5 HB HC hct
  obtain ⟨r0, r1, r2, r3, r4, r5⟩ := num_cells HD.out.2.2.1
  obtain ⟨f0, f1, f2, f3, f4, f5⟩ := num_free HD.out.2.2.1
  go_upto_region 6 with (go_at_call 42; refine (hpw _).mono ?_; rintro e w3 ⟨rfl, rfl⟩)
  have HE := cu_b HD.out L
  rw [← HL.out] at HE
  have HE := Lib.hid HE
  generalize World.setCell _ _ _ = W3 at HE ⊢
  clear r0 r1 r2 r3 r4 r5 f0 f1 f2 f3 f4 f5 HD
  obtain ⟨p0, p1, p2, p3, p4, p5⟩ := num_cells HE.out.1
  go_quiet ((go_at_call 42; exact Calls.quiet_of_same (ret_same (hpw _))))
  have HG := Lib.hid (cu_drews HE.out nq)
  generalize World.drewN _ _ = W4 at HG ⊢
  clear HE p0 p1 p2 p3 p4 p5
  obtain ⟨p0, p1, p2, p3, p4, p5⟩ := num_cells HG.out.1
  obtain ⟨r0, r1, r2, r3, r4, r5⟩ := num_cells HG.out.2.2.1
  obtain ⟨f0, f1, f2, f3, f4, f5⟩ := num_free HG.out.2.2.1
  go_upto_region 8 with fail
  have HB := Lib.hid (cu_a HG.out k.a)
  generalize World.setCell _ _ _ = W5 at HB ⊢
  clear p0 p1 p2 p3 p4 p5 r0 r1 r2 r3 r4 r5 f0 f1 f2 f3 f4 f5 HG
  obtain ⟨p0, p1, p2, p3, p4, p5⟩ := num_cells HB.out.1
  obtain ⟨r0, r1, r2, r3, r4, r5⟩ := num_cells HB.out.2.2.1
  obtain ⟨f0, f1, f2, f3, f4, f5⟩ := num_free HB.out.2.2.1
  go_upto_region 9 with fail
  have HG := Lib.hid (cu_b HB.out k.b)
  generalize World.setCell _ _ _ = W6 at HG ⊢
  clear p0 p1 p2 p3 p4 p5 r0 r1 r2 r3 r4 r5 f0 f1 f2 f3 f4 f5 HB
  have HH := HG.out
  clear HG
  dsimp only at HH
  rw [HQ.out] at HH
  have HG := Lib.hid HH
  clear HH
  obtain ⟨r0, r1, r2, r3, r4, r5⟩ := num_cells HG.out.2.2.1
  go_upto_region 10 with (go_at_call 12; refine (hrq _).mono ?_; rintro e w7 ⟨rfl, hb⟩; have HC := Lib.hid (cu_keep HG.out hb); clear hb)
  have HI := Lib.hid (cu_keep HC.out (below_box w7 (.cells #[.int .u64 (u F.v), .int .u64 (u F.m), .int .u64 (u F.a), .int .u64 (u F.b), .int .i64 (s F.c), .int .i64 (s F.d)] 26)))
  obtain ⟨g0, g1, g2, g3, g4, g5⟩ := num_free HI.out.2.1
  obtain ⟨z0, z1, z2, z3, z4, z5⟩ := num_cells HI.out.2.1
  go_wp2
  have HZ := Lib.hid (cu_out HI.out F)
  generalize World.setCell _ _ _ = WZ at HZ ⊢
  clear z0 z1 z2 z3 z4 z5
  obtain ⟨z0, z1, z2, z3, z4, z5⟩ := num_cells HZ.out.1
  exact bodyPost_ret (v := numV F) (by unfold numV; simp [results, Try.results21, go_sem, z0, z1, z2, z3, z4, z5]) rfl ⟨rfl, HZ.out.2⟩
theorem cutK_ref (k : K) (w : World) : Calls Try.prog 21 #[numV k, .int .i64 4] w (Gives (numV (k.cutK 4)) w) := by
  have e : k.cutK 4 = (k.lows 4).fine := by
    unfold K.cutK
    rw [if_pos (by decide)]
  have e2 : k.fits 4 = decide (u k.b < 4294967296) := by
    unfold K.fits
    rw [low4, decide_eq_decide]
    omega
  rw [e, lows_eq, e2]
  cases h : decide (u k.b < 4294967296)
  · rw [if_neg Bool.false_ne_true, if_neg Bool.false_ne_true]; exact cutK_n k w h
  · rw [if_pos rfl, if_pos rfl]; exact cutK_y k w h
end Go.Proofs.Ytogadmlnmcojpaa

/-
  Proved here: rows of the document's answer for package xfer: Xor, And, Or, Mov. Conditions: none.
-/
namespace Go.Proofs.Ytogadmlnmcojpaa
open Go.RowKit
attribute [local go_sem] u_and u_or u_xor u_andNot u_add u_sub s_conv u_conv
set_option maxRecDepth 100000 in
set_option maxHeartbeats 8000000 in
theorem rr_xor (a b : K) (c t : B64) (one : Bool) (w : World) (ht : ¬ u t = 0) : Calls Try.prog 22 #[.int .u8 160, numV a, numV b, .int .u64 (u c), .bool one, .int .u64 (u t)] w (Gives (numV (rowXor a b)) w) := by
  have HN := Lib.hid (box3_new a b w)
  have hall := fun W => refall_num W
  have e1 := tmod_u c t
  obtain ⟨k, hk⟩ : ∃ k, c % t = k := ⟨_, rfl⟩
  rw [hk] at e1
  have HK := Lib.hid hk
  clear hk
  obtain ⟨A, hA⟩ : ∃ A, allK = A := ⟨_, rfl⟩
  rw [hA] at hall
  have HA := Lib.hid hA
  clear hA
  unfold numV at hall
  unfold Gives numV
  go_enter Try.func22, Try.ntmps22
  go_upto_region 1 with fail
  generalize World.alloc _ _ = W0 at HN ⊢
  go_upto_region 2 with (go_at_call 13; refine (hall _).mono ?_; rintro e w1 ⟨rfl, hb⟩; have HB := Lib.hid (rr_new HN.out hb A); clear hb)
  generalize w1.alloc _ = W at HB ⊢
  generalize w1.heap.size = m at HB ⊢
  clear hall HN w1 W0
  have htw := fun W => two_ref4 a.v a.m b.v b.m W
  obtain ⟨tv, hv⟩ : ∃ t, twoV 4 a.v a.m b.v b.m = t := ⟨_, rfl⟩
  obtain ⟨tm, hm⟩ : ∃ t, twoM 4 a.v a.m b.v b.m = t := ⟨_, rfl⟩
  rw [hv, hm] at htw
  have HT := Lib.hid hv
  have HM := Lib.hid hm
  clear hv hm
  unfold tnV at htw
  obtain ⟨p0, p1, p2, p3, p4, p5⟩ := num_cells HB.out.1.1
  obtain ⟨q0, q1, q2, q3, q4, q5⟩ := num_cells HB.out.1.2.1
  go_upto_region 78 with (go_at_call 43; refine (htw _).mono ?_; rintro e w2 ⟨rfl, hb⟩; have HC := Lib.hid (rr_keep HB.out hb); clear hb; clear p0 p1 p2 p3 p4 p5 q0 q1 q2 q3 q4 q5; obtain ⟨r0, r1, r2, r3, r4, r5⟩ := num_cells HC.out.2.1; obtain ⟨f0, f1, f2, f3, f4, f5⟩ := num_free HC.out.2.1)
  have HD := Lib.hid (rr_vm HC.out tv tm)
  generalize World.setCell _ _ _ = W2 at HD ⊢
  clear r0 r1 r2 r3 r4 r5 f0 f1 f2 f3 f4 f5
  clear htw HC w2
  obtain ⟨R1, hN1⟩ : ∃ q, (⟨tv, tm, A.a, A.b, A.c, A.d⟩ : K) = q := ⟨_, rfl⟩
  rw [hN1] at HD
  clear HB
  have HB := HD
  clear HD
  obtain ⟨r0, r1, r2, r3, r4, r5⟩ := num_cells HB.out.2.1
  obtain ⟨f0, f1, f2, f3, f4, f5⟩ := num_free HB.out.2.1
  obtain ⟨g0, g1, g2, g3, g4, g5⟩ := num_free HB.out.1.2.2.1
  obtain ⟨z0, z1, z2, z3, z4, z5⟩ := num_cells HB.out.1.2.2.1
  go_wp2
  have HZ := Lib.hid (rr_out HB.out R1)
  generalize World.setCell _ _ _ = WZ at HZ ⊢
  clear z0 z1 z2 z3 z4 z5
  obtain ⟨z0, z1, z2, z3, z4, z5⟩ := num_cells HZ.out.1
  exact bodyPost_ret (v := numV R1) (by unfold numV; simp [results, Try.results22, go_sem, z0, z1, z2, z3, z4, z5]) rfl ⟨by subst hN1; rw [← HA.out, ← HT.out, ← HM.out]; rfl, HZ.out.2⟩
set_option maxRecDepth 100000 in
set_option maxHeartbeats 8000000 in
theorem rr_and_y (a b : K) (c t : B64) (one : Bool) (w : World) (ht : ¬ u t = 0) (hc : u b.b < u a.b) : Calls Try.prog 22 #[.int .u8 80, numV a, numV b, .int .u64 (u c), .bool one, .int .u64 (u t)] w (Gives (numV (⟨twoV 2 a.v a.m b.v b.m, twoM 2 a.v a.m b.v b.m, 0#64, b.b, half, most⟩)) w) := by
  have HN := Lib.hid (box3_new a b w)
  have hall := fun W => refall_num W
  have e1 := tmod_u c t
  obtain ⟨k, hk⟩ : ∃ k, c % t = k := ⟨_, rfl⟩
  rw [hk] at e1
  have HK := Lib.hid hk
  clear hk
  obtain ⟨A, hA⟩ : ∃ A, allK = A := ⟨_, rfl⟩
  rw [hA] at hall
  have HA := Lib.hid hA
  clear hA
  unfold numV at hall
  unfold Gives numV
  go_enter Try.func22, Try.ntmps22
  go_upto_region 1 with fail
  generalize World.alloc _ _ = W0 at HN ⊢
  go_upto_region 2 with (go_at_call 13; refine (hall _).mono ?_; rintro e w1 ⟨rfl, hb⟩; have HB := Lib.hid (rr_new HN.out hb A); clear hb)
  generalize w1.alloc _ = W at HB ⊢
  generalize w1.heap.size = m at HB ⊢
  clear hall HN w1 W0
  have htw := fun W => two_ref2 a.v a.m b.v b.m W
  obtain ⟨tv, hv⟩ : ∃ t, twoV 2 a.v a.m b.v b.m = t := ⟨_, rfl⟩
  obtain ⟨tm, hm⟩ : ∃ t, twoM 2 a.v a.m b.v b.m = t := ⟨_, rfl⟩
  rw [hv, hm] at htw
  have HT := Lib.hid hv
  have HM := Lib.hid hm
  clear hv hm
  unfold tnV at htw
  obtain ⟨p0, p1, p2, p3, p4, p5⟩ := num_cells HB.out.1.1
  obtain ⟨q0, q1, q2, q3, q4, q5⟩ := num_cells HB.out.1.2.1
  go_upto_region 35 with (go_at_call 43; refine (htw _).mono ?_; rintro e w2 ⟨rfl, hb⟩; have HC := Lib.hid (rr_keep HB.out hb); clear hb; clear p0 p1 p2 p3 p4 p5 q0 q1 q2 q3 q4 q5; obtain ⟨r0, r1, r2, r3, r4, r5⟩ := num_cells HC.out.2.1; obtain ⟨f0, f1, f2, f3, f4, f5⟩ := num_free HC.out.2.1)
  have HD := Lib.hid (rr_vm HC.out tv tm)
  generalize World.setCell _ _ _ = W2 at HD ⊢
  clear r0 r1 r2 r3 r4 r5 f0 f1 f2 f3 f4 f5
  clear htw HC w2
  obtain ⟨R1, hN1⟩ : ∃ q, (⟨tv, tm, A.a, A.b, A.c, A.d⟩ : K) = q := ⟨_, rfl⟩
  rw [hN1] at HD
  clear HB
  have HB := HD
  clear HD
  obtain ⟨r0, r1, r2, r3, r4, r5⟩ := num_cells HB.out.2.1
  obtain ⟨f0, f1, f2, f3, f4, f5⟩ := num_free HB.out.2.1
  obtain ⟨p0, p1, p2, p3, p4, p5⟩ := num_cells HB.out.1.1
  obtain ⟨q0, q1, q2, q3, q4, q5⟩ := num_cells HB.out.1.2.1
  go_upto_region 36 with fail
  have HD := Lib.hid (rr_b HB.out (a.b))
  generalize World.setCell _ _ _ = W3 at HD ⊢
  clear p0 p1 p2 p3 p4 p5 q0 q1 q2 q3 q4 q5
  clear r0 r1 r2 r3 r4 r5 f0 f1 f2 f3 f4 f5
  obtain ⟨R2, hN2⟩ : ∃ q, (⟨R1.v, R1.m, R1.a, a.b, R1.c, R1.d⟩ : K) = q := ⟨_, rfl⟩
  rw [hN2] at HD
  clear HB
  have HB := HD
  clear HD
  obtain ⟨p0, p1, p2, p3, p4, p5⟩ := num_cells HB.out.1.1
  obtain ⟨q0, q1, q2, q3, q4, q5⟩ := num_cells HB.out.1.2.1
  go_upto_region 37 with fail
  clear p0 p1 p2 p3 p4 p5 q0 q1 q2 q3 q4 q5
  obtain ⟨r0, r1, r2, r3, r4, r5⟩ := num_cells HB.out.2.1
  obtain ⟨f0, f1, f2, f3, f4, f5⟩ := num_free HB.out.2.1
  obtain ⟨p0, p1, p2, p3, p4, p5⟩ := num_cells HB.out.1.1
  obtain ⟨q0, q1, q2, q3, q4, q5⟩ := num_cells HB.out.1.2.1
  go_upto_region 78 with fail
  have HD := Lib.hid (rr_b HB.out (b.b))
  generalize World.setCell _ _ _ = W3 at HD ⊢
  clear p0 p1 p2 p3 p4 p5 q0 q1 q2 q3 q4 q5
  clear r0 r1 r2 r3 r4 r5 f0 f1 f2 f3 f4 f5
  obtain ⟨R3, hN3⟩ : ∃ q, (⟨R2.v, R2.m, R2.a, b.b, R2.c, R2.d⟩ : K) = q := ⟨_, rfl⟩
  rw [hN3] at HD
  clear HB
  have HB := HD
  clear HD
  obtain ⟨r0, r1, r2, r3, r4, r5⟩ := num_cells HB.out.2.1
  obtain ⟨f0, f1, f2, f3, f4, f5⟩ := num_free HB.out.2.1
  obtain ⟨g0, g1, g2, g3, g4, g5⟩ := num_free HB.out.1.2.2.1
  obtain ⟨z0, z1, z2, z3, z4, z5⟩ := num_cells HB.out.1.2.2.1
  go_wp2
  have HZ := Lib.hid (rr_out HB.out R3)
  generalize World.setCell _ _ _ = WZ at HZ ⊢
  clear z0 z1 z2 z3 z4 z5
  obtain ⟨z0, z1, z2, z3, z4, z5⟩ := num_cells HZ.out.1
  exact bodyPost_ret (v := numV R3) (by unfold numV; simp [results, Try.results22, go_sem, z0, z1, z2, z3, z4, z5]) rfl ⟨by subst hN1; subst hN2; subst hN3; rw [← HA.out, ← HT.out, ← HM.out]; rfl, HZ.out.2⟩
set_option maxRecDepth 100000 in
set_option maxHeartbeats 8000000 in
theorem rr_and_n (a b : K) (c t : B64) (one : Bool) (w : World) (ht : ¬ u t = 0) (hc : ¬ u b.b < u a.b) : Calls Try.prog 22 #[.int .u8 80, numV a, numV b, .int .u64 (u c), .bool one, .int .u64 (u t)] w (Gives (numV (⟨twoV 2 a.v a.m b.v b.m, twoM 2 a.v a.m b.v b.m, 0#64, a.b, half, most⟩)) w) := by
  have HN := Lib.hid (box3_new a b w)
  have hall := fun W => refall_num W
  have e1 := tmod_u c t
  obtain ⟨k, hk⟩ : ∃ k, c % t = k := ⟨_, rfl⟩
  rw [hk] at e1
  have HK := Lib.hid hk
  clear hk
  obtain ⟨A, hA⟩ : ∃ A, allK = A := ⟨_, rfl⟩
  rw [hA] at hall
  have HA := Lib.hid hA
  clear hA
  unfold numV at hall
  unfold Gives numV
  go_enter Try.func22, Try.ntmps22
  go_upto_region 1 with fail
  generalize World.alloc _ _ = W0 at HN ⊢
  go_upto_region 2 with (go_at_call 13; refine (hall _).mono ?_; rintro e w1 ⟨rfl, hb⟩; have HB := Lib.hid (rr_new HN.out hb A); clear hb)
  generalize w1.alloc _ = W at HB ⊢
  generalize w1.heap.size = m at HB ⊢
  clear hall HN w1 W0
  have htw := fun W => two_ref2 a.v a.m b.v b.m W
  obtain ⟨tv, hv⟩ : ∃ t, twoV 2 a.v a.m b.v b.m = t := ⟨_, rfl⟩
  obtain ⟨tm, hm⟩ : ∃ t, twoM 2 a.v a.m b.v b.m = t := ⟨_, rfl⟩
  rw [hv, hm] at htw
  have HT := Lib.hid hv
  have HM := Lib.hid hm
  clear hv hm
  unfold tnV at htw
  obtain ⟨p0, p1, p2, p3, p4, p5⟩ := num_cells HB.out.1.1
  obtain ⟨q0, q1, q2, q3, q4, q5⟩ := num_cells HB.out.1.2.1
  go_upto_region 35 with (go_at_call 43; refine (htw _).mono ?_; rintro e w2 ⟨rfl, hb⟩; have HC := Lib.hid (rr_keep HB.out hb); clear hb; clear p0 p1 p2 p3 p4 p5 q0 q1 q2 q3 q4 q5; obtain ⟨r0, r1, r2, r3, r4, r5⟩ := num_cells HC.out.2.1; obtain ⟨f0, f1, f2, f3, f4, f5⟩ := num_free HC.out.2.1)
  have HD := Lib.hid (rr_vm HC.out tv tm)
  generalize World.setCell _ _ _ = W2 at HD ⊢
  clear r0 r1 r2 r3 r4 r5 f0 f1 f2 f3 f4 f5
  clear htw HC w2
  obtain ⟨R1, hN1⟩ : ∃ q, (⟨tv, tm, A.a, A.b, A.c, A.d⟩ : K) = q := ⟨_, rfl⟩
  rw [hN1] at HD
  clear HB
  have HB := HD
  clear HD
  obtain ⟨r0, r1, r2, r3, r4, r5⟩ := num_cells HB.out.2.1
  obtain ⟨f0, f1, f2, f3, f4, f5⟩ := num_free HB.out.2.1
  obtain ⟨p0, p1, p2, p3, p4, p5⟩ := num_cells HB.out.1.1
  obtain ⟨q0, q1, q2, q3, q4, q5⟩ := num_cells HB.out.1.2.1
  go_upto_region 36 with fail
  have HD := Lib.hid (rr_b HB.out (a.b))
  generalize World.setCell _ _ _ = W3 at HD ⊢
  clear p0 p1 p2 p3 p4 p5 q0 q1 q2 q3 q4 q5
  clear r0 r1 r2 r3 r4 r5 f0 f1 f2 f3 f4 f5
  obtain ⟨R2, hN2⟩ : ∃ q, (⟨R1.v, R1.m, R1.a, a.b, R1.c, R1.d⟩ : K) = q := ⟨_, rfl⟩
  rw [hN2] at HD
  clear HB
  have HB := HD
  clear HD
  obtain ⟨p0, p1, p2, p3, p4, p5⟩ := num_cells HB.out.1.1
  obtain ⟨q0, q1, q2, q3, q4, q5⟩ := num_cells HB.out.1.2.1
  go_upto_region 78 with fail
  clear p0 p1 p2 p3 p4 p5 q0 q1 q2 q3 q4 q5
  obtain ⟨r0, r1, r2, r3, r4, r5⟩ := num_cells HB.out.2.1
  obtain ⟨f0, f1, f2, f3, f4, f5⟩ := num_free HB.out.2.1
  obtain ⟨g0, g1, g2, g3, g4, g5⟩ := num_free HB.out.1.2.2.1
  obtain ⟨z0, z1, z2, z3, z4, z5⟩ := num_cells HB.out.1.2.2.1
  go_wp2
  have HZ := Lib.hid (rr_out HB.out R2)
  generalize World.setCell _ _ _ = WZ at HZ ⊢
  clear z0 z1 z2 z3 z4 z5
  obtain ⟨z0, z1, z2, z3, z4, z5⟩ := num_cells HZ.out.1
  exact bodyPost_ret (v := numV R2) (by unfold numV; simp [results, Try.results22, go_sem, z0, z1, z2, z3, z4, z5]) rfl ⟨by subst hN1; subst hN2; rw [← HA.out, ← HT.out, ← HM.out]; rfl, HZ.out.2⟩
theorem rr_and (a b : K) (c t : B64) (one : Bool) (w : World) (ht : ¬ u t = 0) : Calls Try.prog 22 #[.int .u8 80, numV a, numV b, .int .u64 (u c), .bool one, .int .u64 (u t)] w (Gives (numV (rowAnd a b)) w) := by
  unfold rowAnd minU
  by_cases hc : u b.b < u a.b
  · rw [if_pos hc]; exact rr_and_y a b c t one w ht hc
  · rw [if_neg hc]; exact rr_and_n a b c t one w ht hc
set_option maxRecDepth 100000 in
set_option maxHeartbeats 8000000 in
theorem rr_or_y (a b : K) (c t : B64) (one : Bool) (w : World) (ht : ¬ u t = 0) (hc : u a.a < u b.a) : Calls Try.prog 22 #[.int .u8 64, numV a, numV b, .int .u64 (u c), .bool one, .int .u64 (u t)] w (Gives (numV (⟨twoV 3 a.v a.m b.v b.m, twoM 3 a.v a.m b.v b.m, b.a, full, half, most⟩)) w) := by
  have HN := Lib.hid (box3_new a b w)
  have hall := fun W => refall_num W
  have e1 := tmod_u c t
  obtain ⟨k, hk⟩ : ∃ k, c % t = k := ⟨_, rfl⟩
  rw [hk] at e1
  have HK := Lib.hid hk
  clear hk
  obtain ⟨A, hA⟩ : ∃ A, allK = A := ⟨_, rfl⟩
  rw [hA] at hall
  have HA := Lib.hid hA
  clear hA
  unfold numV at hall
  unfold Gives numV
  go_enter Try.func22, Try.ntmps22
  go_upto_region 1 with fail
  generalize World.alloc _ _ = W0 at HN ⊢
  go_upto_region 2 with (go_at_call 13; refine (hall _).mono ?_; rintro e w1 ⟨rfl, hb⟩; have HB := Lib.hid (rr_new HN.out hb A); clear hb)
  generalize w1.alloc _ = W at HB ⊢
  generalize w1.heap.size = m at HB ⊢
  clear hall HN w1 W0
  have htw := fun W => two_ref3 a.v a.m b.v b.m W
  obtain ⟨tv, hv⟩ : ∃ t, twoV 3 a.v a.m b.v b.m = t := ⟨_, rfl⟩
  obtain ⟨tm, hm⟩ : ∃ t, twoM 3 a.v a.m b.v b.m = t := ⟨_, rfl⟩
  rw [hv, hm] at htw
  have HT := Lib.hid hv
  have HM := Lib.hid hm
  clear hv hm
  unfold tnV at htw
  obtain ⟨p0, p1, p2, p3, p4, p5⟩ := num_cells HB.out.1.1
  obtain ⟨q0, q1, q2, q3, q4, q5⟩ := num_cells HB.out.1.2.1
  go_upto_region 40 with (go_at_call 43; refine (htw _).mono ?_; rintro e w2 ⟨rfl, hb⟩; have HC := Lib.hid (rr_keep HB.out hb); clear hb; clear p0 p1 p2 p3 p4 p5 q0 q1 q2 q3 q4 q5; obtain ⟨r0, r1, r2, r3, r4, r5⟩ := num_cells HC.out.2.1; obtain ⟨f0, f1, f2, f3, f4, f5⟩ := num_free HC.out.2.1)
  have HD := Lib.hid (rr_vm HC.out tv tm)
  generalize World.setCell _ _ _ = W2 at HD ⊢
  clear r0 r1 r2 r3 r4 r5 f0 f1 f2 f3 f4 f5
  clear htw HC w2
  obtain ⟨R1, hN1⟩ : ∃ q, (⟨tv, tm, A.a, A.b, A.c, A.d⟩ : K) = q := ⟨_, rfl⟩
  rw [hN1] at HD
  clear HB
  have HB := HD
  clear HD
  obtain ⟨r0, r1, r2, r3, r4, r5⟩ := num_cells HB.out.2.1
  obtain ⟨f0, f1, f2, f3, f4, f5⟩ := num_free HB.out.2.1
  obtain ⟨p0, p1, p2, p3, p4, p5⟩ := num_cells HB.out.1.1
  obtain ⟨q0, q1, q2, q3, q4, q5⟩ := num_cells HB.out.1.2.1
  go_upto_region 41 with fail
  have HD := Lib.hid (rr_a HB.out (a.a))
  generalize World.setCell _ _ _ = W3 at HD ⊢
  clear p0 p1 p2 p3 p4 p5 q0 q1 q2 q3 q4 q5
  clear r0 r1 r2 r3 r4 r5 f0 f1 f2 f3 f4 f5
  obtain ⟨R2, hN2⟩ : ∃ q, (⟨R1.v, R1.m, a.a, R1.b, R1.c, R1.d⟩ : K) = q := ⟨_, rfl⟩
  rw [hN2] at HD
  clear HB
  have HB := HD
  clear HD
  obtain ⟨p0, p1, p2, p3, p4, p5⟩ := num_cells HB.out.1.1
  obtain ⟨q0, q1, q2, q3, q4, q5⟩ := num_cells HB.out.1.2.1
  go_upto_region 42 with fail
  clear p0 p1 p2 p3 p4 p5 q0 q1 q2 q3 q4 q5
  obtain ⟨r0, r1, r2, r3, r4, r5⟩ := num_cells HB.out.2.1
  obtain ⟨f0, f1, f2, f3, f4, f5⟩ := num_free HB.out.2.1
  obtain ⟨p0, p1, p2, p3, p4, p5⟩ := num_cells HB.out.1.1
  obtain ⟨q0, q1, q2, q3, q4, q5⟩ := num_cells HB.out.1.2.1
  go_upto_region 78 with fail
  have HD := Lib.hid (rr_a HB.out (b.a))
  generalize World.setCell _ _ _ = W3 at HD ⊢
  clear p0 p1 p2 p3 p4 p5 q0 q1 q2 q3 q4 q5
  clear r0 r1 r2 r3 r4 r5 f0 f1 f2 f3 f4 f5
  obtain ⟨R3, hN3⟩ : ∃ q, (⟨R2.v, R2.m, b.a, R2.b, R2.c, R2.d⟩ : K) = q := ⟨_, rfl⟩
  rw [hN3] at HD
  clear HB
  have HB := HD
  clear HD
  obtain ⟨r0, r1, r2, r3, r4, r5⟩ := num_cells HB.out.2.1
  obtain ⟨f0, f1, f2, f3, f4, f5⟩ := num_free HB.out.2.1
  obtain ⟨g0, g1, g2, g3, g4, g5⟩ := num_free HB.out.1.2.2.1
  obtain ⟨z0, z1, z2, z3, z4, z5⟩ := num_cells HB.out.1.2.2.1
  go_wp2
  have HZ := Lib.hid (rr_out HB.out R3)
  generalize World.setCell _ _ _ = WZ at HZ ⊢
  clear z0 z1 z2 z3 z4 z5
  obtain ⟨z0, z1, z2, z3, z4, z5⟩ := num_cells HZ.out.1
  exact bodyPost_ret (v := numV R3) (by unfold numV; simp [results, Try.results22, go_sem, z0, z1, z2, z3, z4, z5]) rfl ⟨by subst hN1; subst hN2; subst hN3; rw [← HA.out, ← HT.out, ← HM.out]; rfl, HZ.out.2⟩
set_option maxRecDepth 100000 in
set_option maxHeartbeats 8000000 in
theorem rr_or_n (a b : K) (c t : B64) (one : Bool) (w : World) (ht : ¬ u t = 0) (hc : ¬ u a.a < u b.a) : Calls Try.prog 22 #[.int .u8 64, numV a, numV b, .int .u64 (u c), .bool one, .int .u64 (u t)] w (Gives (numV (⟨twoV 3 a.v a.m b.v b.m, twoM 3 a.v a.m b.v b.m, a.a, full, half, most⟩)) w) := by
  have HN := Lib.hid (box3_new a b w)
  have hall := fun W => refall_num W
  have e1 := tmod_u c t
  obtain ⟨k, hk⟩ : ∃ k, c % t = k := ⟨_, rfl⟩
  rw [hk] at e1
  have HK := Lib.hid hk
  clear hk
  obtain ⟨A, hA⟩ : ∃ A, allK = A := ⟨_, rfl⟩
  rw [hA] at hall
  have HA := Lib.hid hA
  clear hA
  unfold numV at hall
  unfold Gives numV
  go_enter Try.func22, Try.ntmps22
  go_upto_region 1 with fail
  generalize World.alloc _ _ = W0 at HN ⊢
  go_upto_region 2 with (go_at_call 13; refine (hall _).mono ?_; rintro e w1 ⟨rfl, hb⟩; have HB := Lib.hid (rr_new HN.out hb A); clear hb)
  generalize w1.alloc _ = W at HB ⊢
  generalize w1.heap.size = m at HB ⊢
  clear hall HN w1 W0
  have htw := fun W => two_ref3 a.v a.m b.v b.m W
  obtain ⟨tv, hv⟩ : ∃ t, twoV 3 a.v a.m b.v b.m = t := ⟨_, rfl⟩
  obtain ⟨tm, hm⟩ : ∃ t, twoM 3 a.v a.m b.v b.m = t := ⟨_, rfl⟩
  rw [hv, hm] at htw
  have HT := Lib.hid hv
  have HM := Lib.hid hm
  clear hv hm
  unfold tnV at htw
  obtain ⟨p0, p1, p2, p3, p4, p5⟩ := num_cells HB.out.1.1
  obtain ⟨q0, q1, q2, q3, q4, q5⟩ := num_cells HB.out.1.2.1
  go_upto_region 40 with (go_at_call 43; refine (htw _).mono ?_; rintro e w2 ⟨rfl, hb⟩; have HC := Lib.hid (rr_keep HB.out hb); clear hb; clear p0 p1 p2 p3 p4 p5 q0 q1 q2 q3 q4 q5; obtain ⟨r0, r1, r2, r3, r4, r5⟩ := num_cells HC.out.2.1; obtain ⟨f0, f1, f2, f3, f4, f5⟩ := num_free HC.out.2.1)
  have HD := Lib.hid (rr_vm HC.out tv tm)
  generalize World.setCell _ _ _ = W2 at HD ⊢
  clear r0 r1 r2 r3 r4 r5 f0 f1 f2 f3 f4 f5
  clear htw HC w2
  obtain ⟨R1, hN1⟩ : ∃ q, (⟨tv, tm, A.a, A.b, A.c, A.d⟩ : K) = q := ⟨_, rfl⟩
  rw [hN1] at HD
  clear HB
  have HB := HD
  clear HD
  obtain ⟨r0, r1, r2, r3, r4, r5⟩ := num_cells HB.out.2.1
  obtain ⟨f0, f1, f2, f3, f4, f5⟩ := num_free HB.out.2.1
  obtain ⟨p0, p1, p2, p3, p4, p5⟩ := num_cells HB.out.1.1
  obtain ⟨q0, q1, q2, q3, q4, q5⟩ := num_cells HB.out.1.2.1
  go_upto_region 41 with fail
  have HD := Lib.hid (rr_a HB.out (a.a))
  generalize World.setCell _ _ _ = W3 at HD ⊢
  clear p0 p1 p2 p3 p4 p5 q0 q1 q2 q3 q4 q5
  clear r0 r1 r2 r3 r4 r5 f0 f1 f2 f3 f4 f5
  obtain ⟨R2, hN2⟩ : ∃ q, (⟨R1.v, R1.m, a.a, R1.b, R1.c, R1.d⟩ : K) = q := ⟨_, rfl⟩
  rw [hN2] at HD
  clear HB
  have HB := HD
  clear HD
  obtain ⟨p0, p1, p2, p3, p4, p5⟩ := num_cells HB.out.1.1
  obtain ⟨q0, q1, q2, q3, q4, q5⟩ := num_cells HB.out.1.2.1
  go_upto_region 78 with fail
  clear p0 p1 p2 p3 p4 p5 q0 q1 q2 q3 q4 q5
  obtain ⟨r0, r1, r2, r3, r4, r5⟩ := num_cells HB.out.2.1
  obtain ⟨f0, f1, f2, f3, f4, f5⟩ := num_free HB.out.2.1
  obtain ⟨g0, g1, g2, g3, g4, g5⟩ := num_free HB.out.1.2.2.1
  obtain ⟨z0, z1, z2, z3, z4, z5⟩ := num_cells HB.out.1.2.2.1
  go_wp2
  have HZ := Lib.hid (rr_out HB.out R2)
  generalize World.setCell _ _ _ = WZ at HZ ⊢
  clear z0 z1 z2 z3 z4 z5
  obtain ⟨z0, z1, z2, z3, z4, z5⟩ := num_cells HZ.out.1
  exact bodyPost_ret (v := numV R2) (by unfold numV; simp [results, Try.results22, go_sem, z0, z1, z2, z3, z4, z5]) rfl ⟨by subst hN1; subst hN2; rw [← HA.out, ← HT.out, ← HM.out]; rfl, HZ.out.2⟩
theorem rr_or (a b : K) (c t : B64) (one : Bool) (w : World) (ht : ¬ u t = 0) : Calls Try.prog 22 #[.int .u8 64, numV a, numV b, .int .u64 (u c), .bool one, .int .u64 (u t)] w (Gives (numV (rowOr a b)) w) := by
  unfold rowOr maxU
  by_cases hc : u a.a < u b.a
  · rw [if_pos hc]; exact rr_or_y a b c t one w ht hc
  · rw [if_neg hc]; exact rr_or_n a b c t one w ht hc
set_option maxRecDepth 100000 in
set_option maxHeartbeats 8000000 in
theorem rr_mov (a b : K) (c t : B64) (one : Bool) (w : World) (ht : ¬ u t = 0) : Calls Try.prog 22 #[.int .u8 176, numV a, numV b, .int .u64 (u c), .bool one, .int .u64 (u t)] w (Gives (numV (b)) w) := by
  have HN := Lib.hid (box3_new a b w)
  have hall := fun W => refall_num W
  have e1 := tmod_u c t
  obtain ⟨k, hk⟩ : ∃ k, c % t = k := ⟨_, rfl⟩
  rw [hk] at e1
  have HK := Lib.hid hk
  clear hk
  obtain ⟨A, hA⟩ : ∃ A, allK = A := ⟨_, rfl⟩
  rw [hA] at hall
  clear hA
  unfold numV at hall
  unfold Gives numV
  go_enter Try.func22, Try.ntmps22
  go_upto_region 1 with fail
  generalize World.alloc _ _ = W0 at HN ⊢
  go_upto_region 2 with (go_at_call 13; refine (hall _).mono ?_; rintro e w1 ⟨rfl, hb⟩; have HB := Lib.hid (rr_new HN.out hb A); clear hb)
  generalize w1.alloc _ = W at HB ⊢
  generalize w1.heap.size = m at HB ⊢
  clear hall HN w1 W0
  obtain ⟨p0, p1, p2, p3, p4, p5⟩ := num_cells HB.out.1.1
  obtain ⟨q0, q1, q2, q3, q4, q5⟩ := num_cells HB.out.1.2.1
  obtain ⟨g0, g1, g2, g3, g4, g5⟩ := num_free HB.out.1.2.2.1
  obtain ⟨z0, z1, z2, z3, z4, z5⟩ := num_cells HB.out.1.2.2.1
  go_wp2
  have HZ := Lib.hid (rr_out HB.out b)
  generalize World.setCell _ _ _ = WZ at HZ ⊢
  clear z0 z1 z2 z3 z4 z5
  obtain ⟨z0, z1, z2, z3, z4, z5⟩ := num_cells HZ.out.1
  exact bodyPost_ret (v := numV b) (by unfold numV; simp [results, Try.results22, go_sem, z0, z1, z2, z3, z4, z5]) rfl ⟨rfl, HZ.out.2⟩
end Go.Proofs.Ytogadmlnmcojpaa

/-
  Proved here: rows of the document's answer for package xfer: Mul, Div, Mod. Conditions: none.
-/
namespace Go.Proofs.Ytogadmlnmcojpaa
open Go.RowKit
attribute [local go_sem] u_mul u_div2 u_and u_or u_xor u_andNot u_add u_sub s_conv u_conv
set_option maxRecDepth 100000 in
set_option maxHeartbeats 8000000 in
theorem rr_mul_y (a b : K) (c t : B64) (one : Bool) (w : World) (ht : ¬ u t = 0) (h1 : u a.b < 4294967296) (h2 : u b.b < 4294967296) : Calls Try.prog 22 #[.int .u8 32, numV a, numV b, .int .u64 (u c), .bool one, .int .u64 (u t)] w (Gives (numV (⟨0#64, full, a.a * b.a, a.b * b.b, half, most⟩)) w) := by
  have HN := Lib.hid (box3_new a b w)
  have hall := fun W => refall_num W
  have e1 := tmod_u c t
  obtain ⟨k, hk⟩ : ∃ k, c % t = k := ⟨_, rfl⟩
  rw [hk] at e1
  have HK := Lib.hid hk
  clear hk
  obtain ⟨A, hA⟩ : ∃ A, allK = A := ⟨_, rfl⟩
  rw [hA] at hall
  have HA := Lib.hid hA
  clear hA
  unfold numV at hall
  unfold Gives numV
  go_enter Try.func22, Try.ntmps22
  go_upto_region 1 with fail
  generalize World.alloc _ _ = W0 at HN ⊢
  go_upto_region 2 with (go_at_call 13; refine (hall _).mono ?_; rintro e w1 ⟨rfl, hb⟩; have HB := Lib.hid (rr_new HN.out hb A); clear hb)
  generalize w1.alloc _ = W at HB ⊢
  generalize w1.heap.size = m at HB ⊢
  clear hall HN w1 W0
  obtain ⟨p0, p1, p2, p3, p4, p5⟩ := num_cells HB.out.1.1
  obtain ⟨q0, q1, q2, q3, q4, q5⟩ := num_cells HB.out.1.2.1
  go_upto_region 22 with fail
  clear p0 p1 p2 p3 p4 p5 q0 q1 q2 q3 q4 q5
  obtain ⟨r0, r1, r2, r3, r4, r5⟩ := num_cells HB.out.2.1
  obtain ⟨f0, f1, f2, f3, f4, f5⟩ := num_free HB.out.2.1
  obtain ⟨p0, p1, p2, p3, p4, p5⟩ := num_cells HB.out.1.1
  obtain ⟨q0, q1, q2, q3, q4, q5⟩ := num_cells HB.out.1.2.1
  go_upto_region 23 with fail
  have HD := Lib.hid (rr_a HB.out (a.a * b.a))
  generalize World.setCell _ _ _ = W3 at HD ⊢
  clear p0 p1 p2 p3 p4 p5 q0 q1 q2 q3 q4 q5
  clear r0 r1 r2 r3 r4 r5 f0 f1 f2 f3 f4 f5
  obtain ⟨R1, hN1⟩ : ∃ q, (⟨A.v, A.m, a.a * b.a, A.b, A.c, A.d⟩ : K) = q := ⟨_, rfl⟩
  rw [hN1] at HD
  clear HB
  have HB := HD
  clear HD
  obtain ⟨r0, r1, r2, r3, r4, r5⟩ := num_cells HB.out.2.1
  obtain ⟨f0, f1, f2, f3, f4, f5⟩ := num_free HB.out.2.1
  obtain ⟨p0, p1, p2, p3, p4, p5⟩ := num_cells HB.out.1.1
  obtain ⟨q0, q1, q2, q3, q4, q5⟩ := num_cells HB.out.1.2.1
  go_upto_region 78 with fail
  have HD := Lib.hid (rr_b HB.out (a.b * b.b))
  generalize World.setCell _ _ _ = W3 at HD ⊢
  clear p0 p1 p2 p3 p4 p5 q0 q1 q2 q3 q4 q5
  clear r0 r1 r2 r3 r4 r5 f0 f1 f2 f3 f4 f5
  obtain ⟨R2, hN2⟩ : ∃ q, (⟨R1.v, R1.m, R1.a, a.b * b.b, R1.c, R1.d⟩ : K) = q := ⟨_, rfl⟩
  rw [hN2] at HD
  clear HB
  have HB := HD
  clear HD
  obtain ⟨r0, r1, r2, r3, r4, r5⟩ := num_cells HB.out.2.1
  obtain ⟨f0, f1, f2, f3, f4, f5⟩ := num_free HB.out.2.1
  obtain ⟨g0, g1, g2, g3, g4, g5⟩ := num_free HB.out.1.2.2.1
  obtain ⟨z0, z1, z2, z3, z4, z5⟩ := num_cells HB.out.1.2.2.1
  go_wp2
  have HZ := Lib.hid (rr_out HB.out R2)
  generalize World.setCell _ _ _ = WZ at HZ ⊢
  clear z0 z1 z2 z3 z4 z5
  obtain ⟨z0, z1, z2, z3, z4, z5⟩ := num_cells HZ.out.1
  exact bodyPost_ret (v := numV R2) (by unfold numV; simp [results, Try.results22, go_sem, z0, z1, z2, z3, z4, z5]) rfl ⟨by subst hN1; subst hN2; rw [← HA.out]; rfl, HZ.out.2⟩
set_option maxRecDepth 100000 in
set_option maxHeartbeats 8000000 in
theorem rr_mul_n1 (a b : K) (c t : B64) (one : Bool) (w : World) (ht : ¬ u t = 0) (h1 : decide (u a.b < 4294967296) = false) : Calls Try.prog 22 #[.int .u8 32, numV a, numV b, .int .u64 (u c), .bool one, .int .u64 (u t)] w (Gives (numV (⟨0#64, full, 0#64, full, half, most⟩)) w) := by
  have HN := Lib.hid (box3_new a b w)
  have hall := fun W => refall_num W
  have e1 := tmod_u c t
  obtain ⟨k, hk⟩ : ∃ k, c % t = k := ⟨_, rfl⟩
  rw [hk] at e1
  have HK := Lib.hid hk
  clear hk
  obtain ⟨A, hA⟩ : ∃ A, allK = A := ⟨_, rfl⟩
  rw [hA] at hall
  have HA := Lib.hid hA
  clear hA
  unfold numV at hall
  unfold Gives numV
  go_enter Try.func22, Try.ntmps22
  go_upto_region 1 with fail
  generalize World.alloc _ _ = W0 at HN ⊢
  go_upto_region 2 with (go_at_call 13; refine (hall _).mono ?_; rintro e w1 ⟨rfl, hb⟩; have HB := Lib.hid (rr_new HN.out hb A); clear hb)
  generalize w1.alloc _ = W at HB ⊢
  generalize w1.heap.size = m at HB ⊢
  clear hall HN w1 W0
  obtain ⟨p0, p1, p2, p3, p4, p5⟩ := num_cells HB.out.1.1
  obtain ⟨q0, q1, q2, q3, q4, q5⟩ := num_cells HB.out.1.2.1
  go_upto_region 78 with fail
  clear p0 p1 p2 p3 p4 p5 q0 q1 q2 q3 q4 q5
  obtain ⟨r0, r1, r2, r3, r4, r5⟩ := num_cells HB.out.2.1
  obtain ⟨f0, f1, f2, f3, f4, f5⟩ := num_free HB.out.2.1
  obtain ⟨g0, g1, g2, g3, g4, g5⟩ := num_free HB.out.1.2.2.1
  obtain ⟨z0, z1, z2, z3, z4, z5⟩ := num_cells HB.out.1.2.2.1
  go_wp2
  have HZ := Lib.hid (rr_out HB.out A)
  generalize World.setCell _ _ _ = WZ at HZ ⊢
  clear z0 z1 z2 z3 z4 z5
  obtain ⟨z0, z1, z2, z3, z4, z5⟩ := num_cells HZ.out.1
  exact bodyPost_ret (v := numV A) (by unfold numV; simp [results, Try.results22, go_sem, z0, z1, z2, z3, z4, z5]) rfl ⟨by rw [← HA.out]; rfl, HZ.out.2⟩
set_option maxRecDepth 100000 in
set_option maxHeartbeats 8000000 in
theorem rr_mul_n2 (a b : K) (c t : B64) (one : Bool) (w : World) (ht : ¬ u t = 0) (h1 : u a.b < 4294967296) (h2 : decide (u b.b < 4294967296) = false) : Calls Try.prog 22 #[.int .u8 32, numV a, numV b, .int .u64 (u c), .bool one, .int .u64 (u t)] w (Gives (numV (⟨0#64, full, 0#64, full, half, most⟩)) w) := by
  have HN := Lib.hid (box3_new a b w)
  have hall := fun W => refall_num W
  have e1 := tmod_u c t
  obtain ⟨k, hk⟩ : ∃ k, c % t = k := ⟨_, rfl⟩
  rw [hk] at e1
  have HK := Lib.hid hk
  clear hk
  obtain ⟨A, hA⟩ : ∃ A, allK = A := ⟨_, rfl⟩
  rw [hA] at hall
  have HA := Lib.hid hA
  clear hA
  unfold numV at hall
  unfold Gives numV
  go_enter Try.func22, Try.ntmps22
  go_upto_region 1 with fail
  generalize World.alloc _ _ = W0 at HN ⊢
  go_upto_region 2 with (go_at_call 13; refine (hall _).mono ?_; rintro e w1 ⟨rfl, hb⟩; have HB := Lib.hid (rr_new HN.out hb A); clear hb)
  generalize w1.alloc _ = W at HB ⊢
  generalize w1.heap.size = m at HB ⊢
  clear hall HN w1 W0
  obtain ⟨p0, p1, p2, p3, p4, p5⟩ := num_cells HB.out.1.1
  obtain ⟨q0, q1, q2, q3, q4, q5⟩ := num_cells HB.out.1.2.1
  go_upto_region 78 with fail
  clear p0 p1 p2 p3 p4 p5 q0 q1 q2 q3 q4 q5
  obtain ⟨r0, r1, r2, r3, r4, r5⟩ := num_cells HB.out.2.1
  obtain ⟨f0, f1, f2, f3, f4, f5⟩ := num_free HB.out.2.1
  obtain ⟨g0, g1, g2, g3, g4, g5⟩ := num_free HB.out.1.2.2.1
  obtain ⟨z0, z1, z2, z3, z4, z5⟩ := num_cells HB.out.1.2.2.1
  go_wp2
  have HZ := Lib.hid (rr_out HB.out A)
  generalize World.setCell _ _ _ = WZ at HZ ⊢
  clear z0 z1 z2 z3 z4 z5
  obtain ⟨z0, z1, z2, z3, z4, z5⟩ := num_cells HZ.out.1
  exact bodyPost_ret (v := numV A) (by unfold numV; simp [results, Try.results22, go_sem, z0, z1, z2, z3, z4, z5]) rfl ⟨by rw [← HA.out]; rfl, HZ.out.2⟩
theorem rr_mul (a b : K) (c t : B64) (one : Bool) (w : World) (ht : ¬ u t = 0) : Calls Try.prog 22 #[.int .u8 32, numV a, numV b, .int .u64 (u c), .bool one, .int .u64 (u t)] w (Gives (numV (rowMul a b)) w) := by
  unfold rowMul mulU
  by_cases h1 : u a.b < 4294967296
  · by_cases h2 : u b.b < 4294967296
    · rw [decide_eq_true h1, decide_eq_true h2]; exact rr_mul_y a b c t one w ht h1 h2
    · rw [decide_eq_true h1, decide_eq_false h2]; exact rr_mul_n2 a b c t one w ht h1 (decide_eq_false h2)
  · rw [decide_eq_false h1]; exact rr_mul_n1 a b c t one w ht (decide_eq_false h1)
set_option maxRecDepth 100000 in
set_option maxHeartbeats 8000000 in
theorem rr_div_y (a b : K) (c t : B64) (w : World) (ht : ¬ u t = 0) (h1 : 0 < u c) : Calls Try.prog 22 #[.int .u8 48, numV a, numV b, .int .u64 (u c), .bool true, .int .u64 (u t)] w (Gives (numV (⟨0#64, full, a.a / c, a.b / c, half, most⟩)) w) := by
  have HN := Lib.hid (box3_new a b w)
  have hall := fun W => refall_num W
  have e1 := tmod_u c t
  obtain ⟨k, hk⟩ : ∃ k, c % t = k := ⟨_, rfl⟩
  rw [hk] at e1
  have HK := Lib.hid hk
  clear hk
  obtain ⟨A, hA⟩ : ∃ A, allK = A := ⟨_, rfl⟩
  rw [hA] at hall
  have HA := Lib.hid hA
  clear hA
  unfold numV at hall
  unfold Gives numV
  go_enter Try.func22, Try.ntmps22
  go_upto_region 1 with fail
  generalize World.alloc _ _ = W0 at HN ⊢
  go_upto_region 2 with (go_at_call 13; refine (hall _).mono ?_; rintro e w1 ⟨rfl, hb⟩; have HB := Lib.hid (rr_new HN.out hb A); clear hb)
  generalize w1.alloc _ = W at HB ⊢
  generalize w1.heap.size = m at HB ⊢
  clear hall HN w1 W0
  obtain ⟨r0, r1, r2, r3, r4, r5⟩ := num_cells HB.out.2.1
  obtain ⟨f0, f1, f2, f3, f4, f5⟩ := num_free HB.out.2.1
  obtain ⟨p0, p1, p2, p3, p4, p5⟩ := num_cells HB.out.1.1
  obtain ⟨q0, q1, q2, q3, q4, q5⟩ := num_cells HB.out.1.2.1
  go_upto_region 26 with fail
  have HD := Lib.hid (rr_b HB.out (a.b))
  generalize World.setCell _ _ _ = W3 at HD ⊢
  clear p0 p1 p2 p3 p4 p5 q0 q1 q2 q3 q4 q5
  clear r0 r1 r2 r3 r4 r5 f0 f1 f2 f3 f4 f5
  obtain ⟨R1, hN1⟩ : ∃ q, (⟨A.v, A.m, A.a, a.b, A.c, A.d⟩ : K) = q := ⟨_, rfl⟩
  rw [hN1] at HD
  clear HB
  have HB := HD
  clear HD
  obtain ⟨p0, p1, p2, p3, p4, p5⟩ := num_cells HB.out.1.1
  obtain ⟨q0, q1, q2, q3, q4, q5⟩ := num_cells HB.out.1.2.1
  go_upto_region 27 with fail
  clear p0 p1 p2 p3 p4 p5 q0 q1 q2 q3 q4 q5
  have h0 : ¬ u c = 0 := by omega
  obtain ⟨r0, r1, r2, r3, r4, r5⟩ := num_cells HB.out.2.1
  obtain ⟨f0, f1, f2, f3, f4, f5⟩ := num_free HB.out.2.1
  obtain ⟨p0, p1, p2, p3, p4, p5⟩ := num_cells HB.out.1.1
  obtain ⟨q0, q1, q2, q3, q4, q5⟩ := num_cells HB.out.1.2.1
  go_upto_region 28 with fail
  have HD := Lib.hid (rr_a HB.out (a.a / c))
  generalize World.setCell _ _ _ = W3 at HD ⊢
  clear p0 p1 p2 p3 p4 p5 q0 q1 q2 q3 q4 q5
  clear r0 r1 r2 r3 r4 r5 f0 f1 f2 f3 f4 f5
  obtain ⟨R2, hN2⟩ : ∃ q, (⟨R1.v, R1.m, a.a / c, R1.b, R1.c, R1.d⟩ : K) = q := ⟨_, rfl⟩
  rw [hN2] at HD
  clear HB
  have HB := HD
  clear HD
  obtain ⟨r0, r1, r2, r3, r4, r5⟩ := num_cells HB.out.2.1
  obtain ⟨f0, f1, f2, f3, f4, f5⟩ := num_free HB.out.2.1
  obtain ⟨p0, p1, p2, p3, p4, p5⟩ := num_cells HB.out.1.1
  obtain ⟨q0, q1, q2, q3, q4, q5⟩ := num_cells HB.out.1.2.1
  go_upto_region 78 with fail
  have HD := Lib.hid (rr_b HB.out (a.b / c))
  generalize World.setCell _ _ _ = W3 at HD ⊢
  clear p0 p1 p2 p3 p4 p5 q0 q1 q2 q3 q4 q5
  clear r0 r1 r2 r3 r4 r5 f0 f1 f2 f3 f4 f5
  obtain ⟨R3, hN3⟩ : ∃ q, (⟨R2.v, R2.m, R2.a, a.b / c, R2.c, R2.d⟩ : K) = q := ⟨_, rfl⟩
  rw [hN3] at HD
  clear HB
  have HB := HD
  clear HD
  obtain ⟨r0, r1, r2, r3, r4, r5⟩ := num_cells HB.out.2.1
  obtain ⟨f0, f1, f2, f3, f4, f5⟩ := num_free HB.out.2.1
  obtain ⟨g0, g1, g2, g3, g4, g5⟩ := num_free HB.out.1.2.2.1
  obtain ⟨z0, z1, z2, z3, z4, z5⟩ := num_cells HB.out.1.2.2.1
  go_wp2
  have HZ := Lib.hid (rr_out HB.out R3)
  generalize World.setCell _ _ _ = WZ at HZ ⊢
  clear z0 z1 z2 z3 z4 z5
  obtain ⟨z0, z1, z2, z3, z4, z5⟩ := num_cells HZ.out.1
  exact bodyPost_ret (v := numV R3) (by unfold numV; simp [results, Try.results22, go_sem, z0, z1, z2, z3, z4, z5]) rfl ⟨by subst hN1; subst hN2; subst hN3; rw [← HA.out]; rfl, HZ.out.2⟩
set_option maxRecDepth 100000 in
set_option maxHeartbeats 8000000 in
theorem rr_div_n (a b : K) (c t : B64) (w : World) (ht : ¬ u t = 0) (h1 : ¬ 0 < u c) : Calls Try.prog 22 #[.int .u8 48, numV a, numV b, .int .u64 (u c), .bool true, .int .u64 (u t)] w (Gives (numV (⟨0#64, full, 0#64, a.b, half, most⟩)) w) := by
  have HN := Lib.hid (box3_new a b w)
  have hall := fun W => refall_num W
  have e1 := tmod_u c t
  obtain ⟨k, hk⟩ : ∃ k, c % t = k := ⟨_, rfl⟩
  rw [hk] at e1
  have HK := Lib.hid hk
  clear hk
  obtain ⟨A, hA⟩ : ∃ A, allK = A := ⟨_, rfl⟩
  rw [hA] at hall
  have HA := Lib.hid hA
  clear hA
  unfold numV at hall
  unfold Gives numV
  go_enter Try.func22, Try.ntmps22
  go_upto_region 1 with fail
  generalize World.alloc _ _ = W0 at HN ⊢
  go_upto_region 2 with (go_at_call 13; refine (hall _).mono ?_; rintro e w1 ⟨rfl, hb⟩; have HB := Lib.hid (rr_new HN.out hb A); clear hb)
  generalize w1.alloc _ = W at HB ⊢
  generalize w1.heap.size = m at HB ⊢
  clear hall HN w1 W0
  obtain ⟨r0, r1, r2, r3, r4, r5⟩ := num_cells HB.out.2.1
  obtain ⟨f0, f1, f2, f3, f4, f5⟩ := num_free HB.out.2.1
  obtain ⟨p0, p1, p2, p3, p4, p5⟩ := num_cells HB.out.1.1
  obtain ⟨q0, q1, q2, q3, q4, q5⟩ := num_cells HB.out.1.2.1
  go_upto_region 26 with fail
  have HD := Lib.hid (rr_b HB.out (a.b))
  generalize World.setCell _ _ _ = W3 at HD ⊢
  clear p0 p1 p2 p3 p4 p5 q0 q1 q2 q3 q4 q5
  clear r0 r1 r2 r3 r4 r5 f0 f1 f2 f3 f4 f5
  obtain ⟨R1, hN1⟩ : ∃ q, (⟨A.v, A.m, A.a, a.b, A.c, A.d⟩ : K) = q := ⟨_, rfl⟩
  rw [hN1] at HD
  clear HB
  have HB := HD
  clear HD
  obtain ⟨p0, p1, p2, p3, p4, p5⟩ := num_cells HB.out.1.1
  obtain ⟨q0, q1, q2, q3, q4, q5⟩ := num_cells HB.out.1.2.1
  go_upto_region 78 with fail
  clear p0 p1 p2 p3 p4 p5 q0 q1 q2 q3 q4 q5
  obtain ⟨r0, r1, r2, r3, r4, r5⟩ := num_cells HB.out.2.1
  obtain ⟨f0, f1, f2, f3, f4, f5⟩ := num_free HB.out.2.1
  obtain ⟨g0, g1, g2, g3, g4, g5⟩ := num_free HB.out.1.2.2.1
  obtain ⟨z0, z1, z2, z3, z4, z5⟩ := num_cells HB.out.1.2.2.1
  go_wp2
  have HZ := Lib.hid (rr_out HB.out R1)
  generalize World.setCell _ _ _ = WZ at HZ ⊢
  clear z0 z1 z2 z3 z4 z5
  obtain ⟨z0, z1, z2, z3, z4, z5⟩ := num_cells HZ.out.1
  exact bodyPost_ret (v := numV R1) (by unfold numV; simp [results, Try.results22, go_sem, z0, z1, z2, z3, z4, z5]) rfl ⟨by subst hN1; rw [← HA.out]; rfl, HZ.out.2⟩
set_option maxRecDepth 100000 in
set_option maxHeartbeats 8000000 in
theorem rr_div_o (a b : K) (c t : B64) (w : World) (ht : ¬ u t = 0) : Calls Try.prog 22 #[.int .u8 48, numV a, numV b, .int .u64 (u c), .bool false, .int .u64 (u t)] w (Gives (numV (⟨0#64, full, 0#64, a.b, half, most⟩)) w) := by
  have HN := Lib.hid (box3_new a b w)
  have hall := fun W => refall_num W
  have e1 := tmod_u c t
  obtain ⟨k, hk⟩ : ∃ k, c % t = k := ⟨_, rfl⟩
  rw [hk] at e1
  have HK := Lib.hid hk
  clear hk
  obtain ⟨A, hA⟩ : ∃ A, allK = A := ⟨_, rfl⟩
  rw [hA] at hall
  have HA := Lib.hid hA
  clear hA
  unfold numV at hall
  unfold Gives numV
  go_enter Try.func22, Try.ntmps22
  go_upto_region 1 with fail
  generalize World.alloc _ _ = W0 at HN ⊢
  go_upto_region 2 with (go_at_call 13; refine (hall _).mono ?_; rintro e w1 ⟨rfl, hb⟩; have HB := Lib.hid (rr_new HN.out hb A); clear hb)
  generalize w1.alloc _ = W at HB ⊢
  generalize w1.heap.size = m at HB ⊢
  clear hall HN w1 W0
  obtain ⟨r0, r1, r2, r3, r4, r5⟩ := num_cells HB.out.2.1
  obtain ⟨f0, f1, f2, f3, f4, f5⟩ := num_free HB.out.2.1
  obtain ⟨p0, p1, p2, p3, p4, p5⟩ := num_cells HB.out.1.1
  obtain ⟨q0, q1, q2, q3, q4, q5⟩ := num_cells HB.out.1.2.1
  go_upto_region 26 with fail
  have HD := Lib.hid (rr_b HB.out (a.b))
  generalize World.setCell _ _ _ = W3 at HD ⊢
  clear p0 p1 p2 p3 p4 p5 q0 q1 q2 q3 q4 q5
  clear r0 r1 r2 r3 r4 r5 f0 f1 f2 f3 f4 f5
  obtain ⟨R1, hN1⟩ : ∃ q, (⟨A.v, A.m, A.a, a.b, A.c, A.d⟩ : K) = q := ⟨_, rfl⟩
  rw [hN1] at HD
  clear HB
  have HB := HD
  clear HD
  obtain ⟨p0, p1, p2, p3, p4, p5⟩ := num_cells HB.out.1.1
  obtain ⟨q0, q1, q2, q3, q4, q5⟩ := num_cells HB.out.1.2.1
  go_upto_region 78 with fail
  clear p0 p1 p2 p3 p4 p5 q0 q1 q2 q3 q4 q5
  obtain ⟨r0, r1, r2, r3, r4, r5⟩ := num_cells HB.out.2.1
  obtain ⟨f0, f1, f2, f3, f4, f5⟩ := num_free HB.out.2.1
  obtain ⟨g0, g1, g2, g3, g4, g5⟩ := num_free HB.out.1.2.2.1
  obtain ⟨z0, z1, z2, z3, z4, z5⟩ := num_cells HB.out.1.2.2.1
  go_wp2
  have HZ := Lib.hid (rr_out HB.out R1)
  generalize World.setCell _ _ _ = WZ at HZ ⊢
  clear z0 z1 z2 z3 z4 z5
  obtain ⟨z0, z1, z2, z3, z4, z5⟩ := num_cells HZ.out.1
  exact bodyPost_ret (v := numV R1) (by unfold numV; simp [results, Try.results22, go_sem, z0, z1, z2, z3, z4, z5]) rfl ⟨by subst hN1; rw [← HA.out]; rfl, HZ.out.2⟩
set_option maxRecDepth 100000 in
set_option maxHeartbeats 8000000 in
theorem rr_mod_y (a b : K) (c t : B64) (w : World) (ht : ¬ u t = 0) (h1 : 0 < u c) (h2 : u c ≤ u a.b) : Calls Try.prog 22 #[.int .u8 144, numV a, numV b, .int .u64 (u c), .bool true, .int .u64 (u t)] w (Gives (numV (⟨0#64, full, 0#64, c - 1#64, half, most⟩)) w) := by
  have HN := Lib.hid (box3_new a b w)
  have hall := fun W => refall_num W
  have e1 := tmod_u c t
  obtain ⟨k, hk⟩ : ∃ k, c % t = k := ⟨_, rfl⟩
  rw [hk] at e1
  have HK := Lib.hid hk
  clear hk
  obtain ⟨A, hA⟩ : ∃ A, allK = A := ⟨_, rfl⟩
  rw [hA] at hall
  have HA := Lib.hid hA
  clear hA
  unfold numV at hall
  unfold Gives numV
  go_enter Try.func22, Try.ntmps22
  go_upto_region 1 with fail
  generalize World.alloc _ _ = W0 at HN ⊢
  go_upto_region 2 with (go_at_call 13; refine (hall _).mono ?_; rintro e w1 ⟨rfl, hb⟩; have HB := Lib.hid (rr_new HN.out hb A); clear hb)
  generalize w1.alloc _ = W at HB ⊢
  generalize w1.heap.size = m at HB ⊢
  clear hall HN w1 W0
  obtain ⟨r0, r1, r2, r3, r4, r5⟩ := num_cells HB.out.2.1
  obtain ⟨f0, f1, f2, f3, f4, f5⟩ := num_free HB.out.2.1
  obtain ⟨p0, p1, p2, p3, p4, p5⟩ := num_cells HB.out.1.1
  obtain ⟨q0, q1, q2, q3, q4, q5⟩ := num_cells HB.out.1.2.1
  go_upto_region 31 with fail
  have HD := Lib.hid (rr_b HB.out (a.b))
  generalize World.setCell _ _ _ = W3 at HD ⊢
  clear p0 p1 p2 p3 p4 p5 q0 q1 q2 q3 q4 q5
  clear r0 r1 r2 r3 r4 r5 f0 f1 f2 f3 f4 f5
  obtain ⟨R1, hN1⟩ : ∃ q, (⟨A.v, A.m, A.a, a.b, A.c, A.d⟩ : K) = q := ⟨_, rfl⟩
  rw [hN1] at HD
  clear HB
  have HB := HD
  clear HD
  obtain ⟨p0, p1, p2, p3, p4, p5⟩ := num_cells HB.out.1.1
  obtain ⟨q0, q1, q2, q3, q4, q5⟩ := num_cells HB.out.1.2.1
  go_upto_region 32 with fail
  clear p0 p1 p2 p3 p4 p5 q0 q1 q2 q3 q4 q5
  have e3 : IntKind.u64.wrap (u c - 1) = u (c - 1#64) := u_sub c 1#64
  obtain ⟨r0, r1, r2, r3, r4, r5⟩ := num_cells HB.out.2.1
  obtain ⟨f0, f1, f2, f3, f4, f5⟩ := num_free HB.out.2.1
  obtain ⟨p0, p1, p2, p3, p4, p5⟩ := num_cells HB.out.1.1
  obtain ⟨q0, q1, q2, q3, q4, q5⟩ := num_cells HB.out.1.2.1
  go_upto_region 78 with fail
  have HD := Lib.hid (rr_b HB.out (c - 1#64))
  generalize World.setCell _ _ _ = W3 at HD ⊢
  clear p0 p1 p2 p3 p4 p5 q0 q1 q2 q3 q4 q5
  clear r0 r1 r2 r3 r4 r5 f0 f1 f2 f3 f4 f5
  obtain ⟨R2, hN2⟩ : ∃ q, (⟨R1.v, R1.m, R1.a, c - 1#64, R1.c, R1.d⟩ : K) = q := ⟨_, rfl⟩
  rw [hN2] at HD
  clear HB
  have HB := HD
  clear HD
  obtain ⟨r0, r1, r2, r3, r4, r5⟩ := num_cells HB.out.2.1
  obtain ⟨f0, f1, f2, f3, f4, f5⟩ := num_free HB.out.2.1
  obtain ⟨g0, g1, g2, g3, g4, g5⟩ := num_free HB.out.1.2.2.1
  obtain ⟨z0, z1, z2, z3, z4, z5⟩ := num_cells HB.out.1.2.2.1
  go_wp2
  have HZ := Lib.hid (rr_out HB.out R2)
  generalize World.setCell _ _ _ = WZ at HZ ⊢
  clear z0 z1 z2 z3 z4 z5
  obtain ⟨z0, z1, z2, z3, z4, z5⟩ := num_cells HZ.out.1
  exact bodyPost_ret (v := numV R2) (by unfold numV; simp [results, Try.results22, go_sem, z0, z1, z2, z3, z4, z5]) rfl ⟨by subst hN1; subst hN2; rw [← HA.out]; rfl, HZ.out.2⟩
set_option maxRecDepth 100000 in
set_option maxHeartbeats 8000000 in
theorem rr_mod_n (a b : K) (c t : B64) (w : World) (ht : ¬ u t = 0) (h1 : 0 < u c) (h2 : ¬ u c ≤ u a.b) : Calls Try.prog 22 #[.int .u8 144, numV a, numV b, .int .u64 (u c), .bool true, .int .u64 (u t)] w (Gives (numV (⟨0#64, full, 0#64, a.b, half, most⟩)) w) := by
  have HN := Lib.hid (box3_new a b w)
  have hall := fun W => refall_num W
  have e1 := tmod_u c t
  obtain ⟨k, hk⟩ : ∃ k, c % t = k := ⟨_, rfl⟩
  rw [hk] at e1
  have HK := Lib.hid hk
  clear hk
  obtain ⟨A, hA⟩ : ∃ A, allK = A := ⟨_, rfl⟩
  rw [hA] at hall
  have HA := Lib.hid hA
  clear hA
  unfold numV at hall
  unfold Gives numV
  go_enter Try.func22, Try.ntmps22
  go_upto_region 1 with fail
  generalize World.alloc _ _ = W0 at HN ⊢
  go_upto_region 2 with (go_at_call 13; refine (hall _).mono ?_; rintro e w1 ⟨rfl, hb⟩; have HB := Lib.hid (rr_new HN.out hb A); clear hb)
  generalize w1.alloc _ = W at HB ⊢
  generalize w1.heap.size = m at HB ⊢
  clear hall HN w1 W0
  obtain ⟨r0, r1, r2, r3, r4, r5⟩ := num_cells HB.out.2.1
  obtain ⟨f0, f1, f2, f3, f4, f5⟩ := num_free HB.out.2.1
  obtain ⟨p0, p1, p2, p3, p4, p5⟩ := num_cells HB.out.1.1
  obtain ⟨q0, q1, q2, q3, q4, q5⟩ := num_cells HB.out.1.2.1
  go_upto_region 31 with fail
  have HD := Lib.hid (rr_b HB.out (a.b))
  generalize World.setCell _ _ _ = W3 at HD ⊢
  clear p0 p1 p2 p3 p4 p5 q0 q1 q2 q3 q4 q5
  clear r0 r1 r2 r3 r4 r5 f0 f1 f2 f3 f4 f5
  obtain ⟨R1, hN1⟩ : ∃ q, (⟨A.v, A.m, A.a, a.b, A.c, A.d⟩ : K) = q := ⟨_, rfl⟩
  rw [hN1] at HD
  clear HB
  have HB := HD
  clear HD
  obtain ⟨p0, p1, p2, p3, p4, p5⟩ := num_cells HB.out.1.1
  obtain ⟨q0, q1, q2, q3, q4, q5⟩ := num_cells HB.out.1.2.1
  go_upto_region 78 with fail
  clear p0 p1 p2 p3 p4 p5 q0 q1 q2 q3 q4 q5
  obtain ⟨r0, r1, r2, r3, r4, r5⟩ := num_cells HB.out.2.1
  obtain ⟨f0, f1, f2, f3, f4, f5⟩ := num_free HB.out.2.1
  obtain ⟨g0, g1, g2, g3, g4, g5⟩ := num_free HB.out.1.2.2.1
  obtain ⟨z0, z1, z2, z3, z4, z5⟩ := num_cells HB.out.1.2.2.1
  go_wp2
  have HZ := Lib.hid (rr_out HB.out R1)
  generalize World.setCell _ _ _ = WZ at HZ ⊢
  clear z0 z1 z2 z3 z4 z5
  obtain ⟨z0, z1, z2, z3, z4, z5⟩ := num_cells HZ.out.1
  exact bodyPost_ret (v := numV R1) (by unfold numV; simp [results, Try.results22, go_sem, z0, z1, z2, z3, z4, z5]) rfl ⟨by subst hN1; rw [← HA.out]; rfl, HZ.out.2⟩
set_option maxRecDepth 100000 in
set_option maxHeartbeats 8000000 in
theorem rr_mod_z (a b : K) (c t : B64) (w : World) (ht : ¬ u t = 0) (h1 : ¬ 0 < u c) : Calls Try.prog 22 #[.int .u8 144, numV a, numV b, .int .u64 (u c), .bool true, .int .u64 (u t)] w (Gives (numV (⟨0#64, full, 0#64, a.b, half, most⟩)) w) := by
  have HN := Lib.hid (box3_new a b w)
  have hall := fun W => refall_num W
  have e1 := tmod_u c t
  obtain ⟨k, hk⟩ : ∃ k, c % t = k := ⟨_, rfl⟩
  rw [hk] at e1
  have HK := Lib.hid hk
  clear hk
  obtain ⟨A, hA⟩ : ∃ A, allK = A := ⟨_, rfl⟩
  rw [hA] at hall
  have HA := Lib.hid hA
  clear hA
  unfold numV at hall
  unfold Gives numV
  go_enter Try.func22, Try.ntmps22
  go_upto_region 1 with fail
  generalize World.alloc _ _ = W0 at HN ⊢
  go_upto_region 2 with (go_at_call 13; refine (hall _).mono ?_; rintro e w1 ⟨rfl, hb⟩; have HB := Lib.hid (rr_new HN.out hb A); clear hb)
  generalize w1.alloc _ = W at HB ⊢
  generalize w1.heap.size = m at HB ⊢
  clear hall HN w1 W0
  obtain ⟨r0, r1, r2, r3, r4, r5⟩ := num_cells HB.out.2.1
  obtain ⟨f0, f1, f2, f3, f4, f5⟩ := num_free HB.out.2.1
  obtain ⟨p0, p1, p2, p3, p4, p5⟩ := num_cells HB.out.1.1
  obtain ⟨q0, q1, q2, q3, q4, q5⟩ := num_cells HB.out.1.2.1
  go_upto_region 31 with fail
  have HD := Lib.hid (rr_b HB.out (a.b))
  generalize World.setCell _ _ _ = W3 at HD ⊢
  clear p0 p1 p2 p3 p4 p5 q0 q1 q2 q3 q4 q5
  clear r0 r1 r2 r3 r4 r5 f0 f1 f2 f3 f4 f5
  obtain ⟨R1, hN1⟩ : ∃ q, (⟨A.v, A.m, A.a, a.b, A.c, A.d⟩ : K) = q := ⟨_, rfl⟩
  rw [hN1] at HD
  clear HB
  have HB := HD
  clear HD
  obtain ⟨p0, p1, p2, p3, p4, p5⟩ := num_cells HB.out.1.1
  obtain ⟨q0, q1, q2, q3, q4, q5⟩ := num_cells HB.out.1.2.1
  go_upto_region 78 with fail
  clear p0 p1 p2 p3 p4 p5 q0 q1 q2 q3 q4 q5
  obtain ⟨r0, r1, r2, r3, r4, r5⟩ := num_cells HB.out.2.1
  obtain ⟨f0, f1, f2, f3, f4, f5⟩ := num_free HB.out.2.1
  obtain ⟨g0, g1, g2, g3, g4, g5⟩ := num_free HB.out.1.2.2.1
  obtain ⟨z0, z1, z2, z3, z4, z5⟩ := num_cells HB.out.1.2.2.1
  go_wp2
  have HZ := Lib.hid (rr_out HB.out R1)
  generalize World.setCell _ _ _ = WZ at HZ ⊢
  clear z0 z1 z2 z3 z4 z5
  obtain ⟨z0, z1, z2, z3, z4, z5⟩ := num_cells HZ.out.1
  exact bodyPost_ret (v := numV R1) (by unfold numV; simp [results, Try.results22, go_sem, z0, z1, z2, z3, z4, z5]) rfl ⟨by subst hN1; rw [← HA.out]; rfl, HZ.out.2⟩
set_option maxRecDepth 100000 in
set_option maxHeartbeats 8000000 in
theorem rr_mod_o (a b : K) (c t : B64) (w : World) (ht : ¬ u t = 0) : Calls Try.prog 22 #[.int .u8 144, numV a, numV b, .int .u64 (u c), .bool false, .int .u64 (u t)] w (Gives (numV (⟨0#64, full, 0#64, a.b, half, most⟩)) w) := by
  have HN := Lib.hid (box3_new a b w)
  have hall := fun W => refall_num W
  have e1 := tmod_u c t
  obtain ⟨k, hk⟩ : ∃ k, c % t = k := ⟨_, rfl⟩
  rw [hk] at e1
  have HK := Lib.hid hk
  clear hk
  obtain ⟨A, hA⟩ : ∃ A, allK = A := ⟨_, rfl⟩
  rw [hA] at hall
  have HA := Lib.hid hA
  clear hA
  unfold numV at hall
  unfold Gives numV
  go_enter Try.func22, Try.ntmps22
  go_upto_region 1 with fail
  generalize World.alloc _ _ = W0 at HN ⊢
  go_upto_region 2 with (go_at_call 13; refine (hall _).mono ?_; rintro e w1 ⟨rfl, hb⟩; have HB := Lib.hid (rr_new HN.out hb A); clear hb)
  generalize w1.alloc _ = W at HB ⊢
  generalize w1.heap.size = m at HB ⊢
  clear hall HN w1 W0
  obtain ⟨r0, r1, r2, r3, r4, r5⟩ := num_cells HB.out.2.1
  obtain ⟨f0, f1, f2, f3, f4, f5⟩ := num_free HB.out.2.1
  obtain ⟨p0, p1, p2, p3, p4, p5⟩ := num_cells HB.out.1.1
  obtain ⟨q0, q1, q2, q3, q4, q5⟩ := num_cells HB.out.1.2.1
  go_upto_region 31 with fail
  have HD := Lib.hid (rr_b HB.out (a.b))
  generalize World.setCell _ _ _ = W3 at HD ⊢
  clear p0 p1 p2 p3 p4 p5 q0 q1 q2 q3 q4 q5
  clear r0 r1 r2 r3 r4 r5 f0 f1 f2 f3 f4 f5
  obtain ⟨R1, hN1⟩ : ∃ q, (⟨A.v, A.m, A.a, a.b, A.c, A.d⟩ : K) = q := ⟨_, rfl⟩
  rw [hN1] at HD
  clear HB
  have HB := HD
  clear HD
  obtain ⟨p0, p1, p2, p3, p4, p5⟩ := num_cells HB.out.1.1
  obtain ⟨q0, q1, q2, q3, q4, q5⟩ := num_cells HB.out.1.2.1
  go_upto_region 78 with fail
  clear p0 p1 p2 p3 p4 p5 q0 q1 q2 q3 q4 q5
  obtain ⟨r0, r1, r2, r3, r4, r5⟩ := num_cells HB.out.2.1
  obtain ⟨f0, f1, f2, f3, f4, f5⟩ := num_free HB.out.2.1
  obtain ⟨g0, g1, g2, g3, g4, g5⟩ := num_free HB.out.1.2.2.1
  obtain ⟨z0, z1, z2, z3, z4, z5⟩ := num_cells HB.out.1.2.2.1
  go_wp2
  have HZ := Lib.hid (rr_out HB.out R1)
  generalize World.setCell _ _ _ = WZ at HZ ⊢
  clear z0 z1 z2 z3 z4 z5
  obtain ⟨z0, z1, z2, z3, z4, z5⟩ := num_cells HZ.out.1
  exact bodyPost_ret (v := numV R1) (by unfold numV; simp [results, Try.results22, go_sem, z0, z1, z2, z3, z4, z5]) rfl ⟨by subst hN1; rw [← HA.out]; rfl, HZ.out.2⟩
theorem rr_div (a b : K) (c t : B64) (one : Bool) (w : World) (ht : ¬ u t = 0) : Calls Try.prog 22 #[.int .u8 48, numV a, numV b, .int .u64 (u c), .bool one, .int .u64 (u t)] w (Gives (numV (rowDiv a one c)) w) := by
  unfold rowDiv divU
  cases one
  · exact rr_div_o a b c t w ht
  · by_cases h1 : 0 < u c
    · rw [decide_eq_true h1]; exact rr_div_y a b c t w ht h1
    · rw [decide_eq_false h1]; exact rr_div_n a b c t w ht h1
theorem min_c {x c : B64} (h1 : 0 < u c) : minU x (c - 1#64) = if u c ≤ u x then c - 1#64 else x := by
  have e : u (c - 1#64) = u c - 1 := by
    rw [u_subv]
    have := u_bd c
    have e1 : u 1#64 = 1 := rfl
    rw [e1]
    omega
  unfold minU
  by_cases h : u c ≤ u x
  · rw [if_pos h, if_pos (by omega)]
  · rw [if_neg h, if_neg (by omega)]
theorem rr_mod (a b : K) (c t : B64) (one : Bool) (w : World) (ht : ¬ u t = 0) : Calls Try.prog 22 #[.int .u8 144, numV a, numV b, .int .u64 (u c), .bool one, .int .u64 (u t)] w (Gives (numV (rowMod a one c)) w) := by
  unfold rowMod divU
  cases one
  · exact rr_mod_o a b c t w ht
  · by_cases h1 : 0 < u c
    · rw [decide_eq_true h1, min_c h1]
      by_cases h2 : u c ≤ u a.b
      · rw [if_pos h2]; exact rr_mod_y a b c t w ht h1 h2
      · rw [if_neg h2]; exact rr_mod_n a b c t w ht h1 h2
    · rw [decide_eq_false h1]; exact rr_mod_z a b c t w ht h1
end Go.Proofs.Ytogadmlnmcojpaa

/-
  Proved here: rows of the document's answer for package xfer: Add. Conditions: none.
-/
namespace Go.Proofs.Ytogadmlnmcojpaa
open Go.RowKit
attribute [local go_sem] u_and u_or u_xor u_andNot u_add u_sub s_conv u_conv
set_option linter.unusedSimpArgs false
theorem wr_cd2 {w0 W : World} {a b r : K} {m : Nat} (h : RrB w0 a b m r W) (x y : B64) : RrB w0 a b m ⟨r.v, r.m, r.a, r.b, x, y⟩ ((W.setCell ⟨m, 4, none⟩ (.int .i64 (s x))).setCell ⟨m, 5, none⟩ (.int .i64 (s y))) := rr_d (rr_c h x) y
set_option maxRecDepth 100000 in
set_option maxHeartbeats 16000000 in
theorem rr_add_u_yy (a b : K) (c t : B64) (one : Bool) (w : World) (ht : ¬ u t = 0) (hu : u a.b + u b.b ≤ 18446744073709551615) (h1 : fitS (s a.c + s b.c) = true) (h2 : fitS (s a.d + s b.d) = true) : Calls Try.prog 22 #[.int .u8 0, numV a, numV b, .int .u64 (u c), .bool one, .int .u64 (u t)] w (Gives (numV (⟨twoV 0 a.v a.m b.v b.m, twoM 0 a.v a.m b.v b.m, a.a + b.a, a.b + b.b, a.c + b.c, a.d + b.d⟩)) w) := by
  have HN := Lib.hid (box3_new a b w)
  have hall := fun W => refall_num W
  have e1 := tmod_u c t
  have e2 : IntKind.u64.wrap (18446744073709551615 - u b.b) = u (full - b.b) := by rw [← u_sub, u_full]
  have e3 : u (full - b.b) = 18446744073709551615 - u b.b := by
    rw [u_subv, u_full]
    have := u_bd b.b
    omega
  have hc : u a.b ≤ u (full - b.b) := by rw [e3]; omega
  clear e3 hu
  obtain ⟨k, hk⟩ : ∃ k, c % t = k := ⟨_, rfl⟩
  rw [hk] at e1
  have HK := Lib.hid hk
  clear hk
  obtain ⟨A, hA⟩ : ∃ A, allK = A := ⟨_, rfl⟩
  rw [hA] at hall
  have HA := Lib.hid hA
  clear hA
  unfold numV at hall
  unfold Gives numV
  go_enter Try.func22, Try.ntmps22
  go_upto_region 1 with fail
  generalize World.alloc _ _ = W0 at HN ⊢
  go_upto_region 2 with (go_at_call 13; refine (hall _).mono ?_; rintro e w1 ⟨rfl, hb⟩; have HB := Lib.hid (rr_new HN.out hb A); clear hb)
  generalize w1.alloc _ = W at HB ⊢
  generalize w1.heap.size = m at HB ⊢
  clear hall HN w1 W0
  have htw := fun W => two_ref0 a.v a.m b.v b.m W
  obtain ⟨tv, hv⟩ : ∃ t, twoV 0 a.v a.m b.v b.m = t := ⟨_, rfl⟩
  obtain ⟨tm, hm⟩ : ∃ t, twoM 0 a.v a.m b.v b.m = t := ⟨_, rfl⟩
  rw [hv, hm] at htw
  have HT := Lib.hid hv
  have HM := Lib.hid hm
  clear hv hm
  unfold tnV at htw
  obtain ⟨p0, p1, p2, p3, p4, p5⟩ := num_cells HB.out.1.1
  obtain ⟨q0, q1, q2, q3, q4, q5⟩ := num_cells HB.out.1.2.1
  go_upto_region 6 with (go_at_call 43; refine (htw _).mono ?_; rintro e w2 ⟨rfl, hb⟩; have HC := Lib.hid (rr_keep HB.out hb); clear hb; clear p0 p1 p2 p3 p4 p5 q0 q1 q2 q3 q4 q5; obtain ⟨r0, r1, r2, r3, r4, r5⟩ := num_cells HC.out.2.1; obtain ⟨f0, f1, f2, f3, f4, f5⟩ := num_free HC.out.2.1)
  have HD := Lib.hid (rr_vm HC.out tv tm)
  generalize World.setCell _ _ _ = W2 at HD ⊢
  clear r0 r1 r2 r3 r4 r5 f0 f1 f2 f3 f4 f5
  clear htw HC w2
  obtain ⟨R1, hN1⟩ : ∃ q, (⟨tv, tm, A.a, A.b, A.c, A.d⟩ : K) = q := ⟨_, rfl⟩
  rw [hN1] at HD
  clear HB
  have HB := HD
  clear HD
  obtain ⟨p0, p1, p2, p3, p4, p5⟩ := num_cells HB.out.1.1
  obtain ⟨q0, q1, q2, q3, q4, q5⟩ := num_cells HB.out.1.2.1
  go_upto_region 7 with fail
  clear p0 p1 p2 p3 p4 p5 q0 q1 q2 q3 q4 q5
  obtain ⟨r0, r1, r2, r3, r4, r5⟩ := num_cells HB.out.2.1
  obtain ⟨f0, f1, f2, f3, f4, f5⟩ := num_free HB.out.2.1
  obtain ⟨p0, p1, p2, p3, p4, p5⟩ := num_cells HB.out.1.1
  obtain ⟨q0, q1, q2, q3, q4, q5⟩ := num_cells HB.out.1.2.1
  go_upto_region 8 with fail
  have HD := Lib.hid (rr_a HB.out (a.a + b.a))
  generalize World.setCell _ _ _ = W3 at HD ⊢
  clear p0 p1 p2 p3 p4 p5 q0 q1 q2 q3 q4 q5
  clear r0 r1 r2 r3 r4 r5 f0 f1 f2 f3 f4 f5
  obtain ⟨R2, hN2⟩ : ∃ q, (⟨R1.v, R1.m, a.a + b.a, R1.b, R1.c, R1.d⟩ : K) = q := ⟨_, rfl⟩
  rw [hN2] at HD
  clear HB
  have HB := HD
  clear HD
  obtain ⟨r0, r1, r2, r3, r4, r5⟩ := num_cells HB.out.2.1
  obtain ⟨f0, f1, f2, f3, f4, f5⟩ := num_free HB.out.2.1
  obtain ⟨p0, p1, p2, p3, p4, p5⟩ := num_cells HB.out.1.1
  obtain ⟨q0, q1, q2, q3, q4, q5⟩ := num_cells HB.out.1.2.1
  go_upto_region 9 with fail
  have HD := Lib.hid (rr_b HB.out (a.b + b.b))
  generalize World.setCell _ _ _ = W3 at HD ⊢
  clear p0 p1 p2 p3 p4 p5 q0 q1 q2 q3 q4 q5
  clear r0 r1 r2 r3 r4 r5 f0 f1 f2 f3 f4 f5
  obtain ⟨R3, hN3⟩ : ∃ q, (⟨R2.v, R2.m, R2.a, a.b + b.b, R2.c, R2.d⟩ : K) = q := ⟨_, rfl⟩
  rw [hN3] at HD
  clear HB
  have HB := HD
  clear HD
  have ho1 := fun W => over_plus a.c b.c W
  have ho2 := fun W => over_plus a.d b.d W
  rw [h1] at ho1
  rw [h2] at ho2
  clear h1 h2
  simp only [Bool.not_true, Bool.not_false] at ho1 ho2
  obtain ⟨p0, p1, p2, p3, p4, p5⟩ := num_cells HB.out.1.1
  obtain ⟨q0, q1, q2, q3, q4, q5⟩ := num_cells HB.out.1.2.1
  have e5 : IntKind.i64.wrap (s a.c + s b.c) = s (a.c + b.c) := s_addw _ _
  have e6 : IntKind.i64.wrap (s a.d + s b.d) = s (a.d + b.d) := s_addw _ _
  obtain ⟨z0, hz0⟩ : ∃ t, s (a.c + b.c) = t := ⟨_, rfl⟩
  obtain ⟨z1, hz1⟩ : ∃ t, s (a.d + b.d) = t := ⟨_, rfl⟩
  rw [hz0] at e5
  rw [hz1] at e6
  obtain ⟨x0, hx0⟩ : ∃ t, s a.c = t := ⟨_, rfl⟩
  obtain ⟨x1, hx1⟩ : ∃ t, s a.d = t := ⟨_, rfl⟩
  obtain ⟨y0, hy0⟩ : ∃ t, s b.c = t := ⟨_, rfl⟩
  obtain ⟨y1, hy1⟩ : ∃ t, s b.d = t := ⟨_, rfl⟩
  rw [hx0] at p4 ho1 e5
  rw [hx1] at p5 ho2 e6
  rw [hy0] at q4 ho1 e5
  rw [hy1] at q5 ho2 e6
  clear hx0 hx1 hy0 hy1
  go_upto_region 10 with (first | (go_at_call_of 44 (Value.int .i64 x0); refine (ho1 _).mono ?_; rintro e w7 ⟨rfl, rfl⟩) | (go_at_call_of 44 (Value.int .i64 x1); refine (ho2 _).mono ?_; rintro e w7 ⟨rfl, rfl⟩))
  obtain ⟨r0, r1, r2, r3, r4, r5⟩ := num_cells HB.out.2.1
  obtain ⟨f0, f1, f2, f3, f4, f5⟩ := num_free HB.out.2.1
  have hm0 := HB.out.2.2
  have hm1 : ¬ m = w.heap.size + 1 := by omega
  have hm2 : ¬ w.heap.size + 1 = m := by omega
  have hm3 : ¬ m = w.heap.size := by omega
  have hm4 : ¬ w.heap.size = m := by omega
  clear hm0
  go_upto_region 78 with fail
  clear hm1 hm2 hm3 hm4
  have HD := wr_cd2 HB.out (a.c + b.c) (a.d + b.d)
  rw [hz0, hz1] at HD
  have HD := Lib.hid HD
  generalize World.setCell _ _ _ = W3 at HD ⊢
  clear p0 p1 p2 p3 p4 p5 q0 q1 q2 q3 q4 q5
  clear r0 r1 r2 r3 r4 r5 f0 f1 f2 f3 f4 f5
  clear ho1 ho2 e5 e6 hz0 hz1
  obtain ⟨R4, hN4⟩ : ∃ q, (⟨R3.v, R3.m, R3.a, R3.b, a.c + b.c, a.d + b.d⟩ : K) = q := ⟨_, rfl⟩
  rw [hN4] at HD
  clear HB
  have HB := HD
  clear HD
  obtain ⟨r0, r1, r2, r3, r4, r5⟩ := num_cells HB.out.2.1
  obtain ⟨f0, f1, f2, f3, f4, f5⟩ := num_free HB.out.2.1
  obtain ⟨g0, g1, g2, g3, g4, g5⟩ := num_free HB.out.1.2.2.1
  obtain ⟨z0, z1, z2, z3, z4, z5⟩ := num_cells HB.out.1.2.2.1
  go_wp2
  have HZ := Lib.hid (rr_out HB.out R4)
  generalize World.setCell _ _ _ = WZ at HZ ⊢
  clear z0 z1 z2 z3 z4 z5
  obtain ⟨z0, z1, z2, z3, z4, z5⟩ := num_cells HZ.out.1
  exact bodyPost_ret (v := numV R4) (by unfold numV; simp [results, Try.results22, go_sem, z0, z1, z2, z3, z4, z5]) rfl ⟨by subst hN1; subst hN2; subst hN3; subst hN4; rw [← HT.out, ← HM.out]; rfl, HZ.out.2⟩
set_option maxRecDepth 100000 in
set_option maxHeartbeats 16000000 in
theorem rr_add_u_yn (a b : K) (c t : B64) (one : Bool) (w : World) (ht : ¬ u t = 0) (hu : u a.b + u b.b ≤ 18446744073709551615) (h1 : fitS (s a.c + s b.c) = true) (h2 : fitS (s a.d + s b.d) = false) : Calls Try.prog 22 #[.int .u8 0, numV a, numV b, .int .u64 (u c), .bool one, .int .u64 (u t)] w (Gives (numV (⟨twoV 0 a.v a.m b.v b.m, twoM 0 a.v a.m b.v b.m, a.a + b.a, a.b + b.b, half, most⟩)) w) := by
  have HN := Lib.hid (box3_new a b w)
  have hall := fun W => refall_num W
  have e1 := tmod_u c t
  have e2 : IntKind.u64.wrap (18446744073709551615 - u b.b) = u (full - b.b) := by rw [← u_sub, u_full]
  have e3 : u (full - b.b) = 18446744073709551615 - u b.b := by
    rw [u_subv, u_full]
    have := u_bd b.b
    omega
  have hc : u a.b ≤ u (full - b.b) := by rw [e3]; omega
  clear e3 hu
  obtain ⟨k, hk⟩ : ∃ k, c % t = k := ⟨_, rfl⟩
  rw [hk] at e1
  have HK := Lib.hid hk
  clear hk
  obtain ⟨A, hA⟩ : ∃ A, allK = A := ⟨_, rfl⟩
  rw [hA] at hall
  have HA := Lib.hid hA
  clear hA
  unfold numV at hall
  unfold Gives numV
  go_enter Try.func22, Try.ntmps22
  go_upto_region 1 with fail
  generalize World.alloc _ _ = W0 at HN ⊢
  go_upto_region 2 with (go_at_call 13; refine (hall _).mono ?_; rintro e w1 ⟨rfl, hb⟩; have HB := Lib.hid (rr_new HN.out hb A); clear hb)
  generalize w1.alloc _ = W at HB ⊢
  generalize w1.heap.size = m at HB ⊢
  clear hall HN w1 W0
  have htw := fun W => two_ref0 a.v a.m b.v b.m W
  obtain ⟨tv, hv⟩ : ∃ t, twoV 0 a.v a.m b.v b.m = t := ⟨_, rfl⟩
  obtain ⟨tm, hm⟩ : ∃ t, twoM 0 a.v a.m b.v b.m = t := ⟨_, rfl⟩
  rw [hv, hm] at htw
  have HT := Lib.hid hv
  have HM := Lib.hid hm
  clear hv hm
  unfold tnV at htw
  obtain ⟨p0, p1, p2, p3, p4, p5⟩ := num_cells HB.out.1.1
  obtain ⟨q0, q1, q2, q3, q4, q5⟩ := num_cells HB.out.1.2.1
  go_upto_region 6 with (go_at_call 43; refine (htw _).mono ?_; rintro e w2 ⟨rfl, hb⟩; have HC := Lib.hid (rr_keep HB.out hb); clear hb; clear p0 p1 p2 p3 p4 p5 q0 q1 q2 q3 q4 q5; obtain ⟨r0, r1, r2, r3, r4, r5⟩ := num_cells HC.out.2.1; obtain ⟨f0, f1, f2, f3, f4, f5⟩ := num_free HC.out.2.1)
  have HD := Lib.hid (rr_vm HC.out tv tm)
  generalize World.setCell _ _ _ = W2 at HD ⊢
  clear r0 r1 r2 r3 r4 r5 f0 f1 f2 f3 f4 f5
  clear htw HC w2
  obtain ⟨R1, hN1⟩ : ∃ q, (⟨tv, tm, A.a, A.b, A.c, A.d⟩ : K) = q := ⟨_, rfl⟩
  rw [hN1] at HD
  clear HB
  have HB := HD
  clear HD
  obtain ⟨p0, p1, p2, p3, p4, p5⟩ := num_cells HB.out.1.1
  obtain ⟨q0, q1, q2, q3, q4, q5⟩ := num_cells HB.out.1.2.1
  go_upto_region 7 with fail
  clear p0 p1 p2 p3 p4 p5 q0 q1 q2 q3 q4 q5
  obtain ⟨r0, r1, r2, r3, r4, r5⟩ := num_cells HB.out.2.1
  obtain ⟨f0, f1, f2, f3, f4, f5⟩ := num_free HB.out.2.1
  obtain ⟨p0, p1, p2, p3, p4, p5⟩ := num_cells HB.out.1.1
  obtain ⟨q0, q1, q2, q3, q4, q5⟩ := num_cells HB.out.1.2.1
  go_upto_region 8 with fail
  have HD := Lib.hid (rr_a HB.out (a.a + b.a))
  generalize World.setCell _ _ _ = W3 at HD ⊢
  clear p0 p1 p2 p3 p4 p5 q0 q1 q2 q3 q4 q5
  clear r0 r1 r2 r3 r4 r5 f0 f1 f2 f3 f4 f5
  obtain ⟨R2, hN2⟩ : ∃ q, (⟨R1.v, R1.m, a.a + b.a, R1.b, R1.c, R1.d⟩ : K) = q := ⟨_, rfl⟩
  rw [hN2] at HD
  clear HB
  have HB := HD
  clear HD
  obtain ⟨r0, r1, r2, r3, r4, r5⟩ := num_cells HB.out.2.1
  obtain ⟨f0, f1, f2, f3, f4, f5⟩ := num_free HB.out.2.1
  obtain ⟨p0, p1, p2, p3, p4, p5⟩ := num_cells HB.out.1.1
  obtain ⟨q0, q1, q2, q3, q4, q5⟩ := num_cells HB.out.1.2.1
  go_upto_region 9 with fail
  have HD := Lib.hid (rr_b HB.out (a.b + b.b))
  generalize World.setCell _ _ _ = W3 at HD ⊢
  clear p0 p1 p2 p3 p4 p5 q0 q1 q2 q3 q4 q5
  clear r0 r1 r2 r3 r4 r5 f0 f1 f2 f3 f4 f5
  obtain ⟨R3, hN3⟩ : ∃ q, (⟨R2.v, R2.m, R2.a, a.b + b.b, R2.c, R2.d⟩ : K) = q := ⟨_, rfl⟩
  rw [hN3] at HD
  clear HB
  have HB := HD
  clear HD
  have ho1 := fun W => over_plus a.c b.c W
  have ho2 := fun W => over_plus a.d b.d W
  rw [h1] at ho1
  rw [h2] at ho2
  clear h1 h2
  simp only [Bool.not_true, Bool.not_false] at ho1 ho2
  obtain ⟨p0, p1, p2, p3, p4, p5⟩ := num_cells HB.out.1.1
  obtain ⟨q0, q1, q2, q3, q4, q5⟩ := num_cells HB.out.1.2.1
  obtain ⟨x0, hx0⟩ : ∃ t, s a.c = t := ⟨_, rfl⟩
  obtain ⟨x1, hx1⟩ : ∃ t, s a.d = t := ⟨_, rfl⟩
  obtain ⟨y0, hy0⟩ : ∃ t, s b.c = t := ⟨_, rfl⟩
  obtain ⟨y1, hy1⟩ : ∃ t, s b.d = t := ⟨_, rfl⟩
  rw [hx0] at p4 ho1 
  rw [hx1] at p5 ho2 
  rw [hy0] at q4 ho1
  rw [hy1] at q5 ho2
  clear hx0 hx1 hy0 hy1
  go_upto_region 78 with (first | (go_at_call_of 44 (Value.int .i64 x0); refine (ho1 _).mono ?_; rintro e w7 ⟨rfl, rfl⟩) | (go_at_call_of 44 (Value.int .i64 x1); refine (ho2 _).mono ?_; rintro e w7 ⟨rfl, rfl⟩))
  clear ho1 ho2
  clear p0 p1 p2 p3 p4 p5 q0 q1 q2 q3 q4 q5
  obtain ⟨r0, r1, r2, r3, r4, r5⟩ := num_cells HB.out.2.1
  obtain ⟨f0, f1, f2, f3, f4, f5⟩ := num_free HB.out.2.1
  obtain ⟨g0, g1, g2, g3, g4, g5⟩ := num_free HB.out.1.2.2.1
  obtain ⟨z0, z1, z2, z3, z4, z5⟩ := num_cells HB.out.1.2.2.1
  go_wp2
  have HZ := Lib.hid (rr_out HB.out R3)
  generalize World.setCell _ _ _ = WZ at HZ ⊢
  clear z0 z1 z2 z3 z4 z5
  obtain ⟨z0, z1, z2, z3, z4, z5⟩ := num_cells HZ.out.1
  exact bodyPost_ret (v := numV R3) (by unfold numV; simp [results, Try.results22, go_sem, z0, z1, z2, z3, z4, z5]) rfl ⟨by subst hN1; subst hN2; subst hN3; rw [← HA.out, ← HT.out, ← HM.out]; rfl, HZ.out.2⟩
set_option maxRecDepth 100000 in
set_option maxHeartbeats 16000000 in
theorem rr_add_u_n (a b : K) (c t : B64) (one : Bool) (w : World) (ht : ¬ u t = 0) (hu : u a.b + u b.b ≤ 18446744073709551615) (h1 : fitS (s a.c + s b.c) = false) : Calls Try.prog 22 #[.int .u8 0, numV a, numV b, .int .u64 (u c), .bool one, .int .u64 (u t)] w (Gives (numV (⟨twoV 0 a.v a.m b.v b.m, twoM 0 a.v a.m b.v b.m, a.a + b.a, a.b + b.b, half, most⟩)) w) := by
  have HN := Lib.hid (box3_new a b w)
  have hall := fun W => refall_num W
  have e1 := tmod_u c t
  have e2 : IntKind.u64.wrap (18446744073709551615 - u b.b) = u (full - b.b) := by rw [← u_sub, u_full]
  have e3 : u (full - b.b) = 18446744073709551615 - u b.b := by
    rw [u_subv, u_full]
    have := u_bd b.b
    omega
  have hc : u a.b ≤ u (full - b.b) := by rw [e3]; omega
  clear e3 hu
  obtain ⟨k, hk⟩ : ∃ k, c % t = k := ⟨_, rfl⟩
  rw [hk] at e1
  have HK := Lib.hid hk
  clear hk
  obtain ⟨A, hA⟩ : ∃ A, allK = A := ⟨_, rfl⟩
  rw [hA] at hall
  have HA := Lib.hid hA
  clear hA
  unfold numV at hall
  unfold Gives numV
  go_enter Try.func22, Try.ntmps22
  go_upto_region 1 with fail
  generalize World.alloc _ _ = W0 at HN ⊢
  go_upto_region 2 with (go_at_call 13; refine (hall _).mono ?_; rintro e w1 ⟨rfl, hb⟩; have HB := Lib.hid (rr_new HN.out hb A); clear hb)
  generalize w1.alloc _ = W at HB ⊢
  generalize w1.heap.size = m at HB ⊢
  clear hall HN w1 W0
  have htw := fun W => two_ref0 a.v a.m b.v b.m W
  obtain ⟨tv, hv⟩ : ∃ t, twoV 0 a.v a.m b.v b.m = t := ⟨_, rfl⟩
  obtain ⟨tm, hm⟩ : ∃ t, twoM 0 a.v a.m b.v b.m = t := ⟨_, rfl⟩
  rw [hv, hm] at htw
  have HT := Lib.hid hv
  have HM := Lib.hid hm
  clear hv hm
  unfold tnV at htw
  obtain ⟨p0, p1, p2, p3, p4, p5⟩ := num_cells HB.out.1.1
  obtain ⟨q0, q1, q2, q3, q4, q5⟩ := num_cells HB.out.1.2.1
  go_upto_region 6 with (go_at_call 43; refine (htw _).mono ?_; rintro e w2 ⟨rfl, hb⟩; have HC := Lib.hid (rr_keep HB.out hb); clear hb; clear p0 p1 p2 p3 p4 p5 q0 q1 q2 q3 q4 q5; obtain ⟨r0, r1, r2, r3, r4, r5⟩ := num_cells HC.out.2.1; obtain ⟨f0, f1, f2, f3, f4, f5⟩ := num_free HC.out.2.1)
  have HD := Lib.hid (rr_vm HC.out tv tm)
  generalize World.setCell _ _ _ = W2 at HD ⊢
  clear r0 r1 r2 r3 r4 r5 f0 f1 f2 f3 f4 f5
  clear htw HC w2
  obtain ⟨R1, hN1⟩ : ∃ q, (⟨tv, tm, A.a, A.b, A.c, A.d⟩ : K) = q := ⟨_, rfl⟩
  rw [hN1] at HD
  clear HB
  have HB := HD
  clear HD
  obtain ⟨p0, p1, p2, p3, p4, p5⟩ := num_cells HB.out.1.1
  obtain ⟨q0, q1, q2, q3, q4, q5⟩ := num_cells HB.out.1.2.1
  go_upto_region 7 with fail
  clear p0 p1 p2 p3 p4 p5 q0 q1 q2 q3 q4 q5
  obtain ⟨r0, r1, r2, r3, r4, r5⟩ := num_cells HB.out.2.1
  obtain ⟨f0, f1, f2, f3, f4, f5⟩ := num_free HB.out.2.1
  obtain ⟨p0, p1, p2, p3, p4, p5⟩ := num_cells HB.out.1.1
  obtain ⟨q0, q1, q2, q3, q4, q5⟩ := num_cells HB.out.1.2.1
  go_upto_region 8 with fail
  have HD := Lib.hid (rr_a HB.out (a.a + b.a))
  generalize World.setCell _ _ _ = W3 at HD ⊢
  clear p0 p1 p2 p3 p4 p5 q0 q1 q2 q3 q4 q5
  clear r0 r1 r2 r3 r4 r5 f0 f1 f2 f3 f4 f5
  obtain ⟨R2, hN2⟩ : ∃ q, (⟨R1.v, R1.m, a.a + b.a, R1.b, R1.c, R1.d⟩ : K) = q := ⟨_, rfl⟩
  rw [hN2] at HD
  clear HB
  have HB := HD
  clear HD
  obtain ⟨r0, r1, r2, r3, r4, r5⟩ := num_cells HB.out.2.1
  obtain ⟨f0, f1, f2, f3, f4, f5⟩ := num_free HB.out.2.1
  obtain ⟨p0, p1, p2, p3, p4, p5⟩ := num_cells HB.out.1.1
  obtain ⟨q0, q1, q2, q3, q4, q5⟩ := num_cells HB.out.1.2.1
  go_upto_region 9 with fail
  have HD := Lib.hid (rr_b HB.out (a.b + b.b))
  generalize World.setCell _ _ _ = W3 at HD ⊢
  clear p0 p1 p2 p3 p4 p5 q0 q1 q2 q3 q4 q5
  clear r0 r1 r2 r3 r4 r5 f0 f1 f2 f3 f4 f5
  obtain ⟨R3, hN3⟩ : ∃ q, (⟨R2.v, R2.m, R2.a, a.b + b.b, R2.c, R2.d⟩ : K) = q := ⟨_, rfl⟩
  rw [hN3] at HD
  clear HB
  have HB := HD
  clear HD
  have ho1 := fun W => over_plus a.c b.c W
  have ho2 := fun W => over_plus a.d b.d W
  rw [h1] at ho1
  obtain ⟨b2, hb2⟩ : ∃ t, fitS (s a.d + s b.d) = t := ⟨_, rfl⟩
  rw [hb2] at ho2
  clear hb2
  clear h1
  simp only [Bool.not_true, Bool.not_false] at ho1 ho2
  obtain ⟨p0, p1, p2, p3, p4, p5⟩ := num_cells HB.out.1.1
  obtain ⟨q0, q1, q2, q3, q4, q5⟩ := num_cells HB.out.1.2.1
  obtain ⟨x0, hx0⟩ : ∃ t, s a.c = t := ⟨_, rfl⟩
  obtain ⟨x1, hx1⟩ : ∃ t, s a.d = t := ⟨_, rfl⟩
  obtain ⟨y0, hy0⟩ : ∃ t, s b.c = t := ⟨_, rfl⟩
  obtain ⟨y1, hy1⟩ : ∃ t, s b.d = t := ⟨_, rfl⟩
  rw [hx0] at p4 ho1 
  rw [hx1] at p5 ho2 
  rw [hy0] at q4 ho1
  rw [hy1] at q5 ho2
  clear hx0 hx1 hy0 hy1
  go_upto_region 78 with (first | (go_at_call_of 44 (Value.int .i64 x0); refine (ho1 _).mono ?_; rintro e w7 ⟨rfl, rfl⟩) | (go_at_call_of 44 (Value.int .i64 x1); refine (ho2 _).mono ?_; rintro e w7 ⟨rfl, rfl⟩))
  clear ho1 ho2
  clear p0 p1 p2 p3 p4 p5 q0 q1 q2 q3 q4 q5
  obtain ⟨r0, r1, r2, r3, r4, r5⟩ := num_cells HB.out.2.1
  obtain ⟨f0, f1, f2, f3, f4, f5⟩ := num_free HB.out.2.1
  obtain ⟨g0, g1, g2, g3, g4, g5⟩ := num_free HB.out.1.2.2.1
  obtain ⟨z0, z1, z2, z3, z4, z5⟩ := num_cells HB.out.1.2.2.1
  go_wp2
  have HZ := Lib.hid (rr_out HB.out R3)
  generalize World.setCell _ _ _ = WZ at HZ ⊢
  clear z0 z1 z2 z3 z4 z5
  obtain ⟨z0, z1, z2, z3, z4, z5⟩ := num_cells HZ.out.1
  exact bodyPost_ret (v := numV R3) (by unfold numV; simp [results, Try.results22, go_sem, z0, z1, z2, z3, z4, z5]) rfl ⟨by subst hN1; subst hN2; subst hN3; rw [← HA.out, ← HT.out, ← HM.out]; rfl, HZ.out.2⟩
set_option maxRecDepth 100000 in
set_option maxHeartbeats 16000000 in
theorem rr_add_o_yy (a b : K) (c t : B64) (one : Bool) (w : World) (ht : ¬ u t = 0) (hu : ¬ u a.b + u b.b ≤ 18446744073709551615) (h1 : fitS (s a.c + s b.c) = true) (h2 : fitS (s a.d + s b.d) = true) : Calls Try.prog 22 #[.int .u8 0, numV a, numV b, .int .u64 (u c), .bool one, .int .u64 (u t)] w (Gives (numV (⟨twoV 0 a.v a.m b.v b.m, twoM 0 a.v a.m b.v b.m, 0#64, full, a.c + b.c, a.d + b.d⟩)) w) := by
  have HN := Lib.hid (box3_new a b w)
  have hall := fun W => refall_num W
  have e1 := tmod_u c t
  have e2 : IntKind.u64.wrap (18446744073709551615 - u b.b) = u (full - b.b) := by rw [← u_sub, u_full]
  have e3 : u (full - b.b) = 18446744073709551615 - u b.b := by
    rw [u_subv, u_full]
    have := u_bd b.b
    omega
  have hc : ¬ u a.b ≤ u (full - b.b) := by rw [e3]; omega
  clear e3 hu
  obtain ⟨k, hk⟩ : ∃ k, c % t = k := ⟨_, rfl⟩
  rw [hk] at e1
  have HK := Lib.hid hk
  clear hk
  obtain ⟨A, hA⟩ : ∃ A, allK = A := ⟨_, rfl⟩
  rw [hA] at hall
  have HA := Lib.hid hA
  clear hA
  unfold numV at hall
  unfold Gives numV
  go_enter Try.func22, Try.ntmps22
  go_upto_region 1 with fail
  generalize World.alloc _ _ = W0 at HN ⊢
  go_upto_region 2 with (go_at_call 13; refine (hall _).mono ?_; rintro e w1 ⟨rfl, hb⟩; have HB := Lib.hid (rr_new HN.out hb A); clear hb)
  generalize w1.alloc _ = W at HB ⊢
  generalize w1.heap.size = m at HB ⊢
  clear hall HN w1 W0
  have htw := fun W => two_ref0 a.v a.m b.v b.m W
  obtain ⟨tv, hv⟩ : ∃ t, twoV 0 a.v a.m b.v b.m = t := ⟨_, rfl⟩
  obtain ⟨tm, hm⟩ : ∃ t, twoM 0 a.v a.m b.v b.m = t := ⟨_, rfl⟩
  rw [hv, hm] at htw
  have HT := Lib.hid hv
  have HM := Lib.hid hm
  clear hv hm
  unfold tnV at htw
  obtain ⟨p0, p1, p2, p3, p4, p5⟩ := num_cells HB.out.1.1
  obtain ⟨q0, q1, q2, q3, q4, q5⟩ := num_cells HB.out.1.2.1
  go_upto_region 6 with (go_at_call 43; refine (htw _).mono ?_; rintro e w2 ⟨rfl, hb⟩; have HC := Lib.hid (rr_keep HB.out hb); clear hb; clear p0 p1 p2 p3 p4 p5 q0 q1 q2 q3 q4 q5; obtain ⟨r0, r1, r2, r3, r4, r5⟩ := num_cells HC.out.2.1; obtain ⟨f0, f1, f2, f3, f4, f5⟩ := num_free HC.out.2.1)
  have HD := Lib.hid (rr_vm HC.out tv tm)
  generalize World.setCell _ _ _ = W2 at HD ⊢
  clear r0 r1 r2 r3 r4 r5 f0 f1 f2 f3 f4 f5
  clear htw HC w2
  obtain ⟨R1, hN1⟩ : ∃ q, (⟨tv, tm, A.a, A.b, A.c, A.d⟩ : K) = q := ⟨_, rfl⟩
  rw [hN1] at HD
  clear HB
  have HB := HD
  clear HD
  obtain ⟨p0, p1, p2, p3, p4, p5⟩ := num_cells HB.out.1.1
  obtain ⟨q0, q1, q2, q3, q4, q5⟩ := num_cells HB.out.1.2.1
  go_upto_region 9 with fail
  clear p0 p1 p2 p3 p4 p5 q0 q1 q2 q3 q4 q5
  have ho1 := fun W => over_plus a.c b.c W
  have ho2 := fun W => over_plus a.d b.d W
  rw [h1] at ho1
  rw [h2] at ho2
  clear h1 h2
  simp only [Bool.not_true, Bool.not_false] at ho1 ho2
  obtain ⟨p0, p1, p2, p3, p4, p5⟩ := num_cells HB.out.1.1
  obtain ⟨q0, q1, q2, q3, q4, q5⟩ := num_cells HB.out.1.2.1
  have e5 : IntKind.i64.wrap (s a.c + s b.c) = s (a.c + b.c) := s_addw _ _
  have e6 : IntKind.i64.wrap (s a.d + s b.d) = s (a.d + b.d) := s_addw _ _
  obtain ⟨z0, hz0⟩ : ∃ t, s (a.c + b.c) = t := ⟨_, rfl⟩
  obtain ⟨z1, hz1⟩ : ∃ t, s (a.d + b.d) = t := ⟨_, rfl⟩
  rw [hz0] at e5
  rw [hz1] at e6
  obtain ⟨x0, hx0⟩ : ∃ t, s a.c = t := ⟨_, rfl⟩
  obtain ⟨x1, hx1⟩ : ∃ t, s a.d = t := ⟨_, rfl⟩
  obtain ⟨y0, hy0⟩ : ∃ t, s b.c = t := ⟨_, rfl⟩
  obtain ⟨y1, hy1⟩ : ∃ t, s b.d = t := ⟨_, rfl⟩
  rw [hx0] at p4 ho1 e5
  rw [hx1] at p5 ho2 e6
  rw [hy0] at q4 ho1 e5
  rw [hy1] at q5 ho2 e6
  clear hx0 hx1 hy0 hy1
  go_upto_region 10 with (first | (go_at_call_of 44 (Value.int .i64 x0); refine (ho1 _).mono ?_; rintro e w7 ⟨rfl, rfl⟩) | (go_at_call_of 44 (Value.int .i64 x1); refine (ho2 _).mono ?_; rintro e w7 ⟨rfl, rfl⟩))
  obtain ⟨r0, r1, r2, r3, r4, r5⟩ := num_cells HB.out.2.1
  obtain ⟨f0, f1, f2, f3, f4, f5⟩ := num_free HB.out.2.1
  have hm0 := HB.out.2.2
  have hm1 : ¬ m = w.heap.size + 1 := by omega
  have hm2 : ¬ w.heap.size + 1 = m := by omega
  have hm3 : ¬ m = w.heap.size := by omega
  have hm4 : ¬ w.heap.size = m := by omega
  clear hm0
  go_upto_region 78 with fail
  clear hm1 hm2 hm3 hm4
  have HD := wr_cd2 HB.out (a.c + b.c) (a.d + b.d)
  rw [hz0, hz1] at HD
  have HD := Lib.hid HD
  generalize World.setCell _ _ _ = W3 at HD ⊢
  clear p0 p1 p2 p3 p4 p5 q0 q1 q2 q3 q4 q5
  clear r0 r1 r2 r3 r4 r5 f0 f1 f2 f3 f4 f5
  clear ho1 ho2 e5 e6 hz0 hz1
  obtain ⟨R2, hN2⟩ : ∃ q, (⟨R1.v, R1.m, R1.a, R1.b, a.c + b.c, a.d + b.d⟩ : K) = q := ⟨_, rfl⟩
  rw [hN2] at HD
  clear HB
  have HB := HD
  clear HD
  obtain ⟨r0, r1, r2, r3, r4, r5⟩ := num_cells HB.out.2.1
  obtain ⟨f0, f1, f2, f3, f4, f5⟩ := num_free HB.out.2.1
  obtain ⟨g0, g1, g2, g3, g4, g5⟩ := num_free HB.out.1.2.2.1
  obtain ⟨z0, z1, z2, z3, z4, z5⟩ := num_cells HB.out.1.2.2.1
  go_wp2
  have HZ := Lib.hid (rr_out HB.out R2)
  generalize World.setCell _ _ _ = WZ at HZ ⊢
  clear z0 z1 z2 z3 z4 z5
  obtain ⟨z0, z1, z2, z3, z4, z5⟩ := num_cells HZ.out.1
  exact bodyPost_ret (v := numV R2) (by unfold numV; simp [results, Try.results22, go_sem, z0, z1, z2, z3, z4, z5]) rfl ⟨by subst hN1; subst hN2; rw [← HA.out, ← HT.out, ← HM.out]; rfl, HZ.out.2⟩
set_option maxRecDepth 100000 in
set_option maxHeartbeats 16000000 in
theorem rr_add_o_yn (a b : K) (c t : B64) (one : Bool) (w : World) (ht : ¬ u t = 0) (hu : ¬ u a.b + u b.b ≤ 18446744073709551615) (h1 : fitS (s a.c + s b.c) = true) (h2 : fitS (s a.d + s b.d) = false) : Calls Try.prog 22 #[.int .u8 0, numV a, numV b, .int .u64 (u c), .bool one, .int .u64 (u t)] w (Gives (numV (⟨twoV 0 a.v a.m b.v b.m, twoM 0 a.v a.m b.v b.m, 0#64, full, half, most⟩)) w) := by
  have HN := Lib.hid (box3_new a b w)
  have hall := fun W => refall_num W
  have e1 := tmod_u c t
  have e2 : IntKind.u64.wrap (18446744073709551615 - u b.b) = u (full - b.b) := by rw [← u_sub, u_full]
  have e3 : u (full - b.b) = 18446744073709551615 - u b.b := by
    rw [u_subv, u_full]
    have := u_bd b.b
    omega
  have hc : ¬ u a.b ≤ u (full - b.b) := by rw [e3]; omega
  clear e3 hu
  obtain ⟨k, hk⟩ : ∃ k, c % t = k := ⟨_, rfl⟩
  rw [hk] at e1
  have HK := Lib.hid hk
  clear hk
  obtain ⟨A, hA⟩ : ∃ A, allK = A := ⟨_, rfl⟩
  rw [hA] at hall
  have HA := Lib.hid hA
  clear hA
  unfold numV at hall
  unfold Gives numV
  go_enter Try.func22, Try.ntmps22
  go_upto_region 1 with fail
  generalize World.alloc _ _ = W0 at HN ⊢
  go_upto_region 2 with (go_at_call 13; refine (hall _).mono ?_; rintro e w1 ⟨rfl, hb⟩; have HB := Lib.hid (rr_new HN.out hb A); clear hb)
  generalize w1.alloc _ = W at HB ⊢
  generalize w1.heap.size = m at HB ⊢
  clear hall HN w1 W0
  have htw := fun W => two_ref0 a.v a.m b.v b.m W
  obtain ⟨tv, hv⟩ : ∃ t, twoV 0 a.v a.m b.v b.m = t := ⟨_, rfl⟩
  obtain ⟨tm, hm⟩ : ∃ t, twoM 0 a.v a.m b.v b.m = t := ⟨_, rfl⟩
  rw [hv, hm] at htw
  have HT := Lib.hid hv
  have HM := Lib.hid hm
  clear hv hm
  unfold tnV at htw
  obtain ⟨p0, p1, p2, p3, p4, p5⟩ := num_cells HB.out.1.1
  obtain ⟨q0, q1, q2, q3, q4, q5⟩ := num_cells HB.out.1.2.1
  go_upto_region 6 with (go_at_call 43; refine (htw _).mono ?_; rintro e w2 ⟨rfl, hb⟩; have HC := Lib.hid (rr_keep HB.out hb); clear hb; clear p0 p1 p2 p3 p4 p5 q0 q1 q2 q3 q4 q5; obtain ⟨r0, r1, r2, r3, r4, r5⟩ := num_cells HC.out.2.1; obtain ⟨f0, f1, f2, f3, f4, f5⟩ := num_free HC.out.2.1)
  have HD := Lib.hid (rr_vm HC.out tv tm)
  generalize World.setCell _ _ _ = W2 at HD ⊢
  clear r0 r1 r2 r3 r4 r5 f0 f1 f2 f3 f4 f5
  clear htw HC w2
  obtain ⟨R1, hN1⟩ : ∃ q, (⟨tv, tm, A.a, A.b, A.c, A.d⟩ : K) = q := ⟨_, rfl⟩
  rw [hN1] at HD
  clear HB
  have HB := HD
  clear HD
  obtain ⟨p0, p1, p2, p3, p4, p5⟩ := num_cells HB.out.1.1
  obtain ⟨q0, q1, q2, q3, q4, q5⟩ := num_cells HB.out.1.2.1
  go_upto_region 9 with fail
  clear p0 p1 p2 p3 p4 p5 q0 q1 q2 q3 q4 q5
  have ho1 := fun W => over_plus a.c b.c W
  have ho2 := fun W => over_plus a.d b.d W
  rw [h1] at ho1
  rw [h2] at ho2
  clear h1 h2
  simp only [Bool.not_true, Bool.not_false] at ho1 ho2
  obtain ⟨p0, p1, p2, p3, p4, p5⟩ := num_cells HB.out.1.1
  obtain ⟨q0, q1, q2, q3, q4, q5⟩ := num_cells HB.out.1.2.1
  obtain ⟨x0, hx0⟩ : ∃ t, s a.c = t := ⟨_, rfl⟩
  obtain ⟨x1, hx1⟩ : ∃ t, s a.d = t := ⟨_, rfl⟩
  obtain ⟨y0, hy0⟩ : ∃ t, s b.c = t := ⟨_, rfl⟩
  obtain ⟨y1, hy1⟩ : ∃ t, s b.d = t := ⟨_, rfl⟩
  rw [hx0] at p4 ho1 
  rw [hx1] at p5 ho2 
  rw [hy0] at q4 ho1
  rw [hy1] at q5 ho2
  clear hx0 hx1 hy0 hy1
  go_upto_region 78 with (first | (go_at_call_of 44 (Value.int .i64 x0); refine (ho1 _).mono ?_; rintro e w7 ⟨rfl, rfl⟩) | (go_at_call_of 44 (Value.int .i64 x1); refine (ho2 _).mono ?_; rintro e w7 ⟨rfl, rfl⟩))
  clear ho1 ho2
  clear p0 p1 p2 p3 p4 p5 q0 q1 q2 q3 q4 q5
  obtain ⟨r0, r1, r2, r3, r4, r5⟩ := num_cells HB.out.2.1
  obtain ⟨f0, f1, f2, f3, f4, f5⟩ := num_free HB.out.2.1
  obtain ⟨g0, g1, g2, g3, g4, g5⟩ := num_free HB.out.1.2.2.1
  obtain ⟨z0, z1, z2, z3, z4, z5⟩ := num_cells HB.out.1.2.2.1
  go_wp2
  have HZ := Lib.hid (rr_out HB.out R1)
  generalize World.setCell _ _ _ = WZ at HZ ⊢
  clear z0 z1 z2 z3 z4 z5
  obtain ⟨z0, z1, z2, z3, z4, z5⟩ := num_cells HZ.out.1
  exact bodyPost_ret (v := numV R1) (by unfold numV; simp [results, Try.results22, go_sem, z0, z1, z2, z3, z4, z5]) rfl ⟨by subst hN1; rw [← HA.out, ← HT.out, ← HM.out]; rfl, HZ.out.2⟩
set_option maxRecDepth 100000 in
set_option maxHeartbeats 16000000 in
theorem rr_add_o_n (a b : K) (c t : B64) (one : Bool) (w : World) (ht : ¬ u t = 0) (hu : ¬ u a.b + u b.b ≤ 18446744073709551615) (h1 : fitS (s a.c + s b.c) = false) : Calls Try.prog 22 #[.int .u8 0, numV a, numV b, .int .u64 (u c), .bool one, .int .u64 (u t)] w (Gives (numV (⟨twoV 0 a.v a.m b.v b.m, twoM 0 a.v a.m b.v b.m, 0#64, full, half, most⟩)) w) := by
  have HN := Lib.hid (box3_new a b w)
  have hall := fun W => refall_num W
  have e1 := tmod_u c t
  have e2 : IntKind.u64.wrap (18446744073709551615 - u b.b) = u (full - b.b) := by rw [← u_sub, u_full]
  have e3 : u (full - b.b) = 18446744073709551615 - u b.b := by
    rw [u_subv, u_full]
    have := u_bd b.b
    omega
  have hc : ¬ u a.b ≤ u (full - b.b) := by rw [e3]; omega
  clear e3 hu
  obtain ⟨k, hk⟩ : ∃ k, c % t = k := ⟨_, rfl⟩
  rw [hk] at e1
  have HK := Lib.hid hk
  clear hk
  obtain ⟨A, hA⟩ : ∃ A, allK = A := ⟨_, rfl⟩
  rw [hA] at hall
  have HA := Lib.hid hA
  clear hA
  unfold numV at hall
  unfold Gives numV
  go_enter Try.func22, Try.ntmps22
  go_upto_region 1 with fail
  generalize World.alloc _ _ = W0 at HN ⊢
  go_upto_region 2 with (go_at_call 13; refine (hall _).mono ?_; rintro e w1 ⟨rfl, hb⟩; have HB := Lib.hid (rr_new HN.out hb A); clear hb)
  generalize w1.alloc _ = W at HB ⊢
  generalize w1.heap.size = m at HB ⊢
  clear hall HN w1 W0
  have htw := fun W => two_ref0 a.v a.m b.v b.m W
  obtain ⟨tv, hv⟩ : ∃ t, twoV 0 a.v a.m b.v b.m = t := ⟨_, rfl⟩
  obtain ⟨tm, hm⟩ : ∃ t, twoM 0 a.v a.m b.v b.m = t := ⟨_, rfl⟩
  rw [hv, hm] at htw
  have HT := Lib.hid hv
  have HM := Lib.hid hm
  clear hv hm
  unfold tnV at htw
  obtain ⟨p0, p1, p2, p3, p4, p5⟩ := num_cells HB.out.1.1
  obtain ⟨q0, q1, q2, q3, q4, q5⟩ := num_cells HB.out.1.2.1
  go_upto_region 6 with (go_at_call 43; refine (htw _).mono ?_; rintro e w2 ⟨rfl, hb⟩; have HC := Lib.hid (rr_keep HB.out hb); clear hb; clear p0 p1 p2 p3 p4 p5 q0 q1 q2 q3 q4 q5; obtain ⟨r0, r1, r2, r3, r4, r5⟩ := num_cells HC.out.2.1; obtain ⟨f0, f1, f2, f3, f4, f5⟩ := num_free HC.out.2.1)
  have HD := Lib.hid (rr_vm HC.out tv tm)
  generalize World.setCell _ _ _ = W2 at HD ⊢
  clear r0 r1 r2 r3 r4 r5 f0 f1 f2 f3 f4 f5
  clear htw HC w2
  obtain ⟨R1, hN1⟩ : ∃ q, (⟨tv, tm, A.a, A.b, A.c, A.d⟩ : K) = q := ⟨_, rfl⟩
  rw [hN1] at HD
  clear HB
  have HB := HD
  clear HD
  obtain ⟨p0, p1, p2, p3, p4, p5⟩ := num_cells HB.out.1.1
  obtain ⟨q0, q1, q2, q3, q4, q5⟩ := num_cells HB.out.1.2.1
  go_upto_region 9 with fail
  clear p0 p1 p2 p3 p4 p5 q0 q1 q2 q3 q4 q5
  have ho1 := fun W => over_plus a.c b.c W
  have ho2 := fun W => over_plus a.d b.d W
  rw [h1] at ho1
  obtain ⟨b2, hb2⟩ : ∃ t, fitS (s a.d + s b.d) = t := ⟨_, rfl⟩
  rw [hb2] at ho2
  clear hb2
  clear h1
  simp only [Bool.not_true, Bool.not_false] at ho1 ho2
  obtain ⟨p0, p1, p2, p3, p4, p5⟩ := num_cells HB.out.1.1
  obtain ⟨q0, q1, q2, q3, q4, q5⟩ := num_cells HB.out.1.2.1
  obtain ⟨x0, hx0⟩ : ∃ t, s a.c = t := ⟨_, rfl⟩
  obtain ⟨x1, hx1⟩ : ∃ t, s a.d = t := ⟨_, rfl⟩
  obtain ⟨y0, hy0⟩ : ∃ t, s b.c = t := ⟨_, rfl⟩
  obtain ⟨y1, hy1⟩ : ∃ t, s b.d = t := ⟨_, rfl⟩
  rw [hx0] at p4 ho1 
  rw [hx1] at p5 ho2 
  rw [hy0] at q4 ho1
  rw [hy1] at q5 ho2
  clear hx0 hx1 hy0 hy1
  go_upto_region 78 with (first | (go_at_call_of 44 (Value.int .i64 x0); refine (ho1 _).mono ?_; rintro e w7 ⟨rfl, rfl⟩) | (go_at_call_of 44 (Value.int .i64 x1); refine (ho2 _).mono ?_; rintro e w7 ⟨rfl, rfl⟩))
  clear ho1 ho2
  clear p0 p1 p2 p3 p4 p5 q0 q1 q2 q3 q4 q5
  obtain ⟨r0, r1, r2, r3, r4, r5⟩ := num_cells HB.out.2.1
  obtain ⟨f0, f1, f2, f3, f4, f5⟩ := num_free HB.out.2.1
  obtain ⟨g0, g1, g2, g3, g4, g5⟩ := num_free HB.out.1.2.2.1
  obtain ⟨z0, z1, z2, z3, z4, z5⟩ := num_cells HB.out.1.2.2.1
  go_wp2
  have HZ := Lib.hid (rr_out HB.out R1)
  generalize World.setCell _ _ _ = WZ at HZ ⊢
  clear z0 z1 z2 z3 z4 z5
  obtain ⟨z0, z1, z2, z3, z4, z5⟩ := num_cells HZ.out.1
  exact bodyPost_ret (v := numV R1) (by unfold numV; simp [results, Try.results22, go_sem, z0, z1, z2, z3, z4, z5]) rfl ⟨by subst hN1; rw [← HA.out, ← HT.out, ← HM.out]; rfl, HZ.out.2⟩
theorem rr_add (a b : K) (c t : B64) (one : Bool) (w : World) (ht : ¬ u t = 0) : Calls Try.prog 22 #[.int .u8 0, numV a, numV b, .int .u64 (u c), .bool one, .int .u64 (u t)] w (Gives (numV (rowAdd a b)) w) := by
  unfold rowAdd addU addS
  by_cases hu : u a.b + u b.b ≤ 18446744073709551615
  · rw [decide_eq_true hu]
    simp only [if_true]
    cases h1 : fitS (s a.c + s b.c)
    · rw [Bool.false_and]
      simp only [Bool.false_eq_true, if_false]
      exact rr_add_u_n a b c t one w ht hu h1
    · cases h2 : fitS (s a.d + s b.d)
      · rw [Bool.and_false]
        simp only [Bool.false_eq_true, if_false]
        exact rr_add_u_yn a b c t one w ht hu h1 h2
      · rw [Bool.and_true]
        simp only [if_true]
        exact rr_add_u_yy a b c t one w ht hu h1 h2
  · rw [decide_eq_false hu]
    simp only [Bool.false_eq_true, if_false]
    cases h1 : fitS (s a.c + s b.c)
    · rw [Bool.false_and]
      simp only [Bool.false_eq_true, if_false]
      exact rr_add_o_n a b c t one w ht hu h1
    · cases h2 : fitS (s a.d + s b.d)
      · rw [Bool.and_false]
        simp only [Bool.false_eq_true, if_false]
        exact rr_add_o_yn a b c t one w ht hu h1 h2
      · rw [Bool.and_true]
        simp only [if_true]
        exact rr_add_o_yy a b c t one w ht hu h1 h2
end Go.Proofs.Ytogadmlnmcojpaa

/-
  Proved here: rows of the document's answer for package xfer: Sub. Conditions: none.
-/
namespace Go.Proofs.Ytogadmlnmcojpaa
open Go.RowKit
attribute [local go_sem] u_and u_or u_xor u_andNot u_add u_sub s_conv u_conv
set_option linter.unusedSimpArgs false
set_option maxRecDepth 100000 in
set_option maxHeartbeats 16000000 in
theorem rr_sub_u_yy (a b : K) (c t : B64) (one : Bool) (w : World) (ht : ¬ u t = 0) (hu : u b.b ≤ u a.a) (h1 : fitS (s a.c - s b.d) = true) (h2 : fitS (s a.d - s b.c) = true) : Calls Try.prog 22 #[.int .u8 16, numV a, numV b, .int .u64 (u c), .bool one, .int .u64 (u t)] w (Gives (numV (⟨twoV 1 a.v a.m b.v b.m, twoM 1 a.v a.m b.v b.m, a.a - b.b, a.b - b.a, a.c - b.d, a.d - b.c⟩)) w) := by
  have HN := Lib.hid (box3_new a b w)
  have hall := fun W => refall_num W
  have e1 := tmod_u c t
  obtain ⟨k, hk⟩ : ∃ k, c % t = k := ⟨_, rfl⟩
  rw [hk] at e1
  have HK := Lib.hid hk
  clear hk
  obtain ⟨A, hA⟩ : ∃ A, allK = A := ⟨_, rfl⟩
  rw [hA] at hall
  have HA := Lib.hid hA
  clear hA
  unfold numV at hall
  unfold Gives numV
  go_enter Try.func22, Try.ntmps22
  go_upto_region 1 with fail
  generalize World.alloc _ _ = W0 at HN ⊢
  go_upto_region 2 with (go_at_call 13; refine (hall _).mono ?_; rintro e w1 ⟨rfl, hb⟩; have HB := Lib.hid (rr_new HN.out hb A); clear hb)
  generalize w1.alloc _ = W at HB ⊢
  generalize w1.heap.size = m at HB ⊢
  clear hall HN w1 W0
  have htw := fun W => two_ref1 a.v a.m b.v b.m W
  obtain ⟨tv, hv⟩ : ∃ t, twoV 1 a.v a.m b.v b.m = t := ⟨_, rfl⟩
  obtain ⟨tm, hm⟩ : ∃ t, twoM 1 a.v a.m b.v b.m = t := ⟨_, rfl⟩
  rw [hv, hm] at htw
  have HT := Lib.hid hv
  have HM := Lib.hid hm
  clear hv hm
  unfold tnV at htw
  obtain ⟨p0, p1, p2, p3, p4, p5⟩ := num_cells HB.out.1.1
  obtain ⟨q0, q1, q2, q3, q4, q5⟩ := num_cells HB.out.1.2.1
  go_upto_region 14 with (go_at_call 43; refine (htw _).mono ?_; rintro e w2 ⟨rfl, hb⟩; have HC := Lib.hid (rr_keep HB.out hb); clear hb; clear p0 p1 p2 p3 p4 p5 q0 q1 q2 q3 q4 q5; obtain ⟨r0, r1, r2, r3, r4, r5⟩ := num_cells HC.out.2.1; obtain ⟨f0, f1, f2, f3, f4, f5⟩ := num_free HC.out.2.1)
  have HD := Lib.hid (rr_vm HC.out tv tm)
  generalize World.setCell _ _ _ = W2 at HD ⊢
  clear r0 r1 r2 r3 r4 r5 f0 f1 f2 f3 f4 f5
  clear htw HC w2
  obtain ⟨R1, hN1⟩ : ∃ q, (⟨tv, tm, A.a, A.b, A.c, A.d⟩ : K) = q := ⟨_, rfl⟩
  rw [hN1] at HD
  clear HB
  have HB := HD
  clear HD
  obtain ⟨p0, p1, p2, p3, p4, p5⟩ := num_cells HB.out.1.1
  obtain ⟨q0, q1, q2, q3, q4, q5⟩ := num_cells HB.out.1.2.1
  go_upto_region 15 with fail
  clear p0 p1 p2 p3 p4 p5 q0 q1 q2 q3 q4 q5
  obtain ⟨r0, r1, r2, r3, r4, r5⟩ := num_cells HB.out.2.1
  obtain ⟨f0, f1, f2, f3, f4, f5⟩ := num_free HB.out.2.1
  obtain ⟨p0, p1, p2, p3, p4, p5⟩ := num_cells HB.out.1.1
  obtain ⟨q0, q1, q2, q3, q4, q5⟩ := num_cells HB.out.1.2.1
  go_upto_region 16 with fail
  have HD := Lib.hid (rr_a HB.out (a.a - b.b))
  generalize World.setCell _ _ _ = W3 at HD ⊢
  clear p0 p1 p2 p3 p4 p5 q0 q1 q2 q3 q4 q5
  clear r0 r1 r2 r3 r4 r5 f0 f1 f2 f3 f4 f5
  obtain ⟨R2, hN2⟩ : ∃ q, (⟨R1.v, R1.m, a.a - b.b, R1.b, R1.c, R1.d⟩ : K) = q := ⟨_, rfl⟩
  rw [hN2] at HD
  clear HB
  have HB := HD
  clear HD
  obtain ⟨r0, r1, r2, r3, r4, r5⟩ := num_cells HB.out.2.1
  obtain ⟨f0, f1, f2, f3, f4, f5⟩ := num_free HB.out.2.1
  obtain ⟨p0, p1, p2, p3, p4, p5⟩ := num_cells HB.out.1.1
  obtain ⟨q0, q1, q2, q3, q4, q5⟩ := num_cells HB.out.1.2.1
  go_upto_region 17 with fail
  have HD := Lib.hid (rr_b HB.out (a.b - b.a))
  generalize World.setCell _ _ _ = W3 at HD ⊢
  clear p0 p1 p2 p3 p4 p5 q0 q1 q2 q3 q4 q5
  clear r0 r1 r2 r3 r4 r5 f0 f1 f2 f3 f4 f5
  obtain ⟨R3, hN3⟩ : ∃ q, (⟨R2.v, R2.m, R2.a, a.b - b.a, R2.c, R2.d⟩ : K) = q := ⟨_, rfl⟩
  rw [hN3] at HD
  clear HB
  have HB := HD
  clear HD
  have ho1 := fun W => over_less a.c b.d W
  have ho2 := fun W => over_less a.d b.c W
  rw [h1] at ho1
  rw [h2] at ho2
  clear h1 h2
  simp only [Bool.not_true, Bool.not_false] at ho1 ho2
  obtain ⟨p0, p1, p2, p3, p4, p5⟩ := num_cells HB.out.1.1
  obtain ⟨q0, q1, q2, q3, q4, q5⟩ := num_cells HB.out.1.2.1
  have e5 : IntKind.i64.wrap (s a.c - s b.d) = s (a.c - b.d) := s_subw _ _
  have e6 : IntKind.i64.wrap (s a.d - s b.c) = s (a.d - b.c) := s_subw _ _
  obtain ⟨z0, hz0⟩ : ∃ t, s (a.c - b.d) = t := ⟨_, rfl⟩
  obtain ⟨z1, hz1⟩ : ∃ t, s (a.d - b.c) = t := ⟨_, rfl⟩
  rw [hz0] at e5
  rw [hz1] at e6
  obtain ⟨x0, hx0⟩ : ∃ t, s a.c = t := ⟨_, rfl⟩
  obtain ⟨x1, hx1⟩ : ∃ t, s a.d = t := ⟨_, rfl⟩
  obtain ⟨y0, hy0⟩ : ∃ t, s b.c = t := ⟨_, rfl⟩
  obtain ⟨y1, hy1⟩ : ∃ t, s b.d = t := ⟨_, rfl⟩
  rw [hx0] at p4 ho1 e5
  rw [hx1] at p5 ho2 e6
  rw [hy0] at q4 ho2 e6
  rw [hy1] at q5 ho1 e5
  clear hx0 hx1 hy0 hy1
  go_upto_region 18 with (first | (go_at_call_of 44 (Value.int .i64 x0); refine (ho1 _).mono ?_; rintro e w7 ⟨rfl, rfl⟩) | (go_at_call_of 44 (Value.int .i64 x1); refine (ho2 _).mono ?_; rintro e w7 ⟨rfl, rfl⟩))
  obtain ⟨r0, r1, r2, r3, r4, r5⟩ := num_cells HB.out.2.1
  obtain ⟨f0, f1, f2, f3, f4, f5⟩ := num_free HB.out.2.1
  have hm0 := HB.out.2.2
  have hm1 : ¬ m = w.heap.size + 1 := by omega
  have hm2 : ¬ w.heap.size + 1 = m := by omega
  have hm3 : ¬ m = w.heap.size := by omega
  have hm4 : ¬ w.heap.size = m := by omega
  clear hm0
  go_upto_region 78 with fail
  clear hm1 hm2 hm3 hm4
  have HD := wr_cd2 HB.out (a.c - b.d) (a.d - b.c)
  rw [hz0, hz1] at HD
  have HD := Lib.hid HD
  generalize World.setCell _ _ _ = W3 at HD ⊢
  clear p0 p1 p2 p3 p4 p5 q0 q1 q2 q3 q4 q5
  clear r0 r1 r2 r3 r4 r5 f0 f1 f2 f3 f4 f5
  clear ho1 ho2 e5 e6 hz0 hz1
  obtain ⟨R4, hN4⟩ : ∃ q, (⟨R3.v, R3.m, R3.a, R3.b, a.c - b.d, a.d - b.c⟩ : K) = q := ⟨_, rfl⟩
  rw [hN4] at HD
  clear HB
  have HB := HD
  clear HD
  obtain ⟨r0, r1, r2, r3, r4, r5⟩ := num_cells HB.out.2.1
  obtain ⟨f0, f1, f2, f3, f4, f5⟩ := num_free HB.out.2.1
  obtain ⟨g0, g1, g2, g3, g4, g5⟩ := num_free HB.out.1.2.2.1
  obtain ⟨z0, z1, z2, z3, z4, z5⟩ := num_cells HB.out.1.2.2.1
  go_wp2
  have HZ := Lib.hid (rr_out HB.out R4)
  generalize World.setCell _ _ _ = WZ at HZ ⊢
  clear z0 z1 z2 z3 z4 z5
  obtain ⟨z0, z1, z2, z3, z4, z5⟩ := num_cells HZ.out.1
  exact bodyPost_ret (v := numV R4) (by unfold numV; simp [results, Try.results22, go_sem, z0, z1, z2, z3, z4, z5]) rfl ⟨by subst hN1; subst hN2; subst hN3; subst hN4; rw [← HT.out, ← HM.out]; rfl, HZ.out.2⟩
set_option maxRecDepth 100000 in
set_option maxHeartbeats 16000000 in
theorem rr_sub_u_yn (a b : K) (c t : B64) (one : Bool) (w : World) (ht : ¬ u t = 0) (hu : u b.b ≤ u a.a) (h1 : fitS (s a.c - s b.d) = true) (h2 : fitS (s a.d - s b.c) = false) : Calls Try.prog 22 #[.int .u8 16, numV a, numV b, .int .u64 (u c), .bool one, .int .u64 (u t)] w (Gives (numV (⟨twoV 1 a.v a.m b.v b.m, twoM 1 a.v a.m b.v b.m, a.a - b.b, a.b - b.a, half, most⟩)) w) := by
  have HN := Lib.hid (box3_new a b w)
  have hall := fun W => refall_num W
  have e1 := tmod_u c t
  obtain ⟨k, hk⟩ : ∃ k, c % t = k := ⟨_, rfl⟩
  rw [hk] at e1
  have HK := Lib.hid hk
  clear hk
  obtain ⟨A, hA⟩ : ∃ A, allK = A := ⟨_, rfl⟩
  rw [hA] at hall
  have HA := Lib.hid hA
  clear hA
  unfold numV at hall
  unfold Gives numV
  go_enter Try.func22, Try.ntmps22
  go_upto_region 1 with fail
  generalize World.alloc _ _ = W0 at HN ⊢
  go_upto_region 2 with (go_at_call 13; refine (hall _).mono ?_; rintro e w1 ⟨rfl, hb⟩; have HB := Lib.hid (rr_new HN.out hb A); clear hb)
  generalize w1.alloc _ = W at HB ⊢
  generalize w1.heap.size = m at HB ⊢
  clear hall HN w1 W0
  have htw := fun W => two_ref1 a.v a.m b.v b.m W
  obtain ⟨tv, hv⟩ : ∃ t, twoV 1 a.v a.m b.v b.m = t := ⟨_, rfl⟩
  obtain ⟨tm, hm⟩ : ∃ t, twoM 1 a.v a.m b.v b.m = t := ⟨_, rfl⟩
  rw [hv, hm] at htw
  have HT := Lib.hid hv
  have HM := Lib.hid hm
  clear hv hm
  unfold tnV at htw
  obtain ⟨p0, p1, p2, p3, p4, p5⟩ := num_cells HB.out.1.1
  obtain ⟨q0, q1, q2, q3, q4, q5⟩ := num_cells HB.out.1.2.1
  go_upto_region 14 with (go_at_call 43; refine (htw _).mono ?_; rintro e w2 ⟨rfl, hb⟩; have HC := Lib.hid (rr_keep HB.out hb); clear hb; clear p0 p1 p2 p3 p4 p5 q0 q1 q2 q3 q4 q5; obtain ⟨r0, r1, r2, r3, r4, r5⟩ := num_cells HC.out.2.1; obtain ⟨f0, f1, f2, f3, f4, f5⟩ := num_free HC.out.2.1)
  have HD := Lib.hid (rr_vm HC.out tv tm)
  generalize World.setCell _ _ _ = W2 at HD ⊢
  clear r0 r1 r2 r3 r4 r5 f0 f1 f2 f3 f4 f5
  clear htw HC w2
  obtain ⟨R1, hN1⟩ : ∃ q, (⟨tv, tm, A.a, A.b, A.c, A.d⟩ : K) = q := ⟨_, rfl⟩
  rw [hN1] at HD
  clear HB
  have HB := HD
  clear HD
  obtain ⟨p0, p1, p2, p3, p4, p5⟩ := num_cells HB.out.1.1
  obtain ⟨q0, q1, q2, q3, q4, q5⟩ := num_cells HB.out.1.2.1
  go_upto_region 15 with fail
  clear p0 p1 p2 p3 p4 p5 q0 q1 q2 q3 q4 q5
  obtain ⟨r0, r1, r2, r3, r4, r5⟩ := num_cells HB.out.2.1
  obtain ⟨f0, f1, f2, f3, f4, f5⟩ := num_free HB.out.2.1
  obtain ⟨p0, p1, p2, p3, p4, p5⟩ := num_cells HB.out.1.1
  obtain ⟨q0, q1, q2, q3, q4, q5⟩ := num_cells HB.out.1.2.1
  go_upto_region 16 with fail
  have HD := Lib.hid (rr_a HB.out (a.a - b.b))
  generalize World.setCell _ _ _ = W3 at HD ⊢
  clear p0 p1 p2 p3 p4 p5 q0 q1 q2 q3 q4 q5
  clear r0 r1 r2 r3 r4 r5 f0 f1 f2 f3 f4 f5
  obtain ⟨R2, hN2⟩ : ∃ q, (⟨R1.v, R1.m, a.a - b.b, R1.b, R1.c, R1.d⟩ : K) = q := ⟨_, rfl⟩
  rw [hN2] at HD
  clear HB
  have HB := HD
  clear HD
  obtain ⟨r0, r1, r2, r3, r4, r5⟩ := num_cells HB.out.2.1
  obtain ⟨f0, f1, f2, f3, f4, f5⟩ := num_free HB.out.2.1
  obtain ⟨p0, p1, p2, p3, p4, p5⟩ := num_cells HB.out.1.1
  obtain ⟨q0, q1, q2, q3, q4, q5⟩ := num_cells HB.out.1.2.1
  go_upto_region 17 with fail
  have HD := Lib.hid (rr_b HB.out (a.b - b.a))
  generalize World.setCell _ _ _ = W3 at HD ⊢
  clear p0 p1 p2 p3 p4 p5 q0 q1 q2 q3 q4 q5
  clear r0 r1 r2 r3 r4 r5 f0 f1 f2 f3 f4 f5
  obtain ⟨R3, hN3⟩ : ∃ q, (⟨R2.v, R2.m, R2.a, a.b - b.a, R2.c, R2.d⟩ : K) = q := ⟨_, rfl⟩
  rw [hN3] at HD
  clear HB
  have HB := HD
  clear HD
  have ho1 := fun W => over_less a.c b.d W
  have ho2 := fun W => over_less a.d b.c W
  rw [h1] at ho1
  rw [h2] at ho2
  clear h1 h2
  simp only [Bool.not_true, Bool.not_false] at ho1 ho2
  obtain ⟨p0, p1, p2, p3, p4, p5⟩ := num_cells HB.out.1.1
  obtain ⟨q0, q1, q2, q3, q4, q5⟩ := num_cells HB.out.1.2.1
  obtain ⟨x0, hx0⟩ : ∃ t, s a.c = t := ⟨_, rfl⟩
  obtain ⟨x1, hx1⟩ : ∃ t, s a.d = t := ⟨_, rfl⟩
  obtain ⟨y0, hy0⟩ : ∃ t, s b.c = t := ⟨_, rfl⟩
  obtain ⟨y1, hy1⟩ : ∃ t, s b.d = t := ⟨_, rfl⟩
  rw [hx0] at p4 ho1 
  rw [hx1] at p5 ho2 
  rw [hy0] at q4 ho2
  rw [hy1] at q5 ho1
  clear hx0 hx1 hy0 hy1
  go_upto_region 78 with (first | (go_at_call_of 44 (Value.int .i64 x0); refine (ho1 _).mono ?_; rintro e w7 ⟨rfl, rfl⟩) | (go_at_call_of 44 (Value.int .i64 x1); refine (ho2 _).mono ?_; rintro e w7 ⟨rfl, rfl⟩))
  clear ho1 ho2
  clear p0 p1 p2 p3 p4 p5 q0 q1 q2 q3 q4 q5
  obtain ⟨r0, r1, r2, r3, r4, r5⟩ := num_cells HB.out.2.1
  obtain ⟨f0, f1, f2, f3, f4, f5⟩ := num_free HB.out.2.1
  obtain ⟨g0, g1, g2, g3, g4, g5⟩ := num_free HB.out.1.2.2.1
  obtain ⟨z0, z1, z2, z3, z4, z5⟩ := num_cells HB.out.1.2.2.1
  go_wp2
  have HZ := Lib.hid (rr_out HB.out R3)
  generalize World.setCell _ _ _ = WZ at HZ ⊢
  clear z0 z1 z2 z3 z4 z5
  obtain ⟨z0, z1, z2, z3, z4, z5⟩ := num_cells HZ.out.1
  exact bodyPost_ret (v := numV R3) (by unfold numV; simp [results, Try.results22, go_sem, z0, z1, z2, z3, z4, z5]) rfl ⟨by subst hN1; subst hN2; subst hN3; rw [← HA.out, ← HT.out, ← HM.out]; rfl, HZ.out.2⟩
set_option maxRecDepth 100000 in
set_option maxHeartbeats 16000000 in
theorem rr_sub_u_n (a b : K) (c t : B64) (one : Bool) (w : World) (ht : ¬ u t = 0) (hu : u b.b ≤ u a.a) (h1 : fitS (s a.c - s b.d) = false) : Calls Try.prog 22 #[.int .u8 16, numV a, numV b, .int .u64 (u c), .bool one, .int .u64 (u t)] w (Gives (numV (⟨twoV 1 a.v a.m b.v b.m, twoM 1 a.v a.m b.v b.m, a.a - b.b, a.b - b.a, half, most⟩)) w) := by
  have HN := Lib.hid (box3_new a b w)
  have hall := fun W => refall_num W
  have e1 := tmod_u c t
  obtain ⟨k, hk⟩ : ∃ k, c % t = k := ⟨_, rfl⟩
  rw [hk] at e1
  have HK := Lib.hid hk
  clear hk
  obtain ⟨A, hA⟩ : ∃ A, allK = A := ⟨_, rfl⟩
  rw [hA] at hall
  have HA := Lib.hid hA
  clear hA
  unfold numV at hall
  unfold Gives numV
  go_enter Try.func22, Try.ntmps22
  go_upto_region 1 with fail
  generalize World.alloc _ _ = W0 at HN ⊢
  go_upto_region 2 with (go_at_call 13; refine (hall _).mono ?_; rintro e w1 ⟨rfl, hb⟩; have HB := Lib.hid (rr_new HN.out hb A); clear hb)
  generalize w1.alloc _ = W at HB ⊢
  generalize w1.heap.size = m at HB ⊢
  clear hall HN w1 W0
  have htw := fun W => two_ref1 a.v a.m b.v b.m W
  obtain ⟨tv, hv⟩ : ∃ t, twoV 1 a.v a.m b.v b.m = t := ⟨_, rfl⟩
  obtain ⟨tm, hm⟩ : ∃ t, twoM 1 a.v a.m b.v b.m = t := ⟨_, rfl⟩
  rw [hv, hm] at htw
  have HT := Lib.hid hv
  have HM := Lib.hid hm
  clear hv hm
  unfold tnV at htw
  obtain ⟨p0, p1, p2, p3, p4, p5⟩ := num_cells HB.out.1.1
  obtain ⟨q0, q1, q2, q3, q4, q5⟩ := num_cells HB.out.1.2.1
  go_upto_region 14 with (go_at_call 43; refine (htw _).mono ?_; rintro e w2 ⟨rfl, hb⟩; have HC := Lib.hid (rr_keep HB.out hb); clear hb; clear p0 p1 p2 p3 p4 p5 q0 q1 q2 q3 q4 q5; obtain ⟨r0, r1, r2, r3, r4, r5⟩ := num_cells HC.out.2.1; obtain ⟨f0, f1, f2, f3, f4, f5⟩ := num_free HC.out.2.1)
  have HD := Lib.hid (rr_vm HC.out tv tm)
  generalize World.setCell _ _ _ = W2 at HD ⊢
  clear r0 r1 r2 r3 r4 r5 f0 f1 f2 f3 f4 f5
  clear htw HC w2
  obtain ⟨R1, hN1⟩ : ∃ q, (⟨tv, tm, A.a, A.b, A.c, A.d⟩ : K) = q := ⟨_, rfl⟩
  rw [hN1] at HD
  clear HB
  have HB := HD
  clear HD
  obtain ⟨p0, p1, p2, p3, p4, p5⟩ := num_cells HB.out.1.1
  obtain ⟨q0, q1, q2, q3, q4, q5⟩ := num_cells HB.out.1.2.1
  go_upto_region 15 with fail
  clear p0 p1 p2 p3 p4 p5 q0 q1 q2 q3 q4 q5
  obtain ⟨r0, r1, r2, r3, r4, r5⟩ := num_cells HB.out.2.1
  obtain ⟨f0, f1, f2, f3, f4, f5⟩ := num_free HB.out.2.1
  obtain ⟨p0, p1, p2, p3, p4, p5⟩ := num_cells HB.out.1.1
  obtain ⟨q0, q1, q2, q3, q4, q5⟩ := num_cells HB.out.1.2.1
  go_upto_region 16 with fail
  have HD := Lib.hid (rr_a HB.out (a.a - b.b))
  generalize World.setCell _ _ _ = W3 at HD ⊢
  clear p0 p1 p2 p3 p4 p5 q0 q1 q2 q3 q4 q5
  clear r0 r1 r2 r3 r4 r5 f0 f1 f2 f3 f4 f5
  obtain ⟨R2, hN2⟩ : ∃ q, (⟨R1.v, R1.m, a.a - b.b, R1.b, R1.c, R1.d⟩ : K) = q := ⟨_, rfl⟩
  rw [hN2] at HD
  clear HB
  have HB := HD
  clear HD
  obtain ⟨r0, r1, r2, r3, r4, r5⟩ := num_cells HB.out.2.1
  obtain ⟨f0, f1, f2, f3, f4, f5⟩ := num_free HB.out.2.1
  obtain ⟨p0, p1, p2, p3, p4, p5⟩ := num_cells HB.out.1.1
  obtain ⟨q0, q1, q2, q3, q4, q5⟩ := num_cells HB.out.1.2.1
  go_upto_region 17 with fail
  have HD := Lib.hid (rr_b HB.out (a.b - b.a))
  generalize World.setCell _ _ _ = W3 at HD ⊢
  clear p0 p1 p2 p3 p4 p5 q0 q1 q2 q3 q4 q5
  clear r0 r1 r2 r3 r4 r5 f0 f1 f2 f3 f4 f5
  obtain ⟨R3, hN3⟩ : ∃ q, (⟨R2.v, R2.m, R2.a, a.b - b.a, R2.c, R2.d⟩ : K) = q := ⟨_, rfl⟩
  rw [hN3] at HD
  clear HB
  have HB := HD
  clear HD
  have ho1 := fun W => over_less a.c b.d W
  have ho2 := fun W => over_less a.d b.c W
  rw [h1] at ho1
  obtain ⟨b2, hb2⟩ : ∃ t, fitS (s a.d - s b.c) = t := ⟨_, rfl⟩
  rw [hb2] at ho2
  clear hb2
  clear h1
  simp only [Bool.not_true, Bool.not_false] at ho1 ho2
  obtain ⟨p0, p1, p2, p3, p4, p5⟩ := num_cells HB.out.1.1
  obtain ⟨q0, q1, q2, q3, q4, q5⟩ := num_cells HB.out.1.2.1
  obtain ⟨x0, hx0⟩ : ∃ t, s a.c = t := ⟨_, rfl⟩
  obtain ⟨x1, hx1⟩ : ∃ t, s a.d = t := ⟨_, rfl⟩
  obtain ⟨y0, hy0⟩ : ∃ t, s b.c = t := ⟨_, rfl⟩
  obtain ⟨y1, hy1⟩ : ∃ t, s b.d = t := ⟨_, rfl⟩
  rw [hx0] at p4 ho1 
  rw [hx1] at p5 ho2 
  rw [hy0] at q4 ho2
  rw [hy1] at q5 ho1
  clear hx0 hx1 hy0 hy1
  go_upto_region 78 with (first | (go_at_call_of 44 (Value.int .i64 x0); refine (ho1 _).mono ?_; rintro e w7 ⟨rfl, rfl⟩) | (go_at_call_of 44 (Value.int .i64 x1); refine (ho2 _).mono ?_; rintro e w7 ⟨rfl, rfl⟩))
  clear ho1 ho2
  clear p0 p1 p2 p3 p4 p5 q0 q1 q2 q3 q4 q5
  obtain ⟨r0, r1, r2, r3, r4, r5⟩ := num_cells HB.out.2.1
  obtain ⟨f0, f1, f2, f3, f4, f5⟩ := num_free HB.out.2.1
  obtain ⟨g0, g1, g2, g3, g4, g5⟩ := num_free HB.out.1.2.2.1
  obtain ⟨z0, z1, z2, z3, z4, z5⟩ := num_cells HB.out.1.2.2.1
  go_wp2
  have HZ := Lib.hid (rr_out HB.out R3)
  generalize World.setCell _ _ _ = WZ at HZ ⊢
  clear z0 z1 z2 z3 z4 z5
  obtain ⟨z0, z1, z2, z3, z4, z5⟩ := num_cells HZ.out.1
  exact bodyPost_ret (v := numV R3) (by unfold numV; simp [results, Try.results22, go_sem, z0, z1, z2, z3, z4, z5]) rfl ⟨by subst hN1; subst hN2; subst hN3; rw [← HA.out, ← HT.out, ← HM.out]; rfl, HZ.out.2⟩
set_option maxRecDepth 100000 in
set_option maxHeartbeats 16000000 in
theorem rr_sub_o_yy (a b : K) (c t : B64) (one : Bool) (w : World) (ht : ¬ u t = 0) (hu : ¬ u b.b ≤ u a.a) (h1 : fitS (s a.c - s b.d) = true) (h2 : fitS (s a.d - s b.c) = true) : Calls Try.prog 22 #[.int .u8 16, numV a, numV b, .int .u64 (u c), .bool one, .int .u64 (u t)] w (Gives (numV (⟨twoV 1 a.v a.m b.v b.m, twoM 1 a.v a.m b.v b.m, 0#64, full, a.c - b.d, a.d - b.c⟩)) w) := by
  have HN := Lib.hid (box3_new a b w)
  have hall := fun W => refall_num W
  have e1 := tmod_u c t
  obtain ⟨k, hk⟩ : ∃ k, c % t = k := ⟨_, rfl⟩
  rw [hk] at e1
  have HK := Lib.hid hk
  clear hk
  obtain ⟨A, hA⟩ : ∃ A, allK = A := ⟨_, rfl⟩
  rw [hA] at hall
  have HA := Lib.hid hA
  clear hA
  unfold numV at hall
  unfold Gives numV
  go_enter Try.func22, Try.ntmps22
  go_upto_region 1 with fail
  generalize World.alloc _ _ = W0 at HN ⊢
  go_upto_region 2 with (go_at_call 13; refine (hall _).mono ?_; rintro e w1 ⟨rfl, hb⟩; have HB := Lib.hid (rr_new HN.out hb A); clear hb)
  generalize w1.alloc _ = W at HB ⊢
  generalize w1.heap.size = m at HB ⊢
  clear hall HN w1 W0
  have htw := fun W => two_ref1 a.v a.m b.v b.m W
  obtain ⟨tv, hv⟩ : ∃ t, twoV 1 a.v a.m b.v b.m = t := ⟨_, rfl⟩
  obtain ⟨tm, hm⟩ : ∃ t, twoM 1 a.v a.m b.v b.m = t := ⟨_, rfl⟩
  rw [hv, hm] at htw
  have HT := Lib.hid hv
  have HM := Lib.hid hm
  clear hv hm
  unfold tnV at htw
  obtain ⟨p0, p1, p2, p3, p4, p5⟩ := num_cells HB.out.1.1
  obtain ⟨q0, q1, q2, q3, q4, q5⟩ := num_cells HB.out.1.2.1
  go_upto_region 14 with (go_at_call 43; refine (htw _).mono ?_; rintro e w2 ⟨rfl, hb⟩; have HC := Lib.hid (rr_keep HB.out hb); clear hb; clear p0 p1 p2 p3 p4 p5 q0 q1 q2 q3 q4 q5; obtain ⟨r0, r1, r2, r3, r4, r5⟩ := num_cells HC.out.2.1; obtain ⟨f0, f1, f2, f3, f4, f5⟩ := num_free HC.out.2.1)
  have HD := Lib.hid (rr_vm HC.out tv tm)
  generalize World.setCell _ _ _ = W2 at HD ⊢
  clear r0 r1 r2 r3 r4 r5 f0 f1 f2 f3 f4 f5
  clear htw HC w2
  obtain ⟨R1, hN1⟩ : ∃ q, (⟨tv, tm, A.a, A.b, A.c, A.d⟩ : K) = q := ⟨_, rfl⟩
  rw [hN1] at HD
  clear HB
  have HB := HD
  clear HD
  obtain ⟨p0, p1, p2, p3, p4, p5⟩ := num_cells HB.out.1.1
  obtain ⟨q0, q1, q2, q3, q4, q5⟩ := num_cells HB.out.1.2.1
  go_upto_region 17 with fail
  clear p0 p1 p2 p3 p4 p5 q0 q1 q2 q3 q4 q5
  have ho1 := fun W => over_less a.c b.d W
  have ho2 := fun W => over_less a.d b.c W
  rw [h1] at ho1
  rw [h2] at ho2
  clear h1 h2
  simp only [Bool.not_true, Bool.not_false] at ho1 ho2
  obtain ⟨p0, p1, p2, p3, p4, p5⟩ := num_cells HB.out.1.1
  obtain ⟨q0, q1, q2, q3, q4, q5⟩ := num_cells HB.out.1.2.1
  have e5 : IntKind.i64.wrap (s a.c - s b.d) = s (a.c - b.d) := s_subw _ _
  have e6 : IntKind.i64.wrap (s a.d - s b.c) = s (a.d - b.c) := s_subw _ _
  obtain ⟨z0, hz0⟩ : ∃ t, s (a.c - b.d) = t := ⟨_, rfl⟩
  obtain ⟨z1, hz1⟩ : ∃ t, s (a.d - b.c) = t := ⟨_, rfl⟩
  rw [hz0] at e5
  rw [hz1] at e6
  obtain ⟨x0, hx0⟩ : ∃ t, s a.c = t := ⟨_, rfl⟩
  obtain ⟨x1, hx1⟩ : ∃ t, s a.d = t := ⟨_, rfl⟩
  obtain ⟨y0, hy0⟩ : ∃ t, s b.c = t := ⟨_, rfl⟩
  obtain ⟨y1, hy1⟩ : ∃ t, s b.d = t := ⟨_, rfl⟩
  rw [hx0] at p4 ho1 e5
  rw [hx1] at p5 ho2 e6
  rw [hy0] at q4 ho2 e6
  rw [hy1] at q5 ho1 e5
  clear hx0 hx1 hy0 hy1
  go_upto_region 18 with (first | (go_at_call_of 44 (Value.int .i64 x0); refine (ho1 _).mono ?_; rintro e w7 ⟨rfl, rfl⟩) | (go_at_call_of 44 (Value.int .i64 x1); refine (ho2 _).mono ?_; rintro e w7 ⟨rfl, rfl⟩))
  obtain ⟨r0, r1, r2, r3, r4, r5⟩ := num_cells HB.out.2.1
  obtain ⟨f0, f1, f2, f3, f4, f5⟩ := num_free HB.out.2.1
  have hm0 := HB.out.2.2
  have hm1 : ¬ m = w.heap.size + 1 := by omega
  have hm2 : ¬ w.heap.size + 1 = m := by omega
  have hm3 : ¬ m = w.heap.size := by omega
  have hm4 : ¬ w.heap.size = m := by omega
  clear hm0
  go_upto_region 78 with fail
  clear hm1 hm2 hm3 hm4
  have HD := wr_cd2 HB.out (a.c - b.d) (a.d - b.c)
  rw [hz0, hz1] at HD
  have HD := Lib.hid HD
  generalize World.setCell _ _ _ = W3 at HD ⊢
  clear p0 p1 p2 p3 p4 p5 q0 q1 q2 q3 q4 q5
  clear r0 r1 r2 r3 r4 r5 f0 f1 f2 f3 f4 f5
  clear ho1 ho2 e5 e6 hz0 hz1
  obtain ⟨R2, hN2⟩ : ∃ q, (⟨R1.v, R1.m, R1.a, R1.b, a.c - b.d, a.d - b.c⟩ : K) = q := ⟨_, rfl⟩
  rw [hN2] at HD
  clear HB
  have HB := HD
  clear HD
  obtain ⟨r0, r1, r2, r3, r4, r5⟩ := num_cells HB.out.2.1
  obtain ⟨f0, f1, f2, f3, f4, f5⟩ := num_free HB.out.2.1
  obtain ⟨g0, g1, g2, g3, g4, g5⟩ := num_free HB.out.1.2.2.1
  obtain ⟨z0, z1, z2, z3, z4, z5⟩ := num_cells HB.out.1.2.2.1
  go_wp2
  have HZ := Lib.hid (rr_out HB.out R2)
  generalize World.setCell _ _ _ = WZ at HZ ⊢
  clear z0 z1 z2 z3 z4 z5
  obtain ⟨z0, z1, z2, z3, z4, z5⟩ := num_cells HZ.out.1
  exact bodyPost_ret (v := numV R2) (by unfold numV; simp [results, Try.results22, go_sem, z0, z1, z2, z3, z4, z5]) rfl ⟨by subst hN1; subst hN2; rw [← HA.out, ← HT.out, ← HM.out]; rfl, HZ.out.2⟩
set_option maxRecDepth 100000 in
set_option maxHeartbeats 16000000 in
theorem rr_sub_o_yn (a b : K) (c t : B64) (one : Bool) (w : World) (ht : ¬ u t = 0) (hu : ¬ u b.b ≤ u a.a) (h1 : fitS (s a.c - s b.d) = true) (h2 : fitS (s a.d - s b.c) = false) : Calls Try.prog 22 #[.int .u8 16, numV a, numV b, .int .u64 (u c), .bool one, .int .u64 (u t)] w (Gives (numV (⟨twoV 1 a.v a.m b.v b.m, twoM 1 a.v a.m b.v b.m, 0#64, full, half, most⟩)) w) := by
  have HN := Lib.hid (box3_new a b w)
  have hall := fun W => refall_num W
  have e1 := tmod_u c t
  obtain ⟨k, hk⟩ : ∃ k, c % t = k := ⟨_, rfl⟩
  rw [hk] at e1
  have HK := Lib.hid hk
  clear hk
  obtain ⟨A, hA⟩ : ∃ A, allK = A := ⟨_, rfl⟩
  rw [hA] at hall
  have HA := Lib.hid hA
  clear hA
  unfold numV at hall
  unfold Gives numV
  go_enter Try.func22, Try.ntmps22
  go_upto_region 1 with fail
  generalize World.alloc _ _ = W0 at HN ⊢
  go_upto_region 2 with (go_at_call 13; refine (hall _).mono ?_; rintro e w1 ⟨rfl, hb⟩; have HB := Lib.hid (rr_new HN.out hb A); clear hb)
  generalize w1.alloc _ = W at HB ⊢
  generalize w1.heap.size = m at HB ⊢
  clear hall HN w1 W0
  have htw := fun W => two_ref1 a.v a.m b.v b.m W
  obtain ⟨tv, hv⟩ : ∃ t, twoV 1 a.v a.m b.v b.m = t := ⟨_, rfl⟩
  obtain ⟨tm, hm⟩ : ∃ t, twoM 1 a.v a.m b.v b.m = t := ⟨_, rfl⟩
  rw [hv, hm] at htw
  have HT := Lib.hid hv
  have HM := Lib.hid hm
  clear hv hm
  unfold tnV at htw
  obtain ⟨p0, p1, p2, p3, p4, p5⟩ := num_cells HB.out.1.1
  obtain ⟨q0, q1, q2, q3, q4, q5⟩ := num_cells HB.out.1.2.1
  go_upto_region 14 with (go_at_call 43; refine (htw _).mono ?_; rintro e w2 ⟨rfl, hb⟩; have HC := Lib.hid (rr_keep HB.out hb); clear hb; clear p0 p1 p2 p3 p4 p5 q0 q1 q2 q3 q4 q5; obtain ⟨r0, r1, r2, r3, r4, r5⟩ := num_cells HC.out.2.1; obtain ⟨f0, f1, f2, f3, f4, f5⟩ := num_free HC.out.2.1)
  have HD := Lib.hid (rr_vm HC.out tv tm)
  generalize World.setCell _ _ _ = W2 at HD ⊢
  clear r0 r1 r2 r3 r4 r5 f0 f1 f2 f3 f4 f5
  clear htw HC w2
  obtain ⟨R1, hN1⟩ : ∃ q, (⟨tv, tm, A.a, A.b, A.c, A.d⟩ : K) = q := ⟨_, rfl⟩
  rw [hN1] at HD
  clear HB
  have HB := HD
  clear HD
  obtain ⟨p0, p1, p2, p3, p4, p5⟩ := num_cells HB.out.1.1
  obtain ⟨q0, q1, q2, q3, q4, q5⟩ := num_cells HB.out.1.2.1
  go_upto_region 17 with fail
  clear p0 p1 p2 p3 p4 p5 q0 q1 q2 q3 q4 q5
  have ho1 := fun W => over_less a.c b.d W
  have ho2 := fun W => over_less a.d b.c W
  rw [h1] at ho1
  rw [h2] at ho2
  clear h1 h2
  simp only [Bool.not_true, Bool.not_false] at ho1 ho2
  obtain ⟨p0, p1, p2, p3, p4, p5⟩ := num_cells HB.out.1.1
  obtain ⟨q0, q1, q2, q3, q4, q5⟩ := num_cells HB.out.1.2.1
  obtain ⟨x0, hx0⟩ : ∃ t, s a.c = t := ⟨_, rfl⟩
  obtain ⟨x1, hx1⟩ : ∃ t, s a.d = t := ⟨_, rfl⟩
  obtain ⟨y0, hy0⟩ : ∃ t, s b.c = t := ⟨_, rfl⟩
  obtain ⟨y1, hy1⟩ : ∃ t, s b.d = t := ⟨_, rfl⟩
  rw [hx0] at p4 ho1 
  rw [hx1] at p5 ho2 
  rw [hy0] at q4 ho2
  rw [hy1] at q5 ho1
  clear hx0 hx1 hy0 hy1
  go_upto_region 78 with (first | (go_at_call_of 44 (Value.int .i64 x0); refine (ho1 _).mono ?_; rintro e w7 ⟨rfl, rfl⟩) | (go_at_call_of 44 (Value.int .i64 x1); refine (ho2 _).mono ?_; rintro e w7 ⟨rfl, rfl⟩))
  clear ho1 ho2
  clear p0 p1 p2 p3 p4 p5 q0 q1 q2 q3 q4 q5
  obtain ⟨r0, r1, r2, r3, r4, r5⟩ := num_cells HB.out.2.1
  obtain ⟨f0, f1, f2, f3, f4, f5⟩ := num_free HB.out.2.1
  obtain ⟨g0, g1, g2, g3, g4, g5⟩ := num_free HB.out.1.2.2.1
  obtain ⟨z0, z1, z2, z3, z4, z5⟩ := num_cells HB.out.1.2.2.1
  go_wp2
  have HZ := Lib.hid (rr_out HB.out R1)
  generalize World.setCell _ _ _ = WZ at HZ ⊢
  clear z0 z1 z2 z3 z4 z5
  obtain ⟨z0, z1, z2, z3, z4, z5⟩ := num_cells HZ.out.1
  exact bodyPost_ret (v := numV R1) (by unfold numV; simp [results, Try.results22, go_sem, z0, z1, z2, z3, z4, z5]) rfl ⟨by subst hN1; rw [← HA.out, ← HT.out, ← HM.out]; rfl, HZ.out.2⟩
set_option maxRecDepth 100000 in
set_option maxHeartbeats 16000000 in
theorem rr_sub_o_n (a b : K) (c t : B64) (one : Bool) (w : World) (ht : ¬ u t = 0) (hu : ¬ u b.b ≤ u a.a) (h1 : fitS (s a.c - s b.d) = false) : Calls Try.prog 22 #[.int .u8 16, numV a, numV b, .int .u64 (u c), .bool one, .int .u64 (u t)] w (Gives (numV (⟨twoV 1 a.v a.m b.v b.m, twoM 1 a.v a.m b.v b.m, 0#64, full, half, most⟩)) w) := by
  have HN := Lib.hid (box3_new a b w)
  have hall := fun W => refall_num W
  have e1 := tmod_u c t
  obtain ⟨k, hk⟩ : ∃ k, c % t = k := ⟨_, rfl⟩
  rw [hk] at e1
  have HK := Lib.hid hk
  clear hk
  obtain ⟨A, hA⟩ : ∃ A, allK = A := ⟨_, rfl⟩
  rw [hA] at hall
  have HA := Lib.hid hA
  clear hA
  unfold numV at hall
  unfold Gives numV
  go_enter Try.func22, Try.ntmps22
  go_upto_region 1 with fail
  generalize World.alloc _ _ = W0 at HN ⊢
  go_upto_region 2 with (go_at_call 13; refine (hall _).mono ?_; rintro e w1 ⟨rfl, hb⟩; have HB := Lib.hid (rr_new HN.out hb A); clear hb)
  generalize w1.alloc _ = W at HB ⊢
  generalize w1.heap.size = m at HB ⊢
  clear hall HN w1 W0
  have htw := fun W => two_ref1 a.v a.m b.v b.m W
  obtain ⟨tv, hv⟩ : ∃ t, twoV 1 a.v a.m b.v b.m = t := ⟨_, rfl⟩
  obtain ⟨tm, hm⟩ : ∃ t, twoM 1 a.v a.m b.v b.m = t := ⟨_, rfl⟩
  rw [hv, hm] at htw
  have HT := Lib.hid hv
  have HM := Lib.hid hm
  clear hv hm
  unfold tnV at htw
  obtain ⟨p0, p1, p2, p3, p4, p5⟩ := num_cells HB.out.1.1
  obtain ⟨q0, q1, q2, q3, q4, q5⟩ := num_cells HB.out.1.2.1
  go_upto_region 14 with (go_at_call 43; refine (htw _).mono ?_; rintro e w2 ⟨rfl, hb⟩; have HC := Lib.hid (rr_keep HB.out hb); clear hb; clear p0 p1 p2 p3 p4 p5 q0 q1 q2 q3 q4 q5; obtain ⟨r0, r1, r2, r3, r4, r5⟩ := num_cells HC.out.2.1; obtain ⟨f0, f1, f2, f3, f4, f5⟩ := num_free HC.out.2.1)
  have HD := Lib.hid (rr_vm HC.out tv tm)
  generalize World.setCell _ _ _ = W2 at HD ⊢
  clear r0 r1 r2 r3 r4 r5 f0 f1 f2 f3 f4 f5
  clear htw HC w2
  obtain ⟨R1, hN1⟩ : ∃ q, (⟨tv, tm, A.a, A.b, A.c, A.d⟩ : K) = q := ⟨_, rfl⟩
  rw [hN1] at HD
  clear HB
  have HB := HD
  clear HD
  obtain ⟨p0, p1, p2, p3, p4, p5⟩ := num_cells HB.out.1.1
  obtain ⟨q0, q1, q2, q3, q4, q5⟩ := num_cells HB.out.1.2.1
  go_upto_region 17 with fail
  clear p0 p1 p2 p3 p4 p5 q0 q1 q2 q3 q4 q5
  have ho1 := fun W => over_less a.c b.d W
  have ho2 := fun W => over_less a.d b.c W
  rw [h1] at ho1
  obtain ⟨b2, hb2⟩ : ∃ t, fitS (s a.d - s b.c) = t := ⟨_, rfl⟩
  rw [hb2] at ho2
  clear hb2
  clear h1
  simp only [Bool.not_true, Bool.not_false] at ho1 ho2
  obtain ⟨p0, p1, p2, p3, p4, p5⟩ := num_cells HB.out.1.1
  obtain ⟨q0, q1, q2, q3, q4, q5⟩ := num_cells HB.out.1.2.1
  obtain ⟨x0, hx0⟩ : ∃ t, s a.c = t := ⟨_, rfl⟩
  obtain ⟨x1, hx1⟩ : ∃ t, s a.d = t := ⟨_, rfl⟩
  obtain ⟨y0, hy0⟩ : ∃ t, s b.c = t := ⟨_, rfl⟩
  obtain ⟨y1, hy1⟩ : ∃ t, s b.d = t := ⟨_, rfl⟩
  rw [hx0] at p4 ho1 
  rw [hx1] at p5 ho2 
  rw [hy0] at q4 ho2
  rw [hy1] at q5 ho1
  clear hx0 hx1 hy0 hy1
  go_upto_region 78 with (first | (go_at_call_of 44 (Value.int .i64 x0); refine (ho1 _).mono ?_; rintro e w7 ⟨rfl, rfl⟩) | (go_at_call_of 44 (Value.int .i64 x1); refine (ho2 _).mono ?_; rintro e w7 ⟨rfl, rfl⟩))
  clear ho1 ho2
  clear p0 p1 p2 p3 p4 p5 q0 q1 q2 q3 q4 q5
  obtain ⟨r0, r1, r2, r3, r4, r5⟩ := num_cells HB.out.2.1
  obtain ⟨f0, f1, f2, f3, f4, f5⟩ := num_free HB.out.2.1
  obtain ⟨g0, g1, g2, g3, g4, g5⟩ := num_free HB.out.1.2.2.1
  obtain ⟨z0, z1, z2, z3, z4, z5⟩ := num_cells HB.out.1.2.2.1
  go_wp2
  have HZ := Lib.hid (rr_out HB.out R1)
  generalize World.setCell _ _ _ = WZ at HZ ⊢
  clear z0 z1 z2 z3 z4 z5
  obtain ⟨z0, z1, z2, z3, z4, z5⟩ := num_cells HZ.out.1
  exact bodyPost_ret (v := numV R1) (by unfold numV; simp [results, Try.results22, go_sem, z0, z1, z2, z3, z4, z5]) rfl ⟨by subst hN1; rw [← HA.out, ← HT.out, ← HM.out]; rfl, HZ.out.2⟩
theorem rr_sub (a b : K) (c t : B64) (one : Bool) (w : World) (ht : ¬ u t = 0) : Calls Try.prog 22 #[.int .u8 16, numV a, numV b, .int .u64 (u c), .bool one, .int .u64 (u t)] w (Gives (numV (rowSub a b)) w) := by
  unfold rowSub subU subS
  by_cases hu : u b.b ≤ u a.a
  · rw [decide_eq_true hu]
    simp only [if_true]
    cases h1 : fitS (s a.c - s b.d)
    · rw [Bool.false_and]
      simp only [Bool.false_eq_true, if_false]
      exact rr_sub_u_n a b c t one w ht hu h1
    · cases h2 : fitS (s a.d - s b.c)
      · rw [Bool.and_false]
        simp only [Bool.false_eq_true, if_false]
        exact rr_sub_u_yn a b c t one w ht hu h1 h2
      · rw [Bool.and_true]
        simp only [if_true]
        exact rr_sub_u_yy a b c t one w ht hu h1 h2
  · rw [decide_eq_false hu]
    simp only [Bool.false_eq_true, if_false]
    cases h1 : fitS (s a.c - s b.d)
    · rw [Bool.false_and]
      simp only [Bool.false_eq_true, if_false]
      exact rr_sub_o_n a b c t one w ht hu h1
    · cases h2 : fitS (s a.d - s b.c)
      · rw [Bool.and_false]
        simp only [Bool.false_eq_true, if_false]
        exact rr_sub_o_yn a b c t one w ht hu h1 h2
      · rw [Bool.and_true]
        simp only [if_true]
        exact rr_sub_o_yy a b c t one w ht hu h1 h2
end Go.Proofs.Ytogadmlnmcojpaa
