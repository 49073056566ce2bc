/-
  Proved here: the document's Stored returns a new row: the bytes with the number's low bytes in their places. Conditions: the places are there; at most 1000 bytes.
-/
import Derived.Test.YtobfofbffjcioaaOwn
namespace Go.Proofs.Ytobfofbffjcioaa
open Go.RowKit

/-- What Stored answers: a new row with the bytes. -/
def GaveRow (W : World) (len : Nat) (zs : List Int) (e : Ending) (w : World) : Prop := ∃ g cap, e = .returned (.slice (some ⟨g, 0, none⟩) len cap) ∧ Fresh W w g len zs

theorem stored_round {w wr : World} {g p k : Nat} {x : Int} (h : wr = w.setCells g (0 + p) (u8s (bsL x k))) :
    wr.setCell ⟨g, 0 + (p + k), none⟩ (.int .u8 (x / 256 ^ k % 256)) = w.setCells g (0 + p) (u8s (bsL x (k + 1))) := by
  have hl : 0 + (p + k) = 0 + p + (u8s (bsL x k)).length := by rw [u8s_length, bsL_length]; omega
  rw [h, hl, Lib.setCells_snoc_w]
  simp [u8s, bsL]
theorem stored_at {w wr : World} {g p k : Nat} {x y : Int} (h : wr = w.setCells g (0 + p) (u8s (bsL x k))) (hy : x / 256 ^ k = y) :
    wr.setCell ⟨g, p + k, none⟩ (.int .u8 (y % 256)) = w.setCells g (0 + p) (u8s (bsL x (k + 1))) := by
  have := stored_round h
  rwa [hy, Nat.zero_add] at this
theorem quo_round (x : Int) (k : Nat) : x / 256 ^ k / 256 = x / 256 ^ (k + 1) := by
  rw [Int.pow_succ, Int.ediv_ediv_of_nonneg (by have := pow256_pos k; omega)]
set_option maxHeartbeats 400000 in
theorem stored (g off len cap p n : Nat) (x : Int) (zs : List Int) (w : World) (hz : zs.length = len) (h0 : 0 < len) (hl : len ≤ 1000) (hpn : p + n ≤ len) (hn : n ≤ 8)
    (hr : RowAt w g off len zs) (hg : g < w.heap.size) (hx : 0 ≤ x ∧ x ≤ 18446744073709551615) :
    Calls Try.prog 19 #[.slice (some ⟨g, off, none⟩) len cap, .int .i64 p, .int .i64 n, .int .u64 x] w (GaveRow w len (putL zs p (bsL x n))) := by
  go_enter Try.func19, Try.ntmps19
  go_wp2_with (at_builtin; refine wpList_clone rfl _ _ rfl rfl g off len cap zs rfl hz h0 hl hr hg ?_; intro g1 cap1 w1 hf)
  clear hr
  go_loopw [3, 10] (fun v i wr => ∃ k : Nat, k ≤ n ∧ i = .int .i64 k ∧ v = .int .u64 (x / 256 ^ k) ∧ wr = w1.setCells g1 (0 + p) (u8s (bsL x k))) (fun _ i _ => n - (intOf i).toNat)
  case atStart => exact ⟨0, by omega, rfl, by simp, rfl⟩
  case round =>
    obtain ⟨k, hk, rfl, rfl, hw⟩ := hrel
    by_cases hlt : k < n
    · have hf' := hf.put (p := p) (vs := bsL x k) hz (by rw [bsL_length]; omega)
      rw [← hw] at hf'
      have hcell := hf'.row (p + k) (by omega)
      have hfr := hf'.free (p + k)
      rw [Nat.zero_add] at hcell
      have hq := quo_round x k
      have hq0 : 0 ≤ x / 256 ^ k := Int.ediv_nonneg hx.1 (by have := pow256_pos k; omega)
      have hq1 : x / 256 ^ k ≤ 18446744073709551615 := Int.le_trans (Int.ediv_le_self _ hx.1) hx.2
      have HQ := Lib.hid hq
      have HW := Lib.hid hw
      obtain ⟨y, hy⟩ : ∃ y, x / 256 ^ k = y := ⟨_, rfl⟩
      rw [hy] at hq0 hq1 ⊢
      have HY := Lib.hid hy
      clear hw hy hq hf' hx
      go_wp2
      go_roundw
      case rel => exact ⟨k + 1, by omega, by go_num, by rw [← HQ.out, HY.out], stored_at HW.out HY.out⟩
      case measure => simp [intOf]; omega
    · obtain rfl : k = n := by omega
      have hf' := hf.put (p := p) (vs := bsL x k) hz (by rw [bsL_length]; omega)
      rw [← hw] at hf'
      have HF := Lib.hid hf'
      clear hw hf'
      go_wp2
      go_ret
      exact ⟨_, _, rfl, HF.out⟩
end Go.Proofs.Ytobfofbffjcioaa
