/-
  Proved here: what Bit, Has and Range of the document's answers return. Conditions: a bit's number is from 0 to 63.
-/
import Derived.Test.YtbljijbmjccalaaHPatF
import Derived.Test.YtbljijbmjccalaaOpen
import Derived.Deep.QuietTactic
import Derived.BigQuiet
namespace Go.Proofs.Ytbljijbmjccalaa
open Go.RowKit

theorem below_drews {B : Nat} {w W : World} (h : Below B w W) (n : Nat) : Below B w (W.drewN n) := by
  induction n with
  | zero => exact h
  | succ n ih => exact ih.drew
theorem div_step (z : Int) (k : Nat) : z / 2 ^ k / 2 = z / 2 ^ (k + 1) := by
  rw [Int.pow_succ, Int.ediv_ediv_of_nonneg (Int.le_of_lt (Int.pow_pos (by decide)))]
theorem div_bd {z : Int} (k : Nat) (h0 : 0 ≤ z) (h1 : z ≤ 18446744073709551615) : 0 ≤ z / 2 ^ k ∧ z / 2 ^ k ≤ 18446744073709551615 := by
  have hp : (0 : Int) < 2 ^ k := Int.pow_pos (by decide)
  exact ⟨Int.ediv_nonneg h0 (Int.le_of_lt hp), Int.le_trans (Int.ediv_le_self _ h0) h1⟩
theorem bit_dec (x : B64) (i : Nat) : u x / 2 ^ i % 2 = if x.getLsbD i = true then 1 else 0 := by
  unfold u BitVec.getLsbD
  rw [Nat.testBit_eq_decide_div_mod_eq]
  have e : ((x.toNat : Int) / 2 ^ i % 2) = ((x.toNat / 2 ^ i % 2 : Nat) : Int) := by simp
  rw [e]
  simp only [decide_eq_true_eq]
  split <;> omega
set_option maxHeartbeats 1000000 in
theorem bit_ref (v m : B64) (i : Nat) (hi : i ≤ 63) (w : World) : Calls Try.prog 37 #[tnV v m, .int .i64 i] w (Gives (.tuple #[.bool (bz v m i), .bool (bo v m i)]) w) := by
  have hv := u_bd v
  have hm := u_bd m
  unfold Gives tnV
  go_enter Try.func37, Try.ntmps37
  go_wp2
  go_quiet (fail)
  go_wp2
  obtain ⟨W, hW⟩ : ∃ W, (w.alloc (Obj.cells #[Value.int IntKind.u64 (u v), Value.int IntKind.u64 (u m)] 24)).drewN nq = W := ⟨_, rfl⟩
  have HB : Hid (Below w.heap.size w W) := by rw [← hW]; exact Lib.hid (below_drews (below_box _ _) _)
  rw [hW]
  clear hW
  go_loop [6, 7, 8] (fun a b c => ∃ k : Nat, k ≤ i ∧ a = .int .u64 (u m / 2 ^ k) ∧ b = .int .u64 (u v / 2 ^ k) ∧ c = .int .i64 k) (fun _ _ c => i - (intOf c).toNat)
  case atStart => exact ⟨0, by omega, by simp, by simp, rfl⟩
  case round =>
    obtain ⟨k, hk, rfl, rfl, rfl⟩ := hrel
    have b1 := div_bd k hm.1 hm.2
    have b2 := div_bd k hv.1 hv.2
    by_cases hlt : k < i
    · have d1 := div_step (u m) k
      have d2 := div_step (u v) k
      obtain ⟨p, hp⟩ : ∃ p, u m / 2 ^ k = p := ⟨_, rfl⟩
      obtain ⟨q, hq⟩ : ∃ q, u v / 2 ^ k = q := ⟨_, rfl⟩
      rw [hp] at d1 b1 ⊢
      rw [hq] at d2 b2 ⊢
      have D1 := Lib.hid d1
      have D2 := Lib.hid d2
      clear d1 d2 hp hq
      go_wp2
      go_round
      case rel => exact ⟨k + 1, by omega, by rw [D1.out], by rw [D2.out], by go_num⟩
      case measure => simp [intOf]; omega
    · obtain rfl : k = i := by omega
      have e1 := bit_dec m k
      have e2 := bit_dec v k
      obtain ⟨p, hp⟩ : ∃ p, u m / 2 ^ k = p := ⟨_, rfl⟩
      obtain ⟨q, hq⟩ : ∃ q, u v / 2 ^ k = q := ⟨_, rfl⟩
      rw [hp] at e1 b1 ⊢
      rw [hq] at e2 b2 ⊢
      clear hp hq
      cases hmb : m.getLsbD k <;> cases hvb : v.getLsbD k
      all_goals
        simp only [hmb, hvb] at e1 e2
        simp only [Bool.false_eq_true, if_false, if_true] at e1 e2
        have HM := Lib.hid hmb
        have HV := Lib.hid hvb
        clear hmb hvb
        go_wp2
        go_ret2
        exact ⟨by simp [bz, bo, HM.out, HV.out], HB.out⟩
end Go.Proofs.Ytbljijbmjccalaa
