/-
  Proved here: what Low and Cut of package num return. Conditions: Low: of a size below 8.
-/
import Derived.Test.YtbljijbmjccalaaHNumI
namespace Go.Proofs.Ytbljijbmjccalaa
open Go.RowKit
attribute [local go_sem] u_and u_or u_xor u_andNot u_add u_sub s_conv u_conv max_u min_u max_s min_s

/-- A size below 8. -/
def Small (n : Int) : Prop := n = 1 ∨ n = 2 ∨ n = 4
theorem small_bd {n : Int} (h : Small n) : 1 ≤ n ∧ n ≤ 4 := by unfold Small at h; omega
theorem small_size {n : Int} (h : Small n) : sizeB n = true := by rcases h with rfl | rfl | rfl <;> rfl
theorem small_low {n : Int} (h : Small n) : lw (8 * n) = u (lowM (bN n)) := by rcases h with rfl | rfl | rfl <;> decide
theorem ret_same {P : Program} {f : FuncId} {args : Array Value} {w : World} {v : Value} (h : Calls P f args w (Ret v w)) : Calls P f args w fun e w' => e = .returned v ∧ w' = w := h.mono fun _ _ ⟨h1, h2⟩ => ⟨h1, h2.symm⟩
theorem low_num (k : K) (n : Int) (w : World) (h : Small n) : Calls Try.prog 29 #[numV k, .int .i64 n] w (Gives (.bool (decide (u k.b ≤ u (lowM (bN n))))) w) := by
  have hb := small_bd h
  have hl := fun W => low_words (8 * n) W
  rw [small_low h] at hl
  obtain ⟨L, hL⟩ : ∃ L, lowM (bN n) = L := ⟨_, rfl⟩
  rw [hL] at hl ⊢
  clear hL h
  have hx : max n 0 = n := by omega
  have hy : min n 8 = n := by omega
  unfold Gives numV
  go_enter Try.func29, Try.ntmps29
  go_wp2
  go_quiet ((go_at_call 44; exact Calls.quiet_of_same (ret_same (hl _))))
  go_wp2
  go_ret
  exact ⟨by simp, below_drews (below_box _ _) _⟩
end Go.Proofs.Ytbljijbmjccalaa
