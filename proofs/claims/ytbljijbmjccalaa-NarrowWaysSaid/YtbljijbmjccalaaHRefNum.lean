/-
  Proved here: what All, Const and Has of the document's answers, and IsConst and Has of package num, return. Conditions: none.
-/
import Derived.Test.YtbljijbmjccalaaHNumF
namespace Go.Proofs.Ytbljijbmjccalaa
open Go.RowKit
attribute [local go_sem] u_and u_or u_xor u_andNot u_add u_sub s_conv u_conv max_u min_u max_s min_s

theorem refall_num (w : World) : Calls Try.prog 10 #[] w (Gives (numV allK) w) := by
  rw [numV_all]
  unfold Gives
  go_enter Try.func10, Try.ntmps10
  go_wp2
  exact bodyPost_ret (v := .agg #[.int .u64 0, .int .u64 18446744073709551615, .int .u64 0, .int .u64 18446744073709551615, .int .i64 (-9223372036854775808), .int .i64 9223372036854775807]) (by simp [results, Try.results10, go_sem]) rfl ⟨rfl, below_box _ _⟩
theorem refconst_num (x : B64) (w : World) : Calls Try.prog 11 #[.int .u64 (u x)] w (Gives (numV (oneK x)) w) := by
  unfold Gives numV oneK
  go_enter Try.func11, Try.ntmps11
  go_wp2
  exact bodyPost_ret (v := .agg #[.int .u64 (u x), .int .u64 0, .int .u64 (u x), .int .u64 (u x), .int .i64 (s x), .int .i64 (s x)]) (by simp [results, Try.results11, go_sem]) rfl ⟨rfl, below_box _ _⟩
theorem isConst_no (k : K) (w : World) (h : u k.m ≠ 0) : Calls Try.prog 39 #[numV k] w (Gives (.tuple #[.int .u64 0, .bool false]) w) := by
  unfold Gives numV
  go_enter Try.func39, Try.ntmps39
  go_wp2
  go_ret2
  exact ⟨rfl, below_box _ _⟩
theorem isConst_yes (k : K) (w : World) (h : u k.m = 0) : Calls Try.prog 39 #[numV k] w (Gives (.tuple #[.int .u64 (u k.v), .bool true]) w) := by
  unfold Gives numV
  go_enter Try.func39, Try.ntmps39
  go_wp2
  go_ret2
  exact ⟨rfl, below_box _ _⟩
/-- The box of what is asked stays. -/
theorem num_new (k : K) (w : World) : NumAt w.heap.size k (w.alloc (.cells #[.int .u64 (u k.v), .int .u64 (u k.m), .int .u64 (u k.a), .int .u64 (u k.b), .int .i64 (s k.c), .int .i64 (s k.d)] 26)) := (MapKept.heap_alloc w _).1
theorem refhas_num (k : K) (x : B64) (w : World) : Calls Try.prog 9 #[numV k, .int .u64 (u x)] w (Gives (.bool (k.has x)) w) := by
  have HN := Lib.hid (num_new k w)
  unfold Gives numV
  have hc := fun W => has_ref k.v k.m x W
  unfold tnV at hc
  unfold K.has
  cases h0 : hasB k.v k.m x <;> cases h1 : decide (u k.a ≤ u x) <;> cases h2 : decide (u x ≤ u k.b) <;> cases h3 : decide (s k.c ≤ s x) <;> cases h4 : decide (s x ≤ s k.d)
  all_goals
    rw [h0] at hc
    clear h0
    go_enter Try.func9, Try.ntmps9
    go_wp2_with (go_at_call 19; refine (hc _).mono ?_; rintro e w1 ⟨rfl, hb⟩; have H1 := Lib.hid (num_keep HN.out hb); have HB := Lib.hid ((below_box _ _).trans (hb.mono (by simp))); obtain ⟨n0, n1, n2, n3, n4, n5⟩ := num_cells H1.out; clear hb)
    go_ret
    exact ⟨rfl, HB.out⟩
end Go.Proofs.Ytbljijbmjccalaa
