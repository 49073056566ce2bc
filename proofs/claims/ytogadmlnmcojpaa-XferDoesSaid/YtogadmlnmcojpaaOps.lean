/-
  Proved here: what the thirteen operations of package alu, and sizeOf, signed, places, return, as closed numbers. Conditions: numbers are uint64, a size is 4 or 8.
-/
import Derived.Test.YtogadmlnmcojpaaInts
import Derived.Lib.Hide
namespace Go.Proofs.Ytogadmlnmcojpaa
open Go.RowKit

/-- The size of an operation. -/
def szI (wide : Bool) : Int := if wide then 8 else 4
theorem szI_or (wide : Bool) : szI wide = 4 ∨ szI wide = 8 := by cases wide <;> simp [szI]
/-- The number with a sign. -/
def sgI (x n : Int) : Int := wrap64 (sx x n)
def plI (b n : Int) : Int := b % (8 * n)
theorem plI_bd (b n : Int) (hn : n = 4 ∨ n = 8) : 0 ≤ plI b n ∧ plI b n ≤ 63 := by
  unfold plI
  obtain rfl | rfl := hn <;> omega
def u64D (a : Int) : Prop := 0 ≤ a ∧ a ≤ 18446744073709551615

theorem size_alu (wide : Bool) (w : World) : Calls Try.prog 65 #[.bool wide] w (Ret (.int .i64 (szI wide)) w) := by
  unfold Ret szI
  cases wide
  all_goals
    go_enter Try.func65, Try.ntmps65
    go_wp2
    go_ret
    exact ⟨rfl, rfl⟩
theorem places_alu (b n : Int) (w : World) (h0 : 0 ≤ b) (h1 : b ≤ 18446744073709551615) (hn : n = 4 ∨ n = 8) : Calls Try.prog 88 #[.int .u64 b, .int .i64 n] w (Ret (.int .u64 (plI b n)) w) := by
  unfold Ret plI
  obtain rfl | rfl := hn
  all_goals
    go_enter Try.func88, Try.ntmps88
    go_wp2
    go_ret
    exact ⟨rfl, rfl⟩
theorem signed_alu (x n : Int) (w : World) (h0 : 0 ≤ x) (h1 : x ≤ 18446744073709551615) : Calls Try.prog 95 #[.int .u64 x, .int .i64 n] w (Ret (.int .i64 (sgI x n)) w) := by
  unfold Ret sgI
  obtain ⟨s, hs⟩ : ∃ s, sx x n = s := ⟨_, rfl⟩
  rw [hs]
  go_enter Try.func95, Try.ntmps95
  go_wp2_with (go_at_call 103; refine (sext_words _ _ _ (by omega) (by omega)).mono ?_; rintro e w' ⟨rfl, rfl⟩; rw [hs])
  go_ret
  exact ⟨rfl, rfl⟩

section
variable (a b n : Int) (w : World)
theorem add_alu : Calls Try.prog 81 #[.int .u64 a, .int .u64 b, .int .i64 n] w (Ret (.int .u64 (IntKind.u64.wrap (a + b))) w) := by
  unfold Ret
  go_enter Try.func81, Try.ntmps81
  go_wp2
  go_ret
  exact ⟨rfl, rfl⟩
theorem sub_alu : Calls Try.prog 82 #[.int .u64 a, .int .u64 b, .int .i64 n] w (Ret (.int .u64 (IntKind.u64.wrap (a - b))) w) := by
  unfold Ret
  go_enter Try.func82, Try.ntmps82
  go_wp2
  go_ret
  exact ⟨rfl, rfl⟩
theorem mul_alu : Calls Try.prog 83 #[.int .u64 a, .int .u64 b, .int .i64 n] w (Ret (.int .u64 (IntKind.u64.wrap (a * b))) w) := by
  unfold Ret
  go_enter Try.func83, Try.ntmps83
  go_wp2
  go_ret
  exact ⟨rfl, rfl⟩
theorem quo_alu (ha0 : 0 ≤ a) (ha1 : a ≤ 18446744073709551615) (hb0 : 0 ≤ b) (hb1 : b ≤ 18446744073709551615) :
    Calls Try.prog 84 #[.int .u64 a, .int .u64 b, .int .i64 n] w (Ret (.int .u64 (a / b)) w) := by
  unfold Ret
  by_cases h : b = 0
  · subst h
    rw [Int.ediv_zero]
    go_enter Try.func84, Try.ntmps84
    go_wp2
    go_ret
    exact ⟨rfl, rfl⟩
  · go_enter Try.func84, Try.ntmps84
    go_wp2
    go_ret
    exact ⟨rfl, rfl⟩
theorem or_alu : Calls Try.prog 85 #[.int .u64 a, .int .u64 b, .int .i64 n] w (Ret (.int .u64 (bits .or .u64 a b)) w) := by
  unfold Ret
  go_enter Try.func85, Try.ntmps85
  go_wp2
  go_ret
  exact ⟨rfl, rfl⟩
theorem and_alu : Calls Try.prog 86 #[.int .u64 a, .int .u64 b, .int .i64 n] w (Ret (.int .u64 (bits .and .u64 a b)) w) := by
  unfold Ret
  go_enter Try.func86, Try.ntmps86
  go_wp2
  go_ret
  exact ⟨rfl, rfl⟩
theorem xor_alu : Calls Try.prog 92 #[.int .u64 a, .int .u64 b, .int .i64 n] w (Ret (.int .u64 (bits .xor .u64 a b)) w) := by
  unfold Ret
  go_enter Try.func92, Try.ntmps92
  go_wp2
  go_ret
  exact ⟨rfl, rfl⟩
theorem lsh_alu (hb0 : 0 ≤ b) (hb1 : b ≤ 18446744073709551615) (hn : n = 4 ∨ n = 8) :
    Calls Try.prog 87 #[.int .u64 a, .int .u64 b, .int .i64 n] w (Ret (.int .u64 (IntKind.u64.wrap (a * 2 ^ (plI b n).toNat))) w) := by
  unfold Ret
  obtain ⟨p0, p1⟩ := plI_bd b n hn
  obtain ⟨p, hp⟩ : ∃ p, plI b n = p := ⟨_, rfl⟩
  have HP := Lib.hid hp
  rw [hp] at p0 p1 ⊢
  clear hp
  go_enter Try.func87, Try.ntmps87
  go_wp2_with (go_at_call 88; refine (places_alu _ _ _ (by omega) (by omega) hn).mono ?_; rintro e w' ⟨rfl, rfl⟩; rw [HP.out])
  go_ret
  exact ⟨rfl, rfl⟩
theorem rsh_alu (hb0 : 0 ≤ b) (hb1 : b ≤ 18446744073709551615) (hn : n = 4 ∨ n = 8) :
    Calls Try.prog 89 #[.int .u64 a, .int .u64 b, .int .i64 n] w (Ret (.int .u64 (a / 2 ^ (plI b n).toNat)) w) := by
  unfold Ret
  obtain ⟨p0, p1⟩ := plI_bd b n hn
  obtain ⟨p, hp⟩ : ∃ p, plI b n = p := ⟨_, rfl⟩
  have HP := Lib.hid hp
  rw [hp] at p0 p1 ⊢
  clear hp
  go_enter Try.func89, Try.ntmps89
  go_wp2_with (go_at_call 88; refine (places_alu _ _ _ (by omega) (by omega) hn).mono ?_; rintro e w' ⟨rfl, rfl⟩; rw [HP.out])
  go_ret
  exact ⟨rfl, rfl⟩
theorem neg_alu : Calls Try.prog 90 #[.int .u64 a, .int .u64 b, .int .i64 n] w (Ret (.int .u64 (IntKind.u64.wrap (-a))) w) := by
  unfold Ret
  go_enter Try.func90, Try.ntmps90
  go_wp2
  go_ret
  exact ⟨rfl, rfl⟩
theorem rest_alu (ha0 : 0 ≤ a) (ha1 : a ≤ 18446744073709551615) (hb0 : 0 ≤ b) (hb1 : b ≤ 18446744073709551615) :
    Calls Try.prog 91 #[.int .u64 a, .int .u64 b, .int .i64 n] w (Ret (.int .u64 (a % b)) w) := by
  unfold Ret
  by_cases h : b = 0
  · subst h
    rw [Int.emod_zero]
    go_enter Try.func91, Try.ntmps91
    go_wp2
    go_ret
    exact ⟨rfl, rfl⟩
  · go_enter Try.func91, Try.ntmps91
    go_wp2
    go_ret
    exact ⟨rfl, rfl⟩
theorem mov_alu : Calls Try.prog 93 #[.int .u64 a, .int .u64 b, .int .i64 n] w (Ret (.int .u64 b) w) := by
  unfold Ret
  go_enter Try.func93, Try.ntmps93
  go_wp2
  go_ret
  exact ⟨rfl, rfl⟩
theorem arsh_alu (ha0 : 0 ≤ a) (ha1 : a ≤ 18446744073709551615) (hb0 : 0 ≤ b) (hb1 : b ≤ 18446744073709551615) (hn : n = 4 ∨ n = 8) :
    Calls Try.prog 94 #[.int .u64 a, .int .u64 b, .int .i64 n] w (Ret (.int .u64 (IntKind.u64.wrap (sgI a n / 2 ^ (plI b n).toNat))) w) := by
  unfold Ret
  obtain ⟨p0, p1⟩ := plI_bd b n hn
  obtain ⟨p, hp⟩ : ∃ p, plI b n = p := ⟨_, rfl⟩
  obtain ⟨s, hs⟩ : ∃ s, sgI a n = s := ⟨_, rfl⟩
  have HP := Lib.hid hp
  have HS := Lib.hid hs
  rw [hp] at p0 p1
  rw [hp, hs]
  clear hp hs
  go_enter Try.func94, Try.ntmps94
  go_wp2_with (first
    | (go_at_call 88; refine (places_alu _ _ _ (by omega) (by omega) hn).mono ?_; rintro e w' ⟨rfl, rfl⟩; rw [HP.out])
    | (go_at_call 95; refine (signed_alu _ _ _ (by omega) (by omega)).mono ?_; rintro e w' ⟨rfl, rfl⟩; rw [HS.out]))
  go_ret
  exact ⟨rfl, rfl⟩
end

/-- What an operation makes of numbers that are cut to n bytes. -/
def opI (op a b n : Int) : Int :=
  if op = 0 then IntKind.u64.wrap (a + b) else if op = 16 then IntKind.u64.wrap (a - b) else if op = 32 then IntKind.u64.wrap (a * b)
  else if op = 48 then a / b else if op = 64 then bits .or .u64 a b else if op = 80 then bits .and .u64 a b
  else if op = 96 then IntKind.u64.wrap (a * 2 ^ (plI b n).toNat) else if op = 112 then a / 2 ^ (plI b n).toNat else if op = 128 then IntKind.u64.wrap (-a)
  else if op = 144 then a % b else if op = 160 then bits .xor .u64 a b else if op = 176 then b
  else if op = 192 then IntKind.u64.wrap (sgI a n / 2 ^ (plI b n).toNat) else 0
end Go.Proofs.Ytogadmlnmcojpaa
