/-
  Proved here: what is known of results (a row of each operation), and that the result of numbers that are had is had. No Go text is spoken of. Conditions: none.
-/
import Derived.Test.YtogadmlnmcojpaaSoundNum
import Derived.Test.YtogadmlnmcojpaaOps
import Derived.Test.YtogadmlnmcojpaaMap
import Derived.Test.YtogadmlnmcojpaaG1
import Derived.RegionTactic
import Derived.BigRegion
import Derived.Deep.RegionHeld3
import Derived.Deep.RegionWith
namespace Go.Proofs.Ytogadmlnmcojpaa
open Go.RowKit

/-! ### Numbers -/
theorem u_addv (x y : B64) : u (x + y) = (u x + u y) % 18446744073709551616 := by rw [← u_add, wrap_u]
theorem u_subv (x y : B64) : u (x - y) = (u x - u y) % 18446744073709551616 := by rw [← u_sub, wrap_u]
theorem u_mulv (x y : B64) : u (x * y) = (u x * u y) % 18446744073709551616 := by
  unfold u
  rw [BitVec.toNat_mul]
  simp
theorem u_divv (x y : B64) : u (x / y) = u x / u y := by
  unfold u
  rw [BitVec.toNat_udiv]
  simp
theorem u_modv (x y : B64) : u (x % y) = u x % u y := by
  unfold u
  rw [BitVec.toNat_umod]
  simp
theorem u_shlv (x : B64) (k : Nat) : u (x <<< k) = (u x * 2 ^ k) % 18446744073709551616 := by rw [← u_shl, wrap_u]
/-- Is it a number with a sign? -/
def fitS (n : Int) : Bool := decide (-9223372036854775808 ≤ n) && decide (n ≤ 9223372036854775807)
theorem fit_iff (n : Int) : fitS n = true ↔ -9223372036854775808 ≤ n ∧ n ≤ 9223372036854775807 := by
  unfold fitS
  rw [Bool.and_eq_true, decide_eq_true_eq, decide_eq_true_eq]
theorem s_addv {x y : B64} (h0 : -9223372036854775808 ≤ s x + s y) (h1 : s x + s y ≤ 9223372036854775807) : s (x + y) = s x + s y := by
  have hx := u_bd x
  have hy := u_bd y
  have e1 : s x = u x ∨ s x = u x - 18446744073709551616 := by rw [s_eq]; split <;> omega
  have e2 : s y = u y ∨ s y = u y - 18446744073709551616 := by rw [s_eq]; split <;> omega
  rw [s_eq (x + y), u_addv]
  split <;> omega
theorem s_subv {x y : B64} (h0 : -9223372036854775808 ≤ s x - s y) (h1 : s x - s y ≤ 9223372036854775807) : s (x - y) = s x - s y := by
  have hx := u_bd x
  have hy := u_bd y
  have e1 : s x = u x ∨ s x = u x - 18446744073709551616 := by rw [s_eq]; split <;> omega
  have e2 : s y = u y ∨ s y = u y - 18446744073709551616 := by rw [s_eq]; split <;> omega
  rw [s_eq (x - y), u_subv]
  split <;> omega

theorem has_mk {v m lo hi c d z : B64} (h : hasB v m z = true) (h1 : u lo ≤ u z) (h2 : u z ≤ u hi) (h3 : s c ≤ s z) (h4 : s z ≤ s d) : (⟨v, m, lo, hi, c, d⟩ : K).has z = true :=
  (has_iff _ _).2 ⟨h, h1, h2, h3, h4⟩
theorem has_any (z : B64) : hasB 0#64 full z = true := by
  unfold hasB
  rw [decide_eq_true_eq, pv_eq]
  intro i hi hm
  unfold full at hm
  rw [not_bit _ _ hi, BitVec.getLsbD_zero] at hm
  cases hm
theorem any_lo (z : B64) : u 0#64 ≤ u z := by rw [u_0]; exact (u_bd z).1
theorem any_hi (z : B64) : u z ≤ u full := by rw [u_full]; exact (u_bd z).2
theorem any_slo (z : B64) : s half ≤ s z := by rw [s_half]; exact (s_bd z).1
theorem any_shi (z : B64) : s z ≤ s most := by rw [s_most]; exact (s_bd z).2
/-- A bound that holds, or none. -/
theorem or_lo {p : Bool} {x z : B64} (h : p = true → u x ≤ u z) : u (if p = true then x else 0#64) ≤ u z := by
  cases p
  · rw [if_neg Bool.false_ne_true]; exact any_lo z
  · rw [if_pos rfl]; exact h rfl
theorem or_hi {p : Bool} {x z : B64} (h : p = true → u z ≤ u x) : u z ≤ u (if p = true then x else full) := by
  cases p
  · rw [if_neg Bool.false_ne_true]; exact any_hi z
  · rw [if_pos rfl]; exact h rfl
theorem or_slo {p : Bool} {x z : B64} (h : p = true → s x ≤ s z) : s (if p = true then x else half) ≤ s z := by
  cases p
  · rw [if_neg Bool.false_ne_true]; exact any_slo z
  · rw [if_pos rfl]; exact h rfl
theorem or_shi {p : Bool} {x z : B64} (h : p = true → s z ≤ s x) : s z ≤ s (if p = true then x else most) := by
  cases p
  · rw [if_neg Bool.false_ne_true]; exact any_shi z
  · rw [if_pos rfl]; exact h rfl

/-! ### Rows -/
def addU (a b : K) : Bool := decide (u a.b + u b.b ≤ 18446744073709551615)
def addS (a b : K) : Bool := fitS (s a.c + s b.c) && fitS (s a.d + s b.d)
def rowAdd (a b : K) : K :=
  ⟨twoV 0 a.v a.m b.v b.m, twoM 0 a.v a.m b.v b.m, if addU a b = true then a.a + b.a else 0#64, if addU a b = true then a.b + b.b else full, if addS a b = true then a.c + b.c else half, if addS a b = true then a.d + b.d else most⟩
def subU (a b : K) : Bool := decide (u b.b ≤ u a.a)
def subS (a b : K) : Bool := fitS (s a.c - s b.d) && fitS (s a.d - s b.c)
def rowSub (a b : K) : K :=
  ⟨twoV 1 a.v a.m b.v b.m, twoM 1 a.v a.m b.v b.m, if subU a b = true then a.a - b.b else 0#64, if subU a b = true then a.b - b.a else full, if subS a b = true then a.c - b.d else half, if subS a b = true then a.d - b.c else most⟩
def mulU (a b : K) : Bool := decide (u a.b < 4294967296) && decide (u b.b < 4294967296)
def rowMul (a b : K) : K := ⟨0#64, full, if mulU a b = true then a.a * b.a else 0#64, if mulU a b = true then a.b * b.b else full, half, most⟩
/-- A divisor that is known, and isn't 0. -/
def divU (one : Bool) (c : B64) : Bool := one && decide (0 < u c)
def rowDiv (a : K) (one : Bool) (c : B64) : K := ⟨0#64, full, if divU one c = true then a.a / c else 0#64, if divU one c = true then a.b / c else a.b, half, most⟩
def rowMod (a : K) (one : Bool) (c : B64) : K := ⟨0#64, full, 0#64, if divU one c = true then minU a.b (c - 1#64) else a.b, half, most⟩
def rowAnd (a b : K) : K := ⟨twoV 2 a.v a.m b.v b.m, twoM 2 a.v a.m b.v b.m, 0#64, minU a.b b.b, half, most⟩
def rowOr (a b : K) : K := ⟨twoV 3 a.v a.m b.v b.m, twoM 3 a.v a.m b.v b.m, maxU a.a b.a, full, half, most⟩
def rowXor (a b : K) : K := ⟨twoV 4 a.v a.m b.v b.m, twoM 4 a.v a.m b.v b.m, 0#64, full, half, most⟩
def shK (kind : Nat) (a : K) (k : Nat) : K := ⟨pv (shX kind a.v k) (shX kind a.m k), shX kind a.m k, 0#64, full, half, most⟩
def lshU (a : K) (k : Nat) : Bool := decide (u a.b < 2 ^ (64 - k))
def rowLsh (a : K) (one : Bool) (k : Nat) : K :=
  if one = true then ⟨pv (shX 0 a.v k) (shX 0 a.m k), shX 0 a.m k, if lshU a k = true then a.a <<< k else 0#64, if lshU a k = true then a.b <<< k else full, half, most⟩ else allK
def rowRsh (a : K) (one : Bool) (k : Nat) : K :=
  if one = true then ⟨pv (shX 1 a.v k) (shX 1 a.m k), shX 1 a.m k, a.a >>> k, a.b >>> k, half, most⟩ else ⟨0#64, full, 0#64, a.b, half, most⟩
def rowArsh (a : K) (one wide : Bool) (k : Nat) : K :=
  if wide = false then allK else if one = true then ⟨pv (shX 2 a.v k) (shX 2 a.m k), shX 2 a.m k, 0#64, full, a.c.sshiftRight k, a.d.sshiftRight k⟩
  else ⟨0#64, full, 0#64, full, minS a.c 0#64, maxS a.d (~~~0#64)⟩

theorem s_sar (x : B64) (k : Nat) : s (x.sshiftRight k) = s x / 2 ^ k := by
  unfold s
  rw [BitVec.toInt_sshiftRight, Int.shiftRight_eq_div_pow]
  simp

/-! ### Each has the results -/
theorem twoV_eq (kind : Nat) (va ma vb mb : B64) : twoV kind va ma vb mb = twoL kind va ma vb mb &&& ~~~twoM kind va ma vb mb := rfl
theorem add_has {a b : K} {x y : B64} (ha : a.has x = true) (hb : b.has y = true) : (rowAdd a b).has (x + y) = true := by
  have ga := (has_iff _ _).1 ha
  have gb := (has_iff _ _).1 hb
  have hp := sound_add a.v a.m b.v b.m x y
  rw [in_self ga.1, in_self gb.1] at hp
  refine has_mk hp (or_lo fun h => ?_) (or_hi fun h => ?_) (or_slo fun h => ?_) (or_shi fun h => ?_)
  · unfold addU at h
    rw [decide_eq_true_eq] at h
    rw [u_addv, u_addv]
    have := u_bd a.a
    have := u_bd b.a
    omega
  · unfold addU at h
    rw [decide_eq_true_eq] at h
    rw [u_addv, u_addv]
    have := u_bd x
    have := u_bd y
    omega
  · unfold addS at h
    rw [Bool.and_eq_true, fit_iff, fit_iff] at h
    rw [s_addv (by omega) (by omega), s_addv (by omega) (by omega)]
    omega
  · unfold addS at h
    rw [Bool.and_eq_true, fit_iff, fit_iff] at h
    rw [s_addv (by omega) (by omega), s_addv (by omega) (by omega)]
    omega
theorem sub_has {a b : K} {x y : B64} (ha : a.has x = true) (hb : b.has y = true) : (rowSub a b).has (x - y) = true := by
  have ga := (has_iff _ _).1 ha
  have gb := (has_iff _ _).1 hb
  have hp := sound_sub a.v a.m b.v b.m x y
  rw [in_self ga.1, in_self gb.1] at hp
  refine has_mk hp (or_lo fun h => ?_) (or_hi fun h => ?_) (or_slo fun h => ?_) (or_shi fun h => ?_)
  · unfold subU at h
    rw [decide_eq_true_eq] at h
    rw [u_subv, u_subv]
    have := u_bd a.a
    have := u_bd b.b
    have := u_bd x
    have := u_bd y
    omega
  · unfold subU at h
    rw [decide_eq_true_eq] at h
    rw [u_subv, u_subv]
    have := u_bd x
    have := u_bd y
    have := u_bd a.b
    have := u_bd b.a
    omega
  · unfold subS at h
    rw [Bool.and_eq_true, fit_iff, fit_iff] at h
    rw [s_subv (by omega) (by omega), s_subv (by omega) (by omega)]
    omega
  · unfold subS at h
    rw [Bool.and_eq_true, fit_iff, fit_iff] at h
    rw [s_subv (by omega) (by omega), s_subv (by omega) (by omega)]
    omega
theorem mul_has {a b : K} {x y : B64} (ha : a.has x = true) (hb : b.has y = true) : (rowMul a b).has (x * y) = true := by
  have ga := (has_iff _ _).1 ha
  have gb := (has_iff _ _).1 hb
  have a0 := u_bd a.a
  have b0 := u_bd b.a
  have x0 := u_bd x
  have y0 := u_bd y
  have key : mulU a b = true → u a.a * u b.a ≤ u x * u y ∧ u x * u y ≤ u a.b * u b.b ∧ u a.b * u b.b ≤ 18446744065119617025 ∧ 0 ≤ u a.a * u b.a := by
    intro h
    unfold mulU at h
    rw [Bool.and_eq_true, decide_eq_true_eq, decide_eq_true_eq] at h
    refine ⟨Int.mul_le_mul ga.2.1 gb.2.1 b0.1 x0.1, Int.mul_le_mul ga.2.2.1 gb.2.2.1 y0.1 (by omega), ?_, Int.mul_nonneg a0.1 b0.1⟩
    exact Int.mul_le_mul (c := 4294967295) (d := 4294967295) (by omega) (by omega) (by omega) (by omega)
  refine has_mk (has_any _) (or_lo fun h => ?_) (or_hi fun h => ?_) (any_slo _) (any_shi _)
  · have := key h
    rw [u_mulv, u_mulv]
    omega
  · have := key h
    rw [u_mulv, u_mulv]
    omega
theorem and_has {a b : K} {x y : B64} (ha : a.has x = true) (hb : b.has y = true) : (rowAnd a b).has (x &&& y) = true := by
  have ga := (has_iff _ _).1 ha
  have gb := (has_iff _ _).1 hb
  have hp := sound_and a.v a.m b.v b.m x y
  rw [in_self ga.1, in_self gb.1] at hp
  have h1 : u (x &&& y) ≤ u x := le_bits fun i hi => by rw [BitVec.getLsbD_and]; cases x.getLsbD i <;> simp
  have h2 : u (x &&& y) ≤ u y := le_bits fun i hi => by rw [BitVec.getLsbD_and]; cases y.getLsbD i <;> simp
  refine has_mk hp (any_lo _) ?_ (any_slo _) (any_shi _)
  rw [le_minU]
  omega
theorem or_has {a b : K} {x y : B64} (ha : a.has x = true) (hb : b.has y = true) : (rowOr a b).has (x ||| y) = true := by
  have ga := (has_iff _ _).1 ha
  have gb := (has_iff _ _).1 hb
  have hp := sound_or a.v a.m b.v b.m x y
  rw [in_self ga.1, in_self gb.1] at hp
  have h1 : u x ≤ u (x ||| y) := le_bits fun i hi => by rw [BitVec.getLsbD_or]; cases x.getLsbD i <;> simp
  have h2 : u y ≤ u (x ||| y) := le_bits fun i hi => by rw [BitVec.getLsbD_or]; cases y.getLsbD i <;> simp
  refine has_mk hp ?_ (any_hi _) (any_slo _) (any_shi _)
  rw [maxU_le]
  omega
theorem xor_has {a b : K} {x y : B64} (ha : a.has x = true) (hb : b.has y = true) : (rowXor a b).has (x ^^^ y) = true := by
  have ga := (has_iff _ _).1 ha
  have gb := (has_iff _ _).1 hb
  have hp := sound_xor a.v a.m b.v b.m x y
  rw [in_self ga.1, in_self gb.1] at hp
  exact has_mk hp (any_lo _) (any_hi _) (any_slo _) (any_shi _)
theorem div_has {a : K} {x y : B64} (ha : a.has x = true) (one : Bool) (c : B64) (hc : one = true → y = c) : (rowDiv a one c).has (x / y) = true := by
  have ga := (has_iff _ _).1 ha
  have x0 := u_bd x
  have y0 := u_bd y
  have hle : u (x / y) ≤ u a.b := by
    rw [u_divv]
    have := Int.ediv_le_self (u y) x0.1
    omega
  cases hd : divU one c
  · refine has_mk (has_any _) ?_ ?_ (any_slo _) (any_shi _)
    · rw [hd, if_neg Bool.false_ne_true]; exact any_lo _
    · rw [hd, if_neg Bool.false_ne_true]; exact hle
  · have hd' := hd
    unfold divU at hd'
    rw [Bool.and_eq_true, decide_eq_true_eq] at hd'
    obtain rfl := hc hd'.1
    refine has_mk (has_any _) ?_ ?_ (any_slo _) (any_shi _)
    · rw [hd, if_pos rfl, u_divv, u_divv]; exact Int.ediv_le_ediv hd'.2 ga.2.1
    · rw [hd, if_pos rfl, u_divv, u_divv]; exact Int.ediv_le_ediv hd'.2 ga.2.2.1
theorem mod_has {a : K} {x y : B64} (ha : a.has x = true) (one : Bool) (c : B64) (hc : one = true → y = c) : (rowMod a one c).has (x % y) = true := by
  have ga := (has_iff _ _).1 ha
  have x0 := u_bd x
  have y0 := u_bd y
  have hle : u (x % y) ≤ u x := by
    rw [u_modv]
    by_cases h0 : u y = 0
    · rw [h0, Int.emod_zero]; exact Int.le_refl _
    · have h1 := Int.mul_ediv_add_emod (u x) (u y)
      have h2 : 0 ≤ u x / u y := Int.ediv_nonneg x0.1 y0.1
      have h3 : 0 ≤ u y * (u x / u y) := Int.mul_nonneg y0.1 h2
      omega
  cases hd : divU one c
  · refine has_mk (has_any _) (any_lo _) ?_ (any_slo _) (any_shi _)
    rw [hd, if_neg Bool.false_ne_true]
    omega
  · have hd' := hd
    unfold divU at hd'
    rw [Bool.and_eq_true, decide_eq_true_eq] at hd'
    obtain rfl := hc hd'.1
    refine has_mk (has_any _) (any_lo _) ?_ (any_slo _) (any_shi _)
    rw [hd, if_pos rfl, le_minU]
    refine ⟨by omega, ?_⟩
    rw [u_subv, u_modv]
    have h1 := Int.emod_lt_of_pos (u x) hd'.2
    have e : u 1#64 = 1 := rfl
    rw [e]
    omega
theorem lsh_has {a : K} {x : B64} (ha : a.has x = true) (one : Bool) (k : Nat) (hk : k < 64) : (rowLsh a one k).has (x <<< k) = true := by
  have ga := (has_iff _ _).1 ha
  unfold rowLsh
  cases one
  · rw [if_neg Bool.false_ne_true]
    exact has_mk (has_any _) (any_lo _) (any_hi _) (any_slo _) (any_shi _)
  · rw [if_pos rfl]
    have hp := sound_shift a.v a.m x 0 k
    rw [in_self ga.1, shX_0 x k] at hp
    have key : lshU a k = true → u a.b * 2 ^ k < 18446744073709551616 ∧ u a.a * 2 ^ k ≤ u x * 2 ^ k ∧ u x * 2 ^ k ≤ u a.b * 2 ^ k ∧ 0 ≤ u a.a * 2 ^ k := by
      intro h
      unfold lshU at h
      rw [decide_eq_true_eq] at h
      have p0 : (0 : Int) < 2 ^ k := Int.pow_pos (by decide)
      have pp : (2 : Int) ^ (64 - k) * 2 ^ k = 18446744073709551616 := by
        rw [← Int.pow_add, show 64 - k + k = 64 by omega]; decide
      refine ⟨?_, Int.mul_le_mul_of_nonneg_right ga.2.1 (by omega), Int.mul_le_mul_of_nonneg_right ga.2.2.1 (by omega), Int.mul_nonneg (u_bd _).1 (by omega)⟩
      rw [← pp]
      exact Int.mul_lt_mul_of_pos_right h p0
    refine has_mk hp (or_lo fun h => ?_) (or_hi fun h => ?_) (any_slo _) (any_shi _)
    · have := key h
      rw [u_shlv, u_shlv]
      omega
    · have := key h
      rw [u_shlv, u_shlv]
      omega
theorem rsh_has {a : K} {x : B64} (ha : a.has x = true) (one : Bool) (k : Nat) (j : Nat) (hj : one = true → j = k) : (rowRsh a one k).has (x >>> j) = true := by
  have ga := (has_iff _ _).1 ha
  have p0 : (0 : Int) < 2 ^ j := Int.pow_pos (by decide)
  unfold rowRsh
  cases one
  · rw [if_neg Bool.false_ne_true]
    refine has_mk (has_any _) (any_lo _) ?_ (any_slo _) (any_shi _)
    rw [← u_shr]
    have := Int.ediv_le_self (2 ^ j) (u_bd x).1
    omega
  · obtain rfl := hj rfl
    rw [if_pos rfl]
    have hp := sound_shift a.v a.m x 1 j
    rw [in_self ga.1, shX_1 x j] at hp
    refine has_mk hp ?_ ?_ (any_slo _) (any_shi _)
    · rw [← u_shr, ← u_shr]; exact Int.ediv_le_ediv p0 ga.2.1
    · rw [← u_shr, ← u_shr]; exact Int.ediv_le_ediv p0 ga.2.2.1
theorem arsh_has {a : K} {x : B64} (ha : a.has x = true) (one : Bool) (k : Nat) (j : Nat) (hj : one = true → j = k) : (rowArsh a one true k).has (x.sshiftRight j) = true := by
  have ga := (has_iff _ _).1 ha
  have p0 : (0 : Int) < 2 ^ j := Int.pow_pos (by decide)
  unfold rowArsh
  rw [if_neg (by decide)]
  cases one
  · rw [if_neg Bool.false_ne_true]
    have e0 : s 0#64 = 0 := rfl
    have e1 : s (~~~0#64) = -1 := by decide
    refine has_mk (has_any _) (any_lo _) (any_hi _) ?_ ?_
    · rw [s_sar, ← min_s, e0]
      by_cases h : 0 ≤ s x
      · have := Int.ediv_nonneg h (Int.le_of_lt p0)
        omega
      · have h1 : s x ≤ s x / 2 ^ j := by
          rw [Int.le_ediv_iff_mul_le p0]
          have h2 : (1 : Int) ≤ 2 ^ j := p0
          have h3 := Int.mul_le_mul_of_nonpos_left (show s x ≤ 0 by omega) h2
          omega
        omega
    · rw [s_sar, ← max_s, e1]
      by_cases h : 0 ≤ s x
      · have := Int.ediv_le_self (2 ^ j) h
        omega
      · have : s x / 2 ^ j < 0 := Int.ediv_neg_of_neg_of_pos (by omega) p0
        omega
  · obtain rfl := hj rfl
    rw [if_pos rfl]
    have hp := sound_shift a.v a.m x 2 j
    rw [in_self ga.1, shX_2 x j] at hp
    refine has_mk hp (any_lo _) (any_hi _) ?_ ?_
    · rw [s_sar, s_sar]; exact Int.ediv_le_ediv p0 ga.2.2.2.1
    · rw [s_sar, s_sar]; exact Int.ediv_le_ediv p0 ga.2.2.2.2
end Go.Proofs.Ytogadmlnmcojpaa

/-
  Proved here: what is known of an operation's result, as the document's rows have it, and that the result of numbers that are had is had. No Go text is spoken of. Conditions: none.
-/
namespace Go.Proofs.Ytogadmlnmcojpaa
open Go.RowKit

/-- What Do tells (the same in the text DoAll of stage 4). -/
def doJ (op : Int) (wide : Bool) (a b : Int) : Int := zx (opI op (zx a (szI wide)) (zx b (szI wide)) (szI wide)) (szI wide)
/-- How many bits a shift is taken modulo. -/
def tn (wide : Bool) : Nat := if wide = true then 64 else 32
def cutW (wide : Bool) (x : B64) : B64 := if wide = true then x else lowB x 32
theorem zx_cutW (wide : Bool) (x : B64) : zx (u x) (szI wide) = u (cutW wide x) := by
  cases wide
  · exact zx_u x 4
  · have := zx_u x 8
    rw [show bN 8 = 64 from rfl, low_64] at this
    exact this
def opB (op : Int) (x y : B64) (wide : Bool) : B64 :=
  if op = 0 then x + y else if op = 16 then x - y else if op = 32 then x * y
  else if op = 48 then x / y else if op = 64 then x ||| y else if op = 80 then x &&& y
  else if op = 96 then x <<< (y.toNat % tn wide) else if op = 112 then x >>> (y.toNat % tn wide) else if op = 128 then 0#64 - x
  else if op = 144 then x % y else if op = 160 then x ^^^ y else if op = 176 then y
  else if op = 192 then BitVec.ofInt 64 (sgI (u x) (szI wide) / 2 ^ (y.toNat % tn wide)) else 0#64
theorem u_ofI (n : Int) : u (BitVec.ofInt 64 n) = IntKind.u64.wrap n := by
  rw [wrap_u]
  unfold u
  rw [BitVec.toNat_ofInt]
  have : (0 : Int) ≤ n % 18446744073709551616 := Int.emod_nonneg _ (by decide)
  omega
theorem plI_tn (y : B64) (wide : Bool) : (plI (u y) (szI wide)).toNat = y.toNat % tn wide := by
  unfold plI u szI tn
  cases wide
  · show (((y.toNat : Int)) % (8 * 4)).toNat = y.toNat % 32
    omega
  · show (((y.toNat : Int)) % (8 * 8)).toNat = y.toNat % 64
    omega
theorem opI_opB (op : Int) (x y : B64) (wide : Bool) : opI op (u x) (u y) (szI wide) = u (opB op x y wide) := by
  unfold opI opB
  rw [plI_tn]
  by_cases h0 : op = 0
  · rw [if_pos h0, if_pos h0, u_add]
  rw [if_neg h0, if_neg h0]
  by_cases h1 : op = 16
  · rw [if_pos h1, if_pos h1, u_sub]
  rw [if_neg h1, if_neg h1]
  by_cases h2 : op = 32
  · rw [if_pos h2, if_pos h2, wrap_u, u_mulv]
  rw [if_neg h2, if_neg h2]
  by_cases h3 : op = 48
  · rw [if_pos h3, if_pos h3, u_divv]
  rw [if_neg h3, if_neg h3]
  by_cases h4 : op = 64
  · rw [if_pos h4, if_pos h4, u_or]
  rw [if_neg h4, if_neg h4]
  by_cases h5 : op = 80
  · rw [if_pos h5, if_pos h5, u_and]
  rw [if_neg h5, if_neg h5]
  by_cases h6 : op = 96
  · rw [if_pos h6, if_pos h6, u_shl]
  rw [if_neg h6, if_neg h6]
  by_cases h7 : op = 112
  · rw [if_pos h7, if_pos h7, u_shr]
  rw [if_neg h7, if_neg h7]
  by_cases h8 : op = 128
  · rw [if_pos h8, if_pos h8, ← u_sub, u_0, Int.zero_sub]
  rw [if_neg h8, if_neg h8]
  by_cases h9 : op = 144
  · rw [if_pos h9, if_pos h9, u_modv]
  rw [if_neg h9, if_neg h9]
  by_cases h10 : op = 160
  · rw [if_pos h10, if_pos h10, u_xor]
  rw [if_neg h10, if_neg h10]
  by_cases h11 : op = 176
  · rw [if_pos h11, if_pos h11]
  rw [if_neg h11, if_neg h11]
  by_cases h12 : op = 192
  · rw [if_pos h12, if_pos h12, u_ofI]
  rw [if_neg h12, if_neg h12, u_0]
def doB (op : Int) (wide : Bool) (x y : B64) : B64 := cutW wide (opB op (cutW wide x) (cutW wide y) wide)
theorem doJ_doB (op : Int) (wide : Bool) (x y : B64) : doJ op wide (u x) (u y) = u (doB op wide x y) := by
  unfold doJ doB
  rw [zx_cutW, zx_cutW, opI_opB, zx_cutW]

/-! ### What is known -/
def rowK (op : Int) (a b : K) (one wide : Bool) (c : B64) : K :=
  if op = 0 then rowAdd a b else if op = 16 then rowSub a b else if op = 32 then rowMul a b
  else if op = 48 then rowDiv a one c else if op = 64 then rowOr a b else if op = 80 then rowAnd a b
  else if op = 96 then rowLsh a one (c.toNat % tn wide) else if op = 112 then rowRsh a one (c.toNat % tn wide) else if op = 128 then rowSub (oneK 0#64) a
  else if op = 144 then rowMod a one c else if op = 160 then rowXor a b else if op = 176 then b
  else if op = 192 then rowArsh a one wide (c.toNat % tn wide) else allK
def inW (wide : Bool) (a : K) : K := if wide = true then a else a.cutK 4
def oneB (b : K) : Bool := decide (b.m = 0#64)
def kDo (op : Int) (wide : Bool) (a b : K) : K :=
  if a.m = 0#64 ∧ b.m = 0#64 then oneK (doB op wide a.v b.v)
  else inW wide (rowK op (inW wide a) (inW wide b) (oneB (inW wide b)) wide (inW wide b).v).fine

/-! ### It has the results -/
theorem one_has (x : B64) : (oneK x).has x = true := by
  rw [has_iff]
  refine ⟨?_, Int.le_refl _, Int.le_refl _, Int.le_refl _, Int.le_refl _⟩
  unfold hasB oneK
  rw [decide_eq_true_eq]
theorem one_is {k : K} {x : B64} (h : k.has x = true) (hm : k.m = 0#64) : x = k.v := by
  have g := ((has_iff k x).1 h).1
  unfold hasB at g
  rw [decide_eq_true_eq, hm, pv_0, pv_0] at g
  exact g
theorem in_has {a : K} {x : B64} (wide : Bool) (h : a.has x = true) : (inW wide a).has (cutW wide x) = true := by
  cases wide
  · exact has_cut 4 h
  · exact h
theorem all_has (x : B64) : allK.has x = true := has_mk (has_any _) (any_lo _) (any_hi _) (any_slo _) (any_shi _)
theorem sar_wide (x : B64) (k : Nat) : BitVec.ofInt 64 (sgI (u x) (szI true) / 2 ^ k) = x.sshiftRight k := by
  have e1 : sgI (u x) (szI true) = s x := by
    unfold sgI
    rw [show sx (u x) (szI true) = u x from rfl]
    have := s_conv x
    rw [wrap_s] at this
    unfold wrap64
    exact this
  rw [e1, ← s_sar]
  unfold s
  exact BitVec.ofInt_toInt
theorem row_has {a b : K} {x y : B64} (op : Int) (wide one : Bool) (c : B64) (ha : a.has x = true) (hb : b.has y = true) (hc : one = true → y = c) : (rowK op a b one wide c).has (opB op x y wide) = true := by
  have ht : 0 < tn wide ∧ tn wide ≤ 64 := by cases wide <;> decide
  have hk : c.toNat % tn wide < 64 := Nat.lt_of_lt_of_le (Nat.mod_lt _ ht.1) ht.2
  have hj : one = true → y.toNat % tn wide = c.toNat % tn wide := fun h => by rw [hc h]
  unfold rowK opB
  by_cases h0 : op = 0
  · rw [if_pos h0, if_pos h0]; exact add_has ha hb
  rw [if_neg h0, if_neg h0]
  by_cases h1 : op = 16
  · rw [if_pos h1, if_pos h1]; exact sub_has ha hb
  rw [if_neg h1, if_neg h1]
  by_cases h2 : op = 32
  · rw [if_pos h2, if_pos h2]; exact mul_has ha hb
  rw [if_neg h2, if_neg h2]
  by_cases h3 : op = 48
  · rw [if_pos h3, if_pos h3]; exact div_has ha one c hc
  rw [if_neg h3, if_neg h3]
  by_cases h4 : op = 64
  · rw [if_pos h4, if_pos h4]; exact or_has ha hb
  rw [if_neg h4, if_neg h4]
  by_cases h5 : op = 80
  · rw [if_pos h5, if_pos h5]; exact and_has ha hb
  rw [if_neg h5, if_neg h5]
  by_cases h6 : op = 96
  · rw [if_pos h6, if_pos h6]
    cases one
    · unfold rowLsh
      rw [if_neg Bool.false_ne_true]
      exact all_has _
    · rw [hj rfl]; exact lsh_has ha true _ hk
  rw [if_neg h6, if_neg h6]
  by_cases h7 : op = 112
  · rw [if_pos h7, if_pos h7]; exact rsh_has ha one _ _ hj
  rw [if_neg h7, if_neg h7]
  by_cases h8 : op = 128
  · rw [if_pos h8, if_pos h8]; exact sub_has (one_has _) ha
  rw [if_neg h8, if_neg h8]
  by_cases h9 : op = 144
  · rw [if_pos h9, if_pos h9]; exact mod_has ha one c hc
  rw [if_neg h9, if_neg h9]
  by_cases h10 : op = 160
  · rw [if_pos h10, if_pos h10]; exact xor_has ha hb
  rw [if_neg h10, if_neg h10]
  by_cases h11 : op = 176
  · rw [if_pos h11, if_pos h11]; exact hb
  rw [if_neg h11, if_neg h11]
  by_cases h12 : op = 192
  · rw [if_pos h12, if_pos h12]
    cases wide
    · exact all_has _
    · rw [sar_wide]; exact arsh_has ha one _ _ hj
  rw [if_neg h12, if_neg h12]
  exact all_has _
theorem do_has {a b : K} {x y : B64} (op : Int) (wide : Bool) (ha : a.has x = true) (hb : b.has y = true) : (kDo op wide a b).has (doB op wide x y) = true := by
  unfold kDo
  by_cases hm : a.m = 0#64 ∧ b.m = 0#64
  · rw [if_pos hm, one_is ha hm.1, one_is hb hm.2]
    exact one_has _
  · rw [if_neg hm]
    have ga := in_has wide ha
    have gb := in_has wide hb
    have hr := row_has op wide (oneB (inW wide b)) (inW wide b).v ga gb (fun h => by
      unfold oneB at h
      rw [decide_eq_true_eq] at h
      exact one_is gb h)
    exact in_has wide ((has_fine _ (has_okF hr)).2 hr)

/-! ### Whether a sum with a sign goes over, by halves -/
/-- A number is twice its half and what is left, as a division towards 0 has them. -/
theorem tdiv2 (x : Int) : x = 2 * x.tdiv 2 + x.tmod 2 ∧ -1 ≤ x.tmod 2 ∧ x.tmod 2 ≤ 1 := by
  have h := Int.mul_tdiv_add_tmod x 2
  by_cases h0 : 0 ≤ x
  · have h1 := Int.tmod_nonneg 2 h0
    have h2 := Int.tmod_lt_of_pos x (show (0 : Int) < 2 by decide)
    omega
  · have h1 := Int.tmod_nonneg 2 (show 0 ≤ -x by omega)
    have h2 := Int.tmod_lt_of_pos (-x) (show (0 : Int) < 2 by decide)
    rw [Int.neg_tmod] at h1 h2
    omega
theorem over_fit {n h r : Int} (e : n = 2 * h + r) (h0 : 0 ≤ r) (h1 : r ≤ 1) : (decide (4611686018427387904 ≤ h) || decide (h < -4611686018427387904)) = !fitS n := by
  rw [Bool.eq_iff_iff, Bool.or_eq_true, decide_eq_true_eq, decide_eq_true_eq]
  have := fit_iff n
  cases hf : fitS n
  · rw [hf] at this
    simp only [Bool.not_false, iff_true]
    have h2 : ¬ (-9223372036854775808 ≤ n ∧ n ≤ 9223372036854775807) := fun g => Bool.false_ne_true (this.2 g)
    omega
  · rw [hf] at this
    simp only [Bool.not_true, iff_false, Bool.false_eq_true]
    have h2 := this.1 rfl
    omega
end Go.Proofs.Ytogadmlnmcojpaa

/-
  Proved here: the memory of a row of package xfer (the boxes of a pair and of a result). Conditions: none.
-/
namespace Go.Proofs.Ytogadmlnmcojpaa
open Go.RowKit

/-- What a row goes by, as a value. -/
def pairC (a b : K) (one : Bool) (c k : B64) : Array Value := #[.int .u64 (u a.v), .int .u64 (u a.m), .int .u64 (u a.a), .int .u64 (u a.b), .int .i64 (s a.c), .int .i64 (s a.d), .int .u64 (u b.v), .int .u64 (u b.m), .int .u64 (u b.a), .int .u64 (u b.b), .int .i64 (s b.c), .int .i64 (s b.d), .bool one, .int .u64 (u c), .int .u64 (u k)]
def pairV (a b : K) (one : Bool) (c k : B64) : Value := .agg (pairC a b one c k)
def PairAt (g : Nat) (a b : K) (one : Bool) (c k : B64) (W : World) : Prop := W.heap[g]? = some (.cells (pairC a b one c k) 47)
def OutAt (g : Nat) (k : K) (W : World) : Prop :=
  W.heap[g]? = some (.cells #[.int .u64 (u k.v), .int .u64 (u k.m), .int .u64 (u k.a), .int .u64 (u k.b), .int .i64 (s k.c), .int .i64 (s k.d)] 45)
theorem pair_cells {g : Nat} {a b : K} {one : Bool} {c k : B64} {W : World} (h : PairAt g a b one c k W) :
    (W.cell? ⟨g, 0, none⟩ = some (.int .u64 (u a.v)) ∧ W.cell? ⟨g, 1, none⟩ = some (.int .u64 (u a.m)) ∧ W.cell? ⟨g, 2, none⟩ = some (.int .u64 (u a.a)) ∧ W.cell? ⟨g, 3, none⟩ = some (.int .u64 (u a.b)) ∧
    W.cell? ⟨g, 4, none⟩ = some (.int .i64 (s a.c)) ∧ W.cell? ⟨g, 5, none⟩ = some (.int .i64 (s a.d))) ∧
    (W.cell? ⟨g, 6, none⟩ = some (.int .u64 (u b.v)) ∧ W.cell? ⟨g, 7, none⟩ = some (.int .u64 (u b.m)) ∧ W.cell? ⟨g, 8, none⟩ = some (.int .u64 (u b.a)) ∧ W.cell? ⟨g, 9, none⟩ = some (.int .u64 (u b.b)) ∧
    W.cell? ⟨g, 10, none⟩ = some (.int .i64 (s b.c)) ∧ W.cell? ⟨g, 11, none⟩ = some (.int .i64 (s b.d))) ∧
    W.cell? ⟨g, 12, none⟩ = some (.bool one) ∧ W.cell? ⟨g, 13, none⟩ = some (.int .u64 (u c)) ∧ W.cell? ⟨g, 14, none⟩ = some (.int .u64 (u k)) := by
  unfold PairAt pairC at h
  refine ⟨⟨?_, ?_, ?_, ?_, ?_, ?_⟩, ⟨?_, ?_, ?_, ?_, ?_, ?_⟩, ?_, ?_, ?_⟩ <;> simp [World.cell?, h]
theorem out_cells {g : Nat} {k : K} {W : World} (h : OutAt g k W) :
    W.cell? ⟨g, 0, none⟩ = some (.int .u64 (u k.v)) ∧ W.cell? ⟨g, 1, none⟩ = some (.int .u64 (u k.m)) ∧ W.cell? ⟨g, 2, none⟩ = some (.int .u64 (u k.a)) ∧ W.cell? ⟨g, 3, none⟩ = some (.int .u64 (u k.b)) ∧
    W.cell? ⟨g, 4, none⟩ = some (.int .i64 (s k.c)) ∧ W.cell? ⟨g, 5, none⟩ = some (.int .i64 (s k.d)) := by
  unfold OutAt at h
  refine ⟨?_, ?_, ?_, ?_, ?_, ?_⟩ <;> simp [World.cell?, h]
theorem out_free {g : Nat} {k : K} {W : World} (h : OutAt g k W) : W.frozen? ⟨g, 0, none⟩ = false ∧ W.frozen? ⟨g, 1, none⟩ = false ∧ W.frozen? ⟨g, 2, none⟩ = false ∧ W.frozen? ⟨g, 3, none⟩ = false ∧ W.frozen? ⟨g, 4, none⟩ = false ∧ W.frozen? ⟨g, 5, none⟩ = false := by
  unfold OutAt at h
  refine ⟨?_, ?_, ?_, ?_, ?_, ?_⟩ <;> simp [World.frozen?, h]
theorem out_lt {g : Nat} {k : K} {W : World} (h : OutAt g k W) : g < W.heap.size := (Array.getElem?_eq_some_iff.1 h).1
theorem pair_lt {g : Nat} {a b : K} {one : Bool} {c k : B64} {W : World} (h : PairAt g a b one c k W) : g < W.heap.size := (Array.getElem?_eq_some_iff.1 h).1
theorem out_v {g : Nat} {k : K} {W : World} (h : OutAt g k W) (x : B64) : OutAt g ⟨x, k.m, k.a, k.b, k.c, k.d⟩ (W.setCell ⟨g, 0, none⟩ (.int .u64 (u x))) := by
  unfold OutAt at *
  simp [World.setCell, Array.getElem?_modify, h]
theorem out_m {g : Nat} {k : K} {W : World} (h : OutAt g k W) (x : B64) : OutAt g ⟨k.v, x, k.a, k.b, k.c, k.d⟩ (W.setCell ⟨g, 1, none⟩ (.int .u64 (u x))) := by
  unfold OutAt at *
  simp [World.setCell, Array.getElem?_modify, h]
theorem out_a {g : Nat} {k : K} {W : World} (h : OutAt g k W) (x : B64) : OutAt g ⟨k.v, k.m, x, k.b, k.c, k.d⟩ (W.setCell ⟨g, 2, none⟩ (.int .u64 (u x))) := by
  unfold OutAt at *
  simp [World.setCell, Array.getElem?_modify, h]
theorem out_b {g : Nat} {k : K} {W : World} (h : OutAt g k W) (x : B64) : OutAt g ⟨k.v, k.m, k.a, x, k.c, k.d⟩ (W.setCell ⟨g, 3, none⟩ (.int .u64 (u x))) := by
  unfold OutAt at *
  simp [World.setCell, Array.getElem?_modify, h]
theorem out_c {g : Nat} {k : K} {W : World} (h : OutAt g k W) (x : B64) : OutAt g ⟨k.v, k.m, k.a, k.b, x, k.d⟩ (W.setCell ⟨g, 4, none⟩ (.int .i64 (s x))) := by
  unfold OutAt at *
  simp [World.setCell, Array.getElem?_modify, h]
theorem out_d {g : Nat} {k : K} {W : World} (h : OutAt g k W) (x : B64) : OutAt g ⟨k.v, k.m, k.a, k.b, k.c, x⟩ (W.setCell ⟨g, 5, none⟩ (.int .i64 (s x))) := by
  unfold OutAt at *
  simp [World.setCell, Array.getElem?_modify, h]
theorem out_new (k : K) (w : World) : OutAt w.heap.size k (w.alloc (.cells #[.int .u64 (u k.v), .int .u64 (u k.m), .int .u64 (u k.a), .int .u64 (u k.b), .int .i64 (s k.c), .int .i64 (s k.d)] 45)) := (MapKept.heap_alloc w _).1
theorem out_keep {g : Nat} {k : K} {W W' : World} (h : OutAt g k W) (hb : Below W.heap.size W W') : OutAt g k W' := (hb.block _ (out_lt h)).trans h
theorem pair_keep {g : Nat} {a b : K} {one : Bool} {c k : B64} {W W' : World} (h : PairAt g a b one c k W) (hb : Below W.heap.size W W') : PairAt g a b one c k W' := (hb.block _ (pair_lt h)).trans h

/-- The three boxes of a row: the pair's, what is returned, what is under way. -/
def RwB (w0 : World) (a b : K) (one : Bool) (c k : B64) (m : Nat) (r : K) (W : World) : Prop :=
  PairAt w0.heap.size a b one c k W ∧ OutAt (w0.heap.size + 1) zeroK W ∧ OutAt m r W ∧ w0.heap.size + 1 < m ∧ Below w0.heap.size w0 W
section
variable {w0 W W' : World} {a b r : K} {one : Bool} {c k : B64} {m : Nat}
theorem wr_keep2 (h : RwB w0 a b one c k m r W) (hb : Below W.heap.size W W') : RwB w0 a b one c k m r W' :=
  ⟨pair_keep h.1 hb, out_keep h.2.1 hb, out_keep h.2.2.1 hb, h.2.2.2.1, h.2.2.2.2.trans (hb.mono h.2.2.2.2.size)⟩
theorem wr_drew (h : RwB w0 a b one c k m r W) : RwB w0 a b one c k m r W.drew := ⟨h.1, h.2.1, h.2.2.1, h.2.2.2.1, h.2.2.2.2.drew⟩
theorem wr_drews (h : RwB w0 a b one c k m r W) (n : Nat) : RwB w0 a b one c k m r (W.drewN n) := by
  induction n with
  | zero => exact h
  | succ n ih => exact wr_drew ih
/-- A store into what is under way. -/
theorem wr_put {r' : K} (h : RwB w0 a b one c k m r W) (o : Nat) (x : Value) (hr : OutAt m r' (W.setCell ⟨m, o, none⟩ x)) : RwB w0 a b one c k m r' (W.setCell ⟨m, o, none⟩ x) := by
  have hb := below_set (Below.refl m W) o x
  obtain ⟨h1, h2, h3, h4, h5⟩ := h
  exact ⟨(hb.block _ (by omega)).trans h1, (hb.block _ (by omega)).trans h2, hr, h4, h5.trans (hb.mono (by omega))⟩
theorem wr_v (h : RwB w0 a b one c k m r W) (x : B64) : RwB w0 a b one c k m ⟨x, r.m, r.a, r.b, r.c, r.d⟩ (W.setCell ⟨m, 0, none⟩ (.int .u64 (u x))) := wr_put h _ _ (out_v h.2.2.1 x)
theorem wr_m (h : RwB w0 a b one c k m r W) (x : B64) : RwB w0 a b one c k m ⟨r.v, x, r.a, r.b, r.c, r.d⟩ (W.setCell ⟨m, 1, none⟩ (.int .u64 (u x))) := wr_put h _ _ (out_m h.2.2.1 x)
theorem wr_a (h : RwB w0 a b one c k m r W) (x : B64) : RwB w0 a b one c k m ⟨r.v, r.m, x, r.b, r.c, r.d⟩ (W.setCell ⟨m, 2, none⟩ (.int .u64 (u x))) := wr_put h _ _ (out_a h.2.2.1 x)
theorem wr_b (h : RwB w0 a b one c k m r W) (x : B64) : RwB w0 a b one c k m ⟨r.v, r.m, r.a, x, r.c, r.d⟩ (W.setCell ⟨m, 3, none⟩ (.int .u64 (u x))) := wr_put h _ _ (out_b h.2.2.1 x)
theorem wr_c (h : RwB w0 a b one c k m r W) (x : B64) : RwB w0 a b one c k m ⟨r.v, r.m, r.a, r.b, x, r.d⟩ (W.setCell ⟨m, 4, none⟩ (.int .i64 (s x))) := wr_put h _ _ (out_c h.2.2.1 x)
theorem wr_d (h : RwB w0 a b one c k m r W) (x : B64) : RwB w0 a b one c k m ⟨r.v, r.m, r.a, r.b, r.c, x⟩ (W.setCell ⟨m, 5, none⟩ (.int .i64 (s x))) := wr_put h _ _ (out_d h.2.2.1 x)
theorem wr_vm (h : RwB w0 a b one c k m r W) (x y : B64) : RwB w0 a b one c k m ⟨x, y, r.a, r.b, r.c, r.d⟩ ((W.setCell ⟨m, 0, none⟩ (.int .u64 (u x))).setCell ⟨m, 1, none⟩ (.int .u64 (u y))) := wr_m (wr_v h x) y
theorem wr_ab (h : RwB w0 a b one c k m r W) (x y : B64) : RwB w0 a b one c k m ⟨r.v, r.m, x, y, r.c, r.d⟩ ((W.setCell ⟨m, 2, none⟩ (.int .u64 (u x))).setCell ⟨m, 3, none⟩ (.int .u64 (u y))) := wr_b (wr_a h x) y
theorem wr_cd (h : RwB w0 a b one c k m r W) (x y : B64) : RwB w0 a b one c k m ⟨r.v, r.m, r.a, r.b, x, y⟩ ((W.setCell ⟨m, 4, none⟩ (.int .i64 (s x))).setCell ⟨m, 5, none⟩ (.int .i64 (s y))) := wr_d (wr_c h x) y
end
/-- Both first boxes. -/
def Rw2 (w0 : World) (a b : K) (one : Bool) (c k : B64) (W : World) : Prop :=
  PairAt w0.heap.size a b one c k W ∧ OutAt (w0.heap.size + 1) zeroK W ∧ W.heap.size = w0.heap.size + 2 ∧ Below w0.heap.size w0 W
theorem wr2_new (w : World) (a b : K) (one : Bool) (c k : B64) : Rw2 w a b one c k ((w.alloc (.cells (pairC a b one c k) 47)).alloc (.cells #[.int .u64 0, .int .u64 0, .int .u64 0, .int .u64 0, .int .i64 0, .int .i64 0] 45)) := by
  have h1 : PairAt w.heap.size a b one c k (w.alloc (.cells (pairC a b one c k) 47)) := (MapKept.heap_alloc w _).1
  obtain ⟨W1, hW1⟩ : ∃ W, w.alloc (.cells (pairC a b one c k) 47) = W := ⟨_, rfl⟩
  have b1 : Below w.heap.size w W1 := by rw [← hW1]; exact below_box _ _
  have e1 : W1.heap.size = w.heap.size + 1 := by rw [← hW1]; simp
  rw [hW1] at h1 ⊢
  have h2 := out_new zeroK W1
  have b2 := below_box W1 (.cells #[.int .u64 0, .int .u64 0, .int .u64 0, .int .u64 0, .int .i64 0, .int .i64 0] 45)
  rw [e1] at h2
  exact ⟨pair_keep h1 b2, h2, by simp [e1], b1.trans (b2.mono (by omega))⟩
theorem wr_new {w w1 : World} {a b : K} {one : Bool} {c k : B64} {W : World} (h : Rw2 w a b one c k W) (hb : Below W.heap.size W w1) (r : K) :
    RwB w a b one c k w1.heap.size r (w1.alloc (.cells #[.int .u64 (u r.v), .int .u64 (u r.m), .int .u64 (u r.a), .int .u64 (u r.b), .int .i64 (s r.c), .int .i64 (s r.d)] 45)) := by
  obtain ⟨h1, h2, h3, h4⟩ := h
  have hb2 := below_box w1 (.cells #[.int .u64 (u r.v), .int .u64 (u r.m), .int .u64 (u r.a), .int .u64 (u r.b), .int .i64 (s r.c), .int .i64 (s r.d)] 45)
  have hs := hb.size
  exact ⟨pair_keep (pair_keep h1 hb) hb2, out_keep (out_keep h2 hb) hb2, out_new r w1, by omega, (h4.trans (hb.mono (by omega))).trans (hb2.mono (by omega))⟩
theorem xr_unknown (w : World) : Calls Try.prog 29 #[] w (Gives (numV allK) w) := by
  have hall := fun W => all_num W
  unfold numV at hall ⊢
  obtain ⟨A, hA⟩ : ∃ A, allK = A := ⟨_, rfl⟩
  rw [hA] at hall ⊢
  clear hA
  unfold Gives
  go_enter Try.func29, Try.ntmps29
  go_wp2_with (go_at_call 15; refine (hall _).mono ?_; rintro e w1 ⟨rfl, hb⟩; obtain ⟨hc, hf⟩ := bcell hb; have HB := Lib.hid ((below_box _ _).trans (hb.mono (by simp))); clear hb)
  exact bodyPost_ret (v := numV A) (by unfold numV; simp [results, Try.results29, go_sem, hc]) rfl ⟨rfl, below_six HB.out _ _ _ _ _ _⟩
/-- All that a walk asks of the memory. -/
theorem wr_facts {w0 W : World} {a b r : K} {one : Bool} {c k : B64} {m : Nat} (h : RwB w0 a b one c k m r W) :
    (W.cell? ⟨m, 0, none⟩ = some (.int .u64 (u r.v)) ∧ W.cell? ⟨m, 1, none⟩ = some (.int .u64 (u r.m)) ∧ W.cell? ⟨m, 2, none⟩ = some (.int .u64 (u r.a)) ∧ W.cell? ⟨m, 3, none⟩ = some (.int .u64 (u r.b)) ∧
    W.cell? ⟨m, 4, none⟩ = some (.int .i64 (s r.c)) ∧ W.cell? ⟨m, 5, none⟩ = some (.int .i64 (s r.d))) ∧
    (W.frozen? ⟨m, 0, none⟩ = false ∧ W.frozen? ⟨m, 1, none⟩ = false ∧ W.frozen? ⟨m, 2, none⟩ = false ∧ W.frozen? ⟨m, 3, none⟩ = false ∧ W.frozen? ⟨m, 4, none⟩ = false ∧ W.frozen? ⟨m, 5, none⟩ = false) ∧
    (W.frozen? ⟨w0.heap.size + 1, 0, none⟩ = false ∧ W.frozen? ⟨w0.heap.size + 1, 1, none⟩ = false ∧ W.frozen? ⟨w0.heap.size + 1, 2, none⟩ = false ∧ W.frozen? ⟨w0.heap.size + 1, 3, none⟩ = false ∧ W.frozen? ⟨w0.heap.size + 1, 4, none⟩ = false ∧ W.frozen? ⟨w0.heap.size + 1, 5, none⟩ = false) ∧
    (W.cell? ⟨w0.heap.size + 1, 0, none⟩ = some (.int .u64 (u zeroK.v)) ∧ W.cell? ⟨w0.heap.size + 1, 1, none⟩ = some (.int .u64 (u zeroK.m)) ∧ W.cell? ⟨w0.heap.size + 1, 2, none⟩ = some (.int .u64 (u zeroK.a)) ∧ W.cell? ⟨w0.heap.size + 1, 3, none⟩ = some (.int .u64 (u zeroK.b)) ∧
    W.cell? ⟨w0.heap.size + 1, 4, none⟩ = some (.int .i64 (s zeroK.c)) ∧ W.cell? ⟨w0.heap.size + 1, 5, none⟩ = some (.int .i64 (s zeroK.d))) :=
  ⟨out_cells h.2.2.1, out_free h.2.2.1, out_free h.2.1, out_cells h.2.1⟩
theorem below_out {w0 W : World} (h : Below w0.heap.size w0 W) (a b c d e f : Value) : Below w0.heap.size w0 ((((((W.setCell ⟨w0.heap.size + 1, 0, none⟩ a).setCell ⟨w0.heap.size + 1, 1, none⟩ b).setCell ⟨w0.heap.size + 1, 2, none⟩ c).setCell ⟨w0.heap.size + 1, 3, none⟩ d).setCell ⟨w0.heap.size + 1, 4, none⟩ e).setCell ⟨w0.heap.size + 1, 5, none⟩ f) :=
  h.trans ((below_six (Below.refl (w0.heap.size + 1) W) a b c d e f).mono (by omega))
end Go.Proofs.Ytogadmlnmcojpaa

/-
  Proved here: rows of package xfer makes a new map with thirteen entries; what a look-up in it, and rowOf, tell. Conditions: none.
-/
namespace Go.Proofs.Ytogadmlnmcojpaa
open Go.RowKit Go.MapKept

/-- An operation's number, and the row's function. -/
def rowsT : List (Int × Nat) := [(0, 50), (16, 51), (32, 52), (48, 53), (64, 54), (80, 55), (96, 56), (112, 57), (128, 58), (144, 59), (160, 60), (176, 61), (192, 62)]
/-- The first n entries. -/
def rowEnts (n : Nat) : Array MapEntry := ((rowsT.take n).mapIdx fun i f => { key := .int .u8 f.1, val := fnV f.2, born := i }).toArray
theorem rw_put (w : World) (i : Nat) (es es' : Array MapEntry) (k : Int) (v : Value) (h1 : Instr.findNow (.int .u8) (.int .u8 k) es.toList 0 = some none) (h2 : es.push { key := .int .u8 k, val := v, born := i } = es') :
    (Instr.mapUpdate 54 (.map (some w.heap.size)) (.int .u8 k) v).run Try.prog (w.alloc (.map es i)) = .ok () (w.alloc (.map es' (i + 1))) := by
  have hb := (heap_alloc w (.map es i)).1
  have hk : IsKey (.int .u8) (.int .u8 k) := rfl
  have hd : Try.prog.underlying 5 = some (.int .u8) := Try.underlying5
  subst h2
  simp [Instr.mapUpdate, run_underlying Try.underlying54, MapKept.run_getObj_map hb, run_checkKey hd hk, run_findKey hd h1, run_setObj_map _ hb, Result.andThen]
  exact alloc_again _ _ _
/-- The map: block b. -/
def RowMap (w : World) (b : Nat) : Prop := w.heap[b]? = some (.map (rowEnts 13) 13)

theorem rows_map (w : World) : Calls Try.prog 27 #[] w (Ret (.map (some w.heap.size)) (w.alloc (.map (rowEnts 13) 13))) := by
  unfold Ret
  have e0 : (#[] : Array MapEntry) = rowEnts 0 := rfl
  have hmm := @run_makeMap Try.prog
  have p0 := rw_put w 0 (rowEnts 0) (rowEnts 1) 0 (fnV 50) rfl rfl
  have p1 := rw_put w 1 (rowEnts 1) (rowEnts 2) 16 (fnV 51) rfl rfl
  have p2 := rw_put w 2 (rowEnts 2) (rowEnts 3) 32 (fnV 52) rfl rfl
  have p3 := rw_put w 3 (rowEnts 3) (rowEnts 4) 48 (fnV 53) rfl rfl
  have p4 := rw_put w 4 (rowEnts 4) (rowEnts 5) 64 (fnV 54) rfl rfl
  have p5 := rw_put w 5 (rowEnts 5) (rowEnts 6) 80 (fnV 55) rfl rfl
  have p6 := rw_put w 6 (rowEnts 6) (rowEnts 7) 96 (fnV 56) rfl rfl
  have p7 := rw_put w 7 (rowEnts 7) (rowEnts 8) 112 (fnV 57) rfl rfl
  have p8 := rw_put w 8 (rowEnts 8) (rowEnts 9) 128 (fnV 58) rfl rfl
  have p9 := rw_put w 9 (rowEnts 9) (rowEnts 10) 144 (fnV 59) rfl rfl
  have p10 := rw_put w 10 (rowEnts 10) (rowEnts 11) 160 (fnV 60) rfl rfl
  have p11 := rw_put w 11 (rowEnts 11) (rowEnts 12) 176 (fnV 61) rfl rfl
  have p12 := rw_put w 12 (rowEnts 12) (rowEnts 13) 192 (fnV 62) rfl rfl
  unfold fnV at p0 p1 p2 p3 p4 p5 p6 p7 p8 p9 p10 p11 p12
  rw [← e0] at p0
  clear e0
  go_enter Try.func27, Try.ntmps27
  go_wp2
  go_ret
  exact ⟨rfl, rfl⟩

theorem rw_look (w : World) (b j : Nat) (k : Int) (v : Value) (hb : RowMap w b) (h1 : Instr.findNow (.int .u8) (.int .u8 k) (rowEnts 13).toList 0 = some (some (j, v))) :
    (Instr.lookup 54 (.map (some b)) (.int .u8 k) true).run Try.prog w = .ok (.tuple #[v, .bool true]) w := by
  unfold RowMap at hb
  have hk : IsKey (.int .u8) (.int .u8 k) := rfl
  have hd : Try.prog.underlying 5 = some (.int .u8) := Try.underlying5
  simp [Instr.lookup, run_underlying Try.underlying54, MapKept.run_getObj_map hb, run_checkKey hd hk, run_findKey hd h1, Result.andThen]
def isNoneR (k : Int) : Bool := match Instr.findNow (.int .u8) (.int .u8 k) (rowEnts 13).toList 0 with | some none => true | _ => false
theorem isNoneR_eq {k : Int} (h : isNoneR k = true) : Instr.findNow (.int .u8) (.int .u8 k) (rowEnts 13).toList 0 = some none := by
  unfold isNoneR at h
  split at h
  · assumption
  · cases h
theorem rw_none_table : ∀ n : Fin 256, (isOp (n.val : Int) || isNoneR (n.val : Int)) = true := by decide +kernel
theorem rw_none {k : Int} (h0 : 0 ≤ k) (h1 : k ≤ 255) (h : isOp k = false) : Instr.findNow (.int .u8) (.int .u8 k) (rowEnts 13).toList 0 = some none := by
  obtain ⟨m, rfl⟩ := Int.eq_ofNat_of_zero_le h0
  have := rw_none_table ⟨m, by omega⟩
  rw [h, Bool.false_or] at this
  exact isNoneR_eq this
theorem rw_look0 (w : World) (b : Nat) (k : Int) (hb : RowMap w b) (h1 : Instr.findNow (.int .u8) (.int .u8 k) (rowEnts 13).toList 0 = some none) :
    (Instr.lookup 54 (.map (some b)) (.int .u8 k) true).run Try.prog w = .ok (.tuple #[.nilFunc, .bool false]) w := by
  unfold RowMap at hb
  have hk : IsKey (.int .u8) (.int .u8 k) := rfl
  have hd : Try.prog.underlying 5 = some (.int .u8) := Try.underlying5
  simp [Instr.lookup, run_underlying Try.underlying54, MapKept.run_getObj_map hb, run_checkKey hd hk, run_findKey hd h1, Result.andThen]
theorem rowOf_yes (op : Int) (j f : Nat) (wide : Bool) (w : World) (h1 : Instr.findNow (.int .u8) (.int .u8 op) (rowEnts 13).toList 0 = some (some (j, fnV f))) (h2 : op ≠ 192) : Calls Try.prog 14 #[.int .u8 op, .bool wide] w (Gives (.tuple #[fnV f, .bool true]) w) := by
  unfold Gives
  have hk := rw_look (w.alloc (.map (rowEnts 13) 13)) w.heap.size j op (fnV f) (by unfold RowMap; exact (MapKept.heap_alloc w _).1) h1
  have hbel : Below w.heap.size w (w.alloc (.map (rowEnts 13) 13)) := (Below.refl _ _).alloc (Nat.le_refl _) _
  have HB := Lib.hid hbel
  clear hbel
  generalize hW : w.alloc (.map (rowEnts 13) 13) = W at hk HB
  have HW := Lib.hid hW
  clear hW
  unfold fnV at hk ⊢
  have h3 : (op == 192) = false := by simpa using h2
  clear h1
  go_enter Try.func14, Try.ntmps14
  go_wp2_with (first
    | (go_at_call 27; refine (rows_map _).mono ?_; rintro e w' ⟨rfl, rfl⟩; rw [HW.out]))
  go_ret2
  exact ⟨rfl, HB.out⟩
theorem look_192 : Instr.findNow (.int .u8) (.int .u8 192) (rowEnts 13).toList 0 = some (some (12, fnV 62)) := rfl
theorem rowOf_arsh (w : World) : Calls Try.prog 14 #[.int .u8 192, .bool true] w (Gives (.tuple #[fnV 62, .bool true]) w) := by
  unfold Gives
  have hk := rw_look (w.alloc (.map (rowEnts 13) 13)) w.heap.size 12 192 (fnV 62) (by unfold RowMap; exact (MapKept.heap_alloc w _).1) look_192
  have hbel : Below w.heap.size w (w.alloc (.map (rowEnts 13) 13)) := (Below.refl _ _).alloc (Nat.le_refl _) _
  have HB := Lib.hid hbel
  clear hbel
  generalize hW : w.alloc (.map (rowEnts 13) 13) = W at hk HB
  have HW := Lib.hid hW
  clear hW
  unfold fnV at hk ⊢
  go_enter Try.func14, Try.ntmps14
  go_wp2_with (first
    | (go_at_call 27; refine (rows_map _).mono ?_; rintro e w' ⟨rfl, rfl⟩; rw [HW.out]))
  go_ret2
  exact ⟨rfl, HB.out⟩
theorem rowOf_arshLow (w : World) : Calls Try.prog 14 #[.int .u8 192, .bool false] w (Gives (.tuple #[fnV 28, .bool true]) w) := by
  unfold Gives
  have hk := rw_look (w.alloc (.map (rowEnts 13) 13)) w.heap.size 12 192 (fnV 62) (by unfold RowMap; exact (MapKept.heap_alloc w _).1) look_192
  have hbel : Below w.heap.size w (w.alloc (.map (rowEnts 13) 13)) := (Below.refl _ _).alloc (Nat.le_refl _) _
  have HB := Lib.hid hbel
  clear hbel
  generalize hW : w.alloc (.map (rowEnts 13) 13) = W at hk HB
  have HW := Lib.hid hW
  clear hW
  unfold fnV at hk ⊢
  go_enter Try.func14, Try.ntmps14
  go_wp2_with (first
    | (go_at_call 27; refine (rows_map _).mono ?_; rintro e w' ⟨rfl, rfl⟩; rw [HW.out]))
  go_ret2
  exact ⟨rfl, HB.out⟩
theorem rowOf_no (op : Int) (wide : Bool) (w : World) (h0 : 0 ≤ op) (h1 : op ≤ 255) (h : isOp op = false) : Calls Try.prog 14 #[.int .u8 op, .bool wide] w (Gives (.tuple #[.nilFunc, .bool false]) w) := by
  unfold Gives
  have hk := rw_look0 (w.alloc (.map (rowEnts 13) 13)) w.heap.size op (by unfold RowMap; exact (MapKept.heap_alloc w _).1) (rw_none h0 h1 h)
  have hbel : Below w.heap.size w (w.alloc (.map (rowEnts 13) 13)) := (Below.refl _ _).alloc (Nat.le_refl _) _
  have HB := Lib.hid hbel
  clear hbel
  generalize hW : w.alloc (.map (rowEnts 13) 13) = W at hk HB
  have HW := Lib.hid hW
  clear hW
  have h3 : (op == 192) = false := by
    have : op ≠ 192 := by rintro rfl; cases h
    simpa using this
  clear h h0 h1
  go_enter Try.func14, Try.ntmps14
  go_wp2_with (first
    | (go_at_call 27; refine (rows_map _).mono ?_; rintro e w' ⟨rfl, rfl⟩; rw [HW.out]))
  go_ret2
  exact ⟨rfl, HB.out⟩
end Go.Proofs.Ytogadmlnmcojpaa

/-
  Proved here: what pairOf, ofOnes, refined of package xfer, and its rows' Neg, return. Conditions: pairOf: the size isn't 0.
-/
namespace Go.Proofs.Ytogadmlnmcojpaa
open Go.RowKit

/-- The only number, or 0. -/
def cB (b : K) : B64 := if b.m = 0#64 then b.v else 0#64
theorem m_zero (b : K) : u b.m = 0 ↔ b.m = 0#64 := by rw [← u_0]; exact u_iff _ _
theorem isConst_x (b : K) (w : World) : Calls Try.prog 31 #[numV b] w (Gives (.tuple #[.int .u64 (u (cB b)), .bool (oneB b)]) w) := by
  unfold cB oneB
  by_cases h : b.m = 0#64
  · rw [if_pos h, decide_eq_true h]
    exact isConst_yes b w ((m_zero b).2 h)
  · rw [if_neg h, decide_eq_false h, u_0]
    exact isConst_no b w (fun g => h ((m_zero b).1 g))
/-- Both that are known, and the result's box. -/
def BoxP (w0 : World) (a b : K) (W : World) : Prop := NumAt w0.heap.size a W ∧ NumAt (w0.heap.size + 1) b W ∧ PairAt (w0.heap.size + 1 + 1) zeroK zeroK false 0#64 0#64 W ∧ Below w0.heap.size w0 W
theorem boxP_new (a b : K) (w : World) : BoxP w a b (((w.alloc (.cells #[.int .u64 (u a.v), .int .u64 (u a.m), .int .u64 (u a.a), .int .u64 (u a.b), .int .i64 (s a.c), .int .i64 (s a.d)] 26)).alloc (.cells #[.int .u64 (u b.v), .int .u64 (u b.m), .int .u64 (u b.a), .int .u64 (u b.b), .int .i64 (s b.c), .int .i64 (s b.d)] 26)).alloc (.cells #[.int .u64 0, .int .u64 0, .int .u64 0, .int .u64 0, .int .i64 0, .int .i64 0, .int .u64 0, .int .u64 0, .int .u64 0, .int .u64 0, .int .i64 0, .int .i64 0, .bool false, .int .u64 0, .int .u64 0] 47)) := by
  have h1 := num_new a w
  obtain ⟨W1, hW1⟩ : ∃ W, w.alloc (.cells #[.int .u64 (u a.v), .int .u64 (u a.m), .int .u64 (u a.a), .int .u64 (u a.b), .int .i64 (s a.c), .int .i64 (s a.d)] 26) = W := ⟨_, rfl⟩
  have b1 : Below w.heap.size w W1 := by rw [← hW1]; exact below_box _ _
  have e1 : W1.heap.size = w.heap.size + 1 := by rw [← hW1]; simp
  rw [hW1] at h1 ⊢
  have h2 := num_new b W1
  have b2 := below_box W1 (.cells #[.int .u64 (u b.v), .int .u64 (u b.m), .int .u64 (u b.a), .int .u64 (u b.b), .int .i64 (s b.c), .int .i64 (s b.d)] 26)
  have e2 : (W1.alloc (.cells #[.int .u64 (u b.v), .int .u64 (u b.m), .int .u64 (u b.a), .int .u64 (u b.b), .int .i64 (s b.c), .int .i64 (s b.d)] 26)).heap.size = w.heap.size + 1 + 1 := by simp [e1]
  obtain ⟨W2, hW2⟩ : ∃ W, W1.alloc (.cells #[.int .u64 (u b.v), .int .u64 (u b.m), .int .u64 (u b.a), .int .u64 (u b.b), .int .i64 (s b.c), .int .i64 (s b.d)] 26) = W := ⟨_, rfl⟩
  rw [hW2] at h2 b2 e2 ⊢
  have h3 : PairAt W2.heap.size zeroK zeroK false 0#64 0#64 (W2.alloc (.cells #[.int .u64 0, .int .u64 0, .int .u64 0, .int .u64 0, .int .i64 0, .int .i64 0, .int .u64 0, .int .u64 0, .int .u64 0, .int .u64 0, .int .i64 0, .int .i64 0, .bool false, .int .u64 0, .int .u64 0] 47)) := (MapKept.heap_alloc W2 _).1
  have b3 := below_box W2 (.cells #[.int .u64 0, .int .u64 0, .int .u64 0, .int .u64 0, .int .i64 0, .int .i64 0, .int .u64 0, .int .u64 0, .int .u64 0, .int .u64 0, .int .i64 0, .int .i64 0, .bool false, .int .u64 0, .int .u64 0] 47)
  rw [e2] at h3
  rw [e1] at h2
  exact ⟨num_keep (num_keep h1 b2) b3, num_keep h2 b3, h3, b1.trans ((b2.mono (by omega)).trans (b3.mono (by omega)))⟩
theorem boxP_keep {w0 W W' : World} {a b : K} (h : BoxP w0 a b W) (hb : Below W.heap.size W W') : BoxP w0 a b W' :=
  ⟨num_keep h.1 hb, num_keep h.2.1 hb, pair_keep h.2.2.1 hb, h.2.2.2.trans (hb.mono h.2.2.2.size)⟩
theorem pair_free {g : Nat} {a b : K} {one : Bool} {c k : B64} {W : World} (h : PairAt g a b one c k W) :
    (W.frozen? ⟨g, 0, none⟩ = false ∧ W.frozen? ⟨g, 1, none⟩ = false ∧ W.frozen? ⟨g, 2, none⟩ = false ∧ W.frozen? ⟨g, 3, none⟩ = false ∧ W.frozen? ⟨g, 4, none⟩ = false ∧ W.frozen? ⟨g, 5, none⟩ = false) ∧
    (W.frozen? ⟨g, 6, none⟩ = false ∧ W.frozen? ⟨g, 7, none⟩ = false ∧ W.frozen? ⟨g, 8, none⟩ = false ∧ W.frozen? ⟨g, 9, none⟩ = false ∧ W.frozen? ⟨g, 10, none⟩ = false ∧ W.frozen? ⟨g, 11, none⟩ = false) ∧
    W.frozen? ⟨g, 12, none⟩ = false ∧ W.frozen? ⟨g, 13, none⟩ = false ∧ W.frozen? ⟨g, 14, none⟩ = false := by
  unfold PairAt pairC at h
  refine ⟨⟨?_, ?_, ?_, ?_, ?_, ?_⟩, ⟨?_, ?_, ?_, ?_, ?_, ?_⟩, ?_, ?_, ?_⟩ <;> simp [World.frozen?, h]
theorem cells_all {g T : Nat} {W : World} (y0 y1 y2 y3 y4 y5 y6 y7 y8 y9 y10 y11 y12 y13 y14 x0 x1 x2 x3 x4 x5 x6 x7 x8 x9 x10 x11 x12 x13 x14 : Value) (h : W.heap[g]? = some (.cells #[y0, y1, y2, y3, y4, y5, y6, y7, y8, y9, y10, y11, y12, y13, y14] T)) : (((((((((((((((W.setCell ⟨g, 0, none⟩ x0).setCell ⟨g, 1, none⟩ x1).setCell ⟨g, 2, none⟩ x2).setCell ⟨g, 3, none⟩ x3).setCell ⟨g, 4, none⟩ x4).setCell ⟨g, 5, none⟩ x5).setCell ⟨g, 6, none⟩ x6).setCell ⟨g, 7, none⟩ x7).setCell ⟨g, 8, none⟩ x8).setCell ⟨g, 9, none⟩ x9).setCell ⟨g, 10, none⟩ x10).setCell ⟨g, 11, none⟩ x11).setCell ⟨g, 12, none⟩ x12).setCell ⟨g, 13, none⟩ x13).setCell ⟨g, 14, none⟩ x14).heap[g]? = some (.cells #[x0, x1, x2, x3, x4, x5, x6, x7, x8, x9, x10, x11, x12, x13, x14] T) := by
  simp [World.setCell, Array.getElem?_modify, h]
theorem pair_all {g : Nat} {z z' a b : K} {o' one : Bool} {c' k' c k : B64} {W : World} (h : PairAt g z z' o' c' k' W) : PairAt g a b one c k (((((((((((((((W.setCell ⟨g, 0, none⟩ (.int .u64 (u a.v))).setCell ⟨g, 1, none⟩ (.int .u64 (u a.m))).setCell ⟨g, 2, none⟩ (.int .u64 (u a.a))).setCell ⟨g, 3, none⟩ (.int .u64 (u a.b))).setCell ⟨g, 4, none⟩ (.int .i64 (s a.c))).setCell ⟨g, 5, none⟩ (.int .i64 (s a.d))).setCell ⟨g, 6, none⟩ (.int .u64 (u b.v))).setCell ⟨g, 7, none⟩ (.int .u64 (u b.m))).setCell ⟨g, 8, none⟩ (.int .u64 (u b.a))).setCell ⟨g, 9, none⟩ (.int .u64 (u b.b))).setCell ⟨g, 10, none⟩ (.int .i64 (s b.c))).setCell ⟨g, 11, none⟩ (.int .i64 (s b.d))).setCell ⟨g, 12, none⟩ (.bool one)).setCell ⟨g, 13, none⟩ (.int .u64 (u c))).setCell ⟨g, 14, none⟩ (.int .u64 (u k))) :=
  cells_all _ _ _ _ _ _ _ _ _ _ _ _ _ _ _ _ _ _ _ _ _ _ _ _ _ _ _ _ _ _ h
theorem below_all {g : Nat} {w0 W : World} (hb : Below w0.heap.size w0 W) (hg : w0.heap.size ≤ g) (x0 : Value) (x1 : Value) (x2 : Value) (x3 : Value) (x4 : Value) (x5 : Value) (x6 : Value) (x7 : Value) (x8 : Value) (x9 : Value) (x10 : Value) (x11 : Value) (x12 : Value) (x13 : Value) (x14 : Value) : Below w0.heap.size w0 (((((((((((((((W.setCell ⟨g, 0, none⟩ x0).setCell ⟨g, 1, none⟩ x1).setCell ⟨g, 2, none⟩ x2).setCell ⟨g, 3, none⟩ x3).setCell ⟨g, 4, none⟩ x4).setCell ⟨g, 5, none⟩ x5).setCell ⟨g, 6, none⟩ x6).setCell ⟨g, 7, none⟩ x7).setCell ⟨g, 8, none⟩ x8).setCell ⟨g, 9, none⟩ x9).setCell ⟨g, 10, none⟩ x10).setCell ⟨g, 11, none⟩ x11).setCell ⟨g, 12, none⟩ x12).setCell ⟨g, 13, none⟩ x13).setCell ⟨g, 14, none⟩ x14) := by
  exact ((((((((((((((hb.setCell hg _).setCell hg _).setCell hg _).setCell hg _).setCell hg _).setCell hg _).setCell hg _).setCell hg _).setCell hg _).setCell hg _).setCell hg _).setCell hg _).setCell hg _).setCell hg _).setCell hg _
theorem tmod_u (x y : B64) : (u x).tmod (u y) = u (x % y) := by
  rw [Int.tmod_eq_emod_of_nonneg (u_bd x).1, ← u_modv]
set_option maxHeartbeats 4000000 in
theorem pairOf_x (a b : K) (t : B64) (w : World) (ht : ¬ u t = 0) : Calls Try.prog 18 #[numV a, numV b, .int .u64 (u t)] w (Gives (pairV a b (oneB b) (cB b) (cB b % t)) w) := by
  have hc := fun W => isConst_x b W
  have e1 := tmod_u (cB b) t
  obtain ⟨o, ho⟩ : ∃ o, oneB b = o := ⟨_, rfl⟩
  obtain ⟨c, hc'⟩ : ∃ c, cB b = c := ⟨_, rfl⟩
  obtain ⟨k, hk⟩ : ∃ k, cB b % t = k := ⟨_, rfl⟩
  rw [hk] at e1 ⊢
  rw [hc'] at hc e1 ⊢
  rw [ho] at hc ⊢
  clear ho hc' hk
  unfold numV at hc
  unfold Gives pairV pairC numV
  have HP := Lib.hid (boxP_new a b w)
  go_enter Try.func18, Try.ntmps18
  go_upto_region 2 with (go_at_call 31; refine (hc _).mono ?_; rintro e w1 ⟨rfl, hb⟩; have HB := Lib.hid (boxP_keep HP.out hb); clear hb)
  obtain ⟨n0, n1, n2, n3, n4, n5⟩ := num_cells HB.out.1
  obtain ⟨q0, q1, q2, q3, q4, q5⟩ := num_cells HB.out.2.1
  obtain ⟨⟨z0, z1, z2, z3, z4, z5⟩, ⟨y0, y1, y2, y3, y4, y5⟩, zo, zc, zk⟩ := pair_cells HB.out.2.2.1
  obtain ⟨⟨f0, f1, f2, f3, f4, f5⟩, ⟨g0, g1, g2, g3, g4, g5⟩, fo, fc, fk⟩ := pair_free HB.out.2.2.1
  clear HP hc
  go_region
  all_goals
    have HD := Lib.hid (pair_all (a := a) (b := b) (one := o) (c := c) (k := k) HB.out.2.2.1)
    have HL := Lib.hid (below_all (w0 := w) (g := w.heap.size + 1 + 1) HB.out.2.2.2 (by omega) (.int .u64 (u a.v)) (.int .u64 (u a.m)) (.int .u64 (u a.a)) (.int .u64 (u a.b)) (.int .i64 (s a.c)) (.int .i64 (s a.d)) (.int .u64 (u b.v)) (.int .u64 (u b.m)) (.int .u64 (u b.a)) (.int .u64 (u b.b)) (.int .i64 (s b.c)) (.int .i64 (s b.d)) (.bool o) (.int .u64 (u c)) (.int .u64 (u k)))
    generalize World.setCell _ _ _ = W3 at HD HL ⊢
    have HE := Lib.hid (show PairAt (w.heap.size + 1 + 1) a b o c k W3.drew from HD.out)
    have HM := Lib.hid HL.out.drew
    generalize W3.drew = W4 at HE HM ⊢
    clear n0 n1 n2 n3 n4 n5 q0 q1 q2 q3 q4 q5 z0 z1 z2 z3 z4 z5 y0 y1 y2 y3 y4 y5 zo zc zk f0 f1 f2 f3 f4 f5 g0 g1 g2 g3 g4 g5 fo fc fk HD HL HB
    obtain ⟨⟨z0, z1, z2, z3, z4, z5⟩, ⟨y0, y1, y2, y3, y4, y5⟩, zo, zc, zk⟩ := pair_cells HE.out
    go_wp2
    refine bodyPost_ret (v := .agg (pairC a b o c k)) (by unfold pairC; simp [results, Try.results18, go_sem, z0, z1, z2, z3, z4, z5, y0, y1, y2, y3, y4, y5, zo, zc, zk]) rfl ⟨rfl, HM.out⟩
end Go.Proofs.Ytogadmlnmcojpaa

/-
  Proved here: what ofOnes and refined of package xfer, and its rows' Neg, return. Conditions: none.
-/
namespace Go.Proofs.Ytogadmlnmcojpaa
open Go.RowKit

/-- Both that are known. -/
def BoxQ (w0 : World) (a b : K) (W : World) : Prop := NumAt w0.heap.size a W ∧ NumAt (w0.heap.size + 1) b W ∧ Below w0.heap.size w0 W
theorem boxQ_keep {w0 W W' : World} {a b : K} (h : BoxQ w0 a b W) (hb : Below W.heap.size W W') : BoxQ w0 a b W' :=
  ⟨num_keep h.1 hb, num_keep h.2.1 hb, h.2.2.trans (hb.mono h.2.2.size)⟩
theorem boxQ_new (a b : K) (w : World) : BoxQ w a b ((w.alloc (.cells #[.int .u64 (u a.v), .int .u64 (u a.m), .int .u64 (u a.a), .int .u64 (u a.b), .int .i64 (s a.c), .int .i64 (s a.d)] 26)).alloc
    (.cells #[.int .u64 (u b.v), .int .u64 (u b.m), .int .u64 (u b.a), .int .u64 (u b.b), .int .i64 (s b.c), .int .i64 (s b.d)] 26)) := by
  have h1 := num_new a w
  obtain ⟨W1, hW1⟩ : ∃ W, w.alloc (.cells #[.int .u64 (u a.v), .int .u64 (u a.m), .int .u64 (u a.a), .int .u64 (u a.b), .int .i64 (s a.c), .int .i64 (s a.d)] 26) = W := ⟨_, rfl⟩
  have b1 : Below w.heap.size w W1 := by rw [← hW1]; exact below_box _ _
  have e1 : W1.heap.size = w.heap.size + 1 := by rw [← hW1]; simp
  rw [hW1] at h1 ⊢
  have h2 := num_new b W1
  have b2 := below_box W1 (.cells #[.int .u64 (u b.v), .int .u64 (u b.m), .int .u64 (u b.a), .int .u64 (u b.b), .int .i64 (s b.c), .int .i64 (s b.d)] 26)
  rw [e1] at h2
  exact ⟨num_keep h1 b2, h2, b1.trans (b2.mono (by omega))⟩
theorem ofOnes_no (op : Int) (wide : Bool) (a b : K) (w : World) (h : (oneB a && oneB b) = false) : Calls Try.prog 16 #[.int .u8 op, .bool wide, numV a, numV b] w (Gives (.tuple #[.int .u64 0, .bool false]) w) := by
  have ha := fun W => isConst_x a W
  have hb := fun W => isConst_x b W
  obtain ⟨x, hx⟩ : ∃ x, cB a = x := ⟨_, rfl⟩
  obtain ⟨y, hy⟩ : ∃ y, cB b = y := ⟨_, rfl⟩
  rw [hx] at ha
  rw [hy] at hb
  clear hx hy
  have HP := Lib.hid (boxQ_new a b w)
  unfold numV at ha hb
  unfold Gives numV
  cases h1 : oneB a
  · rw [h1] at ha h
    clear h h1
    go_enter Try.func16, Try.ntmps16
    go_upto_region 2 with (go_at_call 31; refine (ha _).mono ?_; rintro e w1 ⟨rfl, hq⟩; have HB := Lib.hid (boxQ_keep HP.out hq); obtain ⟨n0, n1, n2, n3, n4, n5⟩ := num_cells HB.out.2.1; clear hq)
    clear ha
    go_wp2_with (go_at_call 31; refine (hb _).mono ?_; rintro e w2 ⟨rfl, hq⟩; have HC := Lib.hid (boxQ_keep HB.out hq); clear hq)
    go_ret2
    exact ⟨rfl, HC.out.2.2⟩
  · rw [h1, Bool.true_and] at h
    rw [h1] at ha
    rw [h] at hb
    clear h h1
    go_enter Try.func16, Try.ntmps16
    go_upto_region 2 with (go_at_call 31; refine (ha _).mono ?_; rintro e w1 ⟨rfl, hq⟩; have HB := Lib.hid (boxQ_keep HP.out hq); obtain ⟨n0, n1, n2, n3, n4, n5⟩ := num_cells HB.out.2.1; clear hq)
    clear ha
    go_wp2_with (go_at_call 31; refine (hb _).mono ?_; rintro e w2 ⟨rfl, hq⟩; have HC := Lib.hid (boxQ_keep HB.out hq); clear hq)
    go_ret2
    exact ⟨rfl, HC.out.2.2⟩
theorem ofOnes_yes (op : Int) (wide : Bool) (a b : K) (w : World) (h0 : 0 ≤ op) (h1 : op ≤ 255) (ho : isOp op = true) (ha1 : oneB a = true) (hb1 : oneB b = true) : Calls Try.prog 16 #[.int .u8 op, .bool wide, numV a, numV b] w (Gives (.tuple #[.int .u64 (u (doB op wide (cB a) (cB b))), .bool true]) w) := by
  have ha := fun W => isConst_x a W
  have hb := fun W => isConst_x b W
  have hd := fun W => do_alu op wide (u (cB a)) (u (cB b)) W h0 h1 (u_bd _).1 (u_bd _).2 (u_bd _).1 (u_bd _).2
  have hj : doI op wide (u (cB a)) (u (cB b)) = u (doB op wide (cB a) (cB b)) := doJ_doB op wide (cB a) (cB b)
  rw [hj, ho] at hd
  rw [ha1] at ha
  rw [hb1] at hb
  unfold DoPost at hd
  obtain ⟨x, hx⟩ : ∃ x, cB a = x := ⟨_, rfl⟩
  obtain ⟨y, hy⟩ : ∃ y, cB b = y := ⟨_, rfl⟩
  obtain ⟨z, hz⟩ : ∃ z, doB op wide (cB a) (cB b) = z := ⟨_, rfl⟩
  rw [hz] at hd ⊢
  rw [hx] at ha hd
  rw [hy] at hb hd
  clear hx hy hz hj ho ha1 hb1
  have HP := Lib.hid (boxQ_new a b w)
  unfold numV at ha hb
  unfold Gives numV
  go_enter Try.func16, Try.ntmps16
  go_upto_region 2 with (go_at_call 31; refine (ha _).mono ?_; rintro e w1 ⟨rfl, hq⟩; have HB := Lib.hid (boxQ_keep HP.out hq); obtain ⟨n0, n1, n2, n3, n4, n5⟩ := num_cells HB.out.2.1; clear hq)
  clear ha
  go_wp2_with (first
    | (go_at_call 31; refine (hb _).mono ?_; rintro e w2 ⟨rfl, hq⟩; have HC := Lib.hid (boxQ_keep HB.out hq); clear hq)
    | (go_at_call 32; refine (hd _).mono ?_; rintro e w3 ⟨rfl, hq⟩; have HD := Lib.hid (boxQ_keep HC.out hq); clear hq))
  go_ret2
  exact ⟨rfl, HD.out.2.2⟩
theorem refined_x (k : K) (w : World) : Calls Try.prog 19 #[numV k] w (Gives (numV k.fine) w) := by
  have hr := fun W => refine_num k W
  unfold numV at hr
  obtain ⟨q, hq⟩ : ∃ q, k.fine = q := ⟨_, rfl⟩
  obtain ⟨o, ho⟩ : ∃ o, k.okF = o := ⟨_, rfl⟩
  rw [hq, ho] at hr
  rw [hq]
  clear hq ho
  have hz1 := zero_new (w.alloc (.cells #[.int .u64 (u k.v), .int .u64 (u k.m), .int .u64 (u k.a), .int .u64 (u k.b), .int .i64 (s k.c), .int .i64 (s k.d)] 45))
  have e1 : (w.alloc (.cells #[.int .u64 (u k.v), .int .u64 (u k.m), .int .u64 (u k.a), .int .u64 (u k.b), .int .i64 (s k.c), .int .i64 (s k.d)] 45)).heap.size = w.heap.size + 1 := by simp
  rw [e1] at hz1
  have HZ := Lib.hid hz1
  have hbl : Below w.heap.size w ((w.alloc (.cells #[.int .u64 (u k.v), .int .u64 (u k.m), .int .u64 (u k.a), .int .u64 (u k.b), .int .i64 (s k.c), .int .i64 (s k.d)] 45)).alloc (.cells #[.int .u64 0, .int .u64 0, .int .u64 0, .int .u64 0, .int .i64 0, .int .i64 0] 26)) := (below_box _ _).alloc (by simp) _
  have HL := Lib.hid hbl
  clear hz1 e1 hbl
  unfold Gives numV
  go_enter Try.func19, Try.ntmps19
  go_upto_region 2 with (go_at_call 34; refine (hr _).mono ?_; rintro e w1 ⟨rfl, hb⟩; have HN := Lib.hid (num_keep HZ.out hb); have HB := Lib.hid (HL.out.trans (hb.mono HL.out.size)); clear hb)
  have HN2 := Lib.hid (num_keep HN.out (below_box w1 (.cells #[.int .u64 (u q.v), .int .u64 (u q.m), .int .u64 (u q.a), .int .u64 (u q.b), .int .i64 (s q.c), .int .i64 (s q.d)] 26)))
  have HB2 := Lib.hid (HB.out.alloc HB.out.size (.cells #[.int .u64 (u q.v), .int .u64 (u q.m), .int .u64 (u q.a), .int .u64 (u q.b), .int .i64 (s q.c), .int .i64 (s q.d)] 26))
  obtain ⟨f0, f1, f2, f3, f4, f5⟩ := num_free HN2.out
  obtain ⟨z0, z1, z2, z3, z4, z5⟩ := num_cells HN2.out
  go_wp2
  exact bodyPost_ret (v := numV q) (by unfold numV; simp [results, Try.results19, go_sem, z0, z1, z2, z3, z4, z5]) rfl ⟨rfl, below_out HB2.out _ _ _ _ _ _⟩
end Go.Proofs.Ytogadmlnmcojpaa
