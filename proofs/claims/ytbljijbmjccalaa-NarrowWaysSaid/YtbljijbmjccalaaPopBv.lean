/-
  Proved here: the sum of a number's bits, as math/bits counts them: pairs, fours, eights, then all. No Go text is spoken of. Conditions: none.
-/
import Derived.Test.YtbljijbmjccalaaBv
namespace Go.Proofs.Ytbljijbmjccalaa
open Go.RowKit

/-- The sum of k digits in base B. -/
def dsum (B : Nat) : Nat → Nat → Nat
  | 0, _ => 0
  | k + 1, n => n % B + dsum B k (n / B)
/-- Digits added two by two. -/
def fold2 (B : Nat) : Nat → Nat → Nat
  | 0, _ => 0
  | k + 1, n => (n % B + n / B % B) + B * B * fold2 B k (n / (B * B))
/-- Each second digit is the greatest. -/
def mk (B : Nat) : Nat → Nat
  | 0 => 0
  | k + 1 => (B - 1) + B * B * mk B k
/-- All digits are at most c; there are at most k. -/
def small (B c : Nat) : Nat → Nat → Prop
  | 0, n => n = 0
  | k + 1, n => n % B ≤ c ∧ small B c k (n / B)

theorem and_split (w : Nat) {a b : Nat} (x y : Nat) (ha : a < 2 ^ w) (hb : b < 2 ^ w) : (a + 2 ^ w * x) &&& (b + 2 ^ w * y) = (a &&& b) + 2 ^ w * (x &&& y) := by
  apply Nat.eq_of_testBit_eq
  intro i
  rw [Nat.testBit_and, Nat.add_comm a, Nat.add_comm b, Nat.add_comm (a &&& b), Nat.testBit_two_pow_mul_add _ ha, Nat.testBit_two_pow_mul_add _ hb,
    Nat.testBit_two_pow_mul_add _ (Nat.and_lt_two_pow a hb)]
  split
  · rw [Nat.testBit_and]
  · rw [Nat.testBit_and]
theorem parts (B n : Nat) : n = (n % B + B * (n / B % B)) + B * B * (n / (B * B)) := by
  have h1 := Nat.mod_add_div n B
  have h2 := Nat.mod_add_div (n / B) B
  rw [Nat.div_div_eq_div_mul] at h2
  have h3 : B * (n / B) = B * (n / B % B) + B * B * (n / (B * B)) := by
    rw [Nat.mul_assoc, ← Nat.mul_add, h2]
  omega
theorem low_lt {B a b : Nat} (ha : a < B) (hb : b < B) : a + B * b < B * B := by
  have : B * b + B ≤ B * B := by
    have : B * (b + 1) ≤ B * B := Nat.mul_le_mul_left B hb
    rw [Nat.mul_add] at this
    omega
  omega
theorem pred_lt {B : Nat} (h : 0 < B) : B - 1 < B * B := by
  have : B * 1 ≤ B * B := Nat.mul_le_mul_left B h
  omega
theorem and_one (w : Nat) (r x y : Nat) (hr : r < 2 ^ w * 2 ^ w) : (r + 2 ^ w * 2 ^ w * x) &&& ((2 ^ w - 1) + 2 ^ w * 2 ^ w * y) = r % 2 ^ w + 2 ^ w * 2 ^ w * (x &&& y) := by
  have hp : (2 : Nat) ^ w * 2 ^ w = 2 ^ (w + w) := (Nat.pow_add 2 w w).symm
  have hl := pred_lt (Nat.two_pow_pos w)
  rw [hp] at hr hl ⊢
  rw [and_split (w + w) x y hr hl, Nat.and_two_pow_sub_one_eq_mod]
theorem fold_and (w : Nat) : ∀ k n, (n &&& mk (2 ^ w) k) + (n / 2 ^ w &&& mk (2 ^ w) k) = fold2 (2 ^ w) k n
  | 0, n => by simp [mk, fold2]
  | k + 1, n => by
    have hB := Nat.two_pow_pos w
    obtain ⟨B, hBe⟩ : ∃ B, (2 : Nat) ^ w = B := ⟨_, rfl⟩
    have ih := fold_and w k (n / (B * B))
    have ha1 := fun r x y hr => and_one w r x y hr
    rw [hBe] at ih ha1 hB ⊢
    unfold mk fold2
    have hn := parts B n
    obtain ⟨q, hq⟩ : ∃ q, n / (B * B) = q := ⟨_, rfl⟩
    have hn2 : n / B = (n / B % B + B * (q % B)) + B * B * (q / B) := by
      have h2 := parts B (n / B)
      rw [Nat.div_div_eq_div_mul, hq] at h2
      have e : n / B / (B * B) = q / B := by
        rw [← hq, Nat.div_div_eq_div_mul, Nat.div_div_eq_div_mul, Nat.mul_comm B (B * B)]
      rw [e] at h2
      exact h2
    rw [hq] at ih hn ⊢
    have l0 := Nat.mod_lt n hB
    have l1 := Nat.mod_lt (n / B) hB
    have l2 := Nat.mod_lt q hB
    have e1 : n &&& (B - 1 + B * B * mk B k) = n % B + B * B * (q &&& mk B k) := by
      conv => lhs; lhs; rw [hn]
      rw [ha1 _ _ _ (low_lt l0 l1), Nat.add_mul_mod_self_left, Nat.mod_mod]
    have e2 : n / B &&& (B - 1 + B * B * mk B k) = n / B % B + B * B * (q / B &&& mk B k) := by
      conv => lhs; lhs; rw [hn2]
      rw [ha1 _ _ _ (low_lt l1 l2), Nat.add_mul_mod_self_left, Nat.mod_mod]
    rw [e1, e2, ← ih, Nat.mul_add]
    omega
theorem fold_sum (w c : Nat) (hc : c + c < 2 ^ w) : ∀ k n, small (2 ^ w) c (2 * k) n → (n / 2 ^ w + n) &&& mk (2 ^ w) k = fold2 (2 ^ w) k n
  | 0, n, _ => by simp [mk, fold2]
  | k + 1, n, hs => by
    have hB := Nat.two_pow_pos w
    have ih0 := fold_sum w c hc k
    obtain ⟨B, hBe⟩ : ∃ B, (2 : Nat) ^ w = B := ⟨_, rfl⟩
    have ha1 := fun r x y hr => and_one w r x y hr
    rw [hBe] at ih0 ha1 hB hc hs ⊢
    have hs' : small B c (2 * k + 1 + 1) n := hs
    unfold small at hs'
    obtain ⟨s0, hs'⟩ := hs'
    unfold small at hs'
    obtain ⟨s1, s2⟩ := hs'
    rw [Nat.div_div_eq_div_mul] at s2
    have ih := ih0 _ s2
    have s3 : n / (B * B) % B ≤ c := by
      cases k with
      | zero => have : n / (B * B) = 0 := s2; rw [this]; simp
      | succ j => have : small B c (2 * j + 1 + 1) (n / (B * B)) := s2; unfold small at this; exact this.1
    unfold mk fold2
    have hn := parts B n
    obtain ⟨q, hq⟩ : ∃ q, n / (B * B) = q := ⟨_, rfl⟩
    have hn2 : n / B = (n / B % B + B * (q % B)) + B * B * (q / B) := by
      have h2 := parts B (n / B)
      rw [Nat.div_div_eq_div_mul, hq] at h2
      have e : n / B / (B * B) = q / B := by
        rw [← hq, Nat.div_div_eq_div_mul, Nat.div_div_eq_div_mul, Nat.mul_comm B (B * B)]
      rw [e] at h2
      exact h2
    rw [hq] at ih hn s3 ⊢
    have hsum : n / B + n = ((n % B + n / B % B) + B * (q % B + n / B % B)) + B * B * (q / B + q) := by
      rw [Nat.mul_add, Nat.mul_add]
      omega
    rw [hsum, ha1 _ _ _ (low_lt (by omega) (by omega)), Nat.add_mul_mod_self_left, Nat.mod_eq_of_lt (show n % B + n / B % B < B by omega), ih]
theorem dsum_fold (B : Nat) (hB : 2 ≤ B) : ∀ k n, dsum (B * B) k (fold2 B k n) = dsum B (2 * k) n
  | 0, n => rfl
  | k + 1, n => by
    have l0 := Nat.mod_lt n (show B > 0 by omega)
    have l1 := Nat.mod_lt (n / B) (show B > 0 by omega)
    have hbb : 2 * B ≤ B * B := Nat.mul_le_mul_right B hB
    have hl : n % B + n / B % B < B * B := by omega
    show (fold2 B (k + 1) n) % (B * B) + dsum (B * B) k (fold2 B (k + 1) n / (B * B)) = n % B + (n / B % B + dsum B (2 * k) (n / B / B))
    unfold fold2
    rw [Nat.add_mul_mod_self_left, Nat.mod_eq_of_lt hl, Nat.add_mul_div_left _ _ (by omega), Nat.div_eq_of_lt hl, Nat.zero_add, dsum_fold B hB k, Nat.div_div_eq_div_mul]
    omega
theorem small_fold (B c : Nat) (hB : 0 < B) (hc : c + c < B * B) : ∀ k n, small B c (2 * k) n → small (B * B) (c + c) k (fold2 B k n)
  | 0, n, _ => rfl
  | k + 1, n, hs => by
    have hs' : small B c (2 * k + 1 + 1) n := hs
    unfold small at hs'
    obtain ⟨s0, hs'⟩ := hs'
    unfold small at hs'
    obtain ⟨s1, s2⟩ := hs'
    rw [Nat.div_div_eq_div_mul] at s2
    have ih := small_fold B c hB hc k _ s2
    have hbb := Nat.mul_pos hB hB
    unfold small fold2
    rw [Nat.add_mul_mod_self_left, Nat.mod_eq_of_lt (show n % B + n / B % B < B * B by omega), Nat.add_mul_div_left _ _ hbb, Nat.div_eq_of_lt (show n % B + n / B % B < B * B by omega), Nat.zero_add]
    exact ⟨by omega, ih⟩
theorem small_of (B : Nat) (hB : 0 < B) : ∀ k n, n < B ^ k → small B (B - 1) k n
  | 0, n, h => by unfold small; simpa using h
  | k + 1, n, h => by
    unfold small
    refine ⟨by have := Nat.mod_lt n hB; omega, small_of B hB k _ ?_⟩
    rw [Nat.pow_succ] at h
    exact Nat.div_lt_of_lt_mul (by rw [Nat.mul_comm]; exact h)
theorem small_lt {B c : Nat} (hc : c < B) : ∀ k n, small B c k n → n < B ^ k
  | 0, n, h => by have : n = 0 := h; subst this; simp
  | k + 1, n, h => by
    have h' : n % B ≤ c ∧ small B c k (n / B) := h
    have ih := small_lt hc k _ h'.2
    rw [Nat.pow_succ]
    have h1 := Nat.mod_add_div n B
    have h2 : B * (n / B) + B ≤ B * B ^ k := by
      have : B * (n / B + 1) ≤ B * B ^ k := Nat.mul_le_mul_left B ih
      rw [Nat.mul_add] at this
      omega
    rw [Nat.mul_comm (B ^ k) B]
    omega
theorem small_le {B c : Nat} (hB : 1 ≤ B) : ∀ k n, small B c k n → n * (B - 1) ≤ c * (B ^ k - 1)
  | 0, n, h => by have : n = 0 := h; subst this; simp
  | k + 1, n, h => by
    have h' : n % B ≤ c ∧ small B c k (n / B) := h
    have ih := small_le hB k _ h'.2
    have h1 := Nat.mod_add_div n B
    obtain ⟨A, rfl⟩ : ∃ A, B = A + 1 := ⟨B - 1, by omega⟩
    rw [Nat.add_sub_cancel] at ih ⊢
    have hp : 1 ≤ (A + 1) ^ k := Nat.pow_pos (by omega)
    obtain ⟨P, hP⟩ : ∃ P, (A + 1) ^ k = P + 1 := ⟨(A + 1) ^ k - 1, by omega⟩
    rw [Nat.pow_succ, hP]
    rw [hP, Nat.add_sub_cancel] at ih
    have e : (P + 1) * (A + 1) - 1 = A + (A + 1) * P := by
      rw [Nat.add_mul, Nat.mul_comm P]; omega
    rw [e, ← h1, Nat.add_mul, Nat.mul_add]
    have h2 : n % (A + 1) * A ≤ c * A := Nat.mul_le_mul_right A h'.1
    have h3 : (A + 1) * (n / (A + 1)) * A ≤ c * ((A + 1) * P) := by
      have : (A + 1) * (n / (A + 1) * A) ≤ (A + 1) * (c * P) := Nat.mul_le_mul_left _ ih
      rw [Nat.mul_assoc, Nat.mul_left_comm c]
      exact this
    omega
theorem small_digit {k n : Nat} (h : small 256 8 (k + 1) n) : ∃ p m, p ≤ 8 ∧ n = p + 256 * m ∧ small 256 8 k m ∧ dsum 256 (k + 1) n = p + dsum 256 k m :=
  ⟨n % 256, n / 256, h.1, by omega, h.2, rfl⟩

/-- How many bits are 1. -/
def ones (n : Nat) : Nat := dsum 2 64 n
def pop1 (n : Nat) : Nat := (n / 2 &&& 6148914691236517205) + (n &&& 6148914691236517205)
def pop2 (n : Nat) : Nat := (n / 4 &&& 3689348814741910323) + (n &&& 3689348814741910323)
def pop3 (n : Nat) : Nat := (n / 16 + n) &&& 1085102592571150095
theorem pop1_eq (n : Nat) : pop1 n = fold2 2 32 n := by
  have h := fold_and 1 32 n
  have e : mk (2 ^ 1) 32 = 6148914691236517205 := by decide
  rw [e] at h
  unfold pop1
  rw [Nat.add_comm]
  exact h
theorem pop2_eq (n : Nat) : pop2 n = fold2 4 16 n := by
  have h := fold_and 2 16 n
  have e : mk (2 ^ 2) 16 = 3689348814741910323 := by decide
  rw [e] at h
  unfold pop2
  rw [Nat.add_comm]
  exact h
theorem pop3_eq (n : Nat) (hs : small 16 4 16 n) : pop3 n = fold2 16 8 n := by
  have h := fold_sum 4 4 (by decide) 8 n hs
  have e : mk (2 ^ 4) 8 = 1085102592571150095 := by decide
  rw [e] at h
  unfold pop3
  exact h
theorem pops (n : Nat) (h : n < 18446744073709551616) : pop1 n < 18446744073709551616 ∧ pop2 (pop1 n) < 4919131752989213765 ∧ small 256 8 8 (pop3 (pop2 (pop1 n))) ∧ dsum 256 8 (pop3 (pop2 (pop1 n))) = ones n := by
  have s0 : small 2 1 64 n := small_of 2 (by decide) 64 n h
  have s1 : small 4 2 32 (fold2 2 32 n) := small_fold 2 1 (by decide) (by decide) 32 n s0
  have s2 : small 16 4 16 (fold2 4 16 (fold2 2 32 n)) := small_fold 4 2 (by decide) (by decide) 16 _ s1
  have s3 : small 256 8 8 (fold2 16 8 (fold2 4 16 (fold2 2 32 n))) := small_fold 16 4 (by decide) (by decide) 8 _ s2
  rw [pop1_eq, pop2_eq, pop3_eq _ s2]
  refine ⟨small_lt (by decide) 32 _ s1, ?_, s3, ?_⟩
  · have := small_le (by decide) 16 _ s2
    omega
  · have d1 : dsum 4 32 (fold2 2 32 n) = dsum 2 64 n := dsum_fold 2 (by decide) 32 n
    have d2 : dsum 16 16 (fold2 4 16 (fold2 2 32 n)) = dsum 4 32 (fold2 2 32 n) := dsum_fold 4 (by decide) 16 _
    have d3 : dsum 256 8 (fold2 16 8 (fold2 4 16 (fold2 2 32 n))) = dsum 16 16 (fold2 4 16 (fold2 2 32 n)) := dsum_fold 16 (by decide) 8 _
    rw [d3, d2, d1]
    rfl
theorem drop1 {a r : Nat} (h : a < 256) : (a + 256 * r) / 256 = r := by omega
theorem pick (a b r t : Nat) (h : a + b < 128) : (a + 256 * r + (b + 256 * t)) % 128 = a + b := by omega
/-- The last three sums. -/
theorem pop_end (x : Nat) (hs : small 256 8 8 x) :
    x < 1000000000000000000 ∧ (x + x / 256 + (x + x / 256) / 65536 + (x + x / 256 + (x + x / 256) / 65536) / 4294967296) % 128 = dsum 256 8 x := by
  obtain ⟨p0, x1, h0, e0, hs, d0⟩ := small_digit hs
  obtain ⟨p1, x2, h1, e1, hs, d1⟩ := small_digit hs
  obtain ⟨p2, x3, h2, e2, hs, d2⟩ := small_digit hs
  obtain ⟨p3, x4, h3, e3, hs, d3⟩ := small_digit hs
  obtain ⟨p4, x5, h4, e4, hs, d4⟩ := small_digit hs
  obtain ⟨p5, x6, h5, e5, hs, d5⟩ := small_digit hs
  obtain ⟨p6, x7, h6, e6, hs, d6⟩ := small_digit hs
  obtain ⟨p7, x8, h7, e7, hs, d7⟩ := small_digit hs
  have e8 : x8 = 0 := hs
  rw [d0, d1, d2, d3, d4, d5, d6, d7]
  show _ ∧ _ = p0 + (p1 + (p2 + (p3 + (p4 + (p5 + (p6 + (p7 + 0)))))))
  subst e8
  clear hs d0 d1 d2 d3 d4 d5 d6 d7
  have a1 : x / 256 = x1 := by omega
  rw [a1]
  have hx : x + x1 = (p0 + p1) + 256 * ((p1 + p2) + 256 * ((p2 + p3) + 256 * ((p3 + p4) + 256 * ((p4 + p5) + 256 * ((p5 + p6) + 256 * ((p6 + p7) + 256 * p7)))))) := by omega
  have hl : x < 1000000000000000000 := by omega
  refine ⟨hl, ?_⟩
  clear a1 hl e0 e1 e2 e3 e4 e5 e6 e7
  rw [hx]
  generalize hy : (p0 + p1) + 256 * ((p1 + p2) + 256 * ((p2 + p3) + 256 * ((p3 + p4) + 256 * ((p4 + p5) + 256 * ((p5 + p6) + 256 * ((p6 + p7) + 256 * p7)))))) = y
  have a2 : y / 65536 = (p2 + p3) + 256 * ((p3 + p4) + 256 * ((p4 + p5) + 256 * ((p5 + p6) + 256 * ((p6 + p7) + 256 * p7)))) := by
    rw [show (65536 : Nat) = 256 * 256 from rfl, ← Nat.div_div_eq_div_mul, ← hy, drop1 (by omega), drop1 (by omega)]
  rw [a2]
  have a3 : y + ((p2 + p3) + 256 * ((p3 + p4) + 256 * ((p4 + p5) + 256 * ((p5 + p6) + 256 * ((p6 + p7) + 256 * p7))))) = (p0 + p1 + p2 + p3) + 256 * ((p1 + p2 + p3 + p4) + 256 * ((p2 + p3 + p4 + p5) + 256 * ((p3 + p4 + p5 + p6) + 256 * ((p4 + p5 + p6 + p7) + 256 * ((p5 + p6 + p7) + 256 * ((p6 + p7) + 256 * p7)))))) := by
    rw [← hy]
    simp only [Nat.mul_add]
    omega
  rw [a3, show (4294967296 : Nat) = 256 * 256 * 256 * 256 from rfl, ← Nat.div_div_eq_div_mul, ← Nat.div_div_eq_div_mul, ← Nat.div_div_eq_div_mul, drop1 (by omega), drop1 (by omega), drop1 (by omega), drop1 (by omega), pick _ _ _ _ (by omega)]
  omega
end Go.Proofs.Ytbljijbmjccalaa
