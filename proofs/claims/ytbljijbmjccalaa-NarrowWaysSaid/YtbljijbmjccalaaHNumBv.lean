/-
  Proved here: what is known of a number (bits and bounds), a round of it, and that a round keeps its numbers. No Go text is spoken of. Conditions: none.
-/
import Derived.Test.YtbljijbmjccalaaHHasLaw
import Derived.Lib.MinMax
namespace Go.Proofs.Ytbljijbmjccalaa
open Go.RowKit

/-! ### Numbers with a sign -/
/-- The number with a sign that a vector of bits is. -/
def s (x : B64) : Int := x.toInt
theorem s_eq (x : B64) : s x = if u x < 9223372036854775808 then u x else u x - 18446744073709551616 := by
  unfold s u
  rw [BitVec.toInt_eq_toNat_cond]
  have := x.isLt
  split <;> split <;> omega
theorem s_bd (x : B64) : -9223372036854775808 ≤ s x ∧ s x ≤ 9223372036854775807 := by
  have := u_bd x
  rw [s_eq]
  split <;> omega
theorem s_of {n : Int} (h0 : -9223372036854775808 ≤ n) (h1 : n ≤ 9223372036854775807) : ∃ x : B64, n = s x := by
  by_cases h : 0 ≤ n
  · obtain ⟨x, hx⟩ := u_of (n := n) h (by omega)
    exact ⟨x, by rw [s_eq, ← hx]; split <;> omega⟩
  · obtain ⟨x, hx⟩ := u_of (n := n + 18446744073709551616) (by omega) (by omega)
    exact ⟨x, by rw [s_eq, ← hx]; split <;> omega⟩
theorem s_inj {x y : B64} (h : s x = s y) : x = y := by
  have hx := u_bd x
  have hy := u_bd y
  apply u_inj
  rw [s_eq, s_eq] at h
  split at h <;> split at h <;> omega
theorem s_iff (x y : B64) : s x = s y ↔ x = y := ⟨s_inj, fun h => by rw [h]⟩
theorem wrap_s (n : Int) : IntKind.i64.wrap n = (n + 9223372036854775808) % 18446744073709551616 - 9223372036854775808 := by
  simp [IntKind.wrap, IntKind.bits, IntKind.signed]
  omega
theorem s_conv (x : B64) : IntKind.i64.wrap (u x) = s x := by
  have := u_bd x
  rw [wrap_s]
  rw [s_eq]
  split <;> omega
theorem u_conv (x : B64) : IntKind.u64.wrap (s x) = u x := by
  have := u_bd x
  rw [wrap_u]
  rw [s_eq]
  split <;> omega
theorem s_neg (x : B64) : s x < 0 ↔ 9223372036854775808 ≤ u x := by
  have := u_bd x
  rw [s_eq]
  split <;> omega

/-! ### What is known -/
structure K where
  v : B64
  m : B64
  a : B64
  b : B64
  c : B64
  d : B64
def half : B64 := 9223372036854775808#64
def full : B64 := ~~~0#64
theorem u_half : u half = 9223372036854775808 := by decide
theorem s_half : s half = -9223372036854775808 := by decide
theorem u_full : u full = 18446744073709551615 := by decide
def most : B64 := 9223372036854775807#64
theorem u_most : u most = 9223372036854775807 := by decide
theorem s_most : s most = 9223372036854775807 := by decide
def allK : K := ⟨0#64, full, 0#64, full, half, most⟩
def oneK (x : B64) : K := ⟨x, 0#64, x, x, x, x⟩
def maxU (x y : B64) : B64 := if u x < u y then y else x
def minU (x y : B64) : B64 := if u y < u x then y else x
def maxS (x y : B64) : B64 := if s x < s y then y else x
def minS (x y : B64) : B64 := if s y < s x then y else x
theorem max_u (x y : B64) : max (u x) (u y) = u (maxU x y) := by
  unfold maxU; split <;> omega
theorem min_u (x y : B64) : min (u x) (u y) = u (minU x y) := by
  unfold minU; split <;> omega
theorem max_s (x y : B64) : max (s x) (s y) = s (maxS x y) := by
  unfold maxS; split <;> omega
theorem min_s (x y : B64) : min (s x) (s y) = s (minS x y) := by
  unfold minS; split <;> omega
def K.inU (k : K) (lo hi : B64) : K := ⟨k.v, k.m, maxU k.a lo, minU k.b hi, k.c, k.d⟩
def K.inS (k : K) (lo hi : B64) : K := ⟨k.v, k.m, k.a, k.b, maxS k.c lo, minS k.d hi⟩
def K.lowS (k : K) : B64 := pv k.v k.m ||| (k.m &&& half)
def K.highS (k : K) : B64 := (k.v ||| k.m) &&& ~~~(k.m &&& half)
def K.byBits (k : K) : K := (k.inU (pv k.v k.m) (k.v ||| k.m)).inS k.lowS k.highS
/-- Stand both bounds without a sign on one side? -/
def K.sideU (k : K) : Bool := decide (s k.a < 0) == decide (s k.b < 0)
def K.sideS (k : K) : Bool := decide (s k.c < 0) == decide (s k.d < 0)
def K.each1 (k : K) : K := if k.sideU = true then k.inS k.a k.b else k
def K.each2 (k : K) : K := if k.sideS = true then k.inU k.c k.d else k
def K.crossed (k : K) : Bool := decide (u k.b < u k.a) || decide (s k.d < s k.c)
def K.met (k : K) (v m : B64) : K := ⟨pv (pv k.v k.m ||| pv v m) (k.m &&& m), k.m &&& m, k.a, k.b, k.c, k.d⟩
def K.bound (k : K) : K := k.byBits.each1.each2
def K.ok2 (k : K) : Bool := mtOk k.v k.m (rgV k.a k.b) (rgM k.a k.b)
def K.step6 (k : K) : K := k.met (rgV k.a k.b) (rgM k.a k.b)
/-- Is it not empty? -/
def K.okR (k : K) : Bool := !k.bound.crossed && k.bound.ok2
def K.nextR (k : K) : K := k.bound.step6
def K.okF (k : K) : Bool := k.okR && k.nextR.okR
def K.fine (k : K) : K := if k.okF = true then k.nextR.nextR else allK

theorem inU_v (k : K) (lo hi : B64) : (k.inU lo hi).v = k.v := by rw [K.inU]
theorem inU_m (k : K) (lo hi : B64) : (k.inU lo hi).m = k.m := by rw [K.inU]
theorem inU_a (k : K) (lo hi : B64) : (k.inU lo hi).a = maxU k.a lo := by rw [K.inU]
theorem inU_b (k : K) (lo hi : B64) : (k.inU lo hi).b = minU k.b hi := by rw [K.inU]
theorem inU_c (k : K) (lo hi : B64) : (k.inU lo hi).c = k.c := by rw [K.inU]
theorem inU_d (k : K) (lo hi : B64) : (k.inU lo hi).d = k.d := by rw [K.inU]
theorem inS_v (k : K) (lo hi : B64) : (k.inS lo hi).v = k.v := by rw [K.inS]
theorem inS_m (k : K) (lo hi : B64) : (k.inS lo hi).m = k.m := by rw [K.inS]
theorem inS_a (k : K) (lo hi : B64) : (k.inS lo hi).a = k.a := by rw [K.inS]
theorem inS_b (k : K) (lo hi : B64) : (k.inS lo hi).b = k.b := by rw [K.inS]
theorem inS_c (k : K) (lo hi : B64) : (k.inS lo hi).c = maxS k.c lo := by rw [K.inS]
theorem inS_d (k : K) (lo hi : B64) : (k.inS lo hi).d = minS k.d hi := by rw [K.inS]
theorem met_v (k : K) (v m : B64) : (k.met v m).v = pv (pv k.v k.m ||| pv v m) (k.m &&& m) := by rw [K.met]
theorem met_m (k : K) (v m : B64) : (k.met v m).m = k.m &&& m := by rw [K.met]
theorem met_a (k : K) (v m : B64) : (k.met v m).a = k.a := by rw [K.met]
theorem met_b (k : K) (v m : B64) : (k.met v m).b = k.b := by rw [K.met]
theorem met_c (k : K) (v m : B64) : (k.met v m).c = k.c := by rw [K.met]
theorem met_d (k : K) (v m : B64) : (k.met v m).d = k.d := by rw [K.met]

/-! ### Which numbers it has -/
def K.has (k : K) (x : B64) : Bool := hasB k.v k.m x && decide (u k.a ≤ u x) && decide (u x ≤ u k.b) && decide (s k.c ≤ s x) && decide (s x ≤ s k.d)
theorem has_iff (k : K) (x : B64) : k.has x = true ↔ hasB k.v k.m x = true ∧ u k.a ≤ u x ∧ u x ≤ u k.b ∧ s k.c ≤ s x ∧ s x ≤ s k.d := by
  unfold K.has
  simp only [Bool.and_eq_true, decide_eq_true_eq, and_assoc]
theorem maxU_le (x y z : B64) : u (maxU x y) ≤ u z ↔ u x ≤ u z ∧ u y ≤ u z := by
  rw [← max_u]; omega
theorem le_minU (x y z : B64) : u z ≤ u (minU x y) ↔ u z ≤ u x ∧ u z ≤ u y := by
  rw [← min_u]; omega
theorem maxS_le (x y z : B64) : s (maxS x y) ≤ s z ↔ s x ≤ s z ∧ s y ≤ s z := by
  rw [← max_s]; omega
theorem le_minS (x y z : B64) : s z ≤ s (minS x y) ↔ s z ≤ s x ∧ s z ≤ s y := by
  rw [← min_s]; omega
theorem has_inU (k : K) (lo hi x : B64) : (k.inU lo hi).has x = true ↔ k.has x = true ∧ u lo ≤ u x ∧ u x ≤ u hi := by
  rw [has_iff, has_iff]
  rw [inU_v, inU_m, inU_a, inU_b, inU_c, inU_d]
  rw [maxU_le, le_minU]
  constructor
  · rintro ⟨h1, ⟨h2, h3⟩, ⟨h4, h5⟩, h6, h7⟩; exact ⟨⟨h1, h2, h4, h6, h7⟩, h3, h5⟩
  · rintro ⟨⟨h1, h2, h4, h6, h7⟩, h3, h5⟩; exact ⟨h1, ⟨h2, h3⟩, ⟨h4, h5⟩, h6, h7⟩
theorem has_inS (k : K) (lo hi x : B64) : (k.inS lo hi).has x = true ↔ k.has x = true ∧ s lo ≤ s x ∧ s x ≤ s hi := by
  rw [has_iff, has_iff]
  rw [inS_v, inS_m, inS_a, inS_b, inS_c, inS_d]
  rw [maxS_le, le_minS]
  constructor
  · rintro ⟨h1, h2, h3, ⟨h4, h5⟩, h6, h7⟩; exact ⟨⟨h1, h2, h3, h4, h6⟩, h5, h7⟩
  · rintro ⟨⟨h1, h2, h3, h4, h6⟩, h5, h7⟩; exact ⟨h1, h2, h3, ⟨h4, h5⟩, h6, h7⟩

/-! ### The highest bit -/
theorem le_bits {x y : B64} (h : ∀ i, i < 64 → x.getLsbD i = true → y.getLsbD i = true) : u x ≤ u y := by
  have e : x &&& y = x := by
    apply BitVec.eq_of_getLsbD_eq
    intro i hi
    rw [BitVec.getLsbD_and]
    have := h i hi
    revert this
    cases x.getLsbD i <;> cases y.getLsbD i <;> simp
  have g : (x &&& y).toNat ≤ y.toNat := by
    rw [BitVec.toNat_and]
    exact Nat.and_le_right
  rw [e] at g
  unfold u
  omega
theorem msb_iff (x : B64) : x.getLsbD 63 = true ↔ 9223372036854775808 ≤ u x := by
  rw [← msb_63, BitVec.msb_eq_decide]
  unfold u
  simp
  omega
theorem half_bit (i : Nat) : half.getLsbD i = decide (i = 63) := by
  have : half = BitVec.twoPow 64 63 := by decide
  rw [this, BitVec.getLsbD_twoPow]
  by_cases h : i = 63
  · subst h; decide
  · have h' : ¬ 63 = i := fun e => h e.symm
    simp [h, h']
theorem has_bit {v m x : B64} (h : hasB v m x = true) {i : Nat} (hi : i < 64) : m.getLsbD i = true ∨ x.getLsbD i = v.getLsbD i := by
  unfold hasB at h
  rw [decide_eq_true_eq, pv_eq] at h
  cases hm : m.getLsbD i
  · exact .inr (h i hi hm)
  · exact .inl rfl
theorem has_low {v m x : B64} (h : hasB v m x = true) : u (pv v m) ≤ u x := le_bits fun i hi => by
  rw [pv_bit _ _ _ hi]
  rcases has_bit h hi with g | g
  · rw [g]; simp
  · rw [g]; cases m.getLsbD i <;> simp
theorem has_high {v m x : B64} (h : hasB v m x = true) : u x ≤ u (v ||| m) := le_bits fun i hi => by
  rw [BitVec.getLsbD_or]
  rcases has_bit h hi with g | g
  · rw [g]; simp
  · rw [g]; intro e; simp [e]
/-- The order with a sign is the order of the numbers whose highest bit is turned. -/
theorem s_turn (x : B64) : s x = u (x ^^^ half) - 9223372036854775808 := by
  have hx := u_bd x
  have key : u (x ^^^ half) = if 9223372036854775808 ≤ u x then u x - 9223372036854775808 else u x + 9223372036854775808 := by
    by_cases h : 9223372036854775808 ≤ u x
    · rw [if_pos h]
      have e : x = (x ^^^ half) + half := by
        rw [BitVec.add_eq_or_of_and_eq_zero]
        · apply BitVec.eq_of_getLsbD_eq
          intro i hi
          rw [BitVec.getLsbD_or, BitVec.getLsbD_xor, half_bit]
          by_cases e : i = 63
          · subst e; rw [(msb_iff x).2 h]; simp
          · simp [e]
        · apply BitVec.eq_of_getLsbD_eq
          intro i hi
          rw [BitVec.getLsbD_and, BitVec.getLsbD_xor, half_bit, BitVec.getLsbD_zero]
          by_cases e : i = 63
          · subst e; rw [(msb_iff x).2 h]; simp
          · simp [e]
      have e2 : u x = IntKind.u64.wrap (u (x ^^^ half) + u half) := by rw [u_add, ← e]
      rw [wrap_u, u_half] at e2
      have := u_bd (x ^^^ half)
      omega
    · rw [if_neg h]
      have hb : x.getLsbD 63 = false := by
        cases g : x.getLsbD 63
        · rfl
        · exact absurd ((msb_iff x).1 g) h
      have e : x ^^^ half = x + half := by
        rw [BitVec.add_eq_or_of_and_eq_zero]
        · apply BitVec.eq_of_getLsbD_eq
          intro i hi
          rw [BitVec.getLsbD_or, BitVec.getLsbD_xor, half_bit]
          by_cases e : i = 63
          · subst e; rw [hb]; simp
          · simp [e]
        · apply BitVec.eq_of_getLsbD_eq
          intro i hi
          rw [BitVec.getLsbD_and, half_bit, BitVec.getLsbD_zero]
          by_cases e : i = 63
          · subst e; rw [hb]; simp
          · simp [e]
      rw [e, ← u_add, wrap_u, u_half]
      omega
  rw [key]
  rw [s_eq]
  split <;> split <;> omega
theorem has_lowS {k : K} {x : B64} (h : hasB k.v k.m x = true) : s k.lowS ≤ s x := by
  rw [s_turn, s_turn]
  have : u (k.lowS ^^^ half) ≤ u (x ^^^ half) := le_bits fun i hi => by
    unfold K.lowS
    rw [BitVec.getLsbD_xor, BitVec.getLsbD_xor, BitVec.getLsbD_or, BitVec.getLsbD_and, pv_bit _ _ _ hi, half_bit]
    rcases has_bit h hi with g | g
    · rw [g]; by_cases e : i = 63 <;> simp [e]
    · rw [g]; by_cases e : i = 63 <;> cases k.m.getLsbD i <;> cases k.v.getLsbD i <;> simp [e]
  omega
theorem has_highS {k : K} {x : B64} (h : hasB k.v k.m x = true) : s x ≤ s k.highS := by
  rw [s_turn, s_turn]
  have : u (x ^^^ half) ≤ u (k.highS ^^^ half) := le_bits fun i hi => by
    unfold K.highS
    rw [BitVec.getLsbD_xor, BitVec.getLsbD_xor, BitVec.getLsbD_and, not_bit _ _ hi, BitVec.getLsbD_or, BitVec.getLsbD_and, half_bit]
    rcases has_bit h hi with g | g
    · rw [g]; by_cases e : i = 63 <;> simp [e]
    · rw [g]; by_cases e : i = 63 <;> cases k.m.getLsbD i <;> cases k.v.getLsbD i <;> simp [e]
  omega

/-! ### A round keeps its numbers -/
theorem has_byBits (k : K) (x : B64) : k.byBits.has x = true ↔ k.has x = true := by
  unfold K.byBits
  rw [has_inS, has_inU]
  constructor
  · rintro ⟨⟨h, -⟩, -⟩; exact h
  · intro h
    have hb := ((has_iff k x).1 h).1
    exact ⟨⟨h, has_low hb, has_high hb⟩, has_lowS hb, has_highS hb⟩
theorem has_each1 (k : K) (x : B64) : k.each1.has x = true ↔ k.has x = true := by
  unfold K.each1
  split
  · rename_i hs
    rw [has_inS]
    constructor
    · rintro ⟨h, -⟩; exact h
    · intro h
      have g := (has_iff k x).1 h
      refine ⟨h, ?_⟩
      have h1 := s_neg k.a
      have h2 := s_neg k.b
      unfold K.sideU at hs
      rw [beq_iff_eq, decide_eq_decide] at hs
      have b1 := u_bd k.a
      have b2 := u_bd k.b
      simp only [s_eq] at *
      split at hs <;> split at hs <;> split <;> split <;> omega
  · rfl
theorem has_each2 (k : K) (x : B64) : k.each2.has x = true ↔ k.has x = true := by
  unfold K.each2
  split
  · rename_i hs
    rw [has_inU]
    constructor
    · rintro ⟨h, -⟩; exact h
    · intro h
      have g := (has_iff k x).1 h
      refine ⟨h, ?_⟩
      have h1 := s_neg k.c
      have h2 := s_neg k.d
      have h3 := s_neg x
      unfold K.sideS at hs
      rw [beq_iff_eq, decide_eq_decide] at hs
      have b1 := u_bd k.c
      have b2 := u_bd k.d
      have b3 := u_bd x
      have e1 : s k.c = u k.c ∨ s k.c = u k.c - 18446744073709551616 := by rw [s_eq]; split <;> omega
      have e2 : s k.d = u k.d ∨ s k.d = u k.d - 18446744073709551616 := by rw [s_eq]; split <;> omega
      have e3 : s x = u x ∨ s x = u x - 18446744073709551616 := by rw [s_eq]; split <;> omega
      omega
  · rfl
theorem has_bound (k : K) (x : B64) : k.bound.has x = true ↔ k.has x = true := by
  unfold K.bound
  rw [has_each2, has_each1, has_byBits]
theorem not_crossed {k : K} {x : B64} (h : k.has x = true) : k.crossed = false := by
  have g := (has_iff k x).1 h
  unfold K.crossed
  rw [Bool.or_eq_false_iff, decide_eq_false_iff_not, decide_eq_false_iff_not]
  omega
theorem has_range {a b x : B64} (h1 : u a ≤ u x) (h2 : u x ≤ u b) : hasB (rgV a b) (rgM a b) x = true := by
  unfold rgV rgM
  have hab : u a ≤ u b := by omega
  rw [if_pos hab, if_pos hab]
  unfold hasB
  rw [decide_eq_true_eq, pv_pv]
  apply u_inj
  rw [pv_lowM, pv_lowM]
  have hs := (rg_same a b (rgL a b) (rgL_64 a b)).2 (Nat.le_refl _)
  have hp : (0 : Int) < 2 ^ rgL a b := Int.pow_pos (by decide)
  have g1 : u a / 2 ^ rgL a b ≤ u x / 2 ^ rgL a b := Int.ediv_le_ediv hp h1
  have g2 : u x / 2 ^ rgL a b ≤ u b / 2 ^ rgL a b := Int.ediv_le_ediv hp h2
  have : u x / 2 ^ rgL a b = u a / 2 ^ rgL a b := by omega
  rw [this]
theorem has_met (k : K) (v m x : B64) (h : mtOk k.v k.m v m = true) : (k.met v m).has x = true ↔ k.has x = true ∧ hasB v m x = true := by
  rw [has_iff, has_iff]
  rw [met_v, met_m, met_a, met_b, met_c, met_d]
  rw [mt_has _ _ _ _ _ h, Bool.and_eq_true]
  constructor
  · rintro ⟨⟨h1, h2⟩, h3⟩; exact ⟨⟨h1, h3⟩, h2⟩
  · rintro ⟨⟨h1, h3⟩, h2⟩; exact ⟨⟨h1, h2⟩, h3⟩
theorem has_okR {k : K} {x : B64} (h : k.has x = true) : k.okR = true := by
  have hb := (has_bound k x).2 h
  unfold K.okR
  rw [not_crossed hb]
  have g := (has_iff _ _).1 hb
  cases e : k.bound.ok2
  · have := mt_none _ _ _ _ x e
    rw [g.1, has_range g.2.1 g.2.2.1] at this
    cases this
  · rfl
theorem has_next {k : K} {x : B64} (h : k.okR = true) : k.nextR.has x = true ↔ k.has x = true := by
  unfold K.okR at h
  rw [Bool.and_eq_true] at h
  unfold K.nextR K.step6
  rw [has_met _ _ _ _ h.2, has_bound]
  constructor
  · rintro ⟨g, -⟩; exact g
  · intro g
    have hb := (has_iff _ _).1 ((has_bound k x).2 g)
    exact ⟨g, has_range hb.2.1 hb.2.2.1⟩
theorem has_okF {k : K} {x : B64} (h : k.has x = true) : k.okF = true := by
  have h1 := has_okR h
  unfold K.okF
  rw [h1, has_okR ((has_next h1).2 h)]
  rfl
theorem has_fine {k : K} (x : B64) (h : k.okF = true) : k.fine.has x = true ↔ k.has x = true := by
  have h' := h
  unfold K.okF at h'
  rw [Bool.and_eq_true] at h'
  unfold K.fine
  rw [if_pos h, has_next h'.2, has_next h'.1]
end Go.Proofs.Ytbljijbmjccalaa
