/-
  Proved here: a pattern has a number, is shifted, cut, has numbers in common with another, and is of a range, bit by bit as package tnum computes it in words. No Go text is spoken of. Conditions: none.
-/
import Derived.Test.YtbljijbmjccalaaTwoBv
namespace Go.Proofs.Ytbljijbmjccalaa
open Go.RowKit

theorem pv_eq (x v m : B64) : pv x m = pv v m ↔ ∀ i, i < 64 → m.getLsbD i = false → x.getLsbD i = v.getLsbD i := by
  constructor
  · intro h i hi hm
    have e := congrArg (fun y : B64 => y.getLsbD i) h
    simp only [pv_bit _ _ _ hi, hm] at e
    simpa using e
  · intro h
    apply BitVec.eq_of_getLsbD_eq
    intro i hi
    rw [pv_bit _ _ _ hi, pv_bit _ _ _ hi]
    cases hm : m.getLsbD i
    · rw [h i hi hm]
    · simp
theorem pv_pv (v m : B64) : pv (pv v m) m = pv v m := by
  rw [pv_eq]
  intro i hi hm
  rw [pv_bit _ _ _ hi, hm]
  simp
/-- Has it the number? -/
def hasB (v m x : B64) : Bool := decide (pv x m = pv v m)
/-- Bit i of the number may be so. -/
def hasAt (v m x : B64) (i : Nat) : Bool := if x.getLsbD i = true then bo v m i else bz v m i
theorem has_all (v m x : B64) : hasB v m x = true ↔ ∀ i, i < 64 → hasAt v m x i = true := by
  unfold hasB
  rw [decide_eq_true_eq, pv_eq]
  unfold hasAt bo bz
  constructor
  · intro h i hi
    cases hm : m.getLsbD i
    · rw [h i hi hm]
      cases v.getLsbD i <;> simp
    · simp
  · intro h i hi hm
    have := h i hi
    rw [hm] at this
    revert this
    cases x.getLsbD i <;> cases v.getLsbD i <;> simp
theorem has_not (v m x : B64) (i : Nat) (hi : i < 64) (h : hasAt v m x i = false) : hasB v m x = false := by
  cases e : hasB v m x
  · rfl
  · rw [(has_all v m x).1 e i hi] at h
    cases h

/-! ### Shifts -/
def shZ (kind : Nat) (v m : B64) (k i : Nat) : Bool :=
  if kind = 0 then (if k ≤ i then bz v m (i - k) else true) else if i + k < 64 then bz v m (i + k) else if kind = 1 then true else bz v m 63
def shO (kind : Nat) (v m : B64) (k i : Nat) : Bool :=
  if kind = 0 then (if k ≤ i then bo v m (i - k) else false) else if i + k < 64 then bo v m (i + k) else if kind = 1 then false else bo v m 63
def shX (kind : Nat) (x : B64) (k : Nat) : B64 := if kind = 0 then x <<< k else if kind = 1 then x >>> k else x.sshiftRight k
theorem msb_63 (x : B64) : x.msb = x.getLsbD 63 := by
  rw [BitVec.msb_eq_getLsbD_last]
theorem sh_bit (kind : Nat) (x : B64) (k i : Nat) (hi : i < 64) : (shX kind x k).getLsbD i =
    (if kind = 0 then (if k ≤ i then x.getLsbD (i - k) else false) else if i + k < 64 then x.getLsbD (i + k) else if kind = 1 then false else x.getLsbD 63) := by
  unfold shX
  by_cases h0 : kind = 0
  · rw [if_pos h0, if_pos h0, BitVec.getLsbD_shiftLeft]
    by_cases h : k ≤ i
    · rw [if_pos h]
      have : ¬ i < k := by omega
      simp [hi, this]
    · rw [if_neg h]
      have : i < k := by omega
      simp [this]
  · rw [if_neg h0, if_neg h0]
    by_cases h1 : kind = 1
    · rw [if_pos h1, BitVec.getLsbD_ushiftRight, if_pos h1, Nat.add_comm]
      by_cases h : i + k < 64
      · rw [if_pos h]
      · rw [if_neg h]
        exact BitVec.getLsbD_of_ge _ _ (by omega)
    · rw [if_neg h1, BitVec.getLsbD_sshiftRight, if_neg h1, msb_63, Nat.add_comm k i]
      have : ¬ 64 ≤ i := by omega
      simp [this]
theorem sh_mask (kind : Nat) (v m : B64) (k : Nat) : maskB (shZ kind v m k) (shO kind v m k) = shX kind m k :=
  ofB_eq _ _ fun i hi => by
    rw [sh_bit _ _ _ _ hi]
    unfold shZ shO bz bo
    by_cases h0 : kind = 0
    · simp only [h0, if_true]
      by_cases h : k ≤ i
      · simp only [h, if_true]
        cases m.getLsbD (i - k) <;> cases v.getLsbD (i - k) <;> rfl
      · simp only [h, if_false]; rfl
    · simp only [h0, if_false]
      by_cases h : i + k < 64
      · simp only [h, if_true]
        cases m.getLsbD (i + k) <;> cases v.getLsbD (i + k) <;> rfl
      · simp only [h, if_false]
        by_cases h1 : kind = 1
        · simp only [h1, if_true]; rfl
        · simp only [h1, if_false]
          cases m.getLsbD 63 <;> cases v.getLsbD 63 <;> rfl
theorem sh_val (kind : Nat) (v m : B64) (k : Nat) : valB (shZ kind v m k) (shO kind v m k) = pv (shX kind v k) (shX kind m k) :=
  ofB_eq _ _ fun i hi => by
    rw [pv_bit _ _ _ hi, sh_bit _ _ _ _ hi, sh_bit _ _ _ _ hi]
    unfold shZ shO bz bo
    by_cases h0 : kind = 0
    · simp only [h0, if_true]
      by_cases h : k ≤ i
      · simp only [h, if_true]
        cases m.getLsbD (i - k) <;> cases v.getLsbD (i - k) <;> rfl
      · simp only [h, if_false]; rfl
    · simp only [h0, if_false]
      by_cases h : i + k < 64
      · simp only [h, if_true]
        cases m.getLsbD (i + k) <;> cases v.getLsbD (i + k) <;> rfl
      · simp only [h, if_false]
        by_cases h1 : kind = 1
        · simp only [h1, if_true]; rfl
        · simp only [h1, if_false]
          cases m.getLsbD 63 <;> cases v.getLsbD 63 <;> rfl

/-! ### Low bytes -/
def lowB (x : B64) (b : Nat) : B64 := BitVec.ofNat 64 (x.toNat % 2 ^ b)
theorem low_bit (x : B64) (b i : Nat) (hi : i < 64) : (lowB x b).getLsbD i = (decide (i < b) && x.getLsbD i) := by
  unfold lowB
  rw [BitVec.getLsbD_ofNat, Nat.testBit_mod_two_pow]
  simp [hi, BitVec.getLsbD]
theorem u_lowB (x : B64) (b : Nat) : u (lowB x b) = u x % 2 ^ b := by
  unfold u lowB
  have hx := x.isLt
  have : x.toNat % 2 ^ b < 2 ^ 64 := Nat.lt_of_le_of_lt (Nat.mod_le _ _) hx
  rw [BitVec.toNat_ofNat, Nat.mod_eq_of_lt this]
  simp
def ctZ (v m : B64) (b i : Nat) : Bool := if i < b then bz v m i else true
def ctO (v m : B64) (b i : Nat) : Bool := if i < b then bo v m i else false
theorem ct_mask (v m : B64) (b : Nat) : maskB (ctZ v m b) (ctO v m b) = lowB m b :=
  ofB_eq _ _ fun i hi => by
    rw [low_bit _ _ _ hi]
    unfold ctZ ctO bz bo
    by_cases h : i < b
    · simp only [h, if_true, decide_true]
      cases m.getLsbD i <;> cases v.getLsbD i <;> rfl
    · simp only [h, if_false, decide_false]; rfl
theorem ct_val (v m : B64) (b : Nat) : valB (ctZ v m b) (ctO v m b) = pv (lowB v b) (lowB m b) :=
  ofB_eq _ _ fun i hi => by
    rw [pv_bit _ _ _ hi, low_bit _ _ _ hi, low_bit _ _ _ hi]
    unfold ctZ ctO bz bo
    by_cases h : i < b
    · simp only [h, if_true, decide_true]
      cases m.getLsbD i <;> cases v.getLsbD i <;> rfl
    · simp only [h, if_false, decide_false]; rfl

/-! ### What both have -/
def mtZ (va ma vb mb : B64) (i : Nat) : Bool := bz va ma i && bz vb mb i
def mtO (va ma vb mb : B64) (i : Nat) : Bool := bo va ma i && bo vb mb i
/-- Have they a number in common? -/
def mtOk (va ma vb mb : B64) : Bool := decide (pv va (ma ||| mb) = pv vb (ma ||| mb))
theorem mt_ok (va ma vb mb : B64) : mtOk va ma vb mb = true ↔ ∀ i, i < 64 → (mtZ va ma vb mb i || mtO va ma vb mb i) = true := by
  unfold mtOk
  rw [decide_eq_true_eq, pv_eq]
  unfold mtZ mtO bz bo
  constructor
  · intro h i hi
    have := h i hi
    rw [BitVec.getLsbD_or] at this
    revert this
    cases ma.getLsbD i <;> cases mb.getLsbD i <;> cases va.getLsbD i <;> cases vb.getLsbD i <;> decide
  · intro h i hi hm
    have := h i hi
    rw [BitVec.getLsbD_or] at hm
    revert this hm
    cases ma.getLsbD i <;> cases mb.getLsbD i <;> cases va.getLsbD i <;> cases vb.getLsbD i <;> decide
theorem mt_not (va ma vb mb : B64) (i : Nat) (hi : i < 64) (h : (mtZ va ma vb mb i || mtO va ma vb mb i) = false) : mtOk va ma vb mb = false := by
  cases e : mtOk va ma vb mb
  · rfl
  · rw [(mt_ok va ma vb mb).1 e i hi] at h
    cases h
theorem mt_mask (va ma vb mb : B64) (h : mtOk va ma vb mb = true) : maskB (mtZ va ma vb mb) (mtO va ma vb mb) = ma &&& mb :=
  ofB_eq _ _ fun i hi => by
    have := (mt_ok va ma vb mb).1 h i hi
    revert this
    rw [BitVec.getLsbD_and]
    unfold mtZ mtO bz bo
    cases ma.getLsbD i <;> cases mb.getLsbD i <;> cases va.getLsbD i <;> cases vb.getLsbD i <;> decide
theorem mt_val (va ma vb mb : B64) (h : mtOk va ma vb mb = true) : valB (mtZ va ma vb mb) (mtO va ma vb mb) = pv (pv va ma ||| pv vb mb) (ma &&& mb) :=
  ofB_eq _ _ fun i hi => by
    have := (mt_ok va ma vb mb).1 h i hi
    revert this
    rw [pv_bit _ _ _ hi, BitVec.getLsbD_and, BitVec.getLsbD_or, pv_bit _ _ _ hi, pv_bit _ _ _ hi]
    unfold mtZ mtO bz bo
    cases ma.getLsbD i <;> cases mb.getLsbD i <;> cases va.getLsbD i <;> cases vb.getLsbD i <;> decide
/-- Just the numbers that both have. -/
theorem mt_has (va ma vb mb x : B64) (h : mtOk va ma vb mb = true) : hasB (pv (pv va ma ||| pv vb mb) (ma &&& mb)) (ma &&& mb) x = (hasB va ma x && hasB vb mb x) := by
  rw [Bool.eq_iff_iff, Bool.and_eq_true, has_all, has_all, has_all]
  have hk := (mt_ok va ma vb mb).1 h
  have key : ∀ i, i < 64 → hasAt (pv (pv va ma ||| pv vb mb) (ma &&& mb)) (ma &&& mb) x i = (hasAt va ma x i && hasAt vb mb x i) := by
    intro i hi
    have := hk i hi
    revert this
    unfold hasAt bo bz mtZ mtO bz bo
    rw [pv_bit _ _ _ hi, BitVec.getLsbD_and, BitVec.getLsbD_or, pv_bit _ _ _ hi, pv_bit _ _ _ hi]
    cases ma.getLsbD i <;> cases mb.getLsbD i <;> cases va.getLsbD i <;> cases vb.getLsbD i <;> cases x.getLsbD i <;> decide
  constructor
  · intro g
    constructor
    · intro i hi
      have := g i hi
      rw [key i hi, Bool.and_eq_true] at this
      exact this.1
    · intro i hi
      have := g i hi
      rw [key i hi, Bool.and_eq_true] at this
      exact this.2
  · intro g i hi
    rw [key i hi, g.1 i hi, g.2 i hi]
    rfl
theorem mt_none (va ma vb mb x : B64) (h : mtOk va ma vb mb = false) : (hasB va ma x && hasB vb mb x) = false := by
  cases e : (hasB va ma x && hasB vb mb x)
  · rfl
  · rw [Bool.and_eq_true, has_all, has_all] at e
    have : mtOk va ma vb mb = true := by
      rw [mt_ok]
      intro i hi
      have g1 := e.1 i hi
      have g2 := e.2 i hi
      revert g1 g2
      unfold hasAt bo bz mtZ mtO bz bo
      cases ma.getLsbD i <;> cases mb.getLsbD i <;> cases va.getLsbD i <;> cases vb.getLsbD i <;> cases x.getLsbD i <;> decide
    rw [this] at h
    cases h
end Go.Proofs.Ytbljijbmjccalaa
