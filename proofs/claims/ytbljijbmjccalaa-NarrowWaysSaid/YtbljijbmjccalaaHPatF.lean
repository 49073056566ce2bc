/-
  Proved here: what Range of package tnum, and of the document's answers, return. Conditions: none.
-/
import Derived.Test.YtbljijbmjccalaaHPatE
import Derived.Lib.ItoaNum
namespace Go.Proofs.Ytbljijbmjccalaa
open Go.RowKit
attribute [local go_sem ↓] eql_tn neq_tn
attribute [local go_sem] u_and u_or u_xor u_andNot u_add u_sub

/-- How many of the lowest bits two numbers haven't in common. -/
def rgL (lo hi : B64) : Nat := Lib.bitLen (lo ^^^ hi).toNat
def lowM (L : Nat) : B64 := lowB (~~~0#64) L
theorem bitLen_iff (x k : Nat) (hx : x < 2 ^ 64) (hk : k ≤ 64) : Lib.bitLen x ≤ k ↔ x < 2 ^ k := by
  constructor
  · intro h
    by_cases h0 : x = 0
    · subst h0; exact Nat.pow_pos (by decide)
    · have := (Lib.bitLenAux_bounds 64 x hx h0).2.2
      exact Nat.lt_of_lt_of_le this (Nat.pow_le_pow_right (by decide) h)
  · exact Lib.bitLen_le x k hk
theorem rgL_64 (lo hi : B64) : rgL lo hi ≤ 64 := (bitLen_iff _ 64 (lo ^^^ hi).isLt (Nat.le_refl _)).2 (lo ^^^ hi).isLt
theorem div_same (a b k : Nat) : a / 2 ^ k = b / 2 ^ k ↔ a ^^^ b < 2 ^ k := by
  rw [← Nat.shiftRight_eq_div_pow, ← Nat.shiftRight_eq_div_pow]
  constructor
  · intro h
    have e : (a ^^^ b) >>> k = 0 := by rw [Nat.shiftRight_xor_distrib, h, Nat.xor_self]
    rw [Nat.shiftRight_eq_div_pow] at e
    exact Nat.lt_of_div_eq_zero (Nat.pow_pos (by decide)) e
  · intro h
    have e : (a ^^^ b) >>> k = 0 := by rw [Nat.shiftRight_eq_div_pow]; exact Nat.div_eq_of_lt h
    rw [Nat.shiftRight_xor_distrib] at e
    apply Nat.eq_of_testBit_eq
    intro i
    have := congrArg (fun x : Nat => x.testBit i) e
    simp only [Nat.testBit_xor, Nat.zero_testBit] at this
    simpa using this
theorem rg_same (lo hi : B64) (k : Nat) (hk : k ≤ 64) : u lo / 2 ^ k = u hi / 2 ^ k ↔ rgL lo hi ≤ k := by
  unfold rgL
  rw [bitLen_iff _ _ (lo ^^^ hi).isLt hk, BitVec.toNat_xor, ← div_same]
  unfold u
  have e1 : (lo.toNat : Int) / 2 ^ k = ((lo.toNat / 2 ^ k : Nat) : Int) := by simp
  have e2 : (hi.toNat : Int) / 2 ^ k = ((hi.toNat / 2 ^ k : Nat) : Int) := by simp
  rw [e1, e2]
  omega
theorem u_lowM (L : Nat) (h : L ≤ 64) : u (lowM L) = 2 ^ L - 1 := by
  unfold lowM
  rw [u_lowB, u_all]
  have h1 : (2 : Nat) ^ L * 2 ^ (64 - L) = 2 ^ 64 := by rw [← Nat.pow_add]; congr 1; omega
  have h0 : 0 < 2 ^ L := Nat.pow_pos (by decide)
  have e : (18446744073709551615 : Int) = ((2 ^ 64 - 1 : Nat) : Int) := by decide
  have e2 : ((2 : Int) ^ L) = ((2 ^ L : Nat) : Int) := by simp
  rw [e, e2]
  have e3 : (2 ^ 64 - 1) % 2 ^ L = 2 ^ L - 1 := by
    have hm : 2 ^ 64 - 1 = (2 ^ L - 1) + 2 ^ L * (2 ^ (64 - L) - 1) := by
      rw [Nat.mul_sub, h1]
      have : 2 ^ L ≤ 2 ^ 64 := Nat.pow_le_pow_right (by decide) h
      omega
    rw [hm, Nat.add_mul_mod_self_left, Nat.mod_eq_of_lt (by omega)]
  have e4 : (((2 ^ 64 - 1 : Nat) : Int)) % ((2 ^ L : Nat) : Int) = (((2 ^ 64 - 1) % 2 ^ L : Nat) : Int) := by simp
  rw [e4, e3]
  omega
theorem pv_lowM (lo : B64) (L : Nat) : u (pv lo (lowM L)) = u lo / 2 ^ L * 2 ^ L := by
  have hlt : lo.toNat / 2 ^ L * 2 ^ L < 2 ^ 64 := Nat.lt_of_le_of_lt (Nat.div_mul_le_self _ _) lo.isLt
  have e : pv lo (lowM L) = BitVec.ofNat 64 (lo.toNat / 2 ^ L * 2 ^ L) := by
    apply BitVec.eq_of_getLsbD_eq
    intro i hi
    unfold lowM
    rw [pv_bit _ _ _ hi, low_bit _ _ _ hi, not_bit _ _ hi, BitVec.getLsbD_zero, BitVec.getLsbD_ofNat, ← Nat.shiftRight_eq_div_pow, ← Nat.shiftLeft_eq, Nat.testBit_shiftLeft, Nat.testBit_shiftRight]
    by_cases hL : i < L
    · have : ¬ L ≤ i := by omega
      simp [hL, this, hi]
    · have h1 : L ≤ i := by omega
      have h2 : L + (i - L) = i := by omega
      simp [hL, h1, hi, h2, BitVec.getLsbD]
  rw [e]
  unfold u
  rw [BitVec.toNat_ofNat, Nat.mod_eq_of_lt hlt]
  simp
theorem lw_rgL (lo hi : B64) : lw (rgL lo hi : Nat) = u (lowM (rgL lo hi)) := by
  have h := rgL_64 lo hi
  rw [u_lowM _ h]
  unfold lw
  by_cases h1 : ((rgL lo hi : Nat) : Int) < 1
  · rw [if_pos h1]
    have : rgL lo hi = 0 := by omega
    rw [this]; rfl
  · rw [if_neg h1]
    by_cases h2 : (63 : Int) < (rgL lo hi : Nat)
    · rw [if_pos h2]
      have : rgL lo hi = 64 := by omega
      rw [this]; rfl
    · rw [if_neg h2, Int.toNat_natCast]

theorem len_rg (lo hi : B64) (w : World) : Calls Try.prog 63 #[.int .u64 (u (lo ^^^ hi))] w (Ret (.int .i64 (rgL lo hi : Nat)) w) :=
  (Try.bits_Len64 (u (lo ^^^ hi)) w (u_bd _).1 (u_bd _).2).mono fun _ _ ⟨h1, h2⟩ => ⟨h1.trans (by unfold rgL u; rw [Int.toNat_natCast]), h2.symm⟩
theorem low_rg (lo hi : B64) (w : World) : Calls Try.prog 44 #[.int .i64 (rgL lo hi : Nat)] w (Ret (.int .u64 (u (lowM (rgL lo hi)))) w) := by
  rw [← lw_rgL]
  exact low_words _ _
theorem range_tnum (lo hi : B64) (w : World) (h : u lo ≤ u hi) : Calls Try.prog 58 #[.int .u64 (u lo), .int .u64 (u hi)] w (Gives (tnV (pv lo (lowM (rgL lo hi))) (lowM (rgL lo hi))) w) := by
  have hd : decide (u hi < u lo) = false := by simp; omega
  unfold Gives tnV
  go_enter Try.func58, Try.ntmps58
  go_wp2_with (first
    | (go_at_call 63; refine (len_rg _ _ _).mono ?_; rintro e w1 ⟨rfl, rfl⟩)
    | (go_at_call 44; refine (low_rg _ _ _).mono ?_; rintro e w1 ⟨rfl, rfl⟩)
    | (go_at_call 61; refine (pattern_tnum _ _ _).mono ?_; rintro e w1 ⟨rfl, hb⟩; unfold tnV; obtain ⟨hc, hf⟩ := bcell hb; have HB := Lib.hid ((below_box _ _).trans (hb.mono (by simp))); clear hb))
  refine bodyPost_ret (v := .agg #[.int .u64 (u (pv lo (lowM (rgL lo hi)))), .int .u64 (u (lowM (rgL lo hi)))]) (by simp [results, Try.results58, go_sem, hc]) rfl ⟨rfl, ?_⟩
  exact (HB.out.setCell (by simp) _).setCell (by simp) _
theorem range_no (lo hi : B64) (w : World) (h : u hi < u lo) : Calls Try.prog 58 #[.int .u64 (u lo), .int .u64 (u hi)] w (Gives (tnV 0#64 (~~~0#64)) w) := by
  unfold Gives tnV
  go_enter Try.func58, Try.ntmps58
  go_wp2_with (go_at_call 59; refine (all_tnum _).mono ?_; rintro e w1 ⟨rfl, hb⟩; unfold tnV; obtain ⟨hc, hf⟩ := bcell hb; have HB := Lib.hid ((below_box _ _).trans (hb.mono (by simp))); clear hb)
  refine bodyPost_ret (v := .agg #[.int .u64 (u 0#64), .int .u64 (u (~~~0#64))]) (by simp [results, Try.results58, go_sem, hc]) rfl ⟨rfl, ?_⟩
  exact (HB.out.setCell (by simp) _).setCell (by simp) _
end Go.Proofs.Ytbljijbmjccalaa
