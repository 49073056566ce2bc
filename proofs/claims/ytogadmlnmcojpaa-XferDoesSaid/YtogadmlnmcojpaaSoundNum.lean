/-
  Proved here: a number that two have, what they tell together has; a number's low bytes are had by what is cut. No Go text is spoken of. Conditions: none.
-/
import Derived.Test.YtogadmlnmcojpaaNumK
namespace Go.Proofs.Ytogadmlnmcojpaa
open Go.RowKit

theorem has_sum (a b : K) (x : B64) : (a.sum b).has x = true ↔ a.has x = true ∧ u b.a ≤ u x ∧ u x ≤ u b.b ∧ s b.c ≤ s x ∧ s x ≤ s b.d := by
  rw [K.sum, has_inS, has_inU]
  constructor
  · rintro ⟨⟨h1, h2, h3⟩, h4, h5⟩; exact ⟨h1, h2, h3, h4, h5⟩
  · rintro ⟨h1, h2, h3, h4, h5⟩; exact ⟨⟨h1, h2, h3⟩, h4, h5⟩
theorem has_both {a b : K} {x : B64} (ha : a.has x = true) (hb : b.has x = true) : a.okM b = true ∧ (a.both b).has x = true := by
  have ga := (has_iff a x).1 ha
  have gb := (has_iff b x).1 hb
  have hm : mtOk a.v a.m b.v b.m = true := by
    cases e : mtOk a.v a.m b.v b.m
    · have := mt_none _ _ _ _ x e
      rw [ga.1, gb.1] at this
      cases this
    · rfl
  have hp : (a.pair b).has x = true := by
    rw [K.pair, has_met _ _ _ _ (by rw [sum_v, sum_m]; exact hm)]
    exact ⟨(has_sum a b x).2 ⟨ha, gb.2⟩, gb.1⟩
  obtain ⟨e1, e2⟩ := both_yes hm
  have ho := has_okF hp
  rw [e1, e2]
  exact ⟨ho, (has_fine x ho).2 hp⟩
theorem in_self {v m x : B64} (h : hasB v m x = true) : inP v m x = x := by
  apply BitVec.eq_of_getLsbD_eq
  intro i hi
  rw [inP_bit _ _ _ _ hi]
  rcases has_bit h hi with g | g
  · rw [g]; rfl
  · rw [g]; split <;> rfl
theorem pow_bN (n : Int) : bN n ≤ 64 := by
  unfold bN
  split
  · decide
  · split
    · decide
    · split <;> decide
theorem low_le (x : B64) (n : Int) : u (lowB x (bN n)) ≤ u (lowM (bN n)) := by
  rw [u_lowM _ (pow_bN n), u_lowB]
  have hp : (0 : Int) < 2 ^ bN n := Int.pow_pos (by decide)
  have := Int.emod_lt_of_pos (u x) hp
  omega
theorem low_self {x : B64} {n : Int} (h : u x ≤ u (lowM (bN n))) : lowB x (bN n) = x := by
  apply u_inj
  rw [u_lowB]
  rw [u_lowM _ (pow_bN n)] at h
  have := u_bd x
  exact Int.emod_eq_of_lt this.1 (by omega)
theorem put_has {v m x : B64} (h : hasB v m x = true) : (allK.put v m).has x = true := by
  have hx := u_bd x
  have hs := s_bd x
  rw [has_iff]
  have e1 : u (allK.put v m).a = 0 := rfl
  have e2 : u (allK.put v m).b = 18446744073709551615 := u_full
  have e3 : s (allK.put v m).c = -9223372036854775808 := s_half
  have e4 : s (allK.put v m).d = 9223372036854775807 := s_most
  rw [e1, e2, e3, e4]
  exact ⟨h, hx.1, hx.2, hs.1, hs.2⟩
theorem has_lows {k : K} {x : B64} (n : Int) (h : k.has x = true) : (k.lows n).has (lowB x (bN n)) = true := by
  have g := (has_iff k x).1 h
  have hc := sound_cut k.v k.m x (bN n)
  rw [in_self g.1] at hc
  rw [K.lows, has_inU]
  refine ⟨put_has hc, ?_⟩
  cases hf : k.fits n
  · rw [if_neg Bool.false_ne_true, if_neg Bool.false_ne_true]
    exact ⟨(u_bd _).1, low_le x n⟩
  · rw [if_pos rfl, if_pos rfl]
    unfold K.fits at hf
    rw [decide_eq_true_eq] at hf
    rw [low_self (by omega)]
    exact ⟨g.2.1, g.2.2.1⟩
theorem low_64 (x : B64) : lowB x 64 = x := by
  apply u_inj
  rw [u_lowB]
  have := u_bd x
  have e : (2 : Int) ^ 64 = 18446744073709551616 := by decide
  rw [e]
  omega
theorem has_cut {k : K} {x : B64} (n : Int) (h : k.has x = true) : (k.cutK n).has (lowB x (bN n)) = true := by
  unfold K.cutK
  by_cases hn : n = 1 ∨ n = 2 ∨ n = 4
  · rw [if_pos hn]
    have hl := has_lows n h
    exact (has_fine _ (has_okF hl)).2 hl
  · rw [if_neg hn]
    have : bN n = 64 := by
      unfold bN
      rw [if_neg (by omega), if_neg (by omega), if_neg (by omega)]
    rw [this, low_64]
    exact h
end Go.Proofs.Ytogadmlnmcojpaa
