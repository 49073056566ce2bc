/-
  Proved here: numbers that are had, of which a condition holds, or doesn't, are had behind its way. No Go text is spoken of. Conditions: none.
-/
import Derived.Test.YtbljijbmjccalaaWayBv
import Derived.Lib.Hide
namespace Go.Proofs.Ytbljijbmjccalaa
open Go.RowKit

theorem has_upA (k : K) (z p : B64) : (k.upA z).has p = true ↔ k.has p = true ∧ u z ≤ u p := by
  rw [has_iff, has_iff]
  unfold K.upA
  simp only [maxU_le]
  constructor
  · rintro ⟨h1, ⟨h2, h3⟩, h4⟩; exact ⟨⟨h1, h2, h4⟩, h3⟩
  · rintro ⟨⟨h1, h2, h4⟩, h3⟩; exact ⟨h1, ⟨h2, h3⟩, h4⟩
theorem has_dnB (k : K) (z p : B64) : (k.dnB z).has p = true ↔ k.has p = true ∧ u p ≤ u z := by
  rw [has_iff, has_iff]
  unfold K.dnB
  simp only [le_minU]
  constructor
  · rintro ⟨h1, h2, ⟨h3, h4⟩, h5⟩; exact ⟨⟨h1, h2, h3, h5⟩, h4⟩
  · rintro ⟨⟨h1, h2, h3, h5⟩, h4⟩; exact ⟨h1, h2, ⟨h3, h4⟩, h5⟩
theorem has_upC (k : K) (z p : B64) : (k.upC z).has p = true ↔ k.has p = true ∧ s z ≤ s p := by
  rw [has_iff, has_iff]
  unfold K.upC
  simp only [maxS_le]
  constructor
  · rintro ⟨h1, h2, h3, ⟨h4, h5⟩, h6⟩; exact ⟨⟨h1, h2, h3, h4, h6⟩, h5⟩
  · rintro ⟨⟨h1, h2, h3, h4, h6⟩, h5⟩; exact ⟨h1, h2, h3, ⟨h4, h5⟩, h6⟩
theorem has_dnD (k : K) (z p : B64) : (k.dnD z).has p = true ↔ k.has p = true ∧ s p ≤ s z := by
  rw [has_iff, has_iff]
  unfold K.dnD
  simp only [le_minS]
  constructor
  · rintro ⟨h1, h2, h3, h4, h5, h6⟩; exact ⟨⟨h1, h2, h3, h4, h5⟩, h6⟩
  · rintro ⟨⟨h1, h2, h3, h4, h5⟩, h6⟩; exact ⟨h1, h2, h3, h4, h5, h6⟩
/-- Both are had behind it, and it can be gone. -/
def Tw.keeps (t : Tw) (p q : B64) : Prop := t.ok = true ∧ t.x.has p = true ∧ t.y.has q = true
theorem swap_keeps {t : Tw} {p q : B64} (h : t.keeps p q) : (swapT t).keeps q p := ⟨h.1, h.2.2, h.2.1⟩
theorem s_add1 {x : B64} (h : s x < 9223372036854775807) : s (x + 1#64) = s x + 1 := by
  have := s_bd x
  rw [← s_inc, wrap_s]
  omega
theorem s_sub1 {x : B64} (h : -9223372036854775808 < s x) : s (x - 1#64) = s x - 1 := by
  have := s_bd x
  rw [← s_less, wrap_s]
  omega
section
variable {x y : K} {p q : B64} (hp : x.has p = true) (hq : y.has q = true)
include hp hq
theorem same_keeps (h : p = q) : (sameT x y).keeps p q := by
  subst h
  obtain ⟨h1, h2⟩ := has_both hp hq
  exact ⟨h1, h2, h2⟩
theorem level_keeps (h : u q ≤ u p) : (levelT x y).keeps p q := by
  have gp := (has_iff _ _).1 hp
  have gq := (has_iff _ _).1 hq
  exact ⟨rfl, (has_upA _ _ _).2 ⟨hp, by omega⟩, (has_dnB _ _ _).2 ⟨hq, by omega⟩⟩
theorem levelS_keeps (h : s q ≤ s p) : (levelST x y).keeps p q := by
  have gp := (has_iff _ _).1 hp
  have gq := (has_iff _ _).1 hq
  exact ⟨rfl, (has_upC _ _ _).2 ⟨hp, by omega⟩, (has_dnD _ _ _).2 ⟨hq, by omega⟩⟩
theorem above_keeps (h : u q < u p) : (aboveT x y).keeps p q := by
  have gp := (has_iff _ _).1 hp
  have gq := (has_iff _ _).1 hq
  have b1 := u_bd p
  have b2 := u_bd q
  unfold aboveT
  rw [if_neg (by omega)]
  refine ⟨rfl, (has_upA _ _ _).2 ⟨hp, ?_⟩, (has_dnB _ _ _).2 ⟨hq, ?_⟩⟩
  · rw [u_add1 (by omega)]; omega
  · rw [u_sub1 (by omega)]; omega
theorem aboveS_keeps (h : s q < s p) : (aboveST x y).keeps p q := by
  have gp := (has_iff _ _).1 hp
  have gq := (has_iff _ _).1 hq
  have b1 := s_bd p
  have b2 := s_bd q
  unfold aboveST
  rw [if_neg (by omega)]
  refine ⟨rfl, (has_upC _ _ _).2 ⟨hp, ?_⟩, (has_dnD _ _ _).2 ⟨hq, ?_⟩⟩
  · rw [s_add1 (by omega)]; omega
  · rw [s_sub1 (by omega)]; omega
end
theorem wo_keeps {k : K} {z p : B64} (hp : k.has p = true) (h : p ≠ z) : (k.wo z).has p = true := by
  have gp := (has_iff _ _).1 hp
  have hu : u p ≠ u z := fun e => h (u_inj e)
  have hs : s p ≠ s z := fun e => h (s_inj e)
  have hpu := u_bd p
  have hps := s_bd p
  rw [has_iff]
  show hasB k.v k.m p = true ∧ u (if u k.a = u z ∧ u z < 18446744073709551615 then k.a + 1#64 else k.a) ≤ u p ∧ u p ≤ u (if u k.b = u z ∧ 0 < u z then k.b - 1#64 else k.b) ∧
    s (if s k.c = s z ∧ s z < 9223372036854775807 then k.c + 1#64 else k.c) ≤ s p ∧ s p ≤ s (if s k.d = s z ∧ -9223372036854775808 < s z then k.d - 1#64 else k.d)
  refine ⟨gp.1, ?_, ?_, ?_, ?_⟩
  · split
    · rw [u_add1 (by omega)]; omega
    · omega
  · split
    · rw [u_sub1 (by omega)]; omega
    · omega
  · split
    · rw [s_add1 (by omega)]; omega
    · omega
  · split
    · rw [s_sub1 (by omega)]; omega
    · omega
theorem has_const {k : K} {p : B64} (hp : k.has p = true) (h : u k.m = 0) : p = k.v := by
  have hm : k.m = 0#64 := u_inj (by rw [h]; rfl)
  have gp := ((has_iff _ _).1 hp).1
  have h0 : (~~~0#64 : B64) = BitVec.allOnes 64 := by decide
  unfold hasB pv at gp
  rw [decide_eq_true_eq, hm, h0, BitVec.and_allOnes, BitVec.and_allOnes] at gp
  exact gp
theorem diff_keeps {x y : K} {p q : B64} (hp : x.has p = true) (hq : y.has q = true) (h : p ≠ q) : (diffT x y).keeps p q := by
  refine ⟨rfl, ?_, ?_⟩
  · show (if u y.m = 0 then x.wo y.v else x).has p = true
    split
    · rename_i hm
      exact wo_keeps hp (by rw [← has_const hq hm]; exact h)
    · exact hp
  · show (if u x.m = 0 then y.wo x.v else y).has q = true
    split
    · rename_i hm
      exact wo_keeps hq (by rw [← has_const hp hm]; exact h.symm)
    · exact hq
theorem met_keeps {x y : K} {p q : B64} (hp : x.has p = true) (hq : y.has q = true) {v m : B64} (h : hasB v m p = true) : (metT x y v m).keeps p q := by
  have gp := (has_iff _ _).1 hp
  have hm : mtOk x.v x.m v m = true := by
    cases e : mtOk x.v x.m v m
    · have := mt_none _ _ _ _ p e
      rw [gp.1, h] at this
      cases this
    · rfl
  refine ⟨hm, ?_, hq⟩
  have e : x.put (mV x.v x.m v m) (mM x.v x.m v m) = x.met v m := by
    unfold K.put K.met mV mM
    rw [if_pos hm, if_pos hm]
  show (x.put (mV x.v x.m v m) (mM x.v x.m v m)).has p = true
  rw [e, has_met _ _ _ _ hm]
  exact ⟨hp, h⟩
theorem apart_keeps {x y : K} {p q : B64} (hp : x.has p = true) (hq : y.has q = true) (h : p &&& q = 0#64) : (apartT x y).keeps p q := by
  unfold apartT
  split
  · rename_i hm
    refine met_keeps hp hq ?_
    have e := has_const hq hm
    unfold hasB pv
    rw [← e, decide_eq_true_eq]
    simp [h]
  · exact ⟨rfl, hp, hq⟩
theorem dsum_0 : ∀ k n, n < 2 ^ k → dsum 2 k n = 0 → n = 0
  | 0, n, h, _ => by simpa using h
  | k + 1, n, h, e => by
    have e' : n % 2 + dsum 2 k (n / 2) = 0 := e
    rw [Nat.pow_succ] at h
    have := dsum_0 k (n / 2) (by omega) (by omega)
    omega
theorem dsum_1 : ∀ k n, n < 2 ^ k → dsum 2 k n = 1 → ∃ i, i < k ∧ n = 2 ^ i
  | 0, n, h, e => by cases e
  | k + 1, n, h, e => by
    have e' : n % 2 + dsum 2 k (n / 2) = 1 := e
    rw [Nat.pow_succ] at h
    by_cases h1 : n % 2 = 1
    · have := dsum_0 k (n / 2) (by omega) (by omega)
      exact ⟨0, by omega, by simp; omega⟩
    · obtain ⟨i, hi, hn⟩ := dsum_1 k (n / 2) (by omega) (by omega)
      exact ⟨i + 1, by omega, by rw [Nat.pow_succ, ← hn]; omega⟩
theorem one_bit {q : B64} (h : ones q.toNat = 1) : ∃ i, i < 64 ∧ q = BitVec.twoPow 64 i := by
  obtain ⟨i, hi, hq⟩ := dsum_1 64 q.toNat q.isLt h
  refine ⟨i, hi, BitVec.eq_of_toNat_eq ?_⟩
  rw [hq, BitVec.toNat_twoPow, Nat.mod_eq_of_lt (Nat.pow_lt_pow_right (by decide) hi)]
theorem and_one_bit {p q : B64} (h : ones q.toNat = 1) (hne : p &&& q ≠ 0#64) : p &&& q = q := by
  obtain ⟨i, hi, rfl⟩ := one_bit h
  rw [BitVec.and_twoPow] at hne ⊢
  split
  · rfl
  · rename_i hb
    rw [if_neg hb] at hne
    exact absurd rfl hne
theorem common_keeps {x y : K} {p q : B64} (hp : x.has p = true) (hq : y.has q = true) (h : p &&& q ≠ 0#64) : (commonT x y).keeps p q := by
  unfold commonT
  split
  · rename_i hm
    refine met_keeps hp hq ?_
    have e := has_const hq hm.1
    unfold hasB pv
    rw [← e, decide_eq_true_eq]
    rw [← e] at hm
    simp only [BitVec.not_not, BitVec.and_self]
    exact and_one_bit hm.2 h
  · exact ⟨rfl, hp, hq⟩

/-- Does it hold of two numbers of 64 bits? -/
def holdK (op : Int) (p q : B64) : Bool :=
  if op = 16 then decide (p = q) else if op = 80 then !decide (p = q) else if op = 32 then decide (u q < u p) else if op = 48 then decide (u q ≤ u p) else if op = 160 then decide (u p < u q) else if op = 176 then decide (u p ≤ u q)
  else if op = 64 then !decide (p &&& q = 0#64) else if op = 96 then decide (s q < s p) else if op = 112 then decide (s q ≤ s p) else if op = 192 then decide (s p < s q) else decide (s p ≤ s q)
theorem rule_keeps {op : Int} {hs : Bool} {x y : K} {p q : B64} (ho : isCond op = true) (hp : x.has p = true) (hq : y.has q = true) (hh : holdK op p q = hs) : (ruleT op hs x y).keeps p q := by
  simp only [isCond, Bool.or_eq_true, beq_iff_eq, or_assoc] at ho
  subst hh
  obtain rfl | rfl | rfl | rfl | rfl | rfl | rfl | rfl | rfl | rfl | rfl := ho
  · show (if decide (p = q) = true then sameT x y else diffT x y).keeps p q
    by_cases h : p = q
    · rw [if_pos (by simpa using h)]; exact same_keeps hp hq h
    · rw [if_neg (by simpa using h)]; exact diff_keeps hp hq h
  · show (if (!decide (p = q)) = true then diffT x y else sameT x y).keeps p q
    by_cases h : p = q
    · rw [if_neg (by simpa using h)]; exact same_keeps hp hq h
    · rw [if_pos (by simpa using h)]; exact diff_keeps hp hq h
  · show (if decide (u q < u p) = true then aboveT x y else swapT (levelT y x)).keeps p q
    by_cases h : u q < u p
    · rw [if_pos (by simpa using h)]; exact above_keeps hp hq h
    · rw [if_neg (by simpa using h)]; exact swap_keeps (level_keeps hq hp (by omega))
  · show (if decide (u q ≤ u p) = true then levelT x y else swapT (aboveT y x)).keeps p q
    by_cases h : u q ≤ u p
    · rw [if_pos (by simpa using h)]; exact level_keeps hp hq h
    · rw [if_neg (by simpa using h)]; exact swap_keeps (above_keeps hq hp (by omega))
  · show (if decide (u p < u q) = true then swapT (aboveT y x) else levelT x y).keeps p q
    by_cases h : u p < u q
    · rw [if_pos (by simpa using h)]; exact swap_keeps (above_keeps hq hp h)
    · rw [if_neg (by simpa using h)]; exact level_keeps hp hq (by omega)
  · show (if decide (u p ≤ u q) = true then swapT (levelT y x) else aboveT x y).keeps p q
    by_cases h : u p ≤ u q
    · rw [if_pos (by simpa using h)]; exact swap_keeps (level_keeps hq hp h)
    · rw [if_neg (by simpa using h)]; exact above_keeps hp hq (by omega)
  · show (if (!decide (p &&& q = 0#64)) = true then commonT x y else apartT x y).keeps p q
    by_cases h : p &&& q = 0#64
    · rw [if_neg (by simpa using h)]; exact apart_keeps hp hq h
    · rw [if_pos (by simpa using h)]; exact common_keeps hp hq h
  · show (if decide (s q < s p) = true then aboveST x y else swapT (levelST y x)).keeps p q
    by_cases h : s q < s p
    · rw [if_pos (by simpa using h)]; exact aboveS_keeps hp hq h
    · rw [if_neg (by simpa using h)]; exact swap_keeps (levelS_keeps hq hp (by omega))
  · show (if decide (s q ≤ s p) = true then levelST x y else swapT (aboveST y x)).keeps p q
    by_cases h : s q ≤ s p
    · rw [if_pos (by simpa using h)]; exact levelS_keeps hp hq h
    · rw [if_neg (by simpa using h)]; exact swap_keeps (aboveS_keeps hq hp (by omega))
  · show (if decide (s p < s q) = true then swapT (aboveST y x) else levelST x y).keeps p q
    by_cases h : s p < s q
    · rw [if_pos (by simpa using h)]; exact swap_keeps (aboveS_keeps hq hp h)
    · rw [if_neg (by simpa using h)]; exact levelS_keeps hp hq (by omega)
  · show (if decide (s p ≤ s q) = true then swapT (levelST y x) else aboveST x y).keeps p q
    by_cases h : s p ≤ s q
    · rw [if_pos (by simpa using h)]; exact swap_keeps (levelS_keeps hq hp h)
    · rw [if_neg (by simpa using h)]; exact aboveS_keeps hp hq (by omega)
theorem good_of {t : Tw} {p q : B64} (h : t.keeps p q) : t.good = true ∧ t.x.fine.has p = true ∧ t.y.fine.has q = true := by
  obtain ⟨h1, h2, h3⟩ := h
  have o1 := has_okF h2
  have o2 := has_okF h3
  refine ⟨by unfold Tw.good; rw [h1, o1, o2]; rfl, (has_fine p o1).2 h2, (has_fine q o2).2 h3⟩

/-! ### What holds of low bytes -/
theorem sgI_8 (p : B64) : sgI (u p) 8 = s p := by
  unfold sgI
  show wrap64 (u p) = s p
  rw [← IntWalk.i64_left, s_conv]
theorem zx_low {p : B64} (h : u p ≤ 4294967295) : zx (u p) 4 = u p := by
  have := u_bd p
  rw [zx_4]
  omega
theorem cond_16 (a b n : Int) : condI 16 a b n = (a == b) := rfl
theorem hold_16 (p q : B64) : holdK 16 p q = (decide (p = q)) := rfl
theorem cond_80 (a b n : Int) : condI 80 a b n = (a != b) := rfl
theorem hold_80 (p q : B64) : holdK 80 p q = (!decide (p = q)) := rfl
theorem cond_32 (a b n : Int) : condI 32 a b n = (decide (b < a)) := rfl
theorem hold_32 (p q : B64) : holdK 32 p q = (decide (u q < u p)) := rfl
theorem cond_48 (a b n : Int) : condI 48 a b n = (decide (b ≤ a)) := rfl
theorem hold_48 (p q : B64) : holdK 48 p q = (decide (u q ≤ u p)) := rfl
theorem cond_160 (a b n : Int) : condI 160 a b n = (decide (a < b)) := rfl
theorem hold_160 (p q : B64) : holdK 160 p q = (decide (u p < u q)) := rfl
theorem cond_176 (a b n : Int) : condI 176 a b n = (decide (a ≤ b)) := rfl
theorem hold_176 (p q : B64) : holdK 176 p q = (decide (u p ≤ u q)) := rfl
theorem cond_64 (a b n : Int) : condI 64 a b n = (bits .and .u64 a b != 0) := rfl
theorem hold_64 (p q : B64) : holdK 64 p q = (!decide (p &&& q = 0#64)) := rfl
theorem cond_96 (a b n : Int) : condI 96 a b n = (decide (sgI b n < sgI a n)) := rfl
theorem hold_96 (p q : B64) : holdK 96 p q = (decide (s q < s p)) := rfl
theorem cond_112 (a b n : Int) : condI 112 a b n = (decide (sgI b n ≤ sgI a n)) := rfl
theorem hold_112 (p q : B64) : holdK 112 p q = (decide (s q ≤ s p)) := rfl
theorem cond_192 (a b n : Int) : condI 192 a b n = (decide (sgI a n < sgI b n)) := rfl
theorem hold_192 (p q : B64) : holdK 192 p q = (decide (s p < s q)) := rfl
theorem cond_208 (a b n : Int) : condI 208 a b n = (decide (sgI a n ≤ sgI b n)) := rfl
theorem hold_208 (p q : B64) : holdK 208 p q = (decide (s p ≤ s q)) := rfl
theorem cond_wide {op : Int} (ho : isCond op = true) (p q : B64) : condI op (u p) (u q) 8 = holdK op p q := by
  simp only [isCond, Bool.or_eq_true, beq_iff_eq, or_assoc] at ho
  have e0 : u 0#64 = 0 := rfl
  obtain rfl | rfl | rfl | rfl | rfl | rfl | rfl | rfl | rfl | rfl | rfl := ho
  · rw [cond_16, hold_16, Bool.eq_iff_iff]; simp [u_iff]
  · rw [cond_80, hold_80, Bool.eq_iff_iff]; simp [u_iff]
  · rw [cond_32, hold_32]
  · rw [cond_48, hold_48]
  · rw [cond_160, hold_160]
  · rw [cond_176, hold_176]
  · rw [cond_64, hold_64, u_and, ← e0, Bool.eq_iff_iff]; simp [u_iff]
  · rw [cond_96, hold_96, sgI_8, sgI_8]
  · rw [cond_112, hold_112, sgI_8, sgI_8]
  · rw [cond_192, hold_192, sgI_8, sgI_8]
  · rw [cond_208, hold_208, sgI_8, sgI_8]
theorem cond_low {op : Int} (hs : isSig op = false) (a b : Int) : condI op a b 4 = condI op a b 8 := by
  simp only [isSig, Bool.or_eq_false_iff, beq_eq_false_iff_ne, ne_eq, and_assoc] at hs
  obtain ⟨g1, g2, g3, g4⟩ := hs
  unfold condI
  simp only [g1, g2, g3, g4, if_false]
theorem hold_tells {op : Int} {wide : Bool} {x y : K} {p q : B64} (ho : isCond op = true) (hp : x.has p = true) (hq : y.has q = true) (ht : tells op wide x y = true) : holdI op wide (u p) (u q) = holdK op p q := by
  have gp := (has_iff _ _).1 hp
  have gq := (has_iff _ _).1 hq
  rw [← cond_wide ho]
  unfold holdI
  cases wide
  · unfold tells lowK at ht
    rw [ho] at ht
    simp only [Bool.true_and, Bool.false_or, Bool.and_eq_true, Bool.not_eq_true', decide_eq_true_eq] at ht
    show condI op (zx (u p) 4) (zx (u q) 4) 4 = _
    rw [zx_low (by omega), zx_low (by omega), cond_low ht.1]
  · rfl
end Go.Proofs.Ytbljijbmjccalaa
