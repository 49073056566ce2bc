/-
  Proved here: of numbers that patterns have, the results are numbers that the computed patterns have. No Go text is spoken of. Conditions: none.
-/
import Derived.Test.YtbljijbmjccalaaPatBv
namespace Go.Proofs.Ytbljijbmjccalaa
open Go.RowKit

/-- A number that a pattern has. -/
def inP (v m x : B64) : B64 := (x &&& m) ||| (v &&& ~~~m)
theorem inP_bit (v m x : B64) (i : Nat) (hi : i < 64) : (inP v m x).getLsbD i = (if m.getLsbD i = true then x.getLsbD i else v.getLsbD i) := by
  unfold inP
  rw [BitVec.getLsbD_or, BitVec.getLsbD_and, BitVec.getLsbD_and, BitVec.getLsbD_not]
  simp only [hi, decide_true, Bool.true_and]
  cases m.getLsbD i <;> cases x.getLsbD i <;> cases v.getLsbD i <;> rfl
theorem inP_has (v m x : B64) : hasB v m (inP v m x) = true := by
  unfold hasB
  rw [decide_eq_true_eq, pv_eq]
  intro i hi hm
  rw [inP_bit _ _ _ _ hi, hm]
  rfl
/-- More bits, more carries. -/
theorem carry_le (x y x' y' : B64) (c c' : Bool) (hx : ∀ i, i < 64 → x.getLsbD i = true → x'.getLsbD i = true) (hy : ∀ i, i < 64 → y.getLsbD i = true → y'.getLsbD i = true) (hc : c = true → c' = true) :
    ∀ i, i ≤ 64 → BitVec.carry i x y c = true → BitVec.carry i x' y' c' = true
  | 0, _ => by simpa using hc
  | i + 1, h => by
    rw [BitVec.carry_succ, BitVec.carry_succ]
    have ih := carry_le x y x' y' c c' hx hy hc i (by omega)
    have h1 := hx i (by omega)
    have h2 := hy i (by omega)
    revert ih h1 h2
    cases x.getLsbD i <;> cases y.getLsbD i <;> cases x'.getLsbD i <;> cases y'.getLsbD i <;> cases BitVec.carry i x y c <;> cases BitVec.carry i x' y' c' <;> decide
theorem has_of (M V L r : B64) (hV : V = L &&& ~~~M) (h : ∀ i, i < 64 → M.getLsbD i = false → r.getLsbD i = L.getLsbD i) : hasB V M r = true := by
  subst hV
  unfold hasB
  rw [decide_eq_true_eq, pv_eq]
  intro i hi hm
  rw [h i hi hm, BitVec.getLsbD_and, BitVec.getLsbD_not, hm]
  simp [hi]
variable (va ma vb mb x y : B64)
theorem in_lo (v m x : B64) (i : Nat) (hi : i < 64) : (pv v m).getLsbD i = true → (inP v m x).getLsbD i = true := by
  rw [pv_bit _ _ _ hi, inP_bit _ _ _ _ hi]
  cases m.getLsbD i <;> cases v.getLsbD i <;> simp
theorem in_hi (v m x : B64) (i : Nat) (hi : i < 64) : (inP v m x).getLsbD i = true → (pv v m ||| m).getLsbD i = true := by
  rw [BitVec.getLsbD_or, pv_bit _ _ _ hi, inP_bit _ _ _ _ hi]
  cases m.getLsbD i <;> cases v.getLsbD i <;> simp
theorem not_lo {p q : Bool} (h : p = true → q = true) : (!q) = true → (!p) = true := by
  cases p <;> cases q <;> simp_all
theorem not_bit (x : B64) (i : Nat) (hi : i < 64) : (~~~x).getLsbD i = !x.getLsbD i := by
  rw [BitVec.getLsbD_not]; simp [hi]
theorem sound_add : hasB (twoV 0 va ma vb mb) (twoM 0 va ma vb mb) (inP va ma x + inP vb mb y) = true := by
  refine has_of _ _ (addL va ma vb mb) _ rfl fun i hi hM => ?_
  have hL : (addL va ma vb mb).getLsbD i = ((pv va ma).getLsbD i ^^ ((pv vb mb).getLsbD i ^^ clA va ma vb mb i)) := by
    unfold addL; rw [BitVec.getLsbD_add hi]; rfl
  have hG : (addG va ma vb mb).getLsbD i = ((pv va ma ||| ma).getLsbD i ^^ ((pv vb mb ||| mb).getLsbD i ^^ cgA va ma vb mb i)) := by
    rw [addG_eq, BitVec.getLsbD_add hi]; rfl
  have h1 := carry_le _ _ _ _ false false (fun i hi => in_lo va ma x i hi) (fun i hi => in_lo vb mb y i hi) (fun h => h) i (by omega)
  have h2 := carry_le _ _ _ _ false false (fun i hi => in_hi va ma x i hi) (fun i hi => in_hi vb mb y i hi) (fun h => h) i (by omega)
  have hM' : (ma.getLsbD i || mb.getLsbD i || ((addL va ma vb mb).getLsbD i ^^ (addG va ma vb mb).getLsbD i)) = false := by
    rw [← hM]; simp only [twoM, addM, BitVec.getLsbD_or, BitVec.getLsbD_xor]
  rw [BitVec.getLsbD_add hi, hL]
  rw [hL, hG] at hM'
  unfold clA cgA at *
  rw [BitVec.getLsbD_or, BitVec.getLsbD_or] at hM'
  rw [pv_bit _ _ _ hi, pv_bit _ _ _ hi] at hM' ⊢
  rw [inP_bit _ _ _ _ hi, inP_bit _ _ _ _ hi]
  revert h1 h2 hM'
  generalize BitVec.carry i (pv va ma) (pv vb mb) false = cl
  generalize BitVec.carry i (pv va ma ||| ma) (pv vb mb ||| mb) false = cg
  generalize BitVec.carry i (inP va ma x) (inP vb mb y) false = c
  cases ma.getLsbD i <;> cases mb.getLsbD i <;> cases va.getLsbD i <;> cases vb.getLsbD i <;> cases cl <;> cases cg <;> cases c <;> simp
theorem sound_sub : hasB (twoV 1 va ma vb mb) (twoM 1 va ma vb mb) (inP va ma x - inP vb mb y) = true := by
  refine has_of _ _ (subL va ma vb mb) _ rfl fun i hi hM => ?_
  have hL : (subL va ma vb mb).getLsbD i = ((pv va ma).getLsbD i ^^ (!(pv vb mb ||| mb).getLsbD i ^^ clS va ma vb mb i)) := by
    unfold subL; rw [pv_or, sub_bit _ _ _ hi]; rfl
  have hG : (subG va ma vb mb).getLsbD i = ((pv va ma ||| ma).getLsbD i ^^ (!(pv vb mb).getLsbD i ^^ cgS va ma vb mb i)) := by
    unfold subG; rw [pv_or, sub_bit _ _ _ hi]; rfl
  have h1 := carry_le _ (~~~(pv vb mb ||| mb)) _ (~~~inP vb mb y) true true (fun i hi => in_lo va ma x i hi) (fun i hi => by rw [not_bit _ _ hi, not_bit _ _ hi]; exact not_lo (in_hi vb mb y i hi)) (fun h => h) i (by omega)
  have h2 := carry_le _ (~~~inP vb mb y) _ (~~~pv vb mb) true true (fun i hi => in_hi va ma x i hi) (fun i hi => by rw [not_bit _ _ hi, not_bit _ _ hi]; exact not_lo (in_lo vb mb y i hi)) (fun h => h) i (by omega)
  have hM' : (ma.getLsbD i || mb.getLsbD i || ((subL va ma vb mb).getLsbD i ^^ (subG va ma vb mb).getLsbD i)) = false := by
    rw [← hM]; simp only [twoM, subM, BitVec.getLsbD_or, BitVec.getLsbD_xor]
  rw [sub_bit _ _ _ hi, hL]
  rw [hL, hG] at hM'
  unfold clS cgS at *
  rw [BitVec.getLsbD_or, BitVec.getLsbD_or] at hM'
  rw [BitVec.getLsbD_or]
  rw [pv_bit _ _ _ hi, pv_bit _ _ _ hi] at hM' ⊢
  rw [inP_bit _ _ _ _ hi, inP_bit _ _ _ _ hi]
  revert h1 h2 hM'
  generalize BitVec.carry i (pv va ma) (~~~(pv vb mb ||| mb)) true = cl
  generalize BitVec.carry i (pv va ma ||| ma) (~~~pv vb mb) true = cg
  generalize BitVec.carry i (inP va ma x) (~~~inP vb mb y) true = c
  cases ma.getLsbD i <;> cases mb.getLsbD i <;> cases va.getLsbD i <;> cases vb.getLsbD i <;> cases cl <;> cases cg <;> cases c <;> simp
theorem sound_and : hasB (twoV 2 va ma vb mb) (twoM 2 va ma vb mb) (inP va ma x &&& inP vb mb y) = true := by
  refine has_of _ _ (andL va ma vb mb) _ rfl fun i hi hM => ?_
  revert hM
  simp only [twoM, andM, andL, BitVec.getLsbD_and, BitVec.getLsbD_or, BitVec.getLsbD_xor, pv_bit _ _ _ hi, inP_bit _ _ _ _ hi]
  cases ma.getLsbD i <;> cases mb.getLsbD i <;> cases va.getLsbD i <;> cases vb.getLsbD i <;> simp
theorem sound_or : hasB (twoV 3 va ma vb mb) (twoM 3 va ma vb mb) (inP va ma x ||| inP vb mb y) = true := by
  refine has_of _ _ (orL va ma vb mb) _ rfl fun i hi hM => ?_
  revert hM
  simp only [twoM, orM, orL, BitVec.getLsbD_or, BitVec.getLsbD_xor, pv_bit _ _ _ hi, inP_bit _ _ _ _ hi]
  cases ma.getLsbD i <;> cases mb.getLsbD i <;> cases va.getLsbD i <;> cases vb.getLsbD i <;> simp
theorem sound_xor : hasB (twoV 4 va ma vb mb) (twoM 4 va ma vb mb) (inP va ma x ^^^ inP vb mb y) = true := by
  refine has_of _ _ (va ^^^ vb) _ rfl fun i hi hM => ?_
  revert hM
  simp only [twoM, BitVec.getLsbD_or, BitVec.getLsbD_xor, inP_bit _ _ _ _ hi]
  cases ma.getLsbD i <;> cases mb.getLsbD i <;> cases va.getLsbD i <;> cases vb.getLsbD i <;> simp
theorem sound_shift (kind : Nat) (k : Nat) : hasB (pv (shX kind va k) (shX kind ma k)) (shX kind ma k) (shX kind (inP va ma x) k) = true := by
  refine has_of _ _ (shX kind va k) _ rfl fun i hi hM => ?_
  revert hM
  rw [sh_bit _ _ _ _ hi, sh_bit _ _ _ _ hi, sh_bit _ _ _ _ hi]
  by_cases h0 : kind = 0
  · simp only [h0, if_true]
    by_cases h : k ≤ i
    · simp only [h, if_true]
      rw [inP_bit _ _ _ _ (by omega)]
      intro hM; rw [hM]; rfl
    · simp only [h, if_false]; intro _; trivial
  · simp only [h0, if_false]
    by_cases h : i + k < 64
    · simp only [h, if_true]
      rw [inP_bit _ _ _ _ (by omega)]
      intro hM; rw [hM]; rfl
    · simp only [h, if_false]
      by_cases h1 : kind = 1
      · simp only [h1, if_true]; intro _; trivial
      · simp only [h1, if_false]
        rw [inP_bit _ _ _ _ (by omega)]
        intro hM; rw [hM]; rfl
theorem sound_cut (b : Nat) : hasB (pv (lowB va b) (lowB ma b)) (lowB ma b) (lowB (inP va ma x) b) = true := by
  refine has_of _ _ (lowB va b) _ rfl fun i hi hM => ?_
  revert hM
  rw [low_bit _ _ _ hi, low_bit _ _ _ hi, low_bit _ _ _ hi, inP_bit _ _ _ _ hi]
  by_cases h : i < b
  · simp only [h, decide_true, Bool.true_and]
    intro hM; rw [hM]; rfl
  · simp only [h, decide_false, Bool.false_and]; intro _; trivial
end Go.Proofs.Ytbljijbmjccalaa
