/-
  Proved here: what two patterns tell together, bit by bit with all carries that may come, is what package tnum computes in words. No Go text is spoken of. Conditions: none.
-/
import Derived.Test.YtbljijbmjccalaaBv
namespace Go.Proofs.Ytbljijbmjccalaa
open Go.RowKit

/-! ### What package tnum computes -/
def pv (v m : B64) : B64 := v &&& ~~~m
def addL (va ma vb mb : B64) : B64 := pv va ma + pv vb mb
def addG (va ma vb mb : B64) : B64 := addL va ma vb mb + ma + mb
def addM (va ma vb mb : B64) : B64 := ma ||| mb ||| (addL va ma vb mb ^^^ addG va ma vb mb)
def subL (va ma vb mb : B64) : B64 := pv va ma - (pv vb mb + mb)
def subG (va ma vb mb : B64) : B64 := pv va ma + ma - pv vb mb
def subM (va ma vb mb : B64) : B64 := ma ||| mb ||| (subL va ma vb mb ^^^ subG va ma vb mb)
def andL (va ma vb mb : B64) : B64 := pv va ma &&& pv vb mb
def andM (va ma vb mb : B64) : B64 := andL va ma vb mb ^^^ ((pv va ma ||| ma) &&& (pv vb mb ||| mb))
def orL (va ma vb mb : B64) : B64 := pv va ma ||| pv vb mb
def orM (va ma vb mb : B64) : B64 := orL va ma vb mb ^^^ (orL va ma vb mb ||| ma ||| mb)
/-- Value and Mask of what two tell together: 0 sums, 1 differences, 2 and, 3 or, 4 xor. -/
def twoM (kind : Nat) (va ma vb mb : B64) : B64 := match kind with
  | 0 => addM va ma vb mb | 1 => subM va ma vb mb | 2 => andM va ma vb mb | 3 => orM va ma vb mb | _ => ma ||| mb
def twoL (kind : Nat) (va ma vb mb : B64) : B64 := match kind with
  | 0 => addL va ma vb mb | 1 => subL va ma vb mb | 2 => andL va ma vb mb | 3 => orL va ma vb mb | _ => va ^^^ vb
def twoV (kind : Nat) (va ma vb mb : B64) : B64 := twoL kind va ma vb mb &&& ~~~twoM kind va ma vb mb

/-! ### Bit by bit -/
/-- What has been found of one bit: may it be 0, may it be 1, may there be no carry, may there be one? -/
structure Acc where
  z : Bool
  o : Bool
  n0 : Bool
  n1 : Bool
/-- One bit's result of two bits and a carry: is it 1, is there a carry? -/
def bitOf (kind : Nat) (p q c : Bool) : Bool × Bool := match kind with
  | 0 => (p ^^ (q ^^ c), p && q || p && c || q && c)
  | 1 => (p ^^ (q ^^ c), !p && q || !p && c || q && c)
  | 2 => (p && q, false)
  | 3 => (p || q, false)
  | _ => (p ^^ q, false)
/-- One more choice of the bits. -/
def Acc.step (kind : Nat) (p q c act : Bool) (s : Acc) : Acc :=
  if act = true then
    ⟨s.z || !(bitOf kind p q c).1, s.o || (bitOf kind p q c).1, s.n0 || !(bitOf kind p q c).2, s.n1 || (bitOf kind p q c).2⟩
  else s
/-- Whether choice number j (four times p, twice q, c) may be. -/
def act (x y c : Bool × Bool) (p q r : Bool) : Bool := (if p = true then x.2 else x.1) && (if q = true then y.2 else y.1) && (if r = true then c.2 else c.1)
/-- What has been found behind the first j choices. -/
def tot (kind : Nat) (x y c : Bool × Bool) : Nat → Acc
  | 0 => ⟨false, false, false, false⟩
  | j + 1 => (tot kind x y c j).step kind (decide (4 ≤ j)) (decide (2 ≤ j % 4)) (decide (j % 2 = 1)) (act x y c (decide (4 ≤ j)) (decide (2 ≤ j % 4)) (decide (j % 2 = 1)))
/-- The carries that may come at bit i. -/
def crs (kind : Nat) (va ma vb mb : B64) : Nat → Bool × Bool
  | 0 => (true, false)
  | i + 1 => let t := tot kind (bz va ma i, bo va ma i) (bz vb mb i, bo vb mb i) (crs kind va ma vb mb i) 8; (t.n0, t.n1)
def totAt (kind : Nat) (va ma vb mb : B64) (i : Nat) : Acc := tot kind (bz va ma i, bo va ma i) (bz vb mb i, bo vb mb i) (crs kind va ma vb mb i) 8
theorem crs_succ (kind : Nat) (va ma vb mb : B64) (i : Nat) : crs kind va ma vb mb (i + 1) = ((totAt kind va ma vb mb i).n0, (totAt kind va ma vb mb i).n1) := rfl

theorem pv_bit (v m : B64) (i : Nat) (h : i < 64) : (pv v m).getLsbD i = (v.getLsbD i && !m.getLsbD i) := by
  unfold pv
  rw [BitVec.getLsbD_and, BitVec.getLsbD_not]
  simp [h]
theorem pv_or (v m : B64) : pv v m + m = pv v m ||| m := by
  apply BitVec.add_eq_or_of_and_eq_zero
  apply BitVec.eq_of_getLsbD_eq
  intro i hi
  rw [BitVec.getLsbD_and, pv_bit v m i hi]
  cases v.getLsbD i <;> cases m.getLsbD i <;> simp
theorem sub_as (x y : B64) : x - y = x + ~~~y + BitVec.setWidth 64 (BitVec.ofBool true) := by
  have e : BitVec.setWidth 64 (BitVec.ofBool true) = 1#64 := by decide
  rw [e, BitVec.sub_eq_add_neg, BitVec.neg_eq_not_add, BitVec.add_assoc]
theorem sub_bit (x y : B64) (i : Nat) (h : i < 64) : (x - y).getLsbD i = (x.getLsbD i ^^ (!y.getLsbD i ^^ BitVec.carry i x (~~~y) true)) := by
  rw [sub_as, BitVec.getLsbD_add_add_bool h, BitVec.getLsbD_not]
  simp [h]
theorem addG_eq (va ma vb mb : B64) : addG va ma vb mb = (pv va ma ||| ma) + (pv vb mb ||| mb) := by
  rw [← pv_or, ← pv_or]
  unfold addG addL
  ac_rfl

theorem tot_add : ∀ va ma vb mb l g : Bool, (l = true → g = true) →
    tot 0 (ma || !va, ma || va) (mb || !vb, mb || vb) (!l, g) 8 =
      ⟨!((va && !ma) ^^ ((vb && !mb) ^^ l)) || (ma || mb || (l ^^ g)), ((va && !ma) ^^ ((vb && !mb) ^^ l)) || (ma || mb || (l ^^ g)), !Bool.atLeastTwo (va && !ma) (vb && !mb) l, Bool.atLeastTwo ((va && !ma) || ma) ((vb && !mb) || mb) g⟩ ∧
      (Bool.atLeastTwo (va && !ma) (vb && !mb) l = true → Bool.atLeastTwo ((va && !ma) || ma) ((vb && !mb) || mb) g = true) := by
  intro va ma vb mb l g h
  cases va <;> cases ma <;> cases vb <;> cases mb <;> cases l <;> cases g <;> first | (exact absurd (h rfl) (by decide)) | exact ⟨rfl, by decide⟩
theorem tot_sub : ∀ va ma vb mb l g : Bool, (l = true → g = true) →
    tot 1 (ma || !va, ma || va) (mb || !vb, mb || vb) (g, !l) 8 =
      ⟨!((va && !ma) ^^ (!((vb && !mb) || mb) ^^ l)) || (ma || mb || (l ^^ g)), ((va && !ma) ^^ (!((vb && !mb) || mb) ^^ l)) || (ma || mb || (l ^^ g)), Bool.atLeastTwo ((va && !ma) || ma) (!(vb && !mb)) g, !Bool.atLeastTwo (va && !ma) (!((vb && !mb) || mb)) l⟩ ∧
      (Bool.atLeastTwo (va && !ma) (!((vb && !mb) || mb)) l = true → Bool.atLeastTwo ((va && !ma) || ma) (!(vb && !mb)) g = true) := by
  intro va ma vb mb l g h
  cases va <;> cases ma <;> cases vb <;> cases mb <;> cases l <;> cases g <;> first | (exact absurd (h rfl) (by decide)) | exact ⟨rfl, by decide⟩
theorem tot_and (va ma vb mb : Bool) : tot 2 (ma || !va, ma || va) (mb || !vb, mb || vb) (true, false) 8 =
    ⟨!((va && !ma) && (vb && !mb)), ((va && !ma) || ma) && ((vb && !mb) || mb), true, false⟩ := by
  cases va <;> cases ma <;> cases vb <;> cases mb <;> rfl
theorem tot_or (va ma vb mb : Bool) : tot 3 (ma || !va, ma || va) (mb || !vb, mb || vb) (true, false) 8 =
    ⟨!((va && !ma) || (vb && !mb)), (((va && !ma) || (vb && !mb)) || ma) || mb, true, false⟩ := by
  cases va <;> cases ma <;> cases vb <;> cases mb <;> rfl
theorem tot_xor (va ma vb mb : Bool) : tot 4 (ma || !va, ma || va) (mb || !vb, mb || vb) (true, false) 8 =
    ⟨!(va ^^ vb) || (ma || mb), (va ^^ vb) || (ma || mb), true, false⟩ := by
  cases va <;> cases ma <;> cases vb <;> cases mb <;> rfl

/-! ### The carries -/
variable (va ma vb mb : B64)
def clA (i : Nat) : Bool := BitVec.carry i (pv va ma) (pv vb mb) false
def cgA (i : Nat) : Bool := BitVec.carry i (pv va ma ||| ma) (pv vb mb ||| mb) false
def clS (i : Nat) : Bool := BitVec.carry i (pv va ma) (~~~(pv vb mb ||| mb)) true
def cgS (i : Nat) : Bool := BitVec.carry i (pv va ma ||| ma) (~~~pv vb mb) true
theorem crs_add : ∀ i, i ≤ 64 → crs 0 va ma vb mb i = (!clA va ma vb mb i, cgA va ma vb mb i) ∧ (clA va ma vb mb i = true → cgA va ma vb mb i = true)
  | 0, _ => by simp [crs, clA, cgA]
  | i + 1, h => by
    obtain ⟨e, hm⟩ := crs_add i (by omega)
    have hl : clA va ma vb mb (i + 1) = Bool.atLeastTwo (va.getLsbD i && !ma.getLsbD i) (vb.getLsbD i && !mb.getLsbD i) (clA va ma vb mb i) := by
      unfold clA
      rw [BitVec.carry_succ, pv_bit _ _ _ (by omega), pv_bit _ _ _ (by omega)]
    have hg : cgA va ma vb mb (i + 1) = Bool.atLeastTwo ((va.getLsbD i && !ma.getLsbD i) || ma.getLsbD i) ((vb.getLsbD i && !mb.getLsbD i) || mb.getLsbD i) (cgA va ma vb mb i) := by
      unfold cgA
      rw [BitVec.carry_succ, BitVec.getLsbD_or, BitVec.getLsbD_or, pv_bit _ _ _ (by omega), pv_bit _ _ _ (by omega)]
    obtain ⟨t, hm'⟩ := tot_add (va.getLsbD i) (ma.getLsbD i) (vb.getLsbD i) (mb.getLsbD i) _ _ hm
    rw [crs_succ]
    unfold totAt bz bo
    rw [e, t, hl, hg]
    exact ⟨rfl, hm'⟩
theorem crs_sub : ∀ i, i ≤ 64 → crs 1 va ma vb mb i = (cgS va ma vb mb i, !clS va ma vb mb i) ∧ (clS va ma vb mb i = true → cgS va ma vb mb i = true)
  | 0, _ => by simp [crs, clS, cgS]
  | i + 1, h => by
    obtain ⟨e, hm⟩ := crs_sub i (by omega)
    have hi : i < 64 := by omega
    have hl : clS va ma vb mb (i + 1) = Bool.atLeastTwo (va.getLsbD i && !ma.getLsbD i) (!((vb.getLsbD i && !mb.getLsbD i) || mb.getLsbD i)) (clS va ma vb mb i) := by
      unfold clS
      rw [BitVec.carry_succ, BitVec.getLsbD_not, BitVec.getLsbD_or, pv_bit _ _ _ (by omega), pv_bit _ _ _ (by omega)]
      simp [hi]
    have hg : cgS va ma vb mb (i + 1) = Bool.atLeastTwo ((va.getLsbD i && !ma.getLsbD i) || ma.getLsbD i) (!(vb.getLsbD i && !mb.getLsbD i)) (cgS va ma vb mb i) := by
      unfold cgS
      rw [BitVec.carry_succ, BitVec.getLsbD_not, BitVec.getLsbD_or, pv_bit _ _ _ (by omega), pv_bit _ _ _ (by omega)]
      simp [hi]
    obtain ⟨t, hm'⟩ := tot_sub (va.getLsbD i) (ma.getLsbD i) (vb.getLsbD i) (mb.getLsbD i) _ _ hm
    rw [crs_succ]
    unfold totAt bz bo
    rw [e, t, hl, hg]
    exact ⟨rfl, hm'⟩
theorem crs_bits (kind : Nat) (h2 : 2 ≤ kind) (h4 : kind ≤ 4) : ∀ i, crs kind va ma vb mb i = (true, false)
  | 0 => rfl
  | i + 1 => by
    have e := crs_bits kind h2 h4 i
    rw [crs_succ]
    unfold totAt bz bo
    rw [e]
    rcases (by omega : kind = 2 ∨ kind = 3 ∨ kind = 4) with rfl | rfl | rfl
    · rw [tot_and]
    · rw [tot_or]
    · rw [tot_xor]

/-- The document's pattern is the one that is computed in words. -/
theorem two_bit (kind : Nat) (h4 : kind ≤ 4) (i : Nat) (hi : i < 64) :
    ((totAt kind va ma vb mb i).z && (totAt kind va ma vb mb i).o) = (twoM kind va ma vb mb).getLsbD i ∧
    (!(totAt kind va ma vb mb i).z && (totAt kind va ma vb mb i).o) = (twoV kind va ma vb mb).getLsbD i := by
  unfold twoV
  rw [BitVec.getLsbD_and, BitVec.getLsbD_not]
  simp only [hi, decide_true, Bool.true_and]
  rcases (by omega : kind = 0 ∨ kind = 1 ∨ kind = 2 ∨ kind = 3 ∨ kind = 4) with rfl | rfl | rfl | rfl | rfl
  · obtain ⟨e, hm⟩ := crs_add va ma vb mb i (by omega)
    obtain ⟨t, -⟩ := tot_add (va.getLsbD i) (ma.getLsbD i) (vb.getLsbD i) (mb.getLsbD i) _ _ hm
    have hL : (addL va ma vb mb).getLsbD i = ((va.getLsbD i && !ma.getLsbD i) ^^ ((vb.getLsbD i && !mb.getLsbD i) ^^ clA va ma vb mb i)) := by
      unfold addL
      rw [BitVec.getLsbD_add hi, pv_bit _ _ _ hi, pv_bit _ _ _ hi]; rfl
    have hG : (addG va ma vb mb).getLsbD i = (((va.getLsbD i && !ma.getLsbD i) || ma.getLsbD i) ^^ (((vb.getLsbD i && !mb.getLsbD i) || mb.getLsbD i) ^^ cgA va ma vb mb i)) := by
      rw [addG_eq, BitVec.getLsbD_add hi, BitVec.getLsbD_or, BitVec.getLsbD_or, pv_bit _ _ _ hi, pv_bit _ _ _ hi]; rfl
    have hM : (addM va ma vb mb).getLsbD i = (ma.getLsbD i || mb.getLsbD i || ((addL va ma vb mb).getLsbD i ^^ (addG va ma vb mb).getLsbD i)) := by
      unfold addM
      rw [BitVec.getLsbD_or, BitVec.getLsbD_or, BitVec.getLsbD_xor]
    unfold totAt bz bo
    rw [e, t]
    simp only [twoM, twoL]
    rw [hM, hG, hL]
    generalize va.getLsbD i = a at *
    generalize ma.getLsbD i = b at *
    generalize vb.getLsbD i = c at *
    generalize mb.getLsbD i = d at *
    generalize clA va ma vb mb i = x at *
    generalize cgA va ma vb mb i = y at *
    clear hL hG hM e t
    revert hm
    cases a <;> cases b <;> cases c <;> cases d <;> cases x <;> cases y <;> decide
  · obtain ⟨e, hm⟩ := crs_sub va ma vb mb i (by omega)
    obtain ⟨t, -⟩ := tot_sub (va.getLsbD i) (ma.getLsbD i) (vb.getLsbD i) (mb.getLsbD i) _ _ hm
    have hL : (subL va ma vb mb).getLsbD i = ((va.getLsbD i && !ma.getLsbD i) ^^ (!((vb.getLsbD i && !mb.getLsbD i) || mb.getLsbD i) ^^ clS va ma vb mb i)) := by
      unfold subL
      rw [pv_or, sub_bit _ _ _ hi, BitVec.getLsbD_or, pv_bit _ _ _ hi, pv_bit _ _ _ hi]; rfl
    have hG : (subG va ma vb mb).getLsbD i = (((va.getLsbD i && !ma.getLsbD i) || ma.getLsbD i) ^^ (!(vb.getLsbD i && !mb.getLsbD i) ^^ cgS va ma vb mb i)) := by
      unfold subG
      rw [pv_or, sub_bit _ _ _ hi, BitVec.getLsbD_or, pv_bit _ _ _ hi, pv_bit _ _ _ hi]; rfl
    have hM : (subM va ma vb mb).getLsbD i = (ma.getLsbD i || mb.getLsbD i || ((subL va ma vb mb).getLsbD i ^^ (subG va ma vb mb).getLsbD i)) := by
      unfold subM
      rw [BitVec.getLsbD_or, BitVec.getLsbD_or, BitVec.getLsbD_xor]
    unfold totAt bz bo
    rw [e, t]
    simp only [twoM, twoL]
    rw [hM, hG, hL]
    generalize va.getLsbD i = a at *
    generalize ma.getLsbD i = b at *
    generalize vb.getLsbD i = c at *
    generalize mb.getLsbD i = d at *
    generalize clS va ma vb mb i = x at *
    generalize cgS va ma vb mb i = y at *
    clear hL hG hM e t
    revert hm
    cases a <;> cases b <;> cases c <;> cases d <;> cases x <;> cases y <;> decide
  all_goals
    unfold totAt bz bo
    rw [crs_bits va ma vb mb _ (by decide) (by decide)]
    first | rw [tot_and] | rw [tot_or] | rw [tot_xor]
    simp only [twoM, twoL, andM, andL, orM, orL, BitVec.getLsbD_and, BitVec.getLsbD_or, BitVec.getLsbD_xor, pv_bit _ _ _ hi]
    generalize va.getLsbD i = a
    generalize ma.getLsbD i = b
    generalize vb.getLsbD i = c
    generalize mb.getLsbD i = d
    cases a <;> cases b <;> cases c <;> cases d <;> decide
theorem two_mask (kind : Nat) (h4 : kind ≤ 4) : maskB (fun i => (totAt kind va ma vb mb i).z) (fun i => (totAt kind va ma vb mb i).o) = twoM kind va ma vb mb :=
  ofB_eq _ _ fun i hi => (two_bit va ma vb mb kind h4 i hi).1
theorem two_val (kind : Nat) (h4 : kind ≤ 4) : valB (fun i => (totAt kind va ma vb mb i).z) (fun i => (totAt kind va ma vb mb i).o) = twoV kind va ma vb mb :=
  ofB_eq _ _ fun i hi => (two_bit va ma vb mb kind h4 i hi).2
end Go.Proofs.Ytbljijbmjccalaa
