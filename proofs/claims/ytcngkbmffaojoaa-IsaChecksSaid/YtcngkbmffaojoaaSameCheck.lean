/-
  Proved here: Check of package isa and Check of the document's answers say the same of every code. Conditions: the fields fit.
-/
import Derived.Test.YtcngkbmffaojoaaCheck
import Derived.Test.YtcngkbmffaojoaaRefCheck
namespace Go.Proofs.Ytcngkbmffaojoaa
open Go.RowKit

theorem jmp0 : jmpI 0 = false := by decide +kernel
theorem one_same (l : List Ins) (k : Nat) (maps : Int) (hfit : ∀ x ∈ l, x.Fit) (hk : k < l.length) : oneB l k maps = plR l k maps := by
  have hf := getD_fit hfit hk
  have hr := right_same _ hf.op.1 hf.op.2 hf.dst.1 hf.src.1
  have hj := jmp_same hf.op.1 hf.op.2
  have hop : secN l k = true → (l.getD k .zero).op = 0 := secN_op
  have hnn := wideN_nonneg (l.getD k .zero) (l.getD (k + 1) .zero)
  unfold oneB stB mapB landB plR
  rw [hr, hj]
  generalize wideN (l.getD k .zero) (l.getD (k + 1) .zero) = n at hnn ⊢
  generalize l.getD k .zero = x at hop hj ⊢
  generalize secN l ((k : Int) + 1 + x.off).toNat = q
  generalize (decide (0 ≤ x.off) && decide ((k : Int) + 1 + x.off < (l.length : Int)) && !q) = z
  generalize secN l (k + 1) = r
  generalize rightR x = t
  cases hs : secN l k
  · by_cases h24 : x.op = 24
    · have e : decide (n < max maps 0) = (!(decide (maps < 1) || decide (maps ≤ n))) := by
        rw [Bool.eq_iff_iff]
        simp
        omega
      rw [e, h24]
      have hb : (x.src != 1) = !(x.src == 1) := rfl
      rw [hb]
      generalize (x.src == 1) = u
      generalize (decide (maps < 1) || decide (maps ≤ n)) = v
      generalize jmpR 24 = j
      cases t <;> cases r <;> cases u <;> cases v <;> simp
    · have b : (x.op != 24) = true := by simpa using h24
      rw [b]
      simp
  · have h0 := hop hs
    rw [h0] at hj ⊢
    rw [← hj, jmp0]
    simp
theorem exit_table : ∀ n : Fin 256, decide (shp (n.val : Int) = 8 ↔ (n.val : Int) = 149) = true := by decide +kernel
theorem shp_exit {op : Int} (h0 : 0 ≤ op) (h1 : op ≤ 255) : shp op = 8 ↔ op = 149 := of_decide_eq_true (of_table (f := fun op => decide (shp op = 8 ↔ op = 149)) (g := fun _ => true) exit_table h0 h1)
theorem fld149 : fldR 149 = some (0, 0, false, false) := by decide +kernel
theorem last_of_right {x : Ins} (hd : 0 ≤ x.dst) (hs : 0 ≤ x.src) (h149 : x.op = 149) (h : rightR x = true) : lastB x = true := by
  rw [rightR_fit x hd hs, h149, fld149] at h
  simp only [fitR, Bool.and_eq_true, Bool.false_or, decide_eq_true_eq, beq_iff_eq] at h
  unfold lastB
  simp only [Bool.and_eq_true, beq_iff_eq]
  omega
theorem check_same (l : List Ins) (maps : Int) (hfit : ∀ x ∈ l, x.Fit) : checkI l maps = chkR l maps := by
  have hall : allB l maps = (List.range l.length).all fun k => plR l k maps := by
    unfold allB
    rw [Bool.eq_iff_iff, List.all_eq_true, List.all_eq_true]
    exact ⟨fun h k hk => by rw [← one_same l k maps hfit (List.mem_range.1 hk)]; exact h k hk, fun h k hk => by rw [one_same l k maps hfit (List.mem_range.1 hk)]; exact h k hk⟩
  unfold checkI chkR
  rw [← hall]
  cases ha : allB l maps
  · simp
  · by_cases h1 : 1 ≤ l.length
    · have hk : l.length - 1 < l.length := by omega
      have hf := getD_fit hfit hk
      have hone : oneB l (l.length - 1) maps = true := List.all_eq_true.1 ha _ (List.mem_range.2 hk)
      have e : (shp (l.getD (l.length - 1) .zero).op == 8) = lastB (l.getD (l.length - 1) .zero) := by
        rw [Bool.eq_iff_iff, beq_iff_eq, shp_exit hf.op.1 hf.op.2]
        constructor
        · intro h149
          refine last_of_right hf.dst.1 hf.src.1 h149 ?_
          have hst : stB l (l.length - 1) = true := by
            unfold oneB at hone
            simp only [Bool.and_eq_true] at hone
            exact hone.1.1
          rw [← right_same _ hf.op.1 hf.op.2 hf.dst.1 hf.src.1]
          unfold stB at hst
          simp only [Bool.or_eq_true, Bool.and_eq_true] at hst
          rcases hst with h | h
          · have := secN_op h
            omega
          · exact h.1
        · intro h
          unfold lastB at h
          simp only [Bool.and_eq_true, beq_iff_eq] at h
          exact h.1.1.1.1
      rw [e]
      simp
    · rw [decide_eq_false h1]
      simp
end Go.Proofs.Ytcngkbmffaojoaa
