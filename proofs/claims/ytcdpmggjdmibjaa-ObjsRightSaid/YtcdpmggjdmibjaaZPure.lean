/-
  Proved here: what Make's loop has laid, as plain lists. No Go text is walked. Conditions: as each lemma says.
-/
import Derived.Test.YtcdpmggjdmibjaaZAdd
import Derived.Test.YtcdpmggjdmibjaaOMLaw
namespace Go.Proofs.Ytcdpmggjdmibjaa
open Go.RowKit

def isN (p : Pt) : Bool := !p.null && !p.has
/-- The words that the first i parts lay. -/
def wsI (l : List Pt) (i : Nat) : Nat → Int := fun j => if j < i then wordAt l j else 0
theorem take_getD {l : List Pt} {i : Nat} (hi : i < l.length) : l.take (i + 1) = l.take i ++ [l.getD i default] := by
  rw [List.take_succ_eq_append_getElem hi, List.getD_eq_getElem?_getD, List.getElem?_eq_getElem hi]
  rfl
theorem addO_take {l : List Pt} {i : Nat} (hi : i < l.length) : addO (l.getD i default) (objsOf (l.take i)) = objsOf (l.take (i + 1)) := by
  rw [take_getD hi]
  unfold addO objsOf
  rw [List.filter_append, List.map_append]
  generalize l.getD i default = p
  cases h : isObj p <;> simp [h]
theorem addW_take {l : List Pt} {i : Nat} (hi : i < l.length) : addW (l.getD i default) (wsI l i) i (objsOf (l.take i)).length = wsI l (i + 1) := by
  have hw : wordAt l i = if (l.getD i default).null = true then 0 else if (l.getD i default).has = true then (((objsOf (l.take i)).length + 1 : Nat) : Int) else (l.getD i default).num := by unfold wordAt; rw [if_pos hi]
  have hs : ∀ x, wordAt l i = x → updW (wsI l i) i x = wsI l (i + 1) := by
    intro x hx
    funext j
    unfold updW wsI
    by_cases e : j = i
    · rw [if_pos e, if_pos (by omega), e, hx]
    · rw [if_neg e]
      by_cases hj : j < i
      · rw [if_pos hj, if_pos (by omega)]
      · rw [if_neg hj, if_neg (by omega)]
  unfold addW
  by_cases h1 : (l.getD i default).null = true
  · rw [if_pos h1]
    rw [if_pos h1] at hw
    funext j
    unfold wsI
    by_cases e : j = i
    · rw [if_neg (by omega), if_pos (by omega), e, hw]
    · by_cases hj : j < i
      · rw [if_pos hj, if_pos (by omega)]
      · rw [if_neg hj, if_neg (by omega)]
  · rw [if_neg h1]
    rw [if_neg h1] at hw
    by_cases h2 : (l.getD i default).has = true
    · rw [if_pos h2]
      rw [if_pos h2] at hw
      exact hs _ hw
    · rw [if_neg h2]
      rw [if_neg h2] at hw
      exact hs _ hw
theorem suit_num {z : Int} {p : Pt} (h : suitB z p = true) : isN p = (z == 110) := by
  unfold suitB at h
  unfold isN
  by_cases hz : z = 110
  · rw [if_pos hz] at h
    rw [h, hz]
    rfl
  · rw [if_neg hz] at h
    have hz2 : (z == 110) = false := by simpa using hz
    rw [hz2]
    by_cases hn : p.null = true
    · rw [hn]; rfl
    · rw [if_neg hn] at h
      rw [Bool.and_eq_true] at h
      rw [h.1]
      simp
theorem may_not_num {hook : Int} {l : List Pt} {i : Nat} (hi : i < l.length) (h : isN (l.getD i default) ≠ (byteAt (lettH hook) i == 110)) : mayB hook l = false := by
  cases hm : mayB hook l
  · rfl
  · exact absurd (suit_num ((mayB_at hm).2.2 i hi)) h
theorem may_not_len {hook : Int} {l : List Pt} (h : (lettH hook).size ≠ l.length) : mayB hook l = false := by
  cases hm : mayB hook l
  · rfl
  · exact absurd (mayB_at hm).2.1 h
theorem may_not_hook {hook : Int} {l : List Pt} (h : ¬ (1 ≤ hook ∧ hook ≤ 16)) : mayB hook l = false := by
  cases hm : mayB hook l
  · rfl
  · have := (mayB_at hm).1
    unfold lettH at this
    rw [if_neg h] at this
    exact absurd this (by decide)
/-- What is right was made of parts that suit. -/
theorem right_made {hook now : Int} {l : List Pt} {c : Cx} (h : IsMade hook now l c) (h0 : 0 < (lettH hook).size) (hsz : (lettH hook).size = l.length) (hn : ∀ i, i < l.length → isN (l.getD i default) = (byteAt (lettH hook) i == 110)) (hr : rightB c = true) : mayB hook l = true := by
  have h5 := lettH_len hook
  unfold mayB
  rw [decide_eq_true h0, decide_eq_true hsz]
  simp only [Bool.true_and, List.all_eq_true, List.mem_range]
  intro i hi
  obtain ⟨h8, hw⟩ := right_at (i := i) hr (by omega)
  have hall : c.objs.all typeB = true := by
    unfold rightB at hr
    simp only [Bool.and_eq_true] at hr
    exact hr.1.2
  rw [h.hook, h.words i (by omega), wordB_in (by omega)] at hw
  have hni := hn i hi
  generalize byteAt (lettH hook) i = z at hw hni ⊢
  unfold suitB
  unfold isN at hni
  by_cases hz : z = 110
  · rw [if_pos hz, hni, hz]
    rfl
  · have hz2 : (z == 110) = false := by simpa using hz
    rw [if_neg hz]
    rw [hz2] at hni
    unfold wordZ at hw
    rw [if_neg (by simpa using hz)] at hw
    by_cases h1 : (l.getD i default).null = true
    · have hwa : wordAt l i = 0 := by unfold wordAt; rw [if_pos hi, if_pos h1]
      rw [if_pos h1]
      rw [hwa, if_pos (show ((0 : Int) == 0) = true from rfl)] at hw
      exact hw
    · rw [if_neg h1]
      have h2 : (l.getD i default).has = true := by
        have h1' : (l.getD i default).null = false := by simpa using h1
        rw [h1'] at hni
        simpa using hni
      have ho : isObj (l.getD i default) = true := by
        unfold isObj
        rw [h2]
        simpa using h1
      obtain ⟨hlt, hget⟩ := objsOf_take_lt hi ho
      have hwa : wordAt l i = (((objsOf (l.take i)).length + 1 : Nat) : Int) := by unfold wordAt; rw [if_pos hi, if_neg h1, if_pos h2]
      have ht : typeB (l.getD i default).obj = true := by
        rw [List.all_eq_true] at hall
        refine hall _ ?_
        rw [← hget, ← h.objs, List.getD_eq_getElem?_getD, List.getElem?_eq_getElem (by rw [h.objs]; exact hlt)]
        exact List.getElem_mem _
      rw [hwa, if_neg (by simp; omega), h.objs, Int.toNat_natCast, Nat.add_sub_cancel, hget, Bool.and_eq_true] at hw
      have hty := hw.2
      rw [h2, Bool.true_and]
      unfold typeB at ht
      generalize (l.getD i default).obj.typ = t at ht hty ⊢
      cases e116 : z == 116
      · rw [e116] at hty
        have hne : (z != 116) = true := by unfold bne; rw [e116]; rfl
        rw [hne]
        cases e1 : t == 1
        · rw [e1] at ht
          simpa using ht
        · rw [e1] at hty
          cases hty
      · rw [e116] at hty
        cases e1 : t == 1
        · rw [e1] at hty
          cases hty
        · simp
theorem made_same {hook now : Int} {l : List Pt} {c : Cx} (h : IsMade hook now l c) (h0 : 0 < (lettH hook).size) (hsz : (lettH hook).size = l.length) (hn : ∀ i, i < l.length → isN (l.getD i default) = (byteAt (lettH hook) i == 110)) : rightB c = mayB hook l := by
  cases hm : mayB hook l
  · cases hr : rightB c
    · rfl
    · rw [right_made h h0 hsz hn hr] at hm
      cases hm
  · exact made_right h hm
/-- What has been laid behind the last part. -/
theorem is_made (hook now : Int) (l : List Pt) : IsMade hook now l ⟨hook, (List.range 8).map (wsI l l.length), objsOf l, now⟩ := by
  refine ⟨rfl, rfl, rfl, fun i hi => ?_⟩
  show ((List.range 8).map (wsI l l.length)).getD i 0 = wordAt l i
  rw [List.getD_eq_getElem?_getD, List.getElem?_map, List.getElem?_range hi]
  show wsI l l.length i = wordAt l i
  unfold wsI
  by_cases h : i < l.length
  · rw [if_pos h]
  · rw [if_neg h]
    unfold wordAt
    rw [if_neg h]
theorem ws_in {l : List Pt} (hb : ∀ i, i < l.length → 0 ≤ (l.getD i default).num ∧ (l.getD i default).num ≤ 18446744073709551615) (hl : l.length ≤ 20) (n i : Nat) : 0 ≤ wsI l n i ∧ wsI l n i ≤ 18446744073709551615 := by
  unfold wsI
  by_cases h : i < n
  · rw [if_pos h]
    unfold wordAt
    by_cases hi : i < l.length
    · rw [if_pos hi]
      by_cases h1 : (l.getD i default).null = true
      · rw [if_pos h1]; omega
      · rw [if_neg h1]
        by_cases h2 : (l.getD i default).has = true
        · rw [if_pos h2]
          have := objsOf_len (l.take i)
          rw [List.length_take] at this
          omega
        · rw [if_neg h2]
          exact hb i hi
    · rw [if_neg hi]; omega
  · rw [if_neg h]; omega
end Go.Proofs.Ytcdpmggjdmibjaa
