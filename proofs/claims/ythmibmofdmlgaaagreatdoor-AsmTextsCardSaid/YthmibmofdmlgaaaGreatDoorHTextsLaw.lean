import Derived.Test.YthmibmofdmlgaaaGreatDoorG17
import Derived.Test.YthmibmofdmlgaaaGreatDoorHRefText
/-
  Proved here: the law AsmTexts returns true, whatever code came in. Conditions: the fields fit; the library's variables.
-/
namespace Go.Proofs.YthmibmofdmlgaaaGreatDoor
open Go.RowKit
set_option linter.unusedVariables false

theorem law_long (w : World) (A : Option Addr) (len cap : Nat) (hm : len ≤ maxLen) (h100 : 100 < len) (he : Env w) :
    Calls Tryz.prog 3 #[.slice A len cap] w fun e w' => e = .returned (.bool true) ∧ Below w.heap.size w w' := by
  unfold maxLen at hm
  have ha := alive w he
  clear he
  go_enter Tryz.func3, Tryz.ntmps3
  go_wp2_with (go_at_call 4; refine ha.mono ?_; rintro e w1 ⟨rfl, hb1⟩; have HB1 := Lib.hid hb1; clear hb1 ha)
  go_ret
  exact ⟨rfl, HB1.out⟩
theorem law_none (w : World) (A : Option Addr) (len cap : Nat) (l : List Ins) (hl : l.length = len) (h100 : len ≤ 100) (hrow : InsAt w A l) (hf : ∀ x ∈ l, x.Fit) (he : Env w) (hc : codeT l = none) :
    Calls Tryz.prog 3 #[.slice A len cap] w fun e w' => e = .returned (.bool true) ∧ Below w.heap.size w w' := by
  have ha := alive w he
  have htx := fun W (hb : Below w.heap.size w W) => text_call W A len cap l hl h100 (hrow.below hb) hf (he.on hb)
  have hrf := fun W (hb : Below w.heap.size w W) => ref_text W A len cap l hl h100 (hrow.below hb) hf
  rw [hc] at htx hrf
  unfold TextV at htx
  unfold RefV at hrf
  dsimp only at htx hrf
  have HE := Lib.hid he
  have i0 : ((100 : Int) < (len : Int)) = False := by simp; omega
  clear he hrow hf hl hc h100
  go_enter Tryz.func3, Tryz.ntmps3
  go_wp2_with (first
    | (go_at_call 4; refine ha.mono ?_; rintro e w1 ⟨rfl, hb1⟩; have HB1 := Lib.hid hb1; clear hb1 ha)
    | (go_at_call 5; refine (htx _ HB1.out).mono ?_; rintro e w2 ⟨hb2, rfl⟩; have HB2 := Lib.hid (HB1.out.trans (hb2.mono HB1.out.size)); clear hb2 htx)
    | (go_at_call 6; refine (hrf _ HB2.out).mono ?_; rintro e w3 ⟨rfl, hb3⟩; have HB3 := Lib.hid (HB2.out.trans (hb3.mono HB2.out.size)); clear hb3 hrf))
  go_ret
  exact ⟨rfl, HB3.out⟩
theorem law_empty (w : World) (A : Option Addr) (cap : Nat) (he : Env w) :
    Calls Tryz.prog 3 #[.slice A 0 cap] w fun e w' => e = .returned (.bool true) ∧ Below w.heap.size w w' := by
  have ha := alive w he
  have hrow : InsAt w A [] := .inl rfl
  have htx := fun W (hb : Below w.heap.size w W) => text_call W A 0 cap [] rfl (by omega) (hrow.below hb) (by simp) (he.on hb)
  have hrf := fun W (hb : Below w.heap.size w W) => ref_text W A 0 cap [] rfl (by omega) (hrow.below hb) (by simp)
  have hrd := fun W (hb : Below w.heap.size w W) => read_call_empty W (he.on hb)
  have hc : codeT [] = some [] := rfl
  rw [hc] at htx hrf
  unfold TextV at htx
  unfold RefV at hrf
  dsimp only at htx hrf
  clear he hrow hc
  obtain ⟨T, hT⟩ : ∃ T, S [] = T := ⟨_, rfl⟩
  rw [hT] at htx hrf hrd
  clear hT
  go_enter Tryz.func3, Tryz.ntmps3
  go_wp2_with (first
    | (go_at_call 4; refine ha.mono ?_; rintro e w1 ⟨rfl, hb1⟩; have HB1 := Lib.hid hb1; clear hb1 ha)
    | (go_at_call 5; refine (htx _ HB1.out).mono ?_; rintro e w2 ⟨hb2, rfl⟩; have HB2 := Lib.hid (HB1.out.trans (hb2.mono HB1.out.size)); clear hb2 htx)
    | (go_at_call 6; refine (hrf _ HB2.out).mono ?_; rintro e w3 ⟨rfl, hb3⟩; have HB3 := Lib.hid (HB2.out.trans (hb3.mono HB2.out.size)); clear hb3 hrf)
    | (go_at_call 7; refine (hrd _ HB3.out).mono ?_; rintro e w4 ⟨hb4, rfl⟩; have HB4 := Lib.hid (HB3.out.trans (hb4.mono HB3.out.size)); clear hb4 hrd))
  go_ret
  exact ⟨rfl, HB4.out⟩
theorem chunkT_len : ∀ C : List Chunk, (∀ c ∈ C, GoodC c) → (chunkT C).length ≤ 501 * C.length
  | [], _ => by simp [chunkT]
  | c :: C, h => by
    have ih := chunkT_len C (fun d hd => h d (by simp [hd]))
    have := good_len (h c (by simp))
    have e : chunkT (c :: C) = c.1 ++ [10] ++ chunkT C := by simp [chunkT]
    rw [e, List.length_append, List.length_append, List.length_cons]
    simp
    omega
theorem law_some (w : World) (A : Option Addr) (len cap : Nat) (l : List Ins) (hl : l.length = len) (h100 : len ≤ 100) (h0 : 0 < len) (hrow : InsAt w A l) (hf : ∀ x ∈ l, x.Fit) (he : Env w) (T : List UInt8) (hc : codeT l = some T) :
    Calls Tryz.prog 3 #[.slice A len cap] w fun e w' => e = .returned (.bool true) ∧ Below w.heap.size w w' := by
  have ha := alive w he
  have htx := fun W (hb : Below w.heap.size w W) => text_call W A len cap l hl h100 (hrow.below hb) hf (he.on hb)
  have hrf := fun W (hb : Below w.heap.size w W) => ref_text W A len cap l hl h100 (hrow.below hb) hf
  rw [hc] at htx hrf
  unfold TextV at htx
  unfold RefV at hrf
  dsimp only at htx hrf
  obtain ⟨C, hT, hI, hC⟩ := chunks_of l.length l T (Nat.le_refl _) hf hc
  have hrd : ∀ W, Below w.heap.size w W → Calls Tryz.prog 7 #[.string (S T)] W (TriedV l W) := by
    intro W hb
    have hlen := chunkT_len C hC
    have hcl := chunk_len C hC
    cases C with
    | nil =>
      have : l = [] := hI
      rw [this] at hl
      simp at hl
      omega
    | cons c C0 =>
      rw [hI]
      rw [← hI] at hcl
      exact read_call W c C0 hC (by omega) T (by rw [hT, chunkT_join, trim_last]) (by rw [hT]; omega) (he.on hb)
  have hsm : ∀ W, Below w.heap.size w W → ∀ (capB : Nat) (B : Option Addr), InsAt W B l → Calls Tryz.prog 8 #[.slice A len cap, .slice B len capB] W (SaidYes W) :=
    fun W hb capB B hB => same_ref W A B len cap capB l hl (by omega) (hrow.below hb) hB
  have HL := Lib.hid hl
  obtain ⟨U, hU⟩ : ∃ U, S T = U := ⟨_, rfl⟩
  rw [hU] at htx hrf hrd
  have h0i : ((len : Int) == 0) = false := by simp; omega
  clear he hrow hf hl hc hT hI hC hU
  go_enter Tryz.func3, Tryz.ntmps3
  go_wp2_with (first
    | (go_at_call 4; refine ha.mono ?_; rintro e w1 ⟨rfl, hb1⟩; have HB1 := Lib.hid hb1; clear hb1 ha)
    | (go_at_call 5; refine (htx _ HB1.out).mono ?_; rintro e w2 ⟨hb2, rfl⟩; have HB2 := Lib.hid (HB1.out.trans (hb2.mono HB1.out.size)); clear hb2 htx)
    | (go_at_call 6; refine (hrf _ HB2.out).mono ?_; rintro e w3 ⟨rfl, hb3⟩; have HB3 := Lib.hid (HB2.out.trans (hb3.mono HB2.out.size)); clear hb3 hrf)
    | (go_at_call 7; refine (hrd _ HB3.out).mono ?_; rintro e w4 ⟨v, rfl, hown, hb4⟩; obtain ⟨B, capB, rfl, hB⟩ := own_insAt hown (by rw [HL.out]; exact h0); have HB4 := Lib.hid (HB3.out.trans (hb4.mono HB3.out.size)); have HBI := Lib.hid hB; clear hb4 hrd hown hB; rw [HL.out])
    | (go_at_call 8; refine (hsm _ HB4.out capB B HBI.out).mono ?_; rintro e w5 ⟨rfl, m, rfl⟩))
  go_ret
  exact ⟨rfl, below_drews HB4.out _⟩
theorem law_texts (w : World) (A : Option Addr) (len cap : Nat) (l : List Ins) (hl : l.length = len) (hm : len ≤ maxLen) (hrow : InsAt w A l) (hf : ∀ x ∈ l, x.Fit) (he : Env w) :
    Calls Tryz.prog 3 #[.slice A len cap] w fun e w' => e = .returned (.bool true) ∧ Below w.heap.size w w' := by
  by_cases h100 : len ≤ 100
  · cases hc : codeT l with
    | none => exact law_none w A len cap l hl h100 hrow hf he hc
    | some T =>
      by_cases h0 : 0 < len
      · exact law_some w A len cap l hl h100 h0 hrow hf he T hc
      · obtain rfl : len = 0 := by omega
        exact law_empty w A cap he
  · exact law_long w A len cap hm (by omega) he
theorem asmTexts.walk (v0 : Value) (w : World) (h0 : IsRows insKinds w v0) (he : Env w) : Calls Tryz.prog 3 #[v0] w fun e w' => e = .returned (.bool true) ∧ Below w.heap.size w w' := by
  obtain ⟨A, len, cap, l, rfl, hl, hm, hf, hrow⟩ := rows_in h0
  exact law_texts w A len cap l hl hm hrow hf he
end Go.Proofs.YthmibmofdmlgaaaGreatDoor
