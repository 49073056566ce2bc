/-
  Proved here: the walk of the law HooksFields. Conditions: the name is a string.
-/
import Derived.Test.YtiobifocdgpnlaaByLaw
namespace Go.Proofs.Ytiobifocdgpnlaa
open Go.RowKit

theorem ret_bool {a b : Bool} (h : a = b) : Ending.returned (.bool a) = .returned (.bool b) := by rw [h]
theorem fld_found {t : Nat} {name : ByteArray} {k : Nat} (hno : ∀ j, j < k → isFld t name j = false) (hk : k < 8) (hy : isFld t name k = true) : fldI t name = k ∧ fldIs t name = true := by
  unfold fldI fldIs
  rw [find_found hno hk hy]
  exact ⟨rfl, rfl⟩
theorem fld_none {t : Nat} {name : ByteArray} (hno : ∀ j, j < 8 → isFld t name j = false) : fldI t name = 0 ∧ fldIs t name = false := by
  unfold fldI fldIs
  rw [find_none hno]
  exact ⟨rfl, rfl⟩
theorem fld_law_yes (t : Nat) (name : ByteArray) (w : World) (ht : t = 1 ∨ t = 2) : Calls Try.prog 5 #[.int .i64 t, .string name] w (TrueB w) := by
  obtain ⟨r, hr⟩ : ∃ r, fldI t name = r := ⟨_, rfl⟩
  obtain ⟨b, hb⟩ : ∃ b, fldIs t name = b := ⟨_, rfl⟩
  have hr8 : r ≤ 8 := hr ▸ find_le _ _
  have HT := Lib.hid ht
  have HR := Lib.hid hr
  have HI := Lib.hid hb
  clear ht hr hb
  go_enter Try.func5, Try.ntmps5
  go_wp2_with (first
    | (go_at_call 7; refine (alive_call _).mono ?_; rintro e w1 ⟨rfl, hb1⟩; have HB1 := Lib.hid hb1; clear hb1)
    | (go_at_call 14; refine (field_yes t name _ HT.out).mono ?_; rintro e w2 ⟨rfl, hb2⟩; rw [HR.out, HI.out]; have HB2 := Lib.hid hb2; clear hb2)
    | (go_at_call 15; refine (refs_yes t _ HT.out).mono ?_; rintro e w3 ⟨G, rfl, hG, hGl, hb3, hc⟩; have HB3 := Lib.hid hb3; have HC := Lib.hid hc; clear hb3 hc))
  go_loop [8] (fun i => ∃ k : Nat, k ≤ 8 ∧ i = .int .i64 k ∧ ∀ j, j < k → isFld t name j = false) (fun i => 8 - (intOf i).toNat)
  case atStart => exact ⟨0, Nat.zero_le _, rfl, fun j hj => absurd hj (Nat.not_lt_zero _)⟩
  case round =>
    obtain ⟨k, hk, rfl, hno⟩ := hrel
    have HN := Lib.hid hno
    clear hno
    by_cases hlt : k < 8
    · have hcell := HC.out k hlt
      cases hy : isFld t name k
      · have hy2 := hy
        have HY := Lib.hid hy
        clear hy
        unfold isFld at hy2
        go_wp2
        go_round
        case rel => exact ⟨k + 1, by omega, by go_num, no_more HN.out HY.out⟩
        case measure => simp [intOf]; omega
      · obtain ⟨e1, e2⟩ := fld_found HN.out hlt hy
        have hrk : r = k := HR.out.symm.trans e1
        have hbk : b = true := HI.out.symm.trans e2
        clear e1 e2 HR HI
        subst hrk hbk
        unfold isFld at hy
        go_wp2
        go_ret
        exact ⟨ret_bool (by simp; omega), (HB1.out.trans (HB2.out.mono HB1.out.size)).trans (HB3.out.mono (Nat.le_trans HB1.out.size HB2.out.size))⟩
    · obtain rfl : k = 8 := by omega
      obtain ⟨e1, e2⟩ := fld_none HN.out
      have hrk : r = 0 := HR.out.symm.trans e1
      have hbk : b = false := HI.out.symm.trans e2
      clear e1 e2 HR HI
      subst hrk hbk
      go_wp2
      go_ret
      exact ⟨ret_bool (by simp), (HB1.out.trans (HB2.out.mono HB1.out.size)).trans (HB3.out.mono (Nat.le_trans HB1.out.size HB2.out.size))⟩
theorem fld_law_no (t : Int) (name : ByteArray) (w : World) (ht : ¬ (t = 1 ∨ t = 2)) : Calls Try.prog 5 #[.int .i64 t, .string name] w (TrueB w) := by
  have HT := Lib.hid ht
  clear ht
  go_enter Try.func5, Try.ntmps5
  go_wp2_with (first
    | (go_at_call 7; refine (alive_call _).mono ?_; rintro e w1 ⟨rfl, hb1⟩; have HB1 := Lib.hid hb1; clear hb1)
    | (go_at_call 14; refine (field_no t name _ HT.out).mono ?_; rintro e w2 ⟨rfl, hb2⟩; have HB2 := Lib.hid hb2; clear hb2)
    | (go_at_call 15; refine (refs_no t _ HT.out).mono ?_; rintro e w3 ⟨rfl, rfl⟩))
  go_loop [8] (fun i => i = .int .i64 0) (fun i => 0)
  case atStart => rfl
  case round =>
    obtain rfl := hrel
    go_wp2
    go_ret
    exact ⟨rfl, HB1.out.trans (HB2.out.mono HB1.out.size)⟩
theorem fld_law (t : Int) (name : ByteArray) (w : World) : Calls Try.prog 5 #[.int .i64 t, .string name] w (TrueB w) := by
  by_cases h1 : t = 1
  · subst h1; exact fld_law_yes 1 name w (.inl rfl)
  · by_cases h2 : t = 2
    · subst h2; exact fld_law_yes 2 name w (.inr rfl)
    · exact fld_law_no t name w (by omega)
end Go.Proofs.Ytiobifocdgpnlaa
