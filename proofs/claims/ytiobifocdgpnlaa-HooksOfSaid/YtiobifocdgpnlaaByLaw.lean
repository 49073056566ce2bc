/-
  Proved here: the walk of the law HooksBy. Conditions: the name is a string.
-/
import Derived.Test.YtiobifocdgpnlaaAlive
import Derived.WideShapes
namespace Go.Proofs.Ytiobifocdgpnlaa
open Go.RowKit

theorem ba_yes {a b : ByteArray} (h : a = b) : (a.toList == b.toList) = true := by subst h; simp
theorem ba_of {a b : ByteArray} (h : (a.toList == b.toList) = true) : a = b := by
  have h' := eq_of_beq h
  rw [ByteArray.toList_eq, ByteArray.toList_eq] at h'
  exact Go.WideShapes.bytes_inj h'
theorem by_name (i : Nat) (h1 : 1 ≤ i) (h2 : i ≤ 16) : byN (nameB i) = i := by
  have h : ∀ i : Fin 17, 1 ≤ i.val → byN (nameB i.val) = i.val := by decide +kernel
  exact h ⟨i, by omega⟩ h1
theorem byN_lt (name : ByteArray) : byN name < 17 := by
  unfold byN
  cases h : (List.range 17).find? (isName name) with
  | none => simp
  | some i => have := List.mem_of_find?_eq_some h; simpa using this
theorem byN_is (name : ByteArray) (h : byN name ≠ 0) : isName name (byN name) = true := by
  unfold byN at *
  cases h' : (List.range 17).find? (isName name) with
  | none => simp [h'] at h
  | some i => have := List.find?_some h'; simpa using this
/-- What has been found of a name behind the hooks below i. -/
def wantN (name : ByteArray) (i : Nat) : Nat := if byN name < i then byN name else 0
theorem want_yes {name : ByteArray} {i : Nat} (h : isName name i = true) (h1 : 1 ≤ i) (h2 : i ≤ 16) : wantN name (i + 1) = i := by
  have e := ba_of h
  subst e
  unfold wantN
  rw [by_name i h1 h2, if_pos (by omega)]
theorem want_no {name : ByteArray} {i : Nat} (h : isName name i = false) (h1 : 1 ≤ i) : wantN name (i + 1) = wantN name i := by
  unfold wantN
  by_cases hi : byN name = i
  · have := byN_is name (by omega)
    rw [hi, h] at this
    cases this
  · by_cases hlt : byN name < i
    · rw [if_pos (by omega), if_pos hlt]
    · rw [if_neg (by omega), if_neg hlt]
theorem want_start (name : ByteArray) : wantN name 1 = 0 := by
  unfold wantN
  split <;> omega
theorem want_end (name : ByteArray) : wantN name 17 = byN name := by
  unfold wantN
  rw [if_pos (byN_lt name)]
def TrueB (w : World) (e : Ending) (w' : World) : Prop := e = .returned (.bool true) ∧ Below w.heap.size w w'
theorem by_law (name : ByteArray) (w : World) : Calls Try.prog 4 #[.string name] w (TrueB w) := by
  go_enter Try.func4, Try.ntmps4
  go_wp2_with (go_at_call 7; refine (alive_call _).mono ?_; rintro e w1 ⟨rfl, hb1⟩; have HB1 := Lib.hid hb1; clear hb1)
  go_loopw [3, 4] (fun v i w2 => ∃ k : Nat, 1 ≤ k ∧ k ≤ 17 ∧ i = .int .i64 k ∧ v = .int .i64 (wantN name k) ∧ Below w.heap.size w w2) (fun _ i _ => 17 - (intOf i).toNat)
  case atStart => exact ⟨1, by omega, by omega, rfl, by rw [want_start]; rfl, HB1.out⟩
  case round =>
    obtain ⟨k, k1, k2, rfl, rfl, hb⟩ := hrel
    have HB := Lib.hid hb
    clear hb
    by_cases hlt : k ≤ 16
    · cases hn : isName name k
      · have hw := want_no hn k1
        unfold isName at hn
        generalize wantN name k = v at hw ⊢
        have HW := Lib.hid hw
        clear hw
        go_wp2_with (first
          | (go_at_call 9; refine (row_yes k _ k1 hlt).mono ?_; rintro e w3 ⟨rfl, hb3⟩; have HB3 := Lib.hid hb3; clear hb3)
          | (go_at_call 13; refine (by_call _ _).mono ?_; rintro e w4 ⟨rfl, hb4⟩; rw [by_name k k1 hlt]; have HB4 := Lib.hid hb4; clear hb4))
        go_roundw
        case rel => exact ⟨k + 1, by omega, by omega, by go_num, by rw [HW.out], (HB.out.trans (HB3.out.mono HB.out.size)).trans (HB4.out.mono (Nat.le_trans HB.out.size HB3.out.size))⟩
        case measure => simp [intOf]; omega
      · have hw := want_yes hn k1 hlt
        unfold isName at hn
        generalize wantN name k = v
        have HW := Lib.hid hw
        clear hw
        go_wp2_with (first
          | (go_at_call 9; refine (row_yes k _ k1 hlt).mono ?_; rintro e w3 ⟨rfl, hb3⟩; have HB3 := Lib.hid hb3; clear hb3)
          | (go_at_call 13; refine (by_call _ _).mono ?_; rintro e w4 ⟨rfl, hb4⟩; rw [by_name k k1 hlt]; have HB4 := Lib.hid hb4; clear hb4))
        go_roundw
        case rel => exact ⟨k + 1, by omega, by omega, by go_num, by rw [HW.out], (HB.out.trans (HB3.out.mono HB.out.size)).trans (HB4.out.mono (Nat.le_trans HB.out.size HB3.out.size))⟩
        case measure => simp [intOf]; omega
    · obtain rfl : k = 17 := by omega
      rw [want_end]
      go_wp2_with (go_at_call 13; refine (by_call _ _).mono ?_; rintro e w4 ⟨rfl, hb4⟩; have HB4 := Lib.hid hb4; clear hb4)
      go_ret
      exact ⟨by simp, HB.out.trans (HB4.out.mono HB.out.size)⟩
end Go.Proofs.Ytiobifocdgpnlaa
