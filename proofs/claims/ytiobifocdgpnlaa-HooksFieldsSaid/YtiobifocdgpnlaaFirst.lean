/-
  Proved here: what first of package hooks gives, and the closures that it is handed. Conditions: as each says.
-/
import Derived.Test.YtiobifocdgpnlaaOf
import Derived.Deep.QuietTactic
import Derived.BigQuiet
namespace Go.Proofs.Ytiobifocdgpnlaa
open Go.RowKit

theorem below_drewN (w : World) (n : Nat) : Below w.heap.size w (w.drewN n) := ⟨rfl, rfl, rfl, Nat.le_refl _, fun _ _ => rfl⟩
/-- A closure that tells p of the numbers below n, whatever has been made meanwhile. -/
def Says (p : Nat → Bool) (n : Nat) (F : FuncId) (A B : Addr) (w : World) : Prop := ∀ (i : Nat) (w1 : World), i < n → Below w.heap.size w w1 → Calls Try.prog F #[.int .i64 i, .pointer (some A), .pointer (some B)] w1 fun e w' => e = .returned (.bool (p i)) ∧ Below w1.heap.size w1 w'
/-- The least number below n of which p is told, and that there is one; 0 and false. -/
def firstV (p : Nat → Bool) (n : Nat) : Value := match (List.range n).find? p with
  | some i => .tuple #[.int .i64 i, .bool true]
  | none => .tuple #[.int .i64 0, .bool false]
theorem find_found {p : Nat → Bool} {n i : Nat} (hno : ∀ j, j < i → p j = false) (hi : i < n) (hp : p i = true) : (List.range n).find? p = some i := by
  rw [List.find?_eq_some_iff_getElem]
  refine ⟨hp, i, by simpa using hi, by simp, fun j hj => ?_⟩
  simp [hno j hj]
theorem find_none {p : Nat → Bool} {n : Nat} (hno : ∀ j, j < n → p j = false) : (List.range n).find? p = none := by
  rw [List.find?_eq_none]
  intro j hj
  simp [hno j (by simpa using hj)]
theorem first_found {p : Nat → Bool} {n i : Nat} (hno : ∀ j, j < i → p j = false) (hi : i < n) (hp : p i = true) : firstV p n = .tuple #[.int .i64 i, .bool true] := by
  unfold firstV
  rw [find_found hno hi hp]
theorem first_none {p : Nat → Bool} {n : Nat} (hno : ∀ j, j < n → p j = false) : firstV p n = .tuple #[.int .i64 0, .bool false] := by
  unfold firstV
  rw [find_none hno]
theorem no_more {p : Nat → Bool} {i : Nat} (hno : ∀ j, j < i → p j = false) (hp : p i = false) : ∀ j, j < i + 1 → p j = false := by
  intro j hj
  by_cases h : j = i
  · rw [h]; exact hp
  · exact hno j (by omega)
theorem first_by (p : Nat → Bool) (n : Nat) (A B : Addr) (w : World) (hs : Says p n 18 A B w) (hn : n ≤ 100) : Calls Try.prog 17 #[.int .i64 n, .func (.func 18) #[] #[.pointer (some A), .pointer (some B)]] w (Tells (firstV p n) w) := by
  go_enter Try.func17, Try.ntmps17
  go_wp2
  go_loopw [8] (fun v w1 => ∃ i : Nat, i ≤ n ∧ v = .int .i64 i ∧ (∀ j, j < i → p j = false) ∧ Below w.heap.size w w1) (fun v _ => n - (intOf v).toNat)
  case atStart => exact ⟨0, Nat.zero_le _, rfl, fun j hj => absurd hj (Nat.not_lt_zero _), Below.refl _ _⟩
  case round =>
    obtain ⟨i, hi, rfl, hno, hb⟩ := hrel
    have HN := Lib.hid hno
    have HB := Lib.hid hb
    clear hno hb
    by_cases hlt : i < n
    · cases hp : p i
      · have HP := Lib.hid hp
        clear hp
        go_wp2_with (go_at_call 18; refine (hs i _ hlt HB.out).mono ?_; rintro e w' ⟨rfl, hb'⟩; have HB' := Lib.hid hb'; clear hb'; rw [HP.out])
        go_roundw
        case rel => exact ⟨i + 1, by omega, by go_num, no_more HN.out HP.out, HB.out.trans (HB'.out.mono HB.out.size)⟩
        case measure => simp [intOf]; omega
      · have HP := Lib.hid hp
        clear hp
        go_wp2_with (go_at_call 18; refine (hs i _ hlt HB.out).mono ?_; rintro e w' ⟨rfl, hb'⟩; have HB' := Lib.hid hb'; clear hb'; rw [HP.out])
        go_ret2
        exact ⟨by rw [first_found HN.out hlt HP.out]; rfl, HB.out.trans (HB'.out.mono HB.out.size)⟩
    · obtain rfl : i = n := by omega
      go_wp2
      go_ret2
      exact ⟨by rw [first_none HN.out]; rfl, HB.out⟩
theorem first_field (p : Nat → Bool) (n : Nat) (A B : Addr) (w : World) (hs : Says p n 20 A B w) (hn : n ≤ 100) : Calls Try.prog 17 #[.int .i64 n, .func (.func 20) #[] #[.pointer (some A), .pointer (some B)]] w (Tells (firstV p n) w) := by
  go_enter Try.func17, Try.ntmps17
  go_wp2
  go_loopw [8] (fun v w1 => ∃ i : Nat, i ≤ n ∧ v = .int .i64 i ∧ (∀ j, j < i → p j = false) ∧ Below w.heap.size w w1) (fun v _ => n - (intOf v).toNat)
  case atStart => exact ⟨0, Nat.zero_le _, rfl, fun j hj => absurd hj (Nat.not_lt_zero _), Below.refl _ _⟩
  case round =>
    obtain ⟨i, hi, rfl, hno, hb⟩ := hrel
    have HN := Lib.hid hno
    have HB := Lib.hid hb
    clear hno hb
    by_cases hlt : i < n
    · cases hp : p i
      · have HP := Lib.hid hp
        clear hp
        go_wp2_with (go_at_call 20; refine (hs i _ hlt HB.out).mono ?_; rintro e w' ⟨rfl, hb'⟩; have HB' := Lib.hid hb'; clear hb'; rw [HP.out])
        go_roundw
        case rel => exact ⟨i + 1, by omega, by go_num, no_more HN.out HP.out, HB.out.trans (HB'.out.mono HB.out.size)⟩
        case measure => simp [intOf]; omega
      · have HP := Lib.hid hp
        clear hp
        go_wp2_with (go_at_call 20; refine (hs i _ hlt HB.out).mono ?_; rintro e w' ⟨rfl, hb'⟩; have HB' := Lib.hid hb'; clear hb'; rw [HP.out])
        go_ret2
        exact ⟨by rw [first_found HN.out hlt HP.out]; rfl, HB.out.trans (HB'.out.mono HB.out.size)⟩
    · obtain rfl : i = n := by omega
      go_wp2
      go_ret2
      exact ⟨by rw [first_none HN.out]; rfl, HB.out⟩

end Go.Proofs.Ytiobifocdgpnlaa
