import Derived.Test.YthmibmofdmlgaaaGreatDoorG02
import Derived.Test.YthmibmofdmlgaaaGreatDoorHWords
import Derived.Test.YthmibmofdmlgaaaGreatDoorShelf
import Derived.Lib.AppendIntMem
/-
  Proved here: what strconv's Itoa and FormatInt (at base 10), and regText, offText and placeText of package asm, return. Conditions: the table of powers of ten is as the library lays it; the numbers fit their kinds.
-/
namespace Go.Proofs.YthmibmofdmlgaaaGreatDoor
open Go.RowKit

/-- What the library's variables hold. -/
structure Env (w : World) : Prop where
  tab : Lib.TabBelow Tryz.prog w.heap.size w "internal/strconv.uint64pow10" .u64 Lib.pow10Tab
  max : ∃ m, w.cell? ⟨0, 0, none⟩ = some (.int .i64 m)
theorem Env.on {w w' : World} (h : Env w) (hb : Below w.heap.size w w') : Env w' := by
  refine ⟨fun w1 h1 => h.tab w1 (hb.trans (h1.mono hb.size)), ?_⟩
  obtain ⟨m, hm⟩ := h.max
  exact ⟨m, stays hb hm⟩
/-- A text, and nothing below is turned. -/
def Txt (l : List UInt8) (w : World) (e : Ending) (w' : World) : Prop := e = .returned (.string (S l)) ∧ Below w.heap.size w w'
theorem format_int (n : Int) (w : World) (h0 : -9223372036854775808 ≤ n) (h1 : n ≤ 9223372036854775807) (he : Env w) : Calls Tryz.prog 79 #[.int .i64 n, .int .i64 10] w (Txt (Lib.itoa n) w) :=
  (Tryz.strconv_FormatInt_10 n h0 h1 w he.tab.here).mono fun e w' h => by
    obtain ⟨h, k, os, rfl⟩ := h
    exact ⟨h, Lib.below_grow _ _ (Nat.le_refl _) _ _⟩
theorem itoa_text (n : Int) (w : World) (h0 : -9223372036854775808 ≤ n) (h1 : n ≤ 9223372036854775807) (he : Env w) : Calls Tryz.prog 56 #[.int .i64 n] w (Txt (Lib.itoa n) w) :=
  (Tryz.strconv_Itoa n h0 h1 w he.tab.here).mono fun e w' h => by
    obtain ⟨h, k, os, rfl⟩ := h
    exact ⟨h, Lib.below_grow _ _ (Nat.le_refl _) _ _⟩
/-- A numeral is short. -/
theorem digits_len : ∀ (k u : Nat), u < 10 ^ (k + 1) → (Lib.decDigits u).length ≤ k + 1 := by
  intro k
  induction k with
  | zero => intro u h; rw [Lib.decDigits, dif_pos (by simpa using h)]; simp
  | succ k ih =>
    intro u h
    by_cases h10 : u < 10
    · rw [Lib.decDigits, dif_pos h10]; simp
    · rw [Lib.decDigits, dif_neg h10]
      have := ih (u / 10) (by rw [Nat.pow_succ] at h; omega)
      simp
      omega
theorem itoa_len (n : Int) (h0 : -9223372036854775808 ≤ n) (h1 : n ≤ 18446744073709551615) : (Lib.itoa n).length ≤ 21 := by
  unfold Lib.itoa
  split
  · have := digits_len 19 n.natAbs (by omega)
    simp
    omega
  · have := digits_len 19 n.toNat (by omega)
    omega

theorem reg_text (r : Int) (w : World) (h0 : 0 ≤ r) (h1 : r ≤ 255) (he : Env w) : Calls Tryz.prog 76 #[.int .u8 r] w (Txt (regT r) w) := by
  unfold Txt
  obtain ⟨t, ht⟩ : ∃ t, Lib.itoa r = t := ⟨_, rfl⟩
  have hc := itoa_text r w (by omega) (by omega) he
  have hl := itoa_len r (by omega) (by omega)
  unfold regT
  unfold Txt at hc
  rw [ht] at hc hl ⊢
  have hcat : ({ data := #[114] } : ByteArray) ++ S t = S (114 :: t) := S_left [114] t
  have hsum : 1 + (S t).size ≤ 9223372036854775807 := by rw [S_size]; omega
  have hr : IntKind.i64.wrap r = r := IntWalk.i64_in _ (by omega)
  clear ht hl
  go_enter Tryz.func76, Tryz.ntmps76
  go_wp2_with (go_at_call 56; refine hc.mono ?_; rintro e w1 ⟨rfl, hb1⟩; have HB1 := Lib.hid hb1; clear hb1)
  go_ret
  exact ⟨rfl, HB1.out⟩
theorem off_text (o : Int) (w : World) (h0 : -32768 ≤ o) (h1 : o ≤ 32767) (he : Env w) : Calls Tryz.prog 77 #[.int .i16 o] w (Txt (offT o) w) := by
  unfold Txt
  obtain ⟨t, ht⟩ : ∃ t, Lib.itoa o = t := ⟨_, rfl⟩
  have hc := itoa_text o w (by omega) (by omega) he
  have hl := itoa_len o (by omega) (by omega)
  unfold offT
  unfold Txt at hc
  rw [ht] at hc hl ⊢
  have hcat : ({ data := #[43] } : ByteArray) ++ S t = S (43 :: t) := S_left [43] t
  have hsum : 1 + (S t).size ≤ 9223372036854775807 := by rw [S_size]; omega
  have hr : IntKind.i64.wrap o = o := IntWalk.i64_in _ (by omega)
  clear ht hl
  go_enter Tryz.func77, Tryz.ntmps77
  go_wp2_with (go_at_call 56; refine hc.mono ?_; rintro e w1 ⟨rfl, hb1⟩; have HB1 := Lib.hid hb1; clear hb1)
  all_goals
    go_ret
    exact ⟨by simp [*], HB1.out⟩
end Go.Proofs.YthmibmofdmlgaaaGreatDoor
