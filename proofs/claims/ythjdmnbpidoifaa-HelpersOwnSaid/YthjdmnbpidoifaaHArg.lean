/-
  Proved here: what Arg and Ret of the document's helpers give. Conditions: none.
-/
import Derived.Test.YthjdmnbpidoifaaHDoc
namespace Go.Proofs.Ythjdmnbpidoifaa
open Go.RowKit

theorem letter_more {L : List Int} {c : Int} {i : Nat} (hno : ∀ j, j < i → (L.getD j 0 == c) = false) (h : (L.getD i 0 == c) = false) : ∀ j, j < i + 1 → (L.getD j 0 == c) = false := by
  intro j hj
  by_cases e : j = i
  · rw [e]; exact h
  · exact hno j (by omega)
theorem place_found {L : List Int} {c : Int} {i : Nat} (hno : ∀ j, j < i → (L.getD j 0 == c) = false) (hi : i < L.length) (h : (L.getD i 0 == c) = true) : placeI L c = i + 1 := by
  have e : L.findIdx? (· == c) = some i := by
    rw [List.findIdx?_eq_some_iff_getElem]
    refine ⟨hi, ?_, fun j hj => ?_⟩
    · rwa [List.getD_eq_getElem?_getD, List.getElem?_eq_getElem hi, Option.getD_some] at h
    · have h2 := hno j hj
      rw [List.getD_eq_getElem?_getD, List.getElem?_eq_getElem (by omega), Option.getD_some] at h2
      simp [h2]
  unfold placeI
  rw [e]
theorem place_none {L : List Int} {c : Int} (hno : ∀ j, j < L.length → (L.getD j 0 == c) = false) : placeI L c = 0 := by
  have e : L.findIdx? (· == c) = none := by
    rw [List.findIdx?_eq_none_iff]
    intro x hx
    obtain ⟨j, hj, rfl⟩ := List.mem_iff_getElem.1 hx
    have h2 := hno j hj
    rwa [List.getD_eq_getElem?_getD, List.getElem?_eq_getElem hj, Option.getD_some] at h2
  unfold placeI
  rw [e]
theorem arg_ref (c : Int) (w : World) : Calls Try.prog 11 #[.int .u8 c] w (Ret (.int .u8 (argI c)) w) := by
  obtain ⟨S, hS⟩ : ∃ S : ByteArray, { data := #[109, 107, 118, 110, 105, 116, 99, 98, 114] } = S := ⟨_, rfl⟩
  obtain ⟨L, hL⟩ : ∃ L : List Int, [109, 107, 118, 110, 105, 116, 99, 98, 114] = L := ⟨_, rfl⟩
  have hf : argI c = placeI L c := by rw [← hL]; rfl
  have hsz : S.size = 9 := by rw [← hS]; rfl
  have hlen : L.length = 9 := by rw [← hL]; rfl
  have hat : ∀ i (h : i < S.size), (S[i].toNat : Int) = L.getD i 0 := by
    subst hS hL
    intro i h
    have hd : ∀ j : Fin 9, (({ data := #[109, 107, 118, 110, 105, 116, 99, 98, 114] } : ByteArray)[j.val]'j.isLt).toNat = (([109, 107, 118, 110, 105, 116, 99, 98, 114] : List Int).getD j.val 0) := by decide +kernel
    exact hd ⟨i, h⟩
  rw [hf]
  have HL := Lib.hid hlen
  have HA := Lib.hid hat
  clear hL hf hlen hat
  unfold Ret
  go_enter Try.func11, Try.ntmps11
  go_wp2
  go_loop [4] (fun x => ∃ i : Nat, i ≤ 9 ∧ x = .int .i64 i ∧ ∀ j, j < i → (L.getD j 0 == c) = false) (fun x => 9 - (intOf x).toNat)
  case atStart => exact ⟨0, Nat.zero_le _, rfl, fun j hj => absurd hj (Nat.not_lt_zero _)⟩
  case round =>
    obtain ⟨i, hi, rfl, hno⟩ := hrel
    have HN := Lib.hid hno
    clear hno
    by_cases hlt : i < 9
    · have hz := HA.out i (by rw [hsz]; exact hlt)
      cases hy : L.getD i 0 == c
      · have HY := Lib.hid hy
        generalize L.getD i 0 = z at hz hy
        go_wp2
        go_round
        case rel => exact ⟨i + 1, by omega, by go_num, letter_more HN.out HY.out⟩
        case measure => simp [intOf]; omega
      · have HY := Lib.hid hy
        have hp := place_found HN.out (by rw [HL.out]; exact hlt) hy
        have HP := Lib.hid hp
        clear hp
        generalize L.getD i 0 = z at hz hy
        go_wp2
        go_ret
        exact ⟨ret_u8 (by rw [HP.out]), rfl⟩
    · obtain rfl : i = 9 := by omega
      have hp := place_none (L := L) (c := c) (by rw [HL.out]; exact HN.out)
      have HP := Lib.hid hp
      clear hp
      go_wp2
      go_ret
      exact ⟨ret_u8 (by rw [HP.out]), rfl⟩
theorem ret_ref (c : Int) (w : World) : Calls Try.prog 9 #[.int .u8 c] w (Ret (.int .u8 (retI c)) w) := by
  obtain ⟨S, hS⟩ : ∃ S : ByteArray, { data := #[110, 118, 114] } = S := ⟨_, rfl⟩
  obtain ⟨L, hL⟩ : ∃ L : List Int, [110, 118, 114] = L := ⟨_, rfl⟩
  have hf : retI c = placeI L c := by rw [← hL]; rfl
  have hsz : S.size = 3 := by rw [← hS]; rfl
  have hlen : L.length = 3 := by rw [← hL]; rfl
  have hat : ∀ i (h : i < S.size), (S[i].toNat : Int) = L.getD i 0 := by
    subst hS hL
    intro i h
    have hd : ∀ j : Fin 3, (({ data := #[110, 118, 114] } : ByteArray)[j.val]'j.isLt).toNat = (([110, 118, 114] : List Int).getD j.val 0) := by decide +kernel
    exact hd ⟨i, h⟩
  rw [hf]
  have HL := Lib.hid hlen
  have HA := Lib.hid hat
  clear hL hf hlen hat
  unfold Ret
  go_enter Try.func9, Try.ntmps9
  go_wp2
  go_loop [4] (fun x => ∃ i : Nat, i ≤ 3 ∧ x = .int .i64 i ∧ ∀ j, j < i → (L.getD j 0 == c) = false) (fun x => 3 - (intOf x).toNat)
  case atStart => exact ⟨0, Nat.zero_le _, rfl, fun j hj => absurd hj (Nat.not_lt_zero _)⟩
  case round =>
    obtain ⟨i, hi, rfl, hno⟩ := hrel
    have HN := Lib.hid hno
    clear hno
    by_cases hlt : i < 3
    · have hz := HA.out i (by rw [hsz]; exact hlt)
      cases hy : L.getD i 0 == c
      · have HY := Lib.hid hy
        generalize L.getD i 0 = z at hz hy
        go_wp2
        go_round
        case rel => exact ⟨i + 1, by omega, by go_num, letter_more HN.out HY.out⟩
        case measure => simp [intOf]; omega
      · have HY := Lib.hid hy
        have hp := place_found HN.out (by rw [HL.out]; exact hlt) hy
        have HP := Lib.hid hp
        clear hp
        generalize L.getD i 0 = z at hz hy
        go_wp2
        go_ret
        exact ⟨ret_u8 (by rw [HP.out]), rfl⟩
    · obtain rfl : i = 3 := by omega
      have hp := place_none (L := L) (c := c) (by rw [HL.out]; exact HN.out)
      have HP := Lib.hid hp
      clear hp
      go_wp2
      go_ret
      exact ⟨ret_u8 (by rw [HP.out]), rfl⟩

end Go.Proofs.Ythjdmnbpidoifaa
