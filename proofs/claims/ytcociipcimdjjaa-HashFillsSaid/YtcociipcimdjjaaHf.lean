/-
  Proved here: what Len, Bytes, Slot and Find of the program's map tell. Conditions: as each lemma says.
-/
import Derived.Test.YtcociipcimdjjaaHm
namespace Go.Proofs.Ytcociipcimdjjaa
open Go.RowKit

theorem conv_empty (a : Option Addr) (c : Nat) (w : World) : (convert 31 9 (.slice a 0 c)).run Try.prog w = .ok (.string ⟨#[]⟩) w := by
  cases a <;> kernel_rfl
theorem zero3 (w : World) : (zeroValue 3).run Try.prog w = .ok (.int .i64 0) w := by kernel_rfl
/-- A key looked up. -/
def lookV (o : Option Nat) : Value := .tuple #[.int .i64 (match o with
  | some i => (i : Int)
  | none => 0), .bool o.isSome]
theorem look_run {w : World} {M : Nat} {Dm : DataW Unit} {ks : List ByteArray} (h : w.ownsMap Try.prog 9 (plainElem Try.prog 3) M 16 Dm) (ag : Agr Dm ks) {y : ByteArray} (hy : y.size ≤ maxLen) :
    (Instr.lookup 59 (.map (some M)) (.string y) true).run Try.prog w = .ok (lookV (slotOf ks y)) w := by
  obtain ⟨v, ps, hrun, hv⟩ := h.look_ok keyed9 Try.underlying59 (zero3 w) (plainElem_int Try.underlying3 (q := .i64) (a := 0) (by decide)) (key9 hy)
  obtain ⟨c, rfl, hc, -⟩ := plainElem_int_inv Try.underlying3 hv
  have hc1 := congrArg Prod.fst hc
  simp only at hc1
  rw [ag.at_] at hc1
  rw [hrun]
  unfold lookV
  cases hs : slotOf ks y with
  | some i =>
    rw [hs] at hc1
    simp only [DataW.lit.injEq, Lit.int.injEq, true_and] at hc1
    rw [ag.yes hs, ← hc1]
    rfl
  | none =>
    rw [hs] at hc1
    simp only [DataW.lit.injEq, Lit.int.injEq, true_and] at hc1
    rw [ag.no hs, ← hc1]
    rfl
section
variable {h A G C M : Nat} {v : Value} {len : Nat} {l : List Int} {Dm : DataW Unit} {key s n L : Nat} {ks : List ByteArray} {zs : List Int}
theorem slot_found {w : World} (H : Hm w h A G C M v len l Dm key s n L ks zs) (hk : 1 ≤ key) (kz : List Int) : slotOf ks (strOfNums kz) = if kz.length = key then ks.findIdx? (· = strOfNums kz) else none := by
  by_cases h0 : strOfNums kz = ⟨#[]⟩
  · have h1 := strOfNums_size kz
    rw [h0] at h1
    have h3 : 0 = kz.length := h1
    rw [if_neg (by omega)]
    unfold slotOf
    rw [if_pos h0]
  · split
    · unfold slotOf
      rw [if_neg h0]
    · rename_i e
      refine slotOf_none fun i hi e2 => ?_
      have h1 := H.kz _ (getD_mem hi) (by rw [e2]; exact h0)
      rw [e2, strOfNums_size] at h1
      exact e h1
/-- The bytes of a key made a string. -/
theorem conv_key {w : World} {a : Value} {kz : List Int} (h : KeyAt w a kz) : (convert 31 9 a).run Try.prog w = .ok (.string (strOfNums kz)) w := by
  cases h with
  | empty a c => exact conv_empty a c w
  | row g off len c kz hl hr hg => exact str_of hl hr
theorem key_drewN {w : World} {a : Value} {kz : List Int} (h : KeyAt w a kz) (m : Nat) : KeyAt (w.drewN m) a kz := by
  cases h with
  | empty a c => exact .empty a c
  | row g off len c kz hl hr hg => exact .row g off len c kz hl hr hg
theorem key_len {w : World} {a : Value} {kz : List Int} (h : KeyAt w a kz) : ∃ x c, a = .slice x kz.length c := by
  cases h with
  | empty a c => exact ⟨a, c, rfl⟩
  | row g off len c kz hl hr hg => exact ⟨_, c, by rw [hl]⟩
theorem hm_len {w : World} (H : Hm w h A G C M v len l Dm key s n L ks zs) : Calls Try.prog 11 #[.pointer (some ⟨h, 0, none⟩)] w (fun e w' => e = .returned (.int .i64 (listK ks).length) ∧ Below w.heap.size w w') := by
  have c2 := H.h2
  have hl := fun ty => H.ow.len Try.underlying59 ty
  rw [H.ag.size] at hl
  clear H
  go_enter Try.func11, Try.ntmps11
  go_wp2
  go_ret
  exact ⟨rfl, Below.refl _ _⟩
theorem hm_bytes {w : World} (H : Hm w h A G C M v len l Dm key s n L ks zs) (hd : Dim s n L) : Calls Try.prog 10 #[.pointer (some ⟨h, 0, none⟩)] w (GaveRow w L zs) := by
  have c1 := H.h1
  have HA := Lib.hid H.ar
  have hle := hd.le
  clear H
  go_enter Try.func10, Try.ntmps10
  go_wp2_with (go_at_call 28; refine (arr_bytes _ _ _ _ _ _ zs _ hd.pos (by omega) HA.out).mono ?_; rintro e w' ⟨g1, cap1, rfl, hf⟩)
  go_ret
  exact ⟨_, _, rfl, hf⟩
theorem hm_slot_no {w : World} {K : Int} (H : Hm w h A G C M v len l Dm key s n L ks zs) (hK : ¬ (0 ≤ K ∧ K < n)) : Calls Try.prog 16 #[.pointer (some ⟨h, 0, none⟩), .int .i64 K] w (fun e w' => e = .returned (.tuple #[.slice none 0 0, .bool false]) ∧ Below w.heap.size w w') := by
  have c1 := H.h1
  have HA := Lib.hid H.ar.c1
  have HK := Lib.hid hK
  clear H hK
  go_enter Try.func16, Try.ntmps16
  go_wp2_with (go_at_call 30; refine (slotC_no _ _ _ _ HA.out HK.out).mono ?_; rintro e w' ⟨rfl, hb⟩)
  go_ret2
  exact ⟨rfl, hb⟩
theorem hm_slot_yes {w : World} {q : Nat} (H : Hm w h A G C M v len l Dm key s n L ks zs) (hd : Dim s n L) (hq : q < n) : Calls Try.prog 16 #[.pointer (some ⟨h, 0, none⟩), .int .i64 (q : Int)] w (fun e w' => e = .returned (.tuple #[.slice (some ⟨G, q * s, none⟩) s s, .bool true]) ∧ Below w.heap.size w w') := by
  have c1 := H.h1
  have HA := Lib.hid H.ar
  have HC := H.c0
  clear H
  go_enter Try.func16, Try.ntmps16
  go_wp2_with (go_at_call 30; refine (slotC_yes _ _ _ _ _ _ _ _ _ _ hd HC HA.out hq rfl).mono ?_; rintro e w' ⟨rfl, hb⟩)
  go_ret2
  exact ⟨rfl, hb⟩
theorem hm_find {w : World} {a : Value} {kz : List Int} (H : Hm w h A G C M v len l Dm key s n L ks zs) (hk : 1 ≤ key) (ha : KeyAt w a kz) (hm : kz.length ≤ maxLen) : Calls Try.prog 12 #[.pointer (some ⟨h, 0, none⟩), a] w (FoundP ks key kz w) := by
  have c2 := H.h2
  have hsl := slot_found H hk kz
  have hcv : ∀ m, (convert 31 9 a).run Try.prog (w.drewN m) = .ok (.string (strOfNums kz)) (w.drewN m) := fun m => conv_key (key_drewN ha m)
  have hlk : ∀ m, (Instr.lookup 59 (.map (some M)) (.string (strOfNums kz)) true).run Try.prog (w.drewN m) = .ok (lookV (slotOf ks (strOfNums kz))) (w.drewN m) := fun m => look_run (w := w.drewN m) H.ow H.ag (by rw [strOfNums_size]; exact hm)
  obtain ⟨x, c, rfl⟩ := key_len ha
  obtain ⟨y, hy⟩ : ∃ y, strOfNums kz = y := ⟨_, rfl⟩
  have HP : ∀ v1 b1, lookV (slotOf ks y) = .tuple #[.int .i64 v1, .bool b1] → FoundP ks key kz w (.returned (.tuple #[.int .i64 v1, .bool b1])) w := by
    intro v1 b1 e
    refine ⟨?_, Below.refl _ _⟩
    rw [← e, ← hy, hsl]
    by_cases e3 : kz.length = key
    · rw [if_pos e3, if_pos e3]
      cases ks.findIdx? (· = strOfNums kz) <;> rfl
    · rw [if_neg e3, if_neg e3]
      rfl
  rw [hy] at hcv hlk
  obtain ⟨v1, b1, hv⟩ : ∃ v1 b1, lookV (slotOf ks y) = .tuple #[.int .i64 v1, .bool b1] := ⟨_, _, rfl⟩
  have HPV := Lib.hid (HP v1 b1 hv)
  rw [hv] at hlk
  clear H hsl HP hv hy ha
  go_enter Try.func12, Try.ntmps12
  go_wp2
  go_quiet (fail)
  go_wp2
  go_ret2
  exact ⟨HPV.out.1, bdrewN (Below.refl _ _) _⟩
end
end Go.Proofs.Ytcociipcimdjjaa
