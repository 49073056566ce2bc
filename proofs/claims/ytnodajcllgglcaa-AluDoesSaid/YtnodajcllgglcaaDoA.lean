/-
  Proved here: what Do of package alu tells where the map gives one of the functions 18, 19, 20, 21, given what that function tells. Conditions: numbers are uint64.
-/
import Derived.Test.YtnodajcllgglcaaDo
namespace Go.Proofs.Ytnodajcllgglcaa
open Go.RowKit
theorem do_18 (op : Int) (j : Nat) (wide : Bool) (a b r : Int) (w : World) (ha0 : 0 ≤ a) (ha1 : a ≤ 18446744073709551615) (hb0 : 0 ≤ b) (hb1 : b ≤ 18446744073709551615)
    (h1 : Instr.findNow (.int .u8) (.int .u8 op) (opEnts 13).toList 0 = some (some (j, fnV 18))) (hr0 : 0 ≤ r) (hr1 : r ≤ 18446744073709551615)
    (hf : ∀ w, Calls Try.prog 18 #[.int .u64 (zx a (szI wide)), .int .u64 (zx b (szI wide)), .int .i64 (szI wide)] w (Ret (.int .u64 r) w)) :
    Calls Try.prog 8 #[.int .u8 op, .bool wide, .int .u64 a, .int .u64 b] w (DoPost w (zx r (szI wide)) true) := by
  unfold DoPost
  have hk := op_look (w.alloc (.map (opEnts 13) 13)) w.heap.size j op (fnV 18) (by unfold OpMap; exact (MapKept.heap_alloc w _).1) h1
  unfold fnV at hk
  clear h1
  obtain ⟨n, hn⟩ : ∃ n, szI wide = n := ⟨_, rfl⟩
  rw [hn] at hf ⊢
  obtain ⟨x, hx⟩ : ∃ x, zx a n = x := ⟨_, rfl⟩
  obtain ⟨y, hy⟩ : ∃ y, zx b n = y := ⟨_, rfl⟩
  obtain ⟨z, hz⟩ : ∃ z, zx r n = z := ⟨_, rfl⟩
  rw [hx, hy] at hf
  rw [hz]
  have HN := Lib.hid hn
  have HX := Lib.hid hx
  have HY := Lib.hid hy
  have HZ := Lib.hid hz
  clear hn hx hy hz
  have hbel : Below w.heap.size w (w.alloc (.map (opEnts 13) 13)) := (Below.refl _ _).alloc (Nat.le_refl _) _
  have HB := Lib.hid hbel
  clear hbel
  generalize hW : w.alloc (.map (opEnts 13) 13) = W at hk HB
  have HW := Lib.hid hW
  clear hW
  go_enter Try.func8, Try.ntmps8
  go_wp2_with (first
    | (go_at_call 12; refine (ops_map _).mono ?_; rintro e w' ⟨rfl, rfl⟩; rw [HW.out])
    | (go_at_call 13; refine (size_alu _ _).mono ?_; rintro e w' ⟨rfl, rfl⟩; rw [HN.out])
    | (go_at_call 14; refine (zext_words _ _ _ (by assumption) (by assumption)).mono ?_; rintro e w' ⟨rfl, rfl⟩; first | rw [HX.out] | rw [HY.out] | rw [HZ.out])
    | (go_at_call 18; refine (hf _).mono ?_; rintro e w' ⟨rfl, rfl⟩))
  go_ret2
  exact ⟨rfl, HB.out⟩
theorem do_19 (op : Int) (j : Nat) (wide : Bool) (a b r : Int) (w : World) (ha0 : 0 ≤ a) (ha1 : a ≤ 18446744073709551615) (hb0 : 0 ≤ b) (hb1 : b ≤ 18446744073709551615)
    (h1 : Instr.findNow (.int .u8) (.int .u8 op) (opEnts 13).toList 0 = some (some (j, fnV 19))) (hr0 : 0 ≤ r) (hr1 : r ≤ 18446744073709551615)
    (hf : ∀ w, Calls Try.prog 19 #[.int .u64 (zx a (szI wide)), .int .u64 (zx b (szI wide)), .int .i64 (szI wide)] w (Ret (.int .u64 r) w)) :
    Calls Try.prog 8 #[.int .u8 op, .bool wide, .int .u64 a, .int .u64 b] w (DoPost w (zx r (szI wide)) true) := by
  unfold DoPost
  have hk := op_look (w.alloc (.map (opEnts 13) 13)) w.heap.size j op (fnV 19) (by unfold OpMap; exact (MapKept.heap_alloc w _).1) h1
  unfold fnV at hk
  clear h1
  obtain ⟨n, hn⟩ : ∃ n, szI wide = n := ⟨_, rfl⟩
  rw [hn] at hf ⊢
  obtain ⟨x, hx⟩ : ∃ x, zx a n = x := ⟨_, rfl⟩
  obtain ⟨y, hy⟩ : ∃ y, zx b n = y := ⟨_, rfl⟩
  obtain ⟨z, hz⟩ : ∃ z, zx r n = z := ⟨_, rfl⟩
  rw [hx, hy] at hf
  rw [hz]
  have HN := Lib.hid hn
  have HX := Lib.hid hx
  have HY := Lib.hid hy
  have HZ := Lib.hid hz
  clear hn hx hy hz
  have hbel : Below w.heap.size w (w.alloc (.map (opEnts 13) 13)) := (Below.refl _ _).alloc (Nat.le_refl _) _
  have HB := Lib.hid hbel
  clear hbel
  generalize hW : w.alloc (.map (opEnts 13) 13) = W at hk HB
  have HW := Lib.hid hW
  clear hW
  go_enter Try.func8, Try.ntmps8
  go_wp2_with (first
    | (go_at_call 12; refine (ops_map _).mono ?_; rintro e w' ⟨rfl, rfl⟩; rw [HW.out])
    | (go_at_call 13; refine (size_alu _ _).mono ?_; rintro e w' ⟨rfl, rfl⟩; rw [HN.out])
    | (go_at_call 14; refine (zext_words _ _ _ (by assumption) (by assumption)).mono ?_; rintro e w' ⟨rfl, rfl⟩; first | rw [HX.out] | rw [HY.out] | rw [HZ.out])
    | (go_at_call 19; refine (hf _).mono ?_; rintro e w' ⟨rfl, rfl⟩))
  go_ret2
  exact ⟨rfl, HB.out⟩
theorem do_20 (op : Int) (j : Nat) (wide : Bool) (a b r : Int) (w : World) (ha0 : 0 ≤ a) (ha1 : a ≤ 18446744073709551615) (hb0 : 0 ≤ b) (hb1 : b ≤ 18446744073709551615)
    (h1 : Instr.findNow (.int .u8) (.int .u8 op) (opEnts 13).toList 0 = some (some (j, fnV 20))) (hr0 : 0 ≤ r) (hr1 : r ≤ 18446744073709551615)
    (hf : ∀ w, Calls Try.prog 20 #[.int .u64 (zx a (szI wide)), .int .u64 (zx b (szI wide)), .int .i64 (szI wide)] w (Ret (.int .u64 r) w)) :
    Calls Try.prog 8 #[.int .u8 op, .bool wide, .int .u64 a, .int .u64 b] w (DoPost w (zx r (szI wide)) true) := by
  unfold DoPost
  have hk := op_look (w.alloc (.map (opEnts 13) 13)) w.heap.size j op (fnV 20) (by unfold OpMap; exact (MapKept.heap_alloc w _).1) h1
  unfold fnV at hk
  clear h1
  obtain ⟨n, hn⟩ : ∃ n, szI wide = n := ⟨_, rfl⟩
  rw [hn] at hf ⊢
  obtain ⟨x, hx⟩ : ∃ x, zx a n = x := ⟨_, rfl⟩
  obtain ⟨y, hy⟩ : ∃ y, zx b n = y := ⟨_, rfl⟩
  obtain ⟨z, hz⟩ : ∃ z, zx r n = z := ⟨_, rfl⟩
  rw [hx, hy] at hf
  rw [hz]
  have HN := Lib.hid hn
  have HX := Lib.hid hx
  have HY := Lib.hid hy
  have HZ := Lib.hid hz
  clear hn hx hy hz
  have hbel : Below w.heap.size w (w.alloc (.map (opEnts 13) 13)) := (Below.refl _ _).alloc (Nat.le_refl _) _
  have HB := Lib.hid hbel
  clear hbel
  generalize hW : w.alloc (.map (opEnts 13) 13) = W at hk HB
  have HW := Lib.hid hW
  clear hW
  go_enter Try.func8, Try.ntmps8
  go_wp2_with (first
    | (go_at_call 12; refine (ops_map _).mono ?_; rintro e w' ⟨rfl, rfl⟩; rw [HW.out])
    | (go_at_call 13; refine (size_alu _ _).mono ?_; rintro e w' ⟨rfl, rfl⟩; rw [HN.out])
    | (go_at_call 14; refine (zext_words _ _ _ (by assumption) (by assumption)).mono ?_; rintro e w' ⟨rfl, rfl⟩; first | rw [HX.out] | rw [HY.out] | rw [HZ.out])
    | (go_at_call 20; refine (hf _).mono ?_; rintro e w' ⟨rfl, rfl⟩))
  go_ret2
  exact ⟨rfl, HB.out⟩
theorem do_21 (op : Int) (j : Nat) (wide : Bool) (a b r : Int) (w : World) (ha0 : 0 ≤ a) (ha1 : a ≤ 18446744073709551615) (hb0 : 0 ≤ b) (hb1 : b ≤ 18446744073709551615)
    (h1 : Instr.findNow (.int .u8) (.int .u8 op) (opEnts 13).toList 0 = some (some (j, fnV 21))) (hr0 : 0 ≤ r) (hr1 : r ≤ 18446744073709551615)
    (hf : ∀ w, Calls Try.prog 21 #[.int .u64 (zx a (szI wide)), .int .u64 (zx b (szI wide)), .int .i64 (szI wide)] w (Ret (.int .u64 r) w)) :
    Calls Try.prog 8 #[.int .u8 op, .bool wide, .int .u64 a, .int .u64 b] w (DoPost w (zx r (szI wide)) true) := by
  unfold DoPost
  have hk := op_look (w.alloc (.map (opEnts 13) 13)) w.heap.size j op (fnV 21) (by unfold OpMap; exact (MapKept.heap_alloc w _).1) h1
  unfold fnV at hk
  clear h1
  obtain ⟨n, hn⟩ : ∃ n, szI wide = n := ⟨_, rfl⟩
  rw [hn] at hf ⊢
  obtain ⟨x, hx⟩ : ∃ x, zx a n = x := ⟨_, rfl⟩
  obtain ⟨y, hy⟩ : ∃ y, zx b n = y := ⟨_, rfl⟩
  obtain ⟨z, hz⟩ : ∃ z, zx r n = z := ⟨_, rfl⟩
  rw [hx, hy] at hf
  rw [hz]
  have HN := Lib.hid hn
  have HX := Lib.hid hx
  have HY := Lib.hid hy
  have HZ := Lib.hid hz
  clear hn hx hy hz
  have hbel : Below w.heap.size w (w.alloc (.map (opEnts 13) 13)) := (Below.refl _ _).alloc (Nat.le_refl _) _
  have HB := Lib.hid hbel
  clear hbel
  generalize hW : w.alloc (.map (opEnts 13) 13) = W at hk HB
  have HW := Lib.hid hW
  clear hW
  go_enter Try.func8, Try.ntmps8
  go_wp2_with (first
    | (go_at_call 12; refine (ops_map _).mono ?_; rintro e w' ⟨rfl, rfl⟩; rw [HW.out])
    | (go_at_call 13; refine (size_alu _ _).mono ?_; rintro e w' ⟨rfl, rfl⟩; rw [HN.out])
    | (go_at_call 14; refine (zext_words _ _ _ (by assumption) (by assumption)).mono ?_; rintro e w' ⟨rfl, rfl⟩; first | rw [HX.out] | rw [HY.out] | rw [HZ.out])
    | (go_at_call 21; refine (hf _).mono ?_; rintro e w' ⟨rfl, rfl⟩))
  go_ret2
  exact ⟨rfl, HB.out⟩
end Go.Proofs.Ytnodajcllgglcaa
