/-
  Proved here: what Do of package alu tells where the map gives one of the functions 18, 19, 20, 21, given what that function tells. Conditions: numbers are uint64.
-/
import Derived.Test.YtogadmlnmcojpaaDo
namespace Go.Proofs.Ytogadmlnmcojpaa
open Go.RowKit
theorem do_18 (op : Int) (j : Nat) (wide : Bool) (a b r : Int) (w : World) (ha0 : 0 ≤ a) (ha1 : a ≤ 18446744073709551615) (hb0 : 0 ≤ b) (hb1 : b ≤ 18446744073709551615)
    (h1 : Instr.findNow (.int .u8) (.int .u8 op) (opEnts 13).toList 0 = some (some (j, fnV 81))) (hr0 : 0 ≤ r) (hr1 : r ≤ 18446744073709551615)
    (hf : ∀ w, Calls Try.prog 81 #[.int .u64 (zx a (szI wide)), .int .u64 (zx b (szI wide)), .int .i64 (szI wide)] w (Ret (.int .u64 r) w)) :
    Calls Try.prog 32 #[.int .u8 op, .bool wide, .int .u64 a, .int .u64 b] w (DoPost w (zx r (szI wide)) true) := by
  unfold DoPost
  have hk := op_look (w.alloc (.map (opEnts 13) 13)) w.heap.size j op (fnV 81) (by unfold OpMap; exact (MapKept.heap_alloc w _).1) h1
  unfold fnV at hk
  clear h1
  obtain ⟨n, hn⟩ : ∃ n, szI wide = n := ⟨_, rfl⟩
  rw [hn] at hf ⊢
  obtain ⟨x, hx⟩ : ∃ x, zx a n = x := ⟨_, rfl⟩
  obtain ⟨y, hy⟩ : ∃ y, zx b n = y := ⟨_, rfl⟩
  obtain ⟨z, hz⟩ : ∃ z, zx r n = z := ⟨_, rfl⟩
  rw [hx, hy] at hf
  rw [hz]
  have HN := Lib.hid hn
  have HX := Lib.hid hx
  have HY := Lib.hid hy
  have HZ := Lib.hid hz
  clear hn hx hy hz
  have hbel : Below w.heap.size w (w.alloc (.map (opEnts 13) 13)) := (Below.refl _ _).alloc (Nat.le_refl _) _
  have HB := Lib.hid hbel
  clear hbel
  generalize hW : w.alloc (.map (opEnts 13) 13) = W at hk HB
  have HW := Lib.hid hW
  clear hW
  go_enter Try.func32, Try.ntmps32
  go_wp2_with (first
    | (go_at_call 64; refine (ops_map _).mono ?_; rintro e w' ⟨rfl, rfl⟩; rw [HW.out])
    | (go_at_call 65; refine (size_alu _ _).mono ?_; rintro e w' ⟨rfl, rfl⟩; rw [HN.out])
    | (go_at_call 66; refine (zext_words _ _ _ (by assumption) (by assumption)).mono ?_; rintro e w' ⟨rfl, rfl⟩; first | rw [HX.out] | rw [HY.out] | rw [HZ.out])
    | (go_at_call 81; refine (hf _).mono ?_; rintro e w' ⟨rfl, rfl⟩))
  go_ret2
  exact ⟨rfl, HB.out⟩
theorem do_19 (op : Int) (j : Nat) (wide : Bool) (a b r : Int) (w : World) (ha0 : 0 ≤ a) (ha1 : a ≤ 18446744073709551615) (hb0 : 0 ≤ b) (hb1 : b ≤ 18446744073709551615)
    (h1 : Instr.findNow (.int .u8) (.int .u8 op) (opEnts 13).toList 0 = some (some (j, fnV 82))) (hr0 : 0 ≤ r) (hr1 : r ≤ 18446744073709551615)
    (hf : ∀ w, Calls Try.prog 82 #[.int .u64 (zx a (szI wide)), .int .u64 (zx b (szI wide)), .int .i64 (szI wide)] w (Ret (.int .u64 r) w)) :
    Calls Try.prog 32 #[.int .u8 op, .bool wide, .int .u64 a, .int .u64 b] w (DoPost w (zx r (szI wide)) true) := by
  unfold DoPost
  have hk := op_look (w.alloc (.map (opEnts 13) 13)) w.heap.size j op (fnV 82) (by unfold OpMap; exact (MapKept.heap_alloc w _).1) h1
  unfold fnV at hk
  clear h1
  obtain ⟨n, hn⟩ : ∃ n, szI wide = n := ⟨_, rfl⟩
  rw [hn] at hf ⊢
  obtain ⟨x, hx⟩ : ∃ x, zx a n = x := ⟨_, rfl⟩
  obtain ⟨y, hy⟩ : ∃ y, zx b n = y := ⟨_, rfl⟩
  obtain ⟨z, hz⟩ : ∃ z, zx r n = z := ⟨_, rfl⟩
  rw [hx, hy] at hf
  rw [hz]
  have HN := Lib.hid hn
  have HX := Lib.hid hx
  have HY := Lib.hid hy
  have HZ := Lib.hid hz
  clear hn hx hy hz
  have hbel : Below w.heap.size w (w.alloc (.map (opEnts 13) 13)) := (Below.refl _ _).alloc (Nat.le_refl _) _
  have HB := Lib.hid hbel
  clear hbel
  generalize hW : w.alloc (.map (opEnts 13) 13) = W at hk HB
  have HW := Lib.hid hW
  clear hW
  go_enter Try.func32, Try.ntmps32
  go_wp2_with (first
    | (go_at_call 64; refine (ops_map _).mono ?_; rintro e w' ⟨rfl, rfl⟩; rw [HW.out])
    | (go_at_call 65; refine (size_alu _ _).mono ?_; rintro e w' ⟨rfl, rfl⟩; rw [HN.out])
    | (go_at_call 66; refine (zext_words _ _ _ (by assumption) (by assumption)).mono ?_; rintro e w' ⟨rfl, rfl⟩; first | rw [HX.out] | rw [HY.out] | rw [HZ.out])
    | (go_at_call 82; refine (hf _).mono ?_; rintro e w' ⟨rfl, rfl⟩))
  go_ret2
  exact ⟨rfl, HB.out⟩
theorem do_20 (op : Int) (j : Nat) (wide : Bool) (a b r : Int) (w : World) (ha0 : 0 ≤ a) (ha1 : a ≤ 18446744073709551615) (hb0 : 0 ≤ b) (hb1 : b ≤ 18446744073709551615)
    (h1 : Instr.findNow (.int .u8) (.int .u8 op) (opEnts 13).toList 0 = some (some (j, fnV 83))) (hr0 : 0 ≤ r) (hr1 : r ≤ 18446744073709551615)
    (hf : ∀ w, Calls Try.prog 83 #[.int .u64 (zx a (szI wide)), .int .u64 (zx b (szI wide)), .int .i64 (szI wide)] w (Ret (.int .u64 r) w)) :
    Calls Try.prog 32 #[.int .u8 op, .bool wide, .int .u64 a, .int .u64 b] w (DoPost w (zx r (szI wide)) true) := by
  unfold DoPost
  have hk := op_look (w.alloc (.map (opEnts 13) 13)) w.heap.size j op (fnV 83) (by unfold OpMap; exact (MapKept.heap_alloc w _).1) h1
  unfold fnV at hk
  clear h1
  obtain ⟨n, hn⟩ : ∃ n, szI wide = n := ⟨_, rfl⟩
  rw [hn] at hf ⊢
  obtain ⟨x, hx⟩ : ∃ x, zx a n = x := ⟨_, rfl⟩
  obtain ⟨y, hy⟩ : ∃ y, zx b n = y := ⟨_, rfl⟩
  obtain ⟨z, hz⟩ : ∃ z, zx r n = z := ⟨_, rfl⟩
  rw [hx, hy] at hf
  rw [hz]
  have HN := Lib.hid hn
  have HX := Lib.hid hx
  have HY := Lib.hid hy
  have HZ := Lib.hid hz
  clear hn hx hy hz
  have hbel : Below w.heap.size w (w.alloc (.map (opEnts 13) 13)) := (Below.refl _ _).alloc (Nat.le_refl _) _
  have HB := Lib.hid hbel
  clear hbel
  generalize hW : w.alloc (.map (opEnts 13) 13) = W at hk HB
  have HW := Lib.hid hW
  clear hW
  go_enter Try.func32, Try.ntmps32
  go_wp2_with (first
    | (go_at_call 64; refine (ops_map _).mono ?_; rintro e w' ⟨rfl, rfl⟩; rw [HW.out])
    | (go_at_call 65; refine (size_alu _ _).mono ?_; rintro e w' ⟨rfl, rfl⟩; rw [HN.out])
    | (go_at_call 66; refine (zext_words _ _ _ (by assumption) (by assumption)).mono ?_; rintro e w' ⟨rfl, rfl⟩; first | rw [HX.out] | rw [HY.out] | rw [HZ.out])
    | (go_at_call 83; refine (hf _).mono ?_; rintro e w' ⟨rfl, rfl⟩))
  go_ret2
  exact ⟨rfl, HB.out⟩
theorem do_21 (op : Int) (j : Nat) (wide : Bool) (a b r : Int) (w : World) (ha0 : 0 ≤ a) (ha1 : a ≤ 18446744073709551615) (hb0 : 0 ≤ b) (hb1 : b ≤ 18446744073709551615)
    (h1 : Instr.findNow (.int .u8) (.int .u8 op) (opEnts 13).toList 0 = some (some (j, fnV 84))) (hr0 : 0 ≤ r) (hr1 : r ≤ 18446744073709551615)
    (hf : ∀ w, Calls Try.prog 84 #[.int .u64 (zx a (szI wide)), .int .u64 (zx b (szI wide)), .int .i64 (szI wide)] w (Ret (.int .u64 r) w)) :
    Calls Try.prog 32 #[.int .u8 op, .bool wide, .int .u64 a, .int .u64 b] w (DoPost w (zx r (szI wide)) true) := by
  unfold DoPost
  have hk := op_look (w.alloc (.map (opEnts 13) 13)) w.heap.size j op (fnV 84) (by unfold OpMap; exact (MapKept.heap_alloc w _).1) h1
  unfold fnV at hk
  clear h1
  obtain ⟨n, hn⟩ : ∃ n, szI wide = n := ⟨_, rfl⟩
  rw [hn] at hf ⊢
  obtain ⟨x, hx⟩ : ∃ x, zx a n = x := ⟨_, rfl⟩
  obtain ⟨y, hy⟩ : ∃ y, zx b n = y := ⟨_, rfl⟩
  obtain ⟨z, hz⟩ : ∃ z, zx r n = z := ⟨_, rfl⟩
  rw [hx, hy] at hf
  rw [hz]
  have HN := Lib.hid hn
  have HX := Lib.hid hx
  have HY := Lib.hid hy
  have HZ := Lib.hid hz
  clear hn hx hy hz
  have hbel : Below w.heap.size w (w.alloc (.map (opEnts 13) 13)) := (Below.refl _ _).alloc (Nat.le_refl _) _
  have HB := Lib.hid hbel
  clear hbel
  generalize hW : w.alloc (.map (opEnts 13) 13) = W at hk HB
  have HW := Lib.hid hW
  clear hW
  go_enter Try.func32, Try.ntmps32
  go_wp2_with (first
    | (go_at_call 64; refine (ops_map _).mono ?_; rintro e w' ⟨rfl, rfl⟩; rw [HW.out])
    | (go_at_call 65; refine (size_alu _ _).mono ?_; rintro e w' ⟨rfl, rfl⟩; rw [HN.out])
    | (go_at_call 66; refine (zext_words _ _ _ (by assumption) (by assumption)).mono ?_; rintro e w' ⟨rfl, rfl⟩; first | rw [HX.out] | rw [HY.out] | rw [HZ.out])
    | (go_at_call 84; refine (hf _).mono ?_; rintro e w' ⟨rfl, rfl⟩))
  go_ret2
  exact ⟨rfl, HB.out⟩
end Go.Proofs.Ytogadmlnmcojpaa

/-
  Proved here: what Do of package alu tells where the map gives one of the functions 22, 23, 24, 26, given what that function tells. Conditions: numbers are uint64.
-/
namespace Go.Proofs.Ytogadmlnmcojpaa
open Go.RowKit
theorem do_22 (op : Int) (j : Nat) (wide : Bool) (a b r : Int) (w : World) (ha0 : 0 ≤ a) (ha1 : a ≤ 18446744073709551615) (hb0 : 0 ≤ b) (hb1 : b ≤ 18446744073709551615)
    (h1 : Instr.findNow (.int .u8) (.int .u8 op) (opEnts 13).toList 0 = some (some (j, fnV 85))) (hr0 : 0 ≤ r) (hr1 : r ≤ 18446744073709551615)
    (hf : ∀ w, Calls Try.prog 85 #[.int .u64 (zx a (szI wide)), .int .u64 (zx b (szI wide)), .int .i64 (szI wide)] w (Ret (.int .u64 r) w)) :
    Calls Try.prog 32 #[.int .u8 op, .bool wide, .int .u64 a, .int .u64 b] w (DoPost w (zx r (szI wide)) true) := by
  unfold DoPost
  have hk := op_look (w.alloc (.map (opEnts 13) 13)) w.heap.size j op (fnV 85) (by unfold OpMap; exact (MapKept.heap_alloc w _).1) h1
  unfold fnV at hk
  clear h1
  obtain ⟨n, hn⟩ : ∃ n, szI wide = n := ⟨_, rfl⟩
  rw [hn] at hf ⊢
  obtain ⟨x, hx⟩ : ∃ x, zx a n = x := ⟨_, rfl⟩
  obtain ⟨y, hy⟩ : ∃ y, zx b n = y := ⟨_, rfl⟩
  obtain ⟨z, hz⟩ : ∃ z, zx r n = z := ⟨_, rfl⟩
  rw [hx, hy] at hf
  rw [hz]
  have HN := Lib.hid hn
  have HX := Lib.hid hx
  have HY := Lib.hid hy
  have HZ := Lib.hid hz
  clear hn hx hy hz
  have hbel : Below w.heap.size w (w.alloc (.map (opEnts 13) 13)) := (Below.refl _ _).alloc (Nat.le_refl _) _
  have HB := Lib.hid hbel
  clear hbel
  generalize hW : w.alloc (.map (opEnts 13) 13) = W at hk HB
  have HW := Lib.hid hW
  clear hW
  go_enter Try.func32, Try.ntmps32
  go_wp2_with (first
    | (go_at_call 64; refine (ops_map _).mono ?_; rintro e w' ⟨rfl, rfl⟩; rw [HW.out])
    | (go_at_call 65; refine (size_alu _ _).mono ?_; rintro e w' ⟨rfl, rfl⟩; rw [HN.out])
    | (go_at_call 66; refine (zext_words _ _ _ (by assumption) (by assumption)).mono ?_; rintro e w' ⟨rfl, rfl⟩; first | rw [HX.out] | rw [HY.out] | rw [HZ.out])
    | (go_at_call 85; refine (hf _).mono ?_; rintro e w' ⟨rfl, rfl⟩))
  go_ret2
  exact ⟨rfl, HB.out⟩
theorem do_23 (op : Int) (j : Nat) (wide : Bool) (a b r : Int) (w : World) (ha0 : 0 ≤ a) (ha1 : a ≤ 18446744073709551615) (hb0 : 0 ≤ b) (hb1 : b ≤ 18446744073709551615)
    (h1 : Instr.findNow (.int .u8) (.int .u8 op) (opEnts 13).toList 0 = some (some (j, fnV 86))) (hr0 : 0 ≤ r) (hr1 : r ≤ 18446744073709551615)
    (hf : ∀ w, Calls Try.prog 86 #[.int .u64 (zx a (szI wide)), .int .u64 (zx b (szI wide)), .int .i64 (szI wide)] w (Ret (.int .u64 r) w)) :
    Calls Try.prog 32 #[.int .u8 op, .bool wide, .int .u64 a, .int .u64 b] w (DoPost w (zx r (szI wide)) true) := by
  unfold DoPost
  have hk := op_look (w.alloc (.map (opEnts 13) 13)) w.heap.size j op (fnV 86) (by unfold OpMap; exact (MapKept.heap_alloc w _).1) h1
  unfold fnV at hk
  clear h1
  obtain ⟨n, hn⟩ : ∃ n, szI wide = n := ⟨_, rfl⟩
  rw [hn] at hf ⊢
  obtain ⟨x, hx⟩ : ∃ x, zx a n = x := ⟨_, rfl⟩
  obtain ⟨y, hy⟩ : ∃ y, zx b n = y := ⟨_, rfl⟩
  obtain ⟨z, hz⟩ : ∃ z, zx r n = z := ⟨_, rfl⟩
  rw [hx, hy] at hf
  rw [hz]
  have HN := Lib.hid hn
  have HX := Lib.hid hx
  have HY := Lib.hid hy
  have HZ := Lib.hid hz
  clear hn hx hy hz
  have hbel : Below w.heap.size w (w.alloc (.map (opEnts 13) 13)) := (Below.refl _ _).alloc (Nat.le_refl _) _
  have HB := Lib.hid hbel
  clear hbel
  generalize hW : w.alloc (.map (opEnts 13) 13) = W at hk HB
  have HW := Lib.hid hW
  clear hW
  go_enter Try.func32, Try.ntmps32
  go_wp2_with (first
    | (go_at_call 64; refine (ops_map _).mono ?_; rintro e w' ⟨rfl, rfl⟩; rw [HW.out])
    | (go_at_call 65; refine (size_alu _ _).mono ?_; rintro e w' ⟨rfl, rfl⟩; rw [HN.out])
    | (go_at_call 66; refine (zext_words _ _ _ (by assumption) (by assumption)).mono ?_; rintro e w' ⟨rfl, rfl⟩; first | rw [HX.out] | rw [HY.out] | rw [HZ.out])
    | (go_at_call 86; refine (hf _).mono ?_; rintro e w' ⟨rfl, rfl⟩))
  go_ret2
  exact ⟨rfl, HB.out⟩
theorem do_24 (op : Int) (j : Nat) (wide : Bool) (a b r : Int) (w : World) (ha0 : 0 ≤ a) (ha1 : a ≤ 18446744073709551615) (hb0 : 0 ≤ b) (hb1 : b ≤ 18446744073709551615)
    (h1 : Instr.findNow (.int .u8) (.int .u8 op) (opEnts 13).toList 0 = some (some (j, fnV 87))) (hr0 : 0 ≤ r) (hr1 : r ≤ 18446744073709551615)
    (hf : ∀ w, Calls Try.prog 87 #[.int .u64 (zx a (szI wide)), .int .u64 (zx b (szI wide)), .int .i64 (szI wide)] w (Ret (.int .u64 r) w)) :
    Calls Try.prog 32 #[.int .u8 op, .bool wide, .int .u64 a, .int .u64 b] w (DoPost w (zx r (szI wide)) true) := by
  unfold DoPost
  have hk := op_look (w.alloc (.map (opEnts 13) 13)) w.heap.size j op (fnV 87) (by unfold OpMap; exact (MapKept.heap_alloc w _).1) h1
  unfold fnV at hk
  clear h1
  obtain ⟨n, hn⟩ : ∃ n, szI wide = n := ⟨_, rfl⟩
  rw [hn] at hf ⊢
  obtain ⟨x, hx⟩ : ∃ x, zx a n = x := ⟨_, rfl⟩
  obtain ⟨y, hy⟩ : ∃ y, zx b n = y := ⟨_, rfl⟩
  obtain ⟨z, hz⟩ : ∃ z, zx r n = z := ⟨_, rfl⟩
  rw [hx, hy] at hf
  rw [hz]
  have HN := Lib.hid hn
  have HX := Lib.hid hx
  have HY := Lib.hid hy
  have HZ := Lib.hid hz
  clear hn hx hy hz
  have hbel : Below w.heap.size w (w.alloc (.map (opEnts 13) 13)) := (Below.refl _ _).alloc (Nat.le_refl _) _
  have HB := Lib.hid hbel
  clear hbel
  generalize hW : w.alloc (.map (opEnts 13) 13) = W at hk HB
  have HW := Lib.hid hW
  clear hW
  go_enter Try.func32, Try.ntmps32
  go_wp2_with (first
    | (go_at_call 64; refine (ops_map _).mono ?_; rintro e w' ⟨rfl, rfl⟩; rw [HW.out])
    | (go_at_call 65; refine (size_alu _ _).mono ?_; rintro e w' ⟨rfl, rfl⟩; rw [HN.out])
    | (go_at_call 66; refine (zext_words _ _ _ (by assumption) (by assumption)).mono ?_; rintro e w' ⟨rfl, rfl⟩; first | rw [HX.out] | rw [HY.out] | rw [HZ.out])
    | (go_at_call 87; refine (hf _).mono ?_; rintro e w' ⟨rfl, rfl⟩))
  go_ret2
  exact ⟨rfl, HB.out⟩
theorem do_26 (op : Int) (j : Nat) (wide : Bool) (a b r : Int) (w : World) (ha0 : 0 ≤ a) (ha1 : a ≤ 18446744073709551615) (hb0 : 0 ≤ b) (hb1 : b ≤ 18446744073709551615)
    (h1 : Instr.findNow (.int .u8) (.int .u8 op) (opEnts 13).toList 0 = some (some (j, fnV 89))) (hr0 : 0 ≤ r) (hr1 : r ≤ 18446744073709551615)
    (hf : ∀ w, Calls Try.prog 89 #[.int .u64 (zx a (szI wide)), .int .u64 (zx b (szI wide)), .int .i64 (szI wide)] w (Ret (.int .u64 r) w)) :
    Calls Try.prog 32 #[.int .u8 op, .bool wide, .int .u64 a, .int .u64 b] w (DoPost w (zx r (szI wide)) true) := by
  unfold DoPost
  have hk := op_look (w.alloc (.map (opEnts 13) 13)) w.heap.size j op (fnV 89) (by unfold OpMap; exact (MapKept.heap_alloc w _).1) h1
  unfold fnV at hk
  clear h1
  obtain ⟨n, hn⟩ : ∃ n, szI wide = n := ⟨_, rfl⟩
  rw [hn] at hf ⊢
  obtain ⟨x, hx⟩ : ∃ x, zx a n = x := ⟨_, rfl⟩
  obtain ⟨y, hy⟩ : ∃ y, zx b n = y := ⟨_, rfl⟩
  obtain ⟨z, hz⟩ : ∃ z, zx r n = z := ⟨_, rfl⟩
  rw [hx, hy] at hf
  rw [hz]
  have HN := Lib.hid hn
  have HX := Lib.hid hx
  have HY := Lib.hid hy
  have HZ := Lib.hid hz
  clear hn hx hy hz
  have hbel : Below w.heap.size w (w.alloc (.map (opEnts 13) 13)) := (Below.refl _ _).alloc (Nat.le_refl _) _
  have HB := Lib.hid hbel
  clear hbel
  generalize hW : w.alloc (.map (opEnts 13) 13) = W at hk HB
  have HW := Lib.hid hW
  clear hW
  go_enter Try.func32, Try.ntmps32
  go_wp2_with (first
    | (go_at_call 64; refine (ops_map _).mono ?_; rintro e w' ⟨rfl, rfl⟩; rw [HW.out])
    | (go_at_call 65; refine (size_alu _ _).mono ?_; rintro e w' ⟨rfl, rfl⟩; rw [HN.out])
    | (go_at_call 66; refine (zext_words _ _ _ (by assumption) (by assumption)).mono ?_; rintro e w' ⟨rfl, rfl⟩; first | rw [HX.out] | rw [HY.out] | rw [HZ.out])
    | (go_at_call 89; refine (hf _).mono ?_; rintro e w' ⟨rfl, rfl⟩))
  go_ret2
  exact ⟨rfl, HB.out⟩
end Go.Proofs.Ytogadmlnmcojpaa

/-
  Proved here: what Do of package alu tells where the map gives one of the functions 27, 28, 29, 30, 31, given what that function tells. Conditions: numbers are uint64.
-/
namespace Go.Proofs.Ytogadmlnmcojpaa
open Go.RowKit
theorem do_27 (op : Int) (j : Nat) (wide : Bool) (a b r : Int) (w : World) (ha0 : 0 ≤ a) (ha1 : a ≤ 18446744073709551615) (hb0 : 0 ≤ b) (hb1 : b ≤ 18446744073709551615)
    (h1 : Instr.findNow (.int .u8) (.int .u8 op) (opEnts 13).toList 0 = some (some (j, fnV 90))) (hr0 : 0 ≤ r) (hr1 : r ≤ 18446744073709551615)
    (hf : ∀ w, Calls Try.prog 90 #[.int .u64 (zx a (szI wide)), .int .u64 (zx b (szI wide)), .int .i64 (szI wide)] w (Ret (.int .u64 r) w)) :
    Calls Try.prog 32 #[.int .u8 op, .bool wide, .int .u64 a, .int .u64 b] w (DoPost w (zx r (szI wide)) true) := by
  unfold DoPost
  have hk := op_look (w.alloc (.map (opEnts 13) 13)) w.heap.size j op (fnV 90) (by unfold OpMap; exact (MapKept.heap_alloc w _).1) h1
  unfold fnV at hk
  clear h1
  obtain ⟨n, hn⟩ : ∃ n, szI wide = n := ⟨_, rfl⟩
  rw [hn] at hf ⊢
  obtain ⟨x, hx⟩ : ∃ x, zx a n = x := ⟨_, rfl⟩
  obtain ⟨y, hy⟩ : ∃ y, zx b n = y := ⟨_, rfl⟩
  obtain ⟨z, hz⟩ : ∃ z, zx r n = z := ⟨_, rfl⟩
  rw [hx, hy] at hf
  rw [hz]
  have HN := Lib.hid hn
  have HX := Lib.hid hx
  have HY := Lib.hid hy
  have HZ := Lib.hid hz
  clear hn hx hy hz
  have hbel : Below w.heap.size w (w.alloc (.map (opEnts 13) 13)) := (Below.refl _ _).alloc (Nat.le_refl _) _
  have HB := Lib.hid hbel
  clear hbel
  generalize hW : w.alloc (.map (opEnts 13) 13) = W at hk HB
  have HW := Lib.hid hW
  clear hW
  go_enter Try.func32, Try.ntmps32
  go_wp2_with (first
    | (go_at_call 64; refine (ops_map _).mono ?_; rintro e w' ⟨rfl, rfl⟩; rw [HW.out])
    | (go_at_call 65; refine (size_alu _ _).mono ?_; rintro e w' ⟨rfl, rfl⟩; rw [HN.out])
    | (go_at_call 66; refine (zext_words _ _ _ (by assumption) (by assumption)).mono ?_; rintro e w' ⟨rfl, rfl⟩; first | rw [HX.out] | rw [HY.out] | rw [HZ.out])
    | (go_at_call 90; refine (hf _).mono ?_; rintro e w' ⟨rfl, rfl⟩))
  go_ret2
  exact ⟨rfl, HB.out⟩
theorem do_28 (op : Int) (j : Nat) (wide : Bool) (a b r : Int) (w : World) (ha0 : 0 ≤ a) (ha1 : a ≤ 18446744073709551615) (hb0 : 0 ≤ b) (hb1 : b ≤ 18446744073709551615)
    (h1 : Instr.findNow (.int .u8) (.int .u8 op) (opEnts 13).toList 0 = some (some (j, fnV 91))) (hr0 : 0 ≤ r) (hr1 : r ≤ 18446744073709551615)
    (hf : ∀ w, Calls Try.prog 91 #[.int .u64 (zx a (szI wide)), .int .u64 (zx b (szI wide)), .int .i64 (szI wide)] w (Ret (.int .u64 r) w)) :
    Calls Try.prog 32 #[.int .u8 op, .bool wide, .int .u64 a, .int .u64 b] w (DoPost w (zx r (szI wide)) true) := by
  unfold DoPost
  have hk := op_look (w.alloc (.map (opEnts 13) 13)) w.heap.size j op (fnV 91) (by unfold OpMap; exact (MapKept.heap_alloc w _).1) h1
  unfold fnV at hk
  clear h1
  obtain ⟨n, hn⟩ : ∃ n, szI wide = n := ⟨_, rfl⟩
  rw [hn] at hf ⊢
  obtain ⟨x, hx⟩ : ∃ x, zx a n = x := ⟨_, rfl⟩
  obtain ⟨y, hy⟩ : ∃ y, zx b n = y := ⟨_, rfl⟩
  obtain ⟨z, hz⟩ : ∃ z, zx r n = z := ⟨_, rfl⟩
  rw [hx, hy] at hf
  rw [hz]
  have HN := Lib.hid hn
  have HX := Lib.hid hx
  have HY := Lib.hid hy
  have HZ := Lib.hid hz
  clear hn hx hy hz
  have hbel : Below w.heap.size w (w.alloc (.map (opEnts 13) 13)) := (Below.refl _ _).alloc (Nat.le_refl _) _
  have HB := Lib.hid hbel
  clear hbel
  generalize hW : w.alloc (.map (opEnts 13) 13) = W at hk HB
  have HW := Lib.hid hW
  clear hW
  go_enter Try.func32, Try.ntmps32
  go_wp2_with (first
    | (go_at_call 64; refine (ops_map _).mono ?_; rintro e w' ⟨rfl, rfl⟩; rw [HW.out])
    | (go_at_call 65; refine (size_alu _ _).mono ?_; rintro e w' ⟨rfl, rfl⟩; rw [HN.out])
    | (go_at_call 66; refine (zext_words _ _ _ (by assumption) (by assumption)).mono ?_; rintro e w' ⟨rfl, rfl⟩; first | rw [HX.out] | rw [HY.out] | rw [HZ.out])
    | (go_at_call 91; refine (hf _).mono ?_; rintro e w' ⟨rfl, rfl⟩))
  go_ret2
  exact ⟨rfl, HB.out⟩
theorem do_29 (op : Int) (j : Nat) (wide : Bool) (a b r : Int) (w : World) (ha0 : 0 ≤ a) (ha1 : a ≤ 18446744073709551615) (hb0 : 0 ≤ b) (hb1 : b ≤ 18446744073709551615)
    (h1 : Instr.findNow (.int .u8) (.int .u8 op) (opEnts 13).toList 0 = some (some (j, fnV 92))) (hr0 : 0 ≤ r) (hr1 : r ≤ 18446744073709551615)
    (hf : ∀ w, Calls Try.prog 92 #[.int .u64 (zx a (szI wide)), .int .u64 (zx b (szI wide)), .int .i64 (szI wide)] w (Ret (.int .u64 r) w)) :
    Calls Try.prog 32 #[.int .u8 op, .bool wide, .int .u64 a, .int .u64 b] w (DoPost w (zx r (szI wide)) true) := by
  unfold DoPost
  have hk := op_look (w.alloc (.map (opEnts 13) 13)) w.heap.size j op (fnV 92) (by unfold OpMap; exact (MapKept.heap_alloc w _).1) h1
  unfold fnV at hk
  clear h1
  obtain ⟨n, hn⟩ : ∃ n, szI wide = n := ⟨_, rfl⟩
  rw [hn] at hf ⊢
  obtain ⟨x, hx⟩ : ∃ x, zx a n = x := ⟨_, rfl⟩
  obtain ⟨y, hy⟩ : ∃ y, zx b n = y := ⟨_, rfl⟩
  obtain ⟨z, hz⟩ : ∃ z, zx r n = z := ⟨_, rfl⟩
  rw [hx, hy] at hf
  rw [hz]
  have HN := Lib.hid hn
  have HX := Lib.hid hx
  have HY := Lib.hid hy
  have HZ := Lib.hid hz
  clear hn hx hy hz
  have hbel : Below w.heap.size w (w.alloc (.map (opEnts 13) 13)) := (Below.refl _ _).alloc (Nat.le_refl _) _
  have HB := Lib.hid hbel
  clear hbel
  generalize hW : w.alloc (.map (opEnts 13) 13) = W at hk HB
  have HW := Lib.hid hW
  clear hW
  go_enter Try.func32, Try.ntmps32
  go_wp2_with (first
    | (go_at_call 64; refine (ops_map _).mono ?_; rintro e w' ⟨rfl, rfl⟩; rw [HW.out])
    | (go_at_call 65; refine (size_alu _ _).mono ?_; rintro e w' ⟨rfl, rfl⟩; rw [HN.out])
    | (go_at_call 66; refine (zext_words _ _ _ (by assumption) (by assumption)).mono ?_; rintro e w' ⟨rfl, rfl⟩; first | rw [HX.out] | rw [HY.out] | rw [HZ.out])
    | (go_at_call 92; refine (hf _).mono ?_; rintro e w' ⟨rfl, rfl⟩))
  go_ret2
  exact ⟨rfl, HB.out⟩
theorem do_30 (op : Int) (j : Nat) (wide : Bool) (a b r : Int) (w : World) (ha0 : 0 ≤ a) (ha1 : a ≤ 18446744073709551615) (hb0 : 0 ≤ b) (hb1 : b ≤ 18446744073709551615)
    (h1 : Instr.findNow (.int .u8) (.int .u8 op) (opEnts 13).toList 0 = some (some (j, fnV 93))) (hr0 : 0 ≤ r) (hr1 : r ≤ 18446744073709551615)
    (hf : ∀ w, Calls Try.prog 93 #[.int .u64 (zx a (szI wide)), .int .u64 (zx b (szI wide)), .int .i64 (szI wide)] w (Ret (.int .u64 r) w)) :
    Calls Try.prog 32 #[.int .u8 op, .bool wide, .int .u64 a, .int .u64 b] w (DoPost w (zx r (szI wide)) true) := by
  unfold DoPost
  have hk := op_look (w.alloc (.map (opEnts 13) 13)) w.heap.size j op (fnV 93) (by unfold OpMap; exact (MapKept.heap_alloc w _).1) h1
  unfold fnV at hk
  clear h1
  obtain ⟨n, hn⟩ : ∃ n, szI wide = n := ⟨_, rfl⟩
  rw [hn] at hf ⊢
  obtain ⟨x, hx⟩ : ∃ x, zx a n = x := ⟨_, rfl⟩
  obtain ⟨y, hy⟩ : ∃ y, zx b n = y := ⟨_, rfl⟩
  obtain ⟨z, hz⟩ : ∃ z, zx r n = z := ⟨_, rfl⟩
  rw [hx, hy] at hf
  rw [hz]
  have HN := Lib.hid hn
  have HX := Lib.hid hx
  have HY := Lib.hid hy
  have HZ := Lib.hid hz
  clear hn hx hy hz
  have hbel : Below w.heap.size w (w.alloc (.map (opEnts 13) 13)) := (Below.refl _ _).alloc (Nat.le_refl _) _
  have HB := Lib.hid hbel
  clear hbel
  generalize hW : w.alloc (.map (opEnts 13) 13) = W at hk HB
  have HW := Lib.hid hW
  clear hW
  go_enter Try.func32, Try.ntmps32
  go_wp2_with (first
    | (go_at_call 64; refine (ops_map _).mono ?_; rintro e w' ⟨rfl, rfl⟩; rw [HW.out])
    | (go_at_call 65; refine (size_alu _ _).mono ?_; rintro e w' ⟨rfl, rfl⟩; rw [HN.out])
    | (go_at_call 66; refine (zext_words _ _ _ (by assumption) (by assumption)).mono ?_; rintro e w' ⟨rfl, rfl⟩; first | rw [HX.out] | rw [HY.out] | rw [HZ.out])
    | (go_at_call 93; refine (hf _).mono ?_; rintro e w' ⟨rfl, rfl⟩))
  go_ret2
  exact ⟨rfl, HB.out⟩
theorem do_31 (op : Int) (j : Nat) (wide : Bool) (a b r : Int) (w : World) (ha0 : 0 ≤ a) (ha1 : a ≤ 18446744073709551615) (hb0 : 0 ≤ b) (hb1 : b ≤ 18446744073709551615)
    (h1 : Instr.findNow (.int .u8) (.int .u8 op) (opEnts 13).toList 0 = some (some (j, fnV 94))) (hr0 : 0 ≤ r) (hr1 : r ≤ 18446744073709551615)
    (hf : ∀ w, Calls Try.prog 94 #[.int .u64 (zx a (szI wide)), .int .u64 (zx b (szI wide)), .int .i64 (szI wide)] w (Ret (.int .u64 r) w)) :
    Calls Try.prog 32 #[.int .u8 op, .bool wide, .int .u64 a, .int .u64 b] w (DoPost w (zx r (szI wide)) true) := by
  unfold DoPost
  have hk := op_look (w.alloc (.map (opEnts 13) 13)) w.heap.size j op (fnV 94) (by unfold OpMap; exact (MapKept.heap_alloc w _).1) h1
  unfold fnV at hk
  clear h1
  obtain ⟨n, hn⟩ : ∃ n, szI wide = n := ⟨_, rfl⟩
  rw [hn] at hf ⊢
  obtain ⟨x, hx⟩ : ∃ x, zx a n = x := ⟨_, rfl⟩
  obtain ⟨y, hy⟩ : ∃ y, zx b n = y := ⟨_, rfl⟩
  obtain ⟨z, hz⟩ : ∃ z, zx r n = z := ⟨_, rfl⟩
  rw [hx, hy] at hf
  rw [hz]
  have HN := Lib.hid hn
  have HX := Lib.hid hx
  have HY := Lib.hid hy
  have HZ := Lib.hid hz
  clear hn hx hy hz
  have hbel : Below w.heap.size w (w.alloc (.map (opEnts 13) 13)) := (Below.refl _ _).alloc (Nat.le_refl _) _
  have HB := Lib.hid hbel
  clear hbel
  generalize hW : w.alloc (.map (opEnts 13) 13) = W at hk HB
  have HW := Lib.hid hW
  clear hW
  go_enter Try.func32, Try.ntmps32
  go_wp2_with (first
    | (go_at_call 64; refine (ops_map _).mono ?_; rintro e w' ⟨rfl, rfl⟩; rw [HW.out])
    | (go_at_call 65; refine (size_alu _ _).mono ?_; rintro e w' ⟨rfl, rfl⟩; rw [HN.out])
    | (go_at_call 66; refine (zext_words _ _ _ (by assumption) (by assumption)).mono ?_; rintro e w' ⟨rfl, rfl⟩; first | rw [HX.out] | rw [HY.out] | rw [HZ.out])
    | (go_at_call 94; refine (hf _).mono ?_; rintro e w' ⟨rfl, rfl⟩))
  go_ret2
  exact ⟨rfl, HB.out⟩
end Go.Proofs.Ytogadmlnmcojpaa

/-
  Proved here: what Do of package alu tells, of every number. Conditions: an operation's number is a uint8, the two others are uint64.
-/
namespace Go.Proofs.Ytogadmlnmcojpaa
open Go.RowKit

theorem wrap_bd (x : Int) : 0 ≤ IntKind.u64.wrap x ∧ IntKind.u64.wrap x ≤ 18446744073709551615 := by
  simp only [IntKind.wrap, IntKind.bits, IntKind.signed]
  simp
  omega
theorem bits_bd {a b : Int} (ha0 : 0 ≤ a) (ha1 : a ≤ 18446744073709551615) (hb0 : 0 ≤ b) (hb1 : b ≤ 18446744073709551615) :
    (0 ≤ bits .or .u64 a b ∧ bits .or .u64 a b ≤ 18446744073709551615) ∧ (0 ≤ bits .and .u64 a b ∧ bits .and .u64 a b ≤ 18446744073709551615) ∧ (0 ≤ bits .xor .u64 a b ∧ bits .xor .u64 a b ≤ 18446744073709551615) := by
  rw [u64_or a b (by omega) (by omega) (by omega) (by omega), u64_and a b (by omega) (by omega) (by omega) (by omega), u64_xor a b (by omega) (by omega) (by omega) (by omega)]
  have h1 : a.toNat < 2 ^ 64 := by omega
  have h2 : b.toNat < 2 ^ 64 := by omega
  have h3 := Nat.or_lt_two_pow h1 h2
  have h4 := Nat.xor_lt_two_pow h1 h2
  have h5 := Nat.and_lt_two_pow a.toNat h2
  omega
theorem quo_bd {a b : Int} (ha0 : 0 ≤ a) (ha1 : a ≤ 18446744073709551615) (hb0 : 0 ≤ b) : 0 ≤ a / b ∧ a / b ≤ 18446744073709551615 := by
  have h1 := Int.ediv_nonneg ha0 hb0
  have h2 := Int.ediv_le_self b ha0
  omega
theorem mod_bd {a b : Int} (ha0 : 0 ≤ a) (ha1 : a ≤ 18446744073709551615) (hb0 : 0 ≤ b) (hb1 : b ≤ 18446744073709551615) : 0 ≤ a % b ∧ a % b ≤ 18446744073709551615 := by
  by_cases h : b = 0
  · subst h; rw [Int.emod_zero]; omega
  · have h1 := Int.emod_nonneg a h
    have h2 := Int.emod_lt_of_pos a (show 0 < b by omega)
    omega
theorem pow_nonneg2 (k : Nat) : (0 : Int) ≤ 2 ^ k := Int.le_of_lt (Int.pow_pos (by decide))

/-- What Do tells. -/
def doI (op : Int) (wide : Bool) (a b : Int) : Int := zx (opI op (zx a (szI wide)) (zx b (szI wide)) (szI wide)) (szI wide)

theorem ite_D {c : Prop} [Decidable c] {x y : Int} (hx : u64D x) (hy : u64D y) : u64D (if c then x else y) := by
  by_cases h : c
  · rw [if_pos h]; exact hx
  · rw [if_neg h]; exact hy
theorem opI_bd (op a b n : Int) (ha0 : 0 ≤ a) (ha1 : a ≤ 18446744073709551615) (hb0 : 0 ≤ b) (hb1 : b ≤ 18446744073709551615) : 0 ≤ opI op a b n ∧ opI op a b n ≤ 18446744073709551615 := by
  have hb := bits_bd ha0 ha1 hb0 hb1
  show u64D (opI op a b n)
  unfold opI
  refine ite_D ?_ (ite_D ?_ (ite_D ?_ (ite_D ?_ (ite_D ?_ (ite_D ?_ (ite_D ?_ (ite_D ?_ (ite_D ?_ (ite_D ?_ (ite_D ?_ (ite_D ?_ (ite_D ?_ ?_))))))))))))
  all_goals first
    | exact wrap_bd _
    | exact quo_bd ha0 ha1 hb0
    | exact quo_bd ha0 ha1 (pow_nonneg2 _)
    | exact mod_bd ha0 ha1 hb0 hb1
    | exact hb.1
    | exact hb.2.1
    | exact hb.2.2
    | exact ⟨hb0, hb1⟩
    | exact ⟨by decide, by decide⟩

theorem do_alu (op : Int) (wide : Bool) (a b : Int) (w : World) (h0 : 0 ≤ op) (h1 : op ≤ 255) (ha0 : 0 ≤ a) (ha1 : a ≤ 18446744073709551615) (hb0 : 0 ≤ b) (hb1 : b ≤ 18446744073709551615) :
    Calls Try.prog 32 #[.int .u8 op, .bool wide, .int .u64 a, .int .u64 b] w (DoPost w (doI op wide a b) (isOp op)) := by
  by_cases ho : isOp op = true
  · have hsz := szI_or wide
    obtain ⟨x0, x1⟩ := zx_bd (n := szI wide) ha0 ha1
    obtain ⟨y0, y1⟩ := zx_bd (n := szI wide) hb0 hb1
    obtain ⟨r0, r1⟩ := opI_bd op _ _ (szI wide) x0 x1 y0 y1
    simp only [isOp, Bool.or_eq_true, beq_iff_eq, or_assoc] at ho
    unfold doI
    obtain rfl | rfl | rfl | rfl | rfl | rfl | rfl | rfl | rfl | rfl | rfl | rfl | rfl := ho
    · exact do_18 0 0 wide a b _ w ha0 ha1 hb0 hb1 rfl r0 r1 (fun w => add_alu _ _ _ w)
    · exact do_19 16 1 wide a b _ w ha0 ha1 hb0 hb1 rfl r0 r1 (fun w => sub_alu _ _ _ w)
    · exact do_20 32 2 wide a b _ w ha0 ha1 hb0 hb1 rfl r0 r1 (fun w => mul_alu _ _ _ w)
    · exact do_21 48 3 wide a b _ w ha0 ha1 hb0 hb1 rfl r0 r1 (fun w => quo_alu _ _ _ w x0 x1 y0 y1)
    · exact do_22 64 4 wide a b _ w ha0 ha1 hb0 hb1 rfl r0 r1 (fun w => or_alu _ _ _ w)
    · exact do_23 80 5 wide a b _ w ha0 ha1 hb0 hb1 rfl r0 r1 (fun w => and_alu _ _ _ w)
    · exact do_24 96 6 wide a b _ w ha0 ha1 hb0 hb1 rfl r0 r1 (fun w => lsh_alu _ _ _ w y0 y1 hsz)
    · exact do_26 112 7 wide a b _ w ha0 ha1 hb0 hb1 rfl r0 r1 (fun w => rsh_alu _ _ _ w y0 y1 hsz)
    · exact do_27 128 8 wide a b _ w ha0 ha1 hb0 hb1 rfl r0 r1 (fun w => neg_alu _ _ _ w)
    · exact do_28 144 9 wide a b _ w ha0 ha1 hb0 hb1 rfl r0 r1 (fun w => rest_alu _ _ _ w x0 x1 y0 y1)
    · exact do_29 160 10 wide a b _ w ha0 ha1 hb0 hb1 rfl r0 r1 (fun w => xor_alu _ _ _ w)
    · exact do_30 176 11 wide a b _ w ha0 ha1 hb0 hb1 rfl r0 r1 (fun w => mov_alu _ _ _ w)
    · exact do_31 192 12 wide a b _ w ha0 ha1 hb0 hb1 rfl r0 r1 (fun w => arsh_alu _ _ _ w x0 x1 y0 y1 hsz)
  · have ho' : isOp op = false := by simpa using ho
    have e : doI op wide a b = 0 := by
      have e2 : opI op (zx a (szI wide)) (zx b (szI wide)) (szI wide) = 0 := by
        simp only [isOp, Bool.or_eq_false_iff, beq_eq_false_iff_ne, ne_eq, and_assoc] at ho'
        obtain ⟨g1, g2, g3, g4, g5, g6, g7, g8, g9, g10, g11, g12, g13⟩ := ho'
        simp [opI, *]
      unfold doI
      rw [e2]
      cases wide <;> rfl
    rw [e, ho']
    exact do_none op wide a b w h0 h1 ho'
end Go.Proofs.Ytogadmlnmcojpaa
