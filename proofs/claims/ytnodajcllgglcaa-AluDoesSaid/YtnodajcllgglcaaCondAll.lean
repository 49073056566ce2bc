/-
  Proved here: what condition of package alu makes of each number: a closure over boxes of its own, or none. Conditions: none.
-/
import Derived.Test.YtnodajcllgglcaaCond
namespace Go.Proofs.Ytnodajcllgglcaa
open Go.RowKit
/-- The boxes of the three captured numbers. -/
def boxes (w : World) (a b n : Int) : World := ((w.alloc (.cells #[.int .u64 a] 22)).alloc (.cells #[.int .u64 b] 22)).alloc (.cells #[.int .i64 n] 3)
theorem boxes_below (w : World) (a b n : Int) : Below w.heap.size w (boxes w a b n) :=
  (((Below.refl _ _).alloc (Nat.le_refl _) _).alloc (by simp) _).alloc (by simp; omega) _
theorem box_a (w : World) (a b n : Int) : (boxes w a b n).cell? ⟨w.heap.size, 0, none⟩ = some (.int .u64 a) := by
  unfold boxes
  rw [World.cell?_alloc_past _ _ _ (by simp; omega), World.cell?_alloc_past _ _ _ (by simp), World.cell?_alloc_new]
  rfl
theorem box_b (w : World) (a b n : Int) : (boxes w a b n).cell? ⟨w.heap.size + 1, 0, none⟩ = some (.int .u64 b) := by
  unfold boxes
  rw [World.cell?_alloc_past _ _ _ (by simp), World.cell?_alloc_at _ _ _ _ (by simp)]
  rfl
theorem box_n (w : World) (a b n : Int) : (boxes w a b n).cell? ⟨w.heap.size + 1 + 1, 0, none⟩ = some (.int .i64 n) := by
  unfold boxes
  rw [World.cell?_alloc_at _ _ _ _ (by simp)]
  rfl
theorem func_nil (f : Fn) (p c : Array Value) (W : World) : (binOp .eql 23 (.func f p c) .nilFunc).run Try.prog W = .ok (.bool false) W := rfl
theorem nil_nil (W : World) : (binOp .eql 23 .nilFunc .nilFunc).run Try.prog W = .ok (.bool true) W := rfl
def two (w : World) : Array Value := #[.pointer (some ⟨w.heap.size, 0, none⟩), .pointer (some ⟨w.heap.size + 1, 0, none⟩)]
def three (w : World) : Array Value := #[.pointer (some ⟨w.heap.size, 0, none⟩), .pointer (some ⟨w.heap.size + 1 + 1, 0, none⟩), .pointer (some ⟨w.heap.size + 1, 0, none⟩)]
section
variable (a b n : Int) (w : World)
theorem cond_16 : Calls Try.prog 17 #[.int .u8 16, .int .u64 a, .int .u64 b, .int .i64 n] w (Ret (.func (.func 36) #[] (two w)) (boxes w a b n)) := by
  unfold Ret boxes two
  go_enter Try.func17, Try.ntmps17
  go_wp2
  go_ret
  exact ⟨rfl, rfl⟩
theorem cond_80 : Calls Try.prog 17 #[.int .u8 80, .int .u64 a, .int .u64 b, .int .i64 n] w (Ret (.func (.func 37) #[] (two w)) (boxes w a b n)) := by
  unfold Ret boxes two
  go_enter Try.func17, Try.ntmps17
  go_wp2
  go_ret
  exact ⟨rfl, rfl⟩
theorem cond_32 : Calls Try.prog 17 #[.int .u8 32, .int .u64 a, .int .u64 b, .int .i64 n] w (Ret (.func (.func 38) #[] (two w)) (boxes w a b n)) := by
  unfold Ret boxes two
  go_enter Try.func17, Try.ntmps17
  go_wp2
  go_ret
  exact ⟨rfl, rfl⟩
theorem cond_48 : Calls Try.prog 17 #[.int .u8 48, .int .u64 a, .int .u64 b, .int .i64 n] w (Ret (.func (.func 39) #[] (two w)) (boxes w a b n)) := by
  unfold Ret boxes two
  go_enter Try.func17, Try.ntmps17
  go_wp2
  go_ret
  exact ⟨rfl, rfl⟩
theorem cond_160 : Calls Try.prog 17 #[.int .u8 160, .int .u64 a, .int .u64 b, .int .i64 n] w (Ret (.func (.func 40) #[] (two w)) (boxes w a b n)) := by
  unfold Ret boxes two
  go_enter Try.func17, Try.ntmps17
  go_wp2
  go_ret
  exact ⟨rfl, rfl⟩
theorem cond_176 : Calls Try.prog 17 #[.int .u8 176, .int .u64 a, .int .u64 b, .int .i64 n] w (Ret (.func (.func 41) #[] (two w)) (boxes w a b n)) := by
  unfold Ret boxes two
  go_enter Try.func17, Try.ntmps17
  go_wp2
  go_ret
  exact ⟨rfl, rfl⟩
theorem cond_64 : Calls Try.prog 17 #[.int .u8 64, .int .u64 a, .int .u64 b, .int .i64 n] w (Ret (.func (.func 46) #[] (two w)) (boxes w a b n)) := by
  unfold Ret boxes two
  go_enter Try.func17, Try.ntmps17
  go_wp2
  go_ret
  exact ⟨rfl, rfl⟩
theorem cond_96 : Calls Try.prog 17 #[.int .u8 96, .int .u64 a, .int .u64 b, .int .i64 n] w (Ret (.func (.func 42) #[] (three w)) (boxes w a b n)) := by
  unfold Ret boxes three
  go_enter Try.func17, Try.ntmps17
  go_wp2
  go_ret
  exact ⟨rfl, rfl⟩
theorem cond_112 : Calls Try.prog 17 #[.int .u8 112, .int .u64 a, .int .u64 b, .int .i64 n] w (Ret (.func (.func 43) #[] (three w)) (boxes w a b n)) := by
  unfold Ret boxes three
  go_enter Try.func17, Try.ntmps17
  go_wp2
  go_ret
  exact ⟨rfl, rfl⟩
theorem cond_192 : Calls Try.prog 17 #[.int .u8 192, .int .u64 a, .int .u64 b, .int .i64 n] w (Ret (.func (.func 44) #[] (three w)) (boxes w a b n)) := by
  unfold Ret boxes three
  go_enter Try.func17, Try.ntmps17
  go_wp2
  go_ret
  exact ⟨rfl, rfl⟩
theorem cond_208 : Calls Try.prog 17 #[.int .u8 208, .int .u64 a, .int .u64 b, .int .i64 n] w (Ret (.func (.func 45) #[] (three w)) (boxes w a b n)) := by
  unfold Ret boxes three
  go_enter Try.func17, Try.ntmps17
  go_wp2
  go_ret
  exact ⟨rfl, rfl⟩
def isCond (op : Int) : Bool := op == 16 || op == 80 || op == 32 || op == 48 || op == 160 || op == 176 || op == 64 || op == 96 || op == 112 || op == 192 || op == 208
theorem cond_none (op : Int) (ho : isCond op = false) : Calls Try.prog 17 #[.int .u8 op, .int .u64 a, .int .u64 b, .int .i64 n] w (Ret .nilFunc (boxes w a b n)) := by
  unfold Ret boxes
  simp only [isCond, Bool.or_eq_false_iff, beq_eq_false_iff_ne, ne_eq, and_assoc] at ho
  obtain ⟨g1, g2, g3, g4, g5, g6, g7, g8, g9, g10, g11⟩ := ho
  go_enter Try.func17, Try.ntmps17
  go_wp2
  go_ret
  exact ⟨rfl, rfl⟩
end
end Go.Proofs.Ytnodajcllgglcaa
