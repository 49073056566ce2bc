import Derived.Test.YthmibmofdmlgaaaGreatDoorG07
/-
  Proved here: insts of package asm gives the instructions of a line. Conditions: the number has its size.
-/
namespace Go.Proofs.YthmibmofdmlgaaaGreatDoor
open Go.RowKit
set_option linter.unusedVariables false

theorem pair_at (o d s x m m' : Int) (w : World) (hm : IntKind.i32.wrap x = m) (hm' : IntKind.i32.wrap (x / 4294967296) = m') :
    Calls Tryz.prog 53 #[.int .u8 o, .int .u8 d, .int .u8 s, .int .u64 x] w fun e w' => e = .returned (.agg #[.int .u8 o, .int .u8 d, .int .u8 s, .int .i16 0, .int .i32 m, .int .u8 0, .int .u8 0, .int .u8 0, .int .i16 0, .int .i32 m']) ∧ Below w.heap.size w w' := by
  go_enter Tryz.func53, Tryz.ntmps53
  go_wp2
  refine bodyPost_ret (v := .agg #[.int .u8 o, .int .u8 d, .int .u8 s, .int .i16 0, .int .i32 m, .int .u8 0, .int .u8 0, .int .u8 0, .int .i16 0, .int .i32 m']) (by simp [results, Tryz.results53, go_sem]) rfl ⟨rfl, ?_⟩
  exact (Below.refl _ _).alloc (Nat.le_refl _) _
/-- A row of instructions of the call's own. -/
def InstsP (l : List Ins) (w : World) (e : Ending) (w' : World) : Prop := ∃ g cap, e = .returned (.slice (some ⟨g, 0, none⟩) l.length cap) ∧ InsRow w' g 0 l ∧ w.heap.size ≤ g ∧ g < w'.heap.size ∧ Below w.heap.size w w'
theorem alloc_last' (w : World) (o : Obj) : (w.alloc o).heap[w.heap.size]? = some o := (MapKept.heap_alloc w o).1
theorem row_one (W : World) (o d s f m : Int) : InsRow (W.alloc (.cells #[.int .u8 o, .int .u8 d, .int .u8 s, .int .i16 f, .int .i32 m] 35)) W.heap.size 0 [⟨o, d, s, f, m⟩] := by
  intro j hj
  have hj0 : j = 0 := by simp at hj; omega
  subst hj0
  have h := alloc_last' W (.cells #[.int .u8 o, .int .u8 d, .int .u8 s, .int .i16 f, .int .i32 m] 35)
  exact ⟨Lib.cell_of_heap h 0, Lib.cell_of_heap h 1, Lib.cell_of_heap h 2, Lib.cell_of_heap h 3, Lib.cell_of_heap h 4⟩
theorem row_two (W : World) (o d s f m o' d' s' f' m' : Int) : InsRow (W.alloc (.cells #[.int .u8 o, .int .u8 d, .int .u8 s, .int .i16 f, .int .i32 m, .int .u8 o', .int .u8 d', .int .u8 s', .int .i16 f', .int .i32 m'] 97)) W.heap.size 0 [⟨o, d, s, f, m⟩, ⟨o', d', s', f', m'⟩] := by
  intro j hj
  have hj0 : j = 0 ∨ j = 1 := by simp at hj; omega
  have h := alloc_last' W (.cells #[.int .u8 o, .int .u8 d, .int .u8 s, .int .i16 f, .int .i32 m, .int .u8 o', .int .u8 d', .int .u8 s', .int .i16 f', .int .i32 m'] 97)
  rcases hj0 with rfl | rfl
  · exact ⟨Lib.cell_of_heap h 0, Lib.cell_of_heap h 1, Lib.cell_of_heap h 2, Lib.cell_of_heap h 3, Lib.cell_of_heap h 4⟩
  · exact ⟨Lib.cell_of_heap h 5, Lib.cell_of_heap h 6, Lib.cell_of_heap h 7, Lib.cell_of_heap h 8, Lib.cell_of_heap h 9⟩
theorem insts_one (o d s f m n : Int) (w : World) (h24 : o ≠ 24) (n0 : -2147483648 ≤ n) (n1 : n ≤ 2147483647) :
    Calls Tryz.prog 36 #[.agg #[.int .u8 o, .int .u8 d, .int .u8 s, .int .i16 f, .int .i32 m, .int .i64 n]] w (InstsP [⟨o, d, s, f, n⟩] w) := by
  have hw : IntKind.i32.wrap n = n := IntWalk.i32_in _ (by omega)
  have b24 : (o == 24) = false := by simp; omega
  clear h24
  go_enter Tryz.func36, Tryz.ntmps36
  go_wp2
  go_ret
  have hr := row_one (w.alloc (.cells #[.int .u8 o, .int .u8 d, .int .u8 s, .int .i16 f, .int .i32 n, .int .i64 n] 72)) o d s f n
  have e1 : (w.alloc (.cells #[.int .u8 o, .int .u8 d, .int .u8 s, .int .i16 f, .int .i32 n, .int .i64 n] 72)).heap.size = w.heap.size + 1 := by simp
  rw [e1] at hr
  exact ⟨w.heap.size + 1, 1, rfl, hr, by omega, by simp, ((Below.refl _ _).alloc (Nat.le_refl _) _).alloc (by simp) _⟩
theorem insts_two (d s f m n x m1 m2 : Int) (w : World) (hx : IntKind.u64.wrap n = x) (hm : IntKind.i32.wrap x = m1) (hm' : IntKind.i32.wrap (x / 4294967296) = m2) :
    Calls Tryz.prog 36 #[.agg #[.int .u8 24, .int .u8 d, .int .u8 s, .int .i16 f, .int .i32 m, .int .i64 n]] w (InstsP [⟨24, d, s, 0, m1⟩, ⟨0, 0, 0, 0, m2⟩] w) := by
  have hc := fun W => pair_at 24 d s x m1 m2 W hm hm'
  go_enter Tryz.func36, Tryz.ntmps36
  go_wp2_with (go_at_call 53; refine (hc _).mono ?_; rintro e w1 ⟨rfl, hb1⟩; have HB1 := Lib.hid hb1; clear hb1 hc)
  go_ret
  have h0 := HB1.out.size
  have hb0 := below_box w (.cells #[.int .u8 24, .int .u8 d, .int .u8 s, .int .i16 f, .int .i32 m, .int .i64 n] 72)
  have h2 := hb0.size
  exact ⟨w1.heap.size, 2, rfl, row_two w1 24 d s 0 m1 0 0 0 0 m2, by omega, by simp, (hb0.trans (HB1.out.mono h2)).trans ((below_box w1 _).mono (by omega))⟩
end Go.Proofs.YthmibmofdmlgaaaGreatDoor
