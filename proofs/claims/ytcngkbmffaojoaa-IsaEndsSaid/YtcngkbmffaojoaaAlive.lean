/-
  Proved here: the document's examples hold ('alive' returns true and turns nothing that was there). Conditions: none.
-/
import Derived.Test.YtcngkbmffaojoaaCheck
namespace Go.Proofs.Ytcngkbmffaojoaa
open Go.RowKit

def movX : Ins := ⟨183, 0, 0, 0, 0⟩
def exitX : Ins := ⟨149, 0, 0, 0, 0⟩
def backX : Ins := ⟨5, 0, 0, -1, 0⟩
theorem ok1 : checkI [movX, exitX] 0 = true := by decide +kernel
theorem ok2 : checkI [exitX] 0 = true := by decide +kernel
theorem ok3 : checkI [backX, exitX] 0 = false := by decide +kernel
theorem ok4 : rightI ⟨183, 10, 0, 0, 0⟩ = false := by decide +kernel
theorem fit1 : ∀ x ∈ [movX, exitX], x.Fit := by
  intro x hx
  simp only [List.mem_cons, List.not_mem_nil, or_false] at hx
  rcases hx with rfl | rfl <;> constructor <;> decide
theorem fit2 : ∀ x ∈ [exitX], x.Fit := fun x hx => fit1 x (by simp at hx; simp [hx])
theorem fit3 : ∀ x ∈ [backX, exitX], x.Fit := by
  intro x hx
  simp only [List.mem_cons, List.not_mem_nil, or_false] at hx
  rcases hx with rfl | rfl <;> constructor <;> decide
theorem at_one (W : World) (T : Nat) (x : Ins) : InsAt (W.alloc (.cells #[.int .u8 x.op, .int .u8 x.dst, .int .u8 x.src, .int .i16 x.off, .int .i32 x.imm] T)) (some ⟨W.heap.size, 0, none⟩) [x] := by
  refine .inr ⟨_, _, rfl, by simp, fun j hj => ?_⟩
  obtain rfl : j = 0 := by simpa using hj
  simp [go_sem]
theorem at_two (W : World) (T : Nat) (x y : Ins) : InsAt (W.alloc (.cells #[.int .u8 x.op, .int .u8 x.dst, .int .u8 x.src, .int .i16 x.off, .int .i32 x.imm, .int .u8 y.op, .int .u8 y.dst, .int .u8 y.src, .int .i16 y.off, .int .i32 y.imm] T)) (some ⟨W.heap.size, 0, none⟩) [x, y] := by
  refine .inr ⟨_, _, rfl, by simp, fun j hj => ?_⟩
  have : j = 0 ∨ j = 1 := by simp at hj; omega
  rcases this with rfl | rfl <;> simp [go_sem]
theorem check_two (W : World) (T : Nat) (x y : Ins) (r : Bool) (hc : checkI [x, y] 0 = r) (hf : ∀ z ∈ [x, y], z.Fit) :
    Calls Try.prog 15 #[.slice (some ⟨W.heap.size, 0, none⟩) 2 2, .int .i64 0] (W.alloc (.cells #[.int .u8 x.op, .int .u8 x.dst, .int .u8 x.src, .int .i16 x.off, .int .i32 x.imm, .int .u8 y.op, .int .u8 y.dst, .int .u8 y.src, .int .i16 y.off, .int .i32 y.imm] T))
      fun e w' => e = .returned (.int .i64 (errI r)) ∧ Below W.heap.size W w' := by
  subst hc
  refine (check_isa _ _ 2 2 [x, y] 0 rfl (by unfold maxLen; omega) hf (at_two W T x y) (by omega) (by omega)).mono fun _ _ ⟨he, hb⟩ => ⟨he, (below_box W _).trans (hb.mono (by simp))⟩
theorem check_one (W : World) (T : Nat) (x : Ins) (r : Bool) (hc : checkI [x] 0 = r) (hf : ∀ z ∈ [x], z.Fit) :
    Calls Try.prog 15 #[.slice (some ⟨W.heap.size, 0, none⟩) 1 1, .int .i64 0] (W.alloc (.cells #[.int .u8 x.op, .int .u8 x.dst, .int .u8 x.src, .int .i16 x.off, .int .i32 x.imm] T))
      fun e w' => e = .returned (.int .i64 (errI r)) ∧ Below W.heap.size W w' := by
  subst hc
  refine (check_isa _ _ 1 1 [x] 0 rfl (by unfold maxLen; omega) hf (at_one W T x) (by omega) (by omega)).mono fun _ _ ⟨he, hb⟩ => ⟨he, (below_box W _).trans (hb.mono (by simp))⟩
theorem call1 (w : World) : Calls Try.prog 15 #[.slice (some ⟨w.heap.size + 1, 0, none⟩) 2 2, .int .i64 0]
    ((w.alloc (.cells #[.int .u8 149, .int .u8 0, .int .u8 0, .int .i16 0, .int .i32 0] 24)).alloc (.cells #[.int .u8 183, .int .u8 0, .int .u8 0, .int .i16 0, .int .i32 0, .int .u8 149, .int .u8 0, .int .u8 0, .int .i16 0, .int .i32 0] 24))
    fun e w' => e = .returned (.int .i64 0) ∧ Below (w.alloc (.cells #[.int .u8 149, .int .u8 0, .int .u8 0, .int .i16 0, .int .i32 0] 24)).heap.size (w.alloc (.cells #[.int .u8 149, .int .u8 0, .int .u8 0, .int .i16 0, .int .i32 0] 24)) w' := by
  have h := check_two (w.alloc (.cells #[.int .u8 149, .int .u8 0, .int .u8 0, .int .i16 0, .int .i32 0] 24)) 24 movX exitX true ok1 fit1
  have e : (w.alloc (.cells #[.int .u8 149, .int .u8 0, .int .u8 0, .int .i16 0, .int .i32 0] 24)).heap.size = w.heap.size + 1 := by simp
  rw [e] at h ⊢
  exact h
theorem call2 (w : World) : Calls Try.prog 15 #[.slice (some ⟨w.heap.size, 0, none⟩) 1 1, .int .i64 0] (w.alloc (.cells #[.int .u8 149, .int .u8 0, .int .u8 0, .int .i16 0, .int .i32 0] 24))
    fun e w' => e = .returned (.int .i64 0) ∧ Below w.heap.size w w' := check_one w 24 exitX true ok2 fit2
theorem call3 (w : World) : Calls Try.prog 15 #[.slice (some ⟨w.heap.size, 0, none⟩) 2 2, .int .i64 0]
    (w.alloc (.cells #[.int .u8 5, .int .u8 0, .int .u8 0, .int .i16 (-1), .int .i32 0, .int .u8 149, .int .u8 0, .int .u8 0, .int .i16 0, .int .i32 0] 24))
    fun e w' => e = .returned (.int .i64 22) ∧ Below w.heap.size w w' := check_two w 24 backX exitX false ok3 fit3
theorem call4 (w : World) : Calls Try.prog 7 #[.agg #[.int .u8 183, .int .u8 10, .int .u8 0, .int .i16 0, .int .i32 0]] w fun e w' => e = .returned (.bool false) ∧ Below w.heap.size w w' := by
  have h := right_isa 183 10 0 0 0 w (by omega) (by omega)
  rw [ok4] at h
  exact h
/-- The exit's box. -/
def ExitBox (w : World) (p : Nat) : Prop := w.cell? ⟨p, 0, none⟩ = some (.int .u8 149) ∧ w.cell? ⟨p, 1, none⟩ = some (.int .u8 0) ∧ w.cell? ⟨p, 2, none⟩ = some (.int .u8 0) ∧ w.cell? ⟨p, 3, none⟩ = some (.int .i16 0) ∧ w.cell? ⟨p, 4, none⟩ = some (.int .i32 0)
theorem ExitBox.stays {w w1 : World} {p : Nat} (h : ExitBox w p) (hb : Below w.heap.size w w1) : ExitBox w1 p :=
  ⟨Ytcngkbmffaojoaa.stays hb h.1, Ytcngkbmffaojoaa.stays hb h.2.1, Ytcngkbmffaojoaa.stays hb h.2.2.1, Ytcngkbmffaojoaa.stays hb h.2.2.2.1, Ytcngkbmffaojoaa.stays hb h.2.2.2.2⟩
theorem alive (w : World) : Calls Try.prog 6 #[] w fun e w' => e = .returned (.bool true) ∧ Below w.heap.size w w' := by
  have t1 : True := trivial
  have t2 : True := trivial
  go_enter Try.func6, Try.ntmps6
  go_wp2_with (first
    | (go_at_call 15; have _t := t1; refine (call1 w).mono ?_; rintro e w1 ⟨rfl, hb1⟩; have hx1 : ExitBox w1 w.heap.size := box_stays hb1 (MapKept.heap_alloc w _).1; have HX1 := Lib.hid hx1; obtain ⟨y0, y1, y2, y3, y4⟩ := hx1; have HB1 := Lib.hid ((below_box w _).trans (hb1.mono (by simp))); clear hb1 t1)
    | (go_at_call 15; have _t := t2; refine (call2 w1).mono ?_; rintro e w2 ⟨rfl, hb2⟩; clear y0 y1 y2 y3 y4; have hx2 : ExitBox w2 w.heap.size := HX1.out.stays hb2; obtain ⟨y0, y1, y2, y3, y4⟩ := hx2; have HB2 := Lib.hid hb2; clear hb2 t2)
    | (go_at_call 15; refine (call3 w2).mono ?_; rintro e w3 ⟨rfl, hb3⟩; have HB3 := Lib.hid hb3; clear hb3)
    | (go_at_call 7; refine (call4 w3).mono ?_; rintro e w4 ⟨rfl, hb4⟩; have HB4 := Lib.hid hb4; clear hb4))
  go_ret
  have a1 := HB1.out
  have a2 := HB2.out
  have a3 := HB3.out
  have a4 := HB4.out
  have z12 := Nat.le_trans a1.size a2.size
  have z123 := Nat.le_trans z12 a3.size
  exact ⟨rfl, ((a1.trans (a2.mono a1.size)).trans (a3.mono z12)).trans (a4.mono z123)⟩
end Go.Proofs.Ytcngkbmffaojoaa
