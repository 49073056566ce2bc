/-
  Proved here: the law IsaRight returns true, whatever instruction came in. Conditions: the fields fit their kinds.
-/
import Derived.Test.YtcngkbmffaojoaaAlive
import Derived.Test.YtcngkbmffaojoaaRightR
import Derived.Deep.RegionHeld
namespace Go.Proofs.Ytcngkbmffaojoaa
open Go.RowKit

/-- A box of five cells stays, and what is below. -/
theorem keep5 {B p : Nat} {w0 W w2 : World} {a b c d e : Value}
    (h : W.cell? ⟨p, 0, none⟩ = some a ∧ W.cell? ⟨p, 1, none⟩ = some b ∧ W.cell? ⟨p, 2, none⟩ = some c ∧ W.cell? ⟨p, 3, none⟩ = some d ∧ W.cell? ⟨p, 4, none⟩ = some e ∧ Below B w0 W) (hB : B ≤ W.heap.size) (hb : Below W.heap.size W w2) :
    w2.cell? ⟨p, 0, none⟩ = some a ∧ w2.cell? ⟨p, 1, none⟩ = some b ∧ w2.cell? ⟨p, 2, none⟩ = some c ∧ w2.cell? ⟨p, 3, none⟩ = some d ∧ w2.cell? ⟨p, 4, none⟩ = some e ∧ Below B w0 w2 :=
  ⟨stays hb h.1, stays hb h.2.1, stays hb h.2.2.1, stays hb h.2.2.2.1, stays hb h.2.2.2.2.1, h.2.2.2.2.2.trans (hb.mono hB)⟩
theorem keep5w {p : Nat} {w0 W w2 : World} {a b c d e : Value}
    (h : W.cell? ⟨p, 0, none⟩ = some a ∧ W.cell? ⟨p, 1, none⟩ = some b ∧ W.cell? ⟨p, 2, none⟩ = some c ∧ W.cell? ⟨p, 3, none⟩ = some d ∧ W.cell? ⟨p, 4, none⟩ = some e ∧ Below w0.heap.size w0 W) (hb : Below W.heap.size W w2) :
    w2.cell? ⟨p, 0, none⟩ = some a ∧ w2.cell? ⟨p, 1, none⟩ = some b ∧ w2.cell? ⟨p, 2, none⟩ = some c ∧ w2.cell? ⟨p, 3, none⟩ = some d ∧ w2.cell? ⟨p, 4, none⟩ = some e ∧ Below w0.heap.size w0 w2 :=
  keep5 h h.2.2.2.2.2.size hb
theorem drew5 {B p : Nat} {w0 W : World} {a b c d e : Value}
    (h : W.cell? ⟨p, 0, none⟩ = some a ∧ W.cell? ⟨p, 1, none⟩ = some b ∧ W.cell? ⟨p, 2, none⟩ = some c ∧ W.cell? ⟨p, 3, none⟩ = some d ∧ W.cell? ⟨p, 4, none⟩ = some e ∧ Below B w0 W) :
    W.drew.cell? ⟨p, 0, none⟩ = some a ∧ W.drew.cell? ⟨p, 1, none⟩ = some b ∧ W.drew.cell? ⟨p, 2, none⟩ = some c ∧ W.drew.cell? ⟨p, 3, none⟩ = some d ∧ W.drew.cell? ⟨p, 4, none⟩ = some e ∧ Below B w0 W.drew :=
  ⟨h.1, h.2.1, h.2.2.1, h.2.2.2.1, h.2.2.2.2.1, h.2.2.2.2.2.drew⟩
set_option maxHeartbeats 1000000 in
theorem law_right (o d s f m : Int) (w : World) (h0 : 0 ≤ o) (h1 : o ≤ 255) (hd : 0 ≤ d) (hs : 0 ≤ s) :
    Calls Try.prog 3 #[.agg #[.int .u8 o, .int .u8 d, .int .u8 s, .int .i16 f, .int .i32 m]] w fun e w' => e = .returned (.bool true) ∧ Below w.heap.size w w' := by
  obtain ⟨r, hr⟩ : ∃ r, rightR ⟨o, d, s, f, m⟩ = r := ⟨_, rfl⟩
  obtain ⟨z, hz⟩ : ∃ z, szR o = z := ⟨_, rfl⟩
  obtain ⟨j, hj⟩ : ∃ j, jmpR o = j := ⟨_, rfl⟩
  have HI := Lib.hid ((right_same ⟨o, d, s, f, m⟩ h0 h1 hd hs).trans hr)
  have HR := Lib.hid hr
  have HZI := Lib.hid ((sz_same h0 h1).trans hz)
  have HZ := Lib.hid hz
  have HJI := Lib.hid ((jmp_same h0 h1).trans hj)
  have HJ := Lib.hid hj
  clear hr hz hj
  go_enter Try.func3, Try.ntmps3
  go_wp2_with (go_at_call 6; refine (alive _).mono ?_; rintro e w1 ⟨rfl, hb1⟩; have hS0 := box_stays (B := w.heap.size) hb1 (MapKept.heap_alloc w _).1; have HB1 := Lib.hid ((below_box w _).trans (hb1.mono (by simp))); clear hb1)
  have hS1 : w1.drew.cell? ⟨w.heap.size, 0, none⟩ = some (.int .u8 o) ∧ w1.drew.cell? ⟨w.heap.size, 1, none⟩ = some (.int .u8 d) ∧ w1.drew.cell? ⟨w.heap.size, 2, none⟩ = some (.int .u8 s) ∧ w1.drew.cell? ⟨w.heap.size, 3, none⟩ = some (.int .i16 f) ∧ w1.drew.cell? ⟨w.heap.size, 4, none⟩ = some (.int .i32 m) ∧ Below w.heap.size w w1.drew :=
    ⟨hS0.1, hS0.2.1, hS0.2.2.1, hS0.2.2.2.1, hS0.2.2.2.2, HB1.out.drew⟩
  clear hS0
  go_region_held (fun w' => w'.cell? ⟨w.heap.size, 0, none⟩ = some (.int .u8 o) ∧ w'.cell? ⟨w.heap.size, 1, none⟩ = some (.int .u8 d) ∧ w'.cell? ⟨w.heap.size, 2, none⟩ = some (.int .u8 s) ∧ w'.cell? ⟨w.heap.size, 3, none⟩ = some (.int .i16 f) ∧ w'.cell? ⟨w.heap.size, 4, none⟩ = some (.int .i32 m) ∧ Below w.heap.size w w')
    (first | exact hS1 | exact hS7 | exact hS8 | assumption)
    (first
      | (go_at_call 7; refine (right_isa o d s f m _ h0 h1).mono ?_; rintro e w7 ⟨rfl, hb7⟩; rw [HI.out]; have hS7 := keep5w (by assumption) hb7; clear hb7)
      | (go_at_call 8; refine (right_ref o d s f m _ h0 h1).mono ?_; rintro e w8 ⟨rfl, hb8⟩; rw [HR.out]; have hS8 := keep5w (by assumption) hb8; clear hb8)
      | (go_at_call 9; refine (size_isa o _).mono ?_; rintro e w9 ⟨rfl, rfl⟩; rw [HZI.out])
      | (go_at_call 10; refine (size_ref3 o _).mono ?_; rintro e w9 ⟨rfl, rfl⟩; rw [HZ.out]))
  go_wp2
  go_region_held (fun w' => w'.cell? ⟨w.heap.size, 0, none⟩ = some (.int .u8 o) ∧ w'.cell? ⟨w.heap.size, 1, none⟩ = some (.int .u8 d) ∧ w'.cell? ⟨w.heap.size, 2, none⟩ = some (.int .u8 s) ∧ w'.cell? ⟨w.heap.size, 3, none⟩ = some (.int .i16 f) ∧ w'.cell? ⟨w.heap.size, 4, none⟩ = some (.int .i32 m) ∧ Below w.heap.size w w')
    (first | exact drew5 hS8 | exact hS9 | exact hS10 | assumption)
    (first
      | (go_at_call 11; refine (jump_isa o d s f m _).mono ?_; rintro e w9 ⟨rfl, hb9⟩; rw [HJI.out]; have hS9 := keep5w (by assumption) hb9; clear hb9)
      | (go_at_call 12; refine (jump_ref o d s f m _ h0 h1).mono ?_; rintro e w10 ⟨rfl, hb10⟩; rw [HJ.out]; have hS10 := keep5w (by assumption) hb10; clear hb10))
  go_wp2
  go_ret
  exact ⟨rfl, hS10.2.2.2.2.2⟩
theorem isaRight.walk (v0 : Value) (w : World) (h0 : IsInts insKinds v0) : Calls Try.prog 3 #[v0] w fun e w' => e = .returned (.bool true) ∧ Below w.heap.size w w' := by
  obtain ⟨⟨o, d, s, f, m⟩, rfl, hf⟩ := ins_in h0
  exact law_right o d s f m w hf.op.1 hf.op.2 hf.dst.1 hf.src.1
end Go.Proofs.Ytcngkbmffaojoaa
