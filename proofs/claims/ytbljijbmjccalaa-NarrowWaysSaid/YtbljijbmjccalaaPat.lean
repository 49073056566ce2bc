/-
  Proved here: what pattern, proper, May, Has, Const and All of package tnum return. Conditions: none.
-/
import Derived.Test.YtbljijbmjccalaaSoundBv
import Derived.Test.YtbljijbmjccalaaInts
import Derived.Below
import Derived.Lib.Hide
import Derived.Deep.RegionHeld
namespace Go.Proofs.Ytbljijbmjccalaa
open Go.RowKit

/-- A pattern's value. -/
def tnV (v m : B64) : Value := .agg #[.int .u64 (u v), .int .u64 (u m)]
/-- Returns a value, and makes memory alone. -/
def Gives (v : Value) (w : World) (e : Ending) (w' : World) : Prop := e = .returned v ∧ Below w.heap.size w w'
theorem stays {W w1 : World} (hb : Below W.heap.size W w1) {p : Addr} {v : Value} (h : W.cell? p = some v) : w1.cell? p = some v :=
  (hb.cell (World.block_lt_of_cell? _ _ h)).trans h
theorem below_box (w : World) (o : Obj) : Below w.heap.size w (w.alloc o) := (Below.refl _ _).alloc (Nat.le_refl _) _
/-- Are two patterns the same? -/
def tnEq (a b c d : B64) : Bool := decide (a = c ∧ b = d)
theorem eql_tn (a b c d : B64) (w : World) : (binOp .eql 24 (.agg #[.int .u64 (u a), .int .u64 (u b)]) (.agg #[.int .u64 (u c), .int .u64 (u d)])).run Try.prog w = .ok (.bool (tnEq a b c d)) w := by
  unfold tnEq
  by_cases h1 : a = c <;> by_cases h2 : b = d <;> simp [go_sem, u_iff, h1, h2]
theorem neq_tn (a b c d : B64) (w : World) : (binOp .neq 24 (.agg #[.int .u64 (u a), .int .u64 (u b)]) (.agg #[.int .u64 (u c), .int .u64 (u d)])).run Try.prog w = .ok (.bool (!tnEq a b c d)) w := by
  unfold tnEq
  by_cases h1 : a = c <;> by_cases h2 : b = d <;> simp [go_sem, u_iff, h1, h2]
attribute [local go_sem ↓] eql_tn neq_tn
attribute [local go_sem] u_and u_or u_xor u_andNot u_add u_sub

theorem pattern_tnum (v m : B64) (w : World) : Calls Try.prog 61 #[.int .u64 (u v), .int .u64 (u m)] w (Gives (tnV (pv v m) m) w) := by
  unfold Gives tnV pv
  go_enter Try.func61, Try.ntmps61
  go_wp2
  exact bodyPost_ret (v := .agg #[.int .u64 (u (v &&& ~~~m)), .int .u64 (u m)]) (by simp [results, Try.results61, go_sem]) rfl ⟨rfl, below_box _ _⟩
theorem bcell {W w1 : World} (hb : Below W.heap.size W w1) : (∀ b o, b < W.heap.size → w1.cell? ⟨b, o, none⟩ = W.cell? ⟨b, o, none⟩) ∧ (∀ b o, b < W.heap.size → w1.frozen? ⟨b, o, none⟩ = W.frozen? ⟨b, o, none⟩) :=
  ⟨fun b o h => hb.cell (p := ⟨b, o, none⟩) h, fun b o h => hb.frozen (p := ⟨b, o, none⟩) h⟩
theorem two_box {w w1 : World} {o1 o2 : Obj} (hb : Below ((w.alloc o1).alloc o2).heap.size ((w.alloc o1).alloc o2) w1) : w.heap.size + 1 < w1.heap.size ∧ Below w.heap.size w w1 := by
  have := hb.size
  simp at this
  exact ⟨by omega, ((below_box _ _).trans ((below_box _ _).mono (by simp))).trans (hb.mono (by simp; omega))⟩
theorem proper_tnum (v m : B64) (w : World) : Calls Try.prog 62 #[tnV v m] w (Gives (tnV (pv v m) m) w) := by
  unfold Gives tnV
  go_enter Try.func62, Try.ntmps62
  go_wp2_with (go_at_call 61; refine (pattern_tnum _ _ _).mono ?_; rintro e w1 ⟨rfl, hb⟩; unfold tnV; obtain ⟨hc, hf⟩ := bcell hb; obtain ⟨hz, hb2⟩ := two_box hb; have HB := Lib.hid hb2; clear hb hb2)
  refine bodyPost_ret (v := .agg #[.int .u64 (u (pv v m)), .int .u64 (u m)]) (by simp [results, Try.results62, go_sem, hc]) rfl ⟨rfl, ?_⟩
  exact (HB.out.setCell (by simp) _).setCell (by simp) _
/-- A box of two cells stays, and what is below. -/
theorem keep2 {p : Nat} {w0 W w2 : World} {a b : Value} (h : W.cell? ⟨p, 0, none⟩ = some a ∧ W.cell? ⟨p, 1, none⟩ = some b ∧ Below w0.heap.size w0 W) (hb : Below W.heap.size W w2) :
    w2.cell? ⟨p, 0, none⟩ = some a ∧ w2.cell? ⟨p, 1, none⟩ = some b ∧ Below w0.heap.size w0 w2 :=
  ⟨stays hb h.1, stays hb h.2.1, h.2.2.trans (hb.mono h.2.2.size)⟩
theorem new2 (w : World) (a b : Value) (T : TypeId) : (w.alloc (.cells #[a, b] T)).cell? ⟨w.heap.size, 0, none⟩ = some a ∧ (w.alloc (.cells #[a, b] T)).cell? ⟨w.heap.size, 1, none⟩ = some b ∧ Below w.heap.size w (w.alloc (.cells #[a, b] T)) :=
  ⟨by simp, by simp, below_box _ _⟩
theorem drew2 {p : Nat} {w0 W : World} {a b : Value} (h : W.cell? ⟨p, 0, none⟩ = some a ∧ W.cell? ⟨p, 1, none⟩ = some b ∧ Below w0.heap.size w0 W) :
    W.drew.cell? ⟨p, 0, none⟩ = some a ∧ W.drew.cell? ⟨p, 1, none⟩ = some b ∧ Below w0.heap.size w0 W.drew := ⟨h.1, h.2.1, h.2.2.drew⟩
end Go.Proofs.Ytbljijbmjccalaa
