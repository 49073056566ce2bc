/-
  Proved here: what Slot of package array gives. Conditions: as each says.
-/
import Derived.Test.YtdboapeookmfkaaArr
import Derived.Deep.QuietTactic
import Derived.BigQuiet
namespace Go.Proofs.Ytdboapeookmfkaa
open Go.RowKit

/-- Nothing that was there is turned. -/
def Tells (v : Value) (W : World) (e : Ending) (w : World) : Prop := e = .returned v ∧ Below W.heap.size W w
theorem below_drewN (w : World) (n : Nat) : Below w.heap.size w (w.drewN n) := ⟨rfl, rfl, rfl, Nat.le_refl _, fun _ _ => rfl⟩
theorem slot_no (A : Nat) (n : Nat) (k : Int) (w : World) (h : w.cell? ⟨A, 1, none⟩ = some (.int .i64 n)) (hk : ¬ (0 ≤ k ∧ k < n)) :
    Calls Try.prog 10 #[.pointer (some ⟨A, 0, none⟩), .int .i64 k] w (Tells (.tuple #[.slice none 0 0, .bool false]) w) := by
  have HC := Lib.hid h
  clear h
  by_cases h1 : k < 0
  · go_enter Try.func10, Try.ntmps10
    go_wp2_with (go_at_call 13; refine (arr_len _ _ _ HC.out).mono ?_; rintro e w' ⟨rfl, rfl⟩)
    go_ret2
    exact ⟨rfl, Below.refl _ _⟩
  · have h2 : (n : Int) ≤ k := by omega
    go_enter Try.func10, Try.ntmps10
    go_wp2_with (go_at_call 13; refine (arr_len _ _ _ HC.out).mono ?_; rintro e w' ⟨rfl, rfl⟩)
    go_ret2
    exact ⟨rfl, Below.refl _ _⟩
theorem slot_yes (A G s n L k p : Nat) (zs : List Int) (w : World) (hd : Dim s n L) (h : Arr w A G s n L L zs) (hk : k < n) (hp : k * s = p) :
    Calls Try.prog 10 #[.pointer (some ⟨A, 0, none⟩), .int .i64 k] w (Tells (.tuple #[.slice (some ⟨G, p, none⟩) s s, .bool true]) w) := by
  have hps : p + s ≤ L := by rw [← hp]; exact hd.at hk
  have hle := hd.le
  have s0 := hd.s0
  have n1 := hd.n1
  have hc0 := h.c0
  have HC := Lib.hid h.c1
  have hc2 := h.c2
  have e0 : IntKind.i64.wrap ((k : Int) + 1) = k + 1 := IntWalk.i64_in _ (by omega)
  have e1 : IntKind.i64.wrap ((k : Int) * s) = p := by rw [← Int.natCast_mul, hp]; exact IntWalk.i64_in _ (by omega)
  have e2 : IntKind.i64.wrap (((k : Int) + 1) * s) = ((p + s : Nat) : Int) := by
    rw [Int.add_mul, ← Int.natCast_mul, hp, Int.one_mul, ← Int.natCast_add]; exact IntWalk.i64_in _ (by omega)
  have hk2 : ((k : Int) < 0) = False := by simp
  clear h hp hd
  go_enter Try.func10, Try.ntmps10
  go_wp2_with (go_at_call 13; refine (arr_len _ _ _ HC.out).mono ?_; rintro e w' ⟨rfl, rfl⟩)
  go_quiet (fail)
  go_wp2
  go_ret2
  have e3 : p + s - p = s := by omega
  refine ⟨?_, below_drewN _ _⟩
  show Ending.returned (.tuple #[.slice (some ⟨G, p, none⟩) (p + s - p) (p + s - p), .bool true]) = _
  rw [e3]
end Go.Proofs.Ytdboapeookmfkaa
