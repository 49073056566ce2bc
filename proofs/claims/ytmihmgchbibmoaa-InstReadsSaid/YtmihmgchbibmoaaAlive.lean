/-
  Proved here: the document's example holds ('alive' returns true and turns nothing that was there). Conditions: none.
-/
import Derived.Test.YtmihmgchbibmoaaBytes
namespace Go.Proofs.Ytmihmgchbibmoaa
open Go.RowKit

theorem str_of {w : World} {g off len cap : Nat} {zs : List Int} (hz : zs.length = len) (h : RowAt w g off len zs) :
    (convert 24 9 (.slice (some ⟨g, off, none⟩) len cap)).run Try.prog w = .ok (.string (strOfNums zs)) w :=
  run_convert_bytes_arg w 24 5 Try.underlying24 Try.underlying5 g off len cap zs hz h 9 Try.underlying9
/-- The example's instruction. -/
def mov5 : Ins := ⟨183, 1, 0, 0, 5⟩
theorem mov5_str : strOfNums (bytesOf [mov5]) = { data := #[183, 1, 0, 0, 5, 0, 0, 0] } := by decide +kernel
theorem alive (w : World) : Calls Try.prog 7 #[] w fun e w' => e = .returned (.bool true) ∧ Below w.heap.size w w' := by
  have hat : InsAt (w.alloc (.cells #[.int .u8 183, .int .u8 1, .int .u8 0, .int .i16 0, .int .i32 5] 36)) (some ⟨w.heap.size, 0, none⟩) [mov5] := by
    refine .inr ⟨_, _, rfl, by simp, fun j hj => ?_⟩
    obtain rfl : j = 0 := by simpa using hj
    simp [go_sem, mov5]
  have hfit : ∀ x ∈ [mov5], x.Fit := by
    intro x hx
    obtain rfl : x = mov5 := by simpa using hx
    constructor <;> simp [mov5]
  go_enter Try.func7, Try.ntmps7
  go_wp2_with (go_at_call 8; refine (bytes_inst _ _ 1 1 [mov5] rfl (by omega) hfit hat).mono ?_; rintro e w1 ⟨g, cap, rfl, hf⟩; have hs := str_of (w := w1) (len := 8) (cap := cap) (zs := bytesOf [mov5]) (bytesOf_length [mov5]) hf.row; rw [mov5_str] at hs; have HB := Lib.hid hf.below; clear hf)
  go_ret
  exact ⟨rfl, ((Below.refl _ _).alloc (Nat.le_refl _) _).trans (HB.out.mono (by simp))⟩
end Go.Proofs.Ytmihmgchbibmoaa
