/-
  Proved here: what hasMap and lands of package isa return. Conditions: the place is one of the code's; behind a LdWide there is an instruction.
-/
import Derived.Test.YtcngkbmffaojoaaStands
import Derived.WalkLawsBesides
import Derived.Deep.RegionWith
namespace Go.Proofs.Ytcngkbmffaojoaa
open Go.RowKit

/-- The number of 64 bits of two instructions. -/
def wideN (x y : Ins) : Int := x.imm % 4294967296 + y.imm % 4294967296 * 4294967296
/-- The map's number is one of theirs. -/
def mapB (l : List Ins) (k : Nat) (maps : Int) : Bool := (l.getD k .zero).op != 24 || (l.getD k .zero).src != 1 || decide (wideN (l.getD k .zero) (l.getD (k + 1) .zero) < max maps 0)
theorem has_plain (w : World) (g off len cap k : Nat) (o d s f m maps : Int) (hk : k < len) (hc : At5 w g (off + k * 5) ⟨o, d, s, f, m⟩) (h24 : o ≠ 24) :
    Calls Try.prog 25 #[.slice (some ⟨g, off, none⟩) len cap, .int .i64 k, .int .i64 maps] w fun e w' => e = .returned (.bool true) ∧ Below w.heap.size w w' := by
  have i0 : (0 : Int) ≤ (k : Int) := by omega
  have i1 : (k : Int) < (len : Int) := by omega
  have b24 : (o != 24) = true := by simpa using h24
  obtain ⟨x0, x1, x2, x3, x4⟩ := hc
  go_enter Try.func25, Try.ntmps25
  go_wp2
  go_ret
  exact ⟨rfl, Below.refl _ _⟩
theorem has_none (w : World) (g off len cap k : Nat) (d s f m maps : Int) (hk : k < len) (hc : At5 w g (off + k * 5) ⟨24, d, s, f, m⟩) (h1 : s ≠ 1) :
    Calls Try.prog 25 #[.slice (some ⟨g, off, none⟩) len cap, .int .i64 k, .int .i64 maps] w fun e w' => e = .returned (.bool true) ∧ Below w.heap.size w w' := by
  have i0 : (0 : Int) ≤ (k : Int) := by omega
  have i1 : (k : Int) < (len : Int) := by omega
  have b24 : (s != 1) = true := by simpa using h1
  obtain ⟨x0, x1, x2, x3, x4⟩ := hc
  go_enter Try.func25, Try.ntmps25
  go_wp2
  go_ret
  exact ⟨rfl, Below.refl _ _⟩
end Go.Proofs.Ytcngkbmffaojoaa
