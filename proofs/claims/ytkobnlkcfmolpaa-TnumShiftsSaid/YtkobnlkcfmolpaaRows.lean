/-
  No cell of these rows narrows 'for every input' (looked for: loops, veiled, ifaces, maps, wideKeys, modest, calm, conditions, laid).
  DERIVED. THE GIVEN ROWS OF THIS SEAT. 5 by the template 'for every input the law returns true; each argument reads behind the call as it read before'; 0 by the template 'total and deterministic' (their statements: YtkobnlkcfmolpaaTotals.lean).
  GIVEN WITH THE SEED: the statements are not yours to turn. If you find one false, say at which input.
  Laid BY PROGRAM, IN A SANDBOX (cutbox-rows.mjs): the forced cells as the released guide's own fill.sh prints them over the translation 4df2ea0b55222126… (all of the seat's roots in one cut). By AI agents, Wed Nov 11 2026. No macro, syntax, notation, axiom, sorry.
-/
import Derived.Test.YtkobnlkcfmolpaaChecked
import GoSem.Claim
import GoSem.ClaimJoined
import GoSem.ClaimMapViews
import Derived.JoinedTies
import Derived.KernelRfl
namespace Go.Proofs.Ytkobnlkcfmolpaa
/- THE CELL 'sum', in the pinned program and in every row, IS THE sha256 OF THE DUMP (.gsa) THAT YtkobnlkcfmolpaaProg.lean LOADS. Nothing in Lean hashes anything: it is a label: what it is worth is what the hold of that sum in a sandbox is worth. -/
noncomputable def Try.pinned : Pinned := { name := "ytkobnlkcfmolpaa", sum := "4df2ea0b55222126b009e697ab67eadf07e1eba9583b0b745c3f34693ac08bea", checked := Try.checked }
namespace Rows
def none {H : Type} : Left H := { results := [], args := [] }

/-- 'halberdlaw06.TnumHas': WHATEVER THE INPUT: true; the input reads as it did. -/
def tnumHasSpec : ChangeSpec := { name := "tnumHas", fn := fun _ => fun
  | [d1, d2, d3] => { results := [.lit (.bool true)], args := [d1, d2, d3] }
  | _ => none }
def tnumHasRow : OpenClaim := { program := "ytkobnlkcfmolpaa", sum := "4df2ea0b55222126b009e697ab67eadf07e1eba9583b0b745c3f34693ac08bea", func := "halberd/halberdlaw06.TnumHas", spec := "tnumHas", apart := false }
def TnumHasSaid : Prop := tnumHasRow.holds Try.pinned (OpenSpec.ofChange tnumHasSpec)

/-- ITS FALSE NEIGHBOUR: 'it returns false'. Refute it at one input. -/
def tnumHasWrong : ChangeSpec := { name := "tnumHas", fn := fun _ => fun
  | [d1, d2, d3] => { results := [.lit (.bool false)], args := [d1, d2, d3] }
  | _ => none }
def TnumHasWrongFalsely : Prop := tnumHasRow.holds Try.pinned (OpenSpec.ofChange tnumHasWrong)

/-- 'halberdlaw06.TnumTwo': WHATEVER THE INPUT: true; the input reads as it did. -/
def tnumTwoSpec : ChangeSpec := { name := "tnumTwo", fn := fun _ => fun
  | [d1, d2] => { results := [.lit (.bool true)], args := [d1, d2] }
  | _ => none }
def tnumTwoRow : OpenClaim := { program := "ytkobnlkcfmolpaa", sum := "4df2ea0b55222126b009e697ab67eadf07e1eba9583b0b745c3f34693ac08bea", func := "halberd/halberdlaw06.TnumTwo", spec := "tnumTwo", apart := false }
def TnumTwoSaid : Prop := tnumTwoRow.holds Try.pinned (OpenSpec.ofChange tnumTwoSpec)

/-- ITS FALSE NEIGHBOUR: 'it returns false'. Refute it at one input. -/
def tnumTwoWrong : ChangeSpec := { name := "tnumTwo", fn := fun _ => fun
  | [d1, d2] => { results := [.lit (.bool false)], args := [d1, d2] }
  | _ => none }
def TnumTwoWrongFalsely : Prop := tnumTwoRow.holds Try.pinned (OpenSpec.ofChange tnumTwoWrong)

/-- 'halberdlaw06.TnumShifts': WHATEVER THE INPUT: true; the input reads as it did. -/
def tnumShiftsSpec : ChangeSpec := { name := "tnumShifts", fn := fun _ => fun
  | [d1, d2, d3] => { results := [.lit (.bool true)], args := [d1, d2, d3] }
  | _ => none }
def tnumShiftsRow : OpenClaim := { program := "ytkobnlkcfmolpaa", sum := "4df2ea0b55222126b009e697ab67eadf07e1eba9583b0b745c3f34693ac08bea", func := "halberd/halberdlaw06.TnumShifts", spec := "tnumShifts", apart := false }
def TnumShiftsSaid : Prop := tnumShiftsRow.holds Try.pinned (OpenSpec.ofChange tnumShiftsSpec)

/-- ITS FALSE NEIGHBOUR: 'it returns false'. Refute it at one input. -/
def tnumShiftsWrong : ChangeSpec := { name := "tnumShifts", fn := fun _ => fun
  | [d1, d2, d3] => { results := [.lit (.bool false)], args := [d1, d2, d3] }
  | _ => none }
def TnumShiftsWrongFalsely : Prop := tnumShiftsRow.holds Try.pinned (OpenSpec.ofChange tnumShiftsWrong)

/-- 'halberdlaw06.TnumMeets': WHATEVER THE INPUT: true; the input reads as it did. -/
def tnumMeetsSpec : ChangeSpec := { name := "tnumMeets", fn := fun _ => fun
  | [d1, d2, d3] => { results := [.lit (.bool true)], args := [d1, d2, d3] }
  | _ => none }
def tnumMeetsRow : OpenClaim := { program := "ytkobnlkcfmolpaa", sum := "4df2ea0b55222126b009e697ab67eadf07e1eba9583b0b745c3f34693ac08bea", func := "halberd/halberdlaw06.TnumMeets", spec := "tnumMeets", apart := false }
def TnumMeetsSaid : Prop := tnumMeetsRow.holds Try.pinned (OpenSpec.ofChange tnumMeetsSpec)

/-- ITS FALSE NEIGHBOUR: 'it returns false'. Refute it at one input. -/
def tnumMeetsWrong : ChangeSpec := { name := "tnumMeets", fn := fun _ => fun
  | [d1, d2, d3] => { results := [.lit (.bool false)], args := [d1, d2, d3] }
  | _ => none }
def TnumMeetsWrongFalsely : Prop := tnumMeetsRow.holds Try.pinned (OpenSpec.ofChange tnumMeetsWrong)

/-- 'halberdlaw06.TnumSound': WHATEVER THE INPUT: true; the input reads as it did. -/
def tnumSoundSpec : ChangeSpec := { name := "tnumSound", fn := fun _ => fun
  | [d1, d2, d3, d4, d5] => { results := [.lit (.bool true)], args := [d1, d2, d3, d4, d5] }
  | _ => none }
def tnumSoundRow : OpenClaim := { program := "ytkobnlkcfmolpaa", sum := "4df2ea0b55222126b009e697ab67eadf07e1eba9583b0b745c3f34693ac08bea", func := "halberd/halberdlaw06.TnumSound", spec := "tnumSound", apart := false }
def TnumSoundSaid : Prop := tnumSoundRow.holds Try.pinned (OpenSpec.ofChange tnumSoundSpec)

/-- ITS FALSE NEIGHBOUR: 'it returns false'. Refute it at one input. -/
def tnumSoundWrong : ChangeSpec := { name := "tnumSound", fn := fun _ => fun
  | [d1, d2, d3, d4, d5] => { results := [.lit (.bool false)], args := [d1, d2, d3, d4, d5] }
  | _ => none }
def TnumSoundWrongFalsely : Prop := tnumSoundRow.holds Try.pinned (OpenSpec.ofChange tnumSoundWrong)

/- THE SECOND FORM. 'bulk': how many values and letters a reading holds, each counted each time it is reached (what is shared counts as often as it is met; a slice's spare places count too). A statement '..UptoSaid' is the law's where the arguments, and the package variables that the reading takes, are together of bulk at most 1048576: NARROWER than '..Said'. Prove '..Said' where nothing that the law and all that it calls make is longer than what came in: it says more and counts as full. Else prove '..UptoSaid'. A law counts once. -/
mutual
def uptoBulk {H : Type} : DataW H → Nat
  | .lit (.string bytes) => bytes.length + 1
  | .lit _ => 1
  | .nil => 1
  | .ptr d => uptoBulk d + 1
  | .slice elems spare => uptoBulkAll elems + uptoBulkAll spare + 1
  | .agg parts => uptoBulkAll parts + 1
  | .iface _ d => uptoBulk d + 1
  | .map entries => uptoBulkEntries entries + 1
  | .held _ => 1
def uptoBulkAll {H : Type} : List (DataW H) → Nat
  | [] => 0
  | d :: r => uptoBulk d + uptoBulkAll r
def uptoBulkEntries {H : Type} : List (Lit × DataW H) → Nat
  | [] => 0
  | x :: r => uptoBulkEntry x + uptoBulkEntries r
def uptoBulkEntry {H : Type} : Lit × DataW H → Nat
  | (.string bytes, d) => bytes.length + uptoBulk d + 1
  | (_, d) => uptoBulk d + 1
 end
def uptoSmall : (H : Type) → List (DataW H) → Bool := fun _ ds => decide (uptoBulkAll ds ≤ 1048576)
def OpenSpec.upto (s : _root_.Go.ChangeSpec) : _root_.Go.OpenSpec := { _root_.Go.OpenSpec.ofChange s with cond := some uptoSmall }

/-- 'halberdlaw06.TnumHas', WHERE WHAT IT READS IS OF BULK AT MOST 1048576: true; the input reads as it did. -/
def tnumHasUptoRow : OpenClaim := { program := "ytkobnlkcfmolpaa", sum := "4df2ea0b55222126b009e697ab67eadf07e1eba9583b0b745c3f34693ac08bea", func := "halberd/halberdlaw06.TnumHas", spec := "tnumHas", apart := false, narrowed := true }
def TnumHasUptoSaid : Prop := tnumHasUptoRow.holds Try.pinned (OpenSpec.upto tnumHasSpec)

/-- 'halberdlaw06.TnumTwo', WHERE WHAT IT READS IS OF BULK AT MOST 1048576: true; the input reads as it did. -/
def tnumTwoUptoRow : OpenClaim := { program := "ytkobnlkcfmolpaa", sum := "4df2ea0b55222126b009e697ab67eadf07e1eba9583b0b745c3f34693ac08bea", func := "halberd/halberdlaw06.TnumTwo", spec := "tnumTwo", apart := false, narrowed := true }
def TnumTwoUptoSaid : Prop := tnumTwoUptoRow.holds Try.pinned (OpenSpec.upto tnumTwoSpec)

/-- 'halberdlaw06.TnumShifts', WHERE WHAT IT READS IS OF BULK AT MOST 1048576: true; the input reads as it did. -/
def tnumShiftsUptoRow : OpenClaim := { program := "ytkobnlkcfmolpaa", sum := "4df2ea0b55222126b009e697ab67eadf07e1eba9583b0b745c3f34693ac08bea", func := "halberd/halberdlaw06.TnumShifts", spec := "tnumShifts", apart := false, narrowed := true }
def TnumShiftsUptoSaid : Prop := tnumShiftsUptoRow.holds Try.pinned (OpenSpec.upto tnumShiftsSpec)

/-- 'halberdlaw06.TnumMeets', WHERE WHAT IT READS IS OF BULK AT MOST 1048576: true; the input reads as it did. -/
def tnumMeetsUptoRow : OpenClaim := { program := "ytkobnlkcfmolpaa", sum := "4df2ea0b55222126b009e697ab67eadf07e1eba9583b0b745c3f34693ac08bea", func := "halberd/halberdlaw06.TnumMeets", spec := "tnumMeets", apart := false, narrowed := true }
def TnumMeetsUptoSaid : Prop := tnumMeetsUptoRow.holds Try.pinned (OpenSpec.upto tnumMeetsSpec)

/-- 'halberdlaw06.TnumSound', WHERE WHAT IT READS IS OF BULK AT MOST 1048576: true; the input reads as it did. -/
def tnumSoundUptoRow : OpenClaim := { program := "ytkobnlkcfmolpaa", sum := "4df2ea0b55222126b009e697ab67eadf07e1eba9583b0b745c3f34693ac08bea", func := "halberd/halberdlaw06.TnumSound", spec := "tnumSound", apart := false, narrowed := true }
def TnumSoundUptoSaid : Prop := tnumSoundUptoRow.holds Try.pinned (OpenSpec.upto tnumSoundSpec)

end Rows
end Go.Proofs.Ytkobnlkcfmolpaa
