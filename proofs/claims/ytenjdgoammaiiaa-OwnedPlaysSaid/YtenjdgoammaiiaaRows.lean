/-
  No cell of these rows narrows 'for every input' (looked for: loops, veiled, ifaces, maps, wideKeys, modest, calm, conditions, laid).
  DERIVED. THE GIVEN ROWS OF THIS SEAT. 2 by the template 'for every input the law returns true; each argument reads behind the call as it read before'; 0 by the template 'total and deterministic' (their statements: YtenjdgoammaiiaaTotals.lean).
  GIVEN WITH THE SEED: the statements are not yours to turn. If you find one false, say at which input.
  Laid BY PROGRAM, IN A SANDBOX (cutbox-rows.mjs): the forced cells as the released guide's own fill.sh prints them over the translation 2a46614ef87df1ba… (all of the seat's roots in one cut). By AI agents, Wed Nov 11 2026. No macro, syntax, notation, axiom, sorry.
-/
import Derived.Test.YtenjdgoammaiiaaChecked
import GoSem.Claim
import GoSem.ClaimJoined
import GoSem.ClaimMapViews
import Derived.JoinedTies
import Derived.KernelRfl
namespace Go.Proofs.Ytenjdgoammaiiaa
/- THE CELL 'sum', in the pinned program and in every row, IS THE sha256 OF THE DUMP (.gsa) THAT YtenjdgoammaiiaaProg.lean LOADS. Nothing in Lean hashes anything: it is a label: what it is worth is what the hold of that sum in a sandbox is worth. -/
noncomputable def Try.pinned : Pinned := { name := "ytenjdgoammaiiaa", sum := "2a46614ef87df1ba15ace1b9ca6f6dfd6e3e82c2d6c888b5ce23f5e2d2a99859", checked := Try.checked }
namespace Rows
def none {H : Type} : Left H := { results := [], args := [] }

/-- 'halberdlaw14.OwnedPlays': WHATEVER THE INPUT: true; the input reads as it did. -/
def ownedPlaysSpec : ChangeSpec := { name := "ownedPlays", fn := fun _ => fun
  | [d1, d2, d3] => { results := [.lit (.bool true)], args := [d1, d2, d3] }
  | _ => none }
def ownedPlaysRow : OpenClaim := { program := "ytenjdgoammaiiaa", sum := "2a46614ef87df1ba15ace1b9ca6f6dfd6e3e82c2d6c888b5ce23f5e2d2a99859", func := "halberd/halberdlaw14.OwnedPlays", spec := "ownedPlays", inPlace := ["maps.clone"], unfollowed := true, recurses := true, apart := false }
def OwnedPlaysSaid : Prop := ownedPlaysRow.holds Try.pinned (OpenSpec.ofChange ownedPlaysSpec)

/-- ITS FALSE NEIGHBOUR: 'it returns false'. Refute it at one input. -/
def ownedPlaysWrong : ChangeSpec := { name := "ownedPlays", fn := fun _ => fun
  | [d1, d2, d3] => { results := [.lit (.bool false)], args := [d1, d2, d3] }
  | _ => none }
def OwnedPlaysWrongFalsely : Prop := ownedPlaysRow.holds Try.pinned (OpenSpec.ofChange ownedPlaysWrong)

/-- 'halberdlaw14.OwnedApart': WHATEVER THE INPUT: true; the input reads as it did. -/
def ownedApartSpec : ChangeSpec := { name := "ownedApart", fn := fun _ => fun
  | [d1, d2, d3] => { results := [.lit (.bool true)], args := [d1, d2, d3] }
  | _ => none }
def ownedApartRow : OpenClaim := { program := "ytenjdgoammaiiaa", sum := "2a46614ef87df1ba15ace1b9ca6f6dfd6e3e82c2d6c888b5ce23f5e2d2a99859", func := "halberd/halberdlaw14.OwnedApart", spec := "ownedApart", unfollowed := true, recurses := true, apart := false }
def OwnedApartSaid : Prop := ownedApartRow.holds Try.pinned (OpenSpec.ofChange ownedApartSpec)

/-- ITS FALSE NEIGHBOUR: 'it returns false'. Refute it at one input. -/
def ownedApartWrong : ChangeSpec := { name := "ownedApart", fn := fun _ => fun
  | [d1, d2, d3] => { results := [.lit (.bool false)], args := [d1, d2, d3] }
  | _ => none }
def OwnedApartWrongFalsely : Prop := ownedApartRow.holds Try.pinned (OpenSpec.ofChange ownedApartWrong)

/- THE SECOND FORM. 'bulk': how many values and letters a reading holds, each counted each time it is reached (what is shared counts as often as it is met; a slice's spare places count too). A statement '..UptoSaid' is the law's where the arguments, and the package variables that the reading takes, are together of bulk at most 1048576: NARROWER than '..Said'. Prove '..Said' where nothing that the law and all that it calls make is longer than what came in: it says more and counts as full. Else prove '..UptoSaid'. A law counts once. -/
mutual
def uptoBulk {H : Type} : DataW H → Nat
  | .lit (.string bytes) => bytes.length + 1
  | .lit _ => 1
  | .nil => 1
  | .ptr d => uptoBulk d + 1
  | .slice elems spare => uptoBulkAll elems + uptoBulkAll spare + 1
  | .agg parts => uptoBulkAll parts + 1
  | .iface _ d => uptoBulk d + 1
  | .map entries => uptoBulkEntries entries + 1
  | .held _ => 1
def uptoBulkAll {H : Type} : List (DataW H) → Nat
  | [] => 0
  | d :: r => uptoBulk d + uptoBulkAll r
def uptoBulkEntries {H : Type} : List (Lit × DataW H) → Nat
  | [] => 0
  | x :: r => uptoBulkEntry x + uptoBulkEntries r
def uptoBulkEntry {H : Type} : Lit × DataW H → Nat
  | (.string bytes, d) => bytes.length + uptoBulk d + 1
  | (_, d) => uptoBulk d + 1
 end
def uptoSmall : (H : Type) → List (DataW H) → Bool := fun _ ds => decide (uptoBulkAll ds ≤ 1048576)
def OpenSpec.upto (s : _root_.Go.ChangeSpec) : _root_.Go.OpenSpec := { _root_.Go.OpenSpec.ofChange s with cond := some uptoSmall }

/-- 'halberdlaw14.OwnedPlays', WHERE WHAT IT READS IS OF BULK AT MOST 1048576: true; the input reads as it did. -/
def ownedPlaysUptoRow : OpenClaim := { program := "ytenjdgoammaiiaa", sum := "2a46614ef87df1ba15ace1b9ca6f6dfd6e3e82c2d6c888b5ce23f5e2d2a99859", func := "halberd/halberdlaw14.OwnedPlays", spec := "ownedPlays", inPlace := ["maps.clone"], unfollowed := true, recurses := true, apart := false, narrowed := true }
def OwnedPlaysUptoSaid : Prop := ownedPlaysUptoRow.holds Try.pinned (OpenSpec.upto ownedPlaysSpec)

/-- 'halberdlaw14.OwnedApart', WHERE WHAT IT READS IS OF BULK AT MOST 1048576: true; the input reads as it did. -/
def ownedApartUptoRow : OpenClaim := { program := "ytenjdgoammaiiaa", sum := "2a46614ef87df1ba15ace1b9ca6f6dfd6e3e82c2d6c888b5ce23f5e2d2a99859", func := "halberd/halberdlaw14.OwnedApart", spec := "ownedApart", unfollowed := true, recurses := true, apart := false, narrowed := true }
def OwnedApartUptoSaid : Prop := ownedApartUptoRow.holds Try.pinned (OpenSpec.upto ownedApartSpec)

end Rows
end Go.Proofs.Ytenjdgoammaiiaa
