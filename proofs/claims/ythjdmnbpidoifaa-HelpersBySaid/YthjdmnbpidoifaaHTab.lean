/-
  Proved here: nothing of the Go text: the table of helpers by numbers, as plain functions. Conditions: none.
-/
import GoSem.Core.Value
import Derived.KernelRfl
namespace Go.Proofs.Ythjdmnbpidoifaa
/-- The name of a helper. -/
def hnameB : Nat → ByteArray
  | 1 => { data := #[108, 111, 111, 107, 117, 112] }
  | 2 => { data := #[117, 112, 100, 97, 116, 101] }
  | 3 => { data := #[100, 101, 108, 101, 116, 101] }
  | 4 => { data := #[105, 110, 111, 100, 101, 95, 103, 101, 116] }
  | 5 => { data := #[116, 97, 115, 107, 95, 103, 101, 116] }
  | 6 => { data := #[105, 110, 111, 100, 101, 95, 100, 101, 108] }
  | 7 => { data := #[116, 97, 115, 107, 95, 100, 101, 108] }
  | 8 => { data := #[114, 101, 115, 101, 114, 118, 101] }
  | 9 => { data := #[115, 117, 98, 109, 105, 116] }
  | 10 => { data := #[100, 105, 115, 99, 97, 114, 100] }
  | 11 => { data := #[110, 111, 119] }
  | 12 => { data := #[112, 97, 116, 104] }
  | 13 => { data := #[105, 110, 115, 105, 100, 101] }
  | _ => { data := #[] }
/-- The letters of its arguments. -/
def hargB : Nat → ByteArray
  | 1 => { data := #[109, 107] }
  | 2 => { data := #[109, 107, 118, 110] }
  | 3 => { data := #[109, 107] }
  | 4 => { data := #[109, 105, 110] }
  | 5 => { data := #[109, 116, 110] }
  | 6 => { data := #[109, 105] }
  | 7 => { data := #[109, 116] }
  | 8 => { data := #[109, 99] }
  | 9 => { data := #[114] }
  | 10 => { data := #[114] }
  | 11 => { data := #[] }
  | 12 => { data := #[105, 98, 99] }
  | 13 => { data := #[116, 110] }
  | _ => { data := #[] }
/-- The kinds of maps that suit. -/
def hmapL : Nat → List Int
  | 1 => [1, 2]
  | 2 => [1, 2]
  | 3 => [2]
  | 4 => [3]
  | 5 => [4]
  | 6 => [3]
  | 7 => [4]
  | 8 => [5]
  | 9 => []
  | 10 => []
  | 11 => []
  | 12 => []
  | 13 => []
  | _ => []
/-- The letter of its result. -/
def hretC : Nat → Int
  | 1 => 118
  | 2 => 110
  | 3 => 110
  | 4 => 118
  | 5 => 118
  | 6 => 110
  | 7 => 110
  | 8 => 114
  | 9 => 110
  | 10 => 110
  | 11 => 110
  | 12 => 110
  | 13 => 110
  | _ => 0
/-- A letter's place in a text of letters, counted from 1; 0 without it. -/
def placeI (l : List Int) (c : Int) : Int := match l.findIdx? (· == c) with
  | some i => i + 1
  | none => 0
/-- The kind of an argument's letter, and of a result's. -/
def argI (c : Int) : Int := placeI [109, 107, 118, 110, 105, 116, 99, 98, 114] c
def retI (c : Int) : Int := placeI [110, 118, 114] c
/-- The kinds of a helper's arguments. -/
def hargL (k : Nat) : List Int := (hargB k).data.toList.map fun c => argI (c.toNat : Int)
def suitsB (k : Nat) (kind : Int) : Bool := (hmapL k).any (· == kind)
end Go.Proofs.Ythjdmnbpidoifaa
