import Derived.Test.YthmibmofdmlgaaaGreatDoorHSec
import Derived.Lib.ItoaNum
import Derived.Lib.Join
/-
  Proved here: nothing of a program: the table of the words of lines, and what a line, and the text of a code, is. Conditions: none.
-/
namespace Go.Proofs.YthmibmofdmlgaaaGreatDoor
open Go.RowKit

/-- A text. -/
def S (l : List UInt8) : ByteArray := ⟨l.toArray⟩
theorem S_data (l : List UInt8) : (S l).data.toList = l := rfl
theorem S_size (l : List UInt8) : (S l).size = l.length := by simp [S, ByteArray.size]
theorem S_cat (a b : List UInt8) : S a ++ S b = S (a ++ b) := by
  apply ByteArray.ext
  simp [S]
theorem S_left (a : List UInt8) (b : List UInt8) : (⟨a.toArray⟩ : ByteArray) ++ S b = S (a ++ b) := S_cat a b
theorem S_right (a : List UInt8) (b : List UInt8) : S a ++ (⟨b.toArray⟩ : ByteArray) = S (a ++ b) := S_cat a b
theorem S_inj {a b : List UInt8} (h : S a = S b) : a = b := by
  have := congrArg (fun x : ByteArray => x.data.toList) h
  exact this
/-- A word: its text, the parts behind it, and whether the operand comes from a register. -/
abbrev Wd := List UInt8 × List Int × Bool
/-- What a table has at a key: the latest entry. -/
def look (T : List (Int × Wd)) (k : Int) : Option Wd := (T.find? (fun x => x.1 == k)).map (·.2)
def opsL : List (Int × List UInt8) := [(0, [97, 100, 100]), (16, [115, 117, 98]), (32, [109, 117, 108]), (48, [100, 105, 118]), (64, [111, 114]), (80, [97, 110, 100]), (96, [108, 115, 104]), (112, [114, 115, 104]),
  (144, [109, 111, 100]), (160, [120, 111, 114]), (176, [109, 111, 118]), (192, [97, 114, 115, 104])]
def condL : List (Int × List UInt8) := [(16, [106, 101, 113]), (32, [106, 103, 116]), (48, [106, 103, 101]), (64, [106, 115, 101, 116]), (80, [106, 110, 101]), (96, [106, 115, 103, 116]), (112, [106, 115, 103, 101]),
  (160, [106, 108, 116]), (176, [106, 108, 101]), (192, [106, 115, 108, 116]), (208, [106, 115, 108, 101])]
/-- The opcode from a register. -/
def wreg (op : Int) : Int := if bits .and .u8 op 7 = 2 then bits .or .u8 (bits .andNot .u8 op 7) 3 else bits .or .u8 op 8
def both (T : List (Int × Wd)) (op : Int) (t : List UInt8) (ps : List Int) : List (Int × Wd) := (wreg op, t, ps, true) :: (op, t, ps, false) :: T
def baseT : List (Int × Wd) := [(149, [101, 120, 105, 116], [], false), (133, [99, 97, 108, 108], [3], false), (5, [106, 97], [4], false), (132, [110, 101, 103, 51, 50], [0], false), (135, [110, 101, 103], [0], false),
  (24, [108, 100, 100, 119], [0, 2], false)]
def opStep (T : List (Int × Wd)) (o : Int × List UInt8) : List (Int × Wd) := both (both T (bits .or .u8 7 o.1) o.2 [0, 1]) (bits .or .u8 4 o.1) (o.2 ++ [51, 50]) [0, 1]
def condStep (T : List (Int × Wd)) (o : Int × List UInt8) : List (Int × Wd) := both (both T (bits .or .u8 5 o.1) o.2 [0, 1, 4]) (bits .or .u8 6 o.1) (o.2 ++ [51, 50]) [0, 1, 4]
def opT (k : Nat) : List (Int × Wd) := (opsL.take k).foldl opStep baseT
def condT (k : Nat) : List (Int × Wd) := (condL.take k).foldl condStep (opT 12)
/-- The digit of a size. -/
def sizeD (op : Int) : List UInt8 := [UInt8.ofNat (48 + (szI op).toNat)]
def memStep (T : List (Int × Wd)) (op : Int) : List (Int × Wd) :=
  if szI op = 0 then T else if bits .and .u8 op 7 = 1 then (op, [108, 100] ++ sizeD op, [0, 5], false) :: T else if bits .and .u8 op 7 = 2 then both T op ([115, 116] ++ sizeD op) [6, 1] else T
def memT (k : Nat) : List (Int × Wd) := (List.range k).foldl (fun T (i : Nat) => memStep T i) (condT 11)
theorem opT_succ (k : Nat) (hk : k < 12) : opT (k + 1) = opStep (opT k) (opsL.getD k (0, [])) := by
  unfold opT
  have h : k < opsL.length := hk
  rw [List.take_add_one, List.getElem?_eq_getElem h, List.foldl_append, List.getD_eq_getElem?_getD, List.getElem?_eq_getElem h]
  rfl
theorem condT_succ (k : Nat) (hk : k < 11) : condT (k + 1) = condStep (condT k) (condL.getD k (0, [])) := by
  unfold condT
  have h : k < condL.length := hk
  rw [List.take_add_one, List.getElem?_eq_getElem h, List.foldl_append, List.getD_eq_getElem?_getD, List.getElem?_eq_getElem h]
  rfl
theorem memT_succ (k : Nat) : memT (k + 1) = memStep (memT k) k := by
  unfold memT
  rw [List.range_succ, List.foldl_append]
  rfl
/-- The word of an opcode; and that of map. -/
def wdOf (op : Int) : Option Wd := look (memT 256) op
def wdMap : Wd := ([109, 97, 112], [0, 3], false)

/-- The opcodes that have a word are those that have fields. -/
theorem wd_shape : ∀ n : Fin 256, ((wdOf (n.val : Int)).isSome == (shp (n.val : Int) != 0)) = true := by decide +kernel

/-- The texts of a register, an offset, a place. -/
def regT (r : Int) : List UInt8 := 114 :: Lib.itoa r
def offT (o : Int) : List UInt8 := if o < 0 then Lib.itoa o else 43 :: Lib.itoa o
def placeT (r o : Int) : List UInt8 := 91 :: (regT r ++ (offT o ++ [93]))
/-- The text of a part; may it be. -/
def partT (x : Ins) (n : Int) (reg : Bool) (p : Int) : List UInt8 :=
  if p = 0 then regT x.dst else if p = 1 ∧ reg = true then regT x.src else if p = 4 then offT x.off else if p = 5 then placeT x.src x.off else if p = 6 then placeT x.dst x.off else Lib.itoa n
def partB (x : Ins) (n : Int) (p : Int) : Bool := if p = 3 then decide (0 ≤ n) else if p = 4 then decide (0 ≤ x.off) else true
/-- The text of a line; may it be. -/
def lineT (x : Ins) (n : Int) (d : Wd) : List UInt8 := if d.2.1 = [] then d.1 else d.1 ++ 32 :: Lib.join (d.2.1.map (partT x n d.2.2)) [44, 32]
def lineB (x : Ins) (n : Int) (d : Wd) : Bool := d.2.1.all (partB x n)
/-- The number of a wide one, with its sign. -/
def wideN (x y : Ins) : Int := IntKind.i64.wrap (x.imm % 4294967296 + y.imm % 4294967296 * 4294967296)
/-- Its word. -/
def wordI (x : Ins) : Wd := if x.op = 24 ∧ x.src = 1 then wdMap else (wdOf x.op).getD ([], [], false)
/-- The text of a line; none. -/
def lineO (x : Ins) (n : Int) : Option (List UInt8) := if lineB x n (wordI x) then some (lineT x n (wordI x)) else none
/-- The text of a code; none. -/
def codeT : List Ins → Option (List UInt8)
  | [] => some []
  | x :: r =>
    if rightI x = false then none
    else if x.op = 24 then
      match r with
      | [] => none
      | y :: r' => if noneB y then (lineO x (wideN x y)).bind fun t => (codeT r').map fun s => t ++ [10] ++ s else none
    else (lineO x x.imm).bind fun t => (codeT r).map fun s => t ++ [10] ++ s
end Go.Proofs.YthmibmofdmlgaaaGreatDoor
