/-
  Proved here: plain lemmas on instructions as eight bytes (no Go text is spoken of). Conditions: as each lemma says.
-/
import Derived.Test.YtmihmgchbibmoaaPlain
import Derived.Test.YtmihmgchbibmoaaOpen
namespace Go.Proofs.Ytmihmgchbibmoaa
open Go.RowKit

/-- An instruction. -/
structure Ins where
  op : Int
  dst : Int
  src : Int
  off : Int
  imm : Int

structure Ins.Fit (x : Ins) : Prop where
  op : 0 ≤ x.op ∧ x.op ≤ 255
  dst : 0 ≤ x.dst ∧ x.dst ≤ 255
  src : 0 ≤ x.src ∧ x.src ≤ 255
  off : -32768 ≤ x.off ∧ x.off ≤ 32767
  imm : -2147483648 ≤ x.imm ∧ x.imm ≤ 2147483647

def Ins.zero : Ins := ⟨0, 0, 0, 0, 0⟩
theorem Ins.zero_fit : Ins.zero.Fit := by constructor <;> simp [Ins.zero]
/-- Its value. -/
def Ins.val (x : Ins) : Value := .agg #[.int .u8 x.op, .int .u8 x.dst, .int .u8 x.src, .int .i16 x.off, .int .i32 x.imm]
/-- Its eight bytes. -/
def Ins.bytes (x : Ins) : List Int := [x.op, x.dst % 16 + 16 * (x.src % 16), x.off % 256, x.off / 256 % 256, x.imm % 256, x.imm / 256 % 256, x.imm / 65536 % 256, x.imm / 16777216 % 256]
theorem Ins.bytes_length (x : Ins) : x.bytes.length = 8 := rfl
/-- The bytes of instructions. -/
def bytesOf (l : List Ins) : List Int := l.flatMap Ins.bytes
theorem bytesOf_length : ∀ l : List Ins, (bytesOf l).length = 8 * l.length
  | [] => rfl
  | x :: l => by
    have ih := bytesOf_length l
    simp only [bytesOf, List.flatMap_cons, List.length_append, Ins.bytes_length, List.length_cons] at ih ⊢
    omega
theorem bytesOf_snoc (l : List Ins) (x : Ins) : bytesOf (l ++ [x]) = bytesOf l ++ x.bytes := by
  simp [bytesOf]
theorem Ins.bytes_in (x : Ins) (h : x.Fit) : ∀ n ∈ x.bytes, 0 ≤ n ∧ n ≤ 255 := by
  have := h.op
  intro n hn
  simp only [Ins.bytes, List.mem_cons, List.not_mem_nil, or_false] at hn
  rcases hn with rfl | rfl | rfl | rfl | rfl | rfl | rfl | rfl <;> omega
theorem bytesOf_in {l : List Ins} (h : ∀ x ∈ l, x.Fit) : ∀ n ∈ bytesOf l, 0 ≤ n ∧ n ≤ 255 := by
  intro n hn
  simp only [bytesOf, List.mem_flatMap] at hn
  obtain ⟨x, hx, hn⟩ := hn
  exact x.bytes_in (h x hx) n hn
theorem bytesIn_of {zs : List Int} (h : ∀ n ∈ zs, 0 ≤ n ∧ n ≤ 255) : BytesIn zs := by
  intro j
  rcases Nat.lt_or_ge j zs.length with hj | hj
  · rw [List.getD_eq_getElem?_getD, List.getElem?_eq_getElem hj]
    exact h _ (List.getElem_mem hj)
  · rw [List.getD_eq_getElem?_getD, List.getElem?_eq_none hj]
    simp

/-- What stands in a row of zeros when k instructions of l are written. -/
def upTo (l : List Ins) (k : Nat) : List Int := bytesOf (l.take k) ++ List.replicate (8 * (l.length - k)) 0
theorem upTo_length (l : List Ins) (k : Nat) (h : k ≤ l.length) : (upTo l k).length = 8 * l.length := by
  rw [upTo, List.length_append, bytesOf_length, List.length_take, List.length_replicate]
  omega
theorem upTo_all (l : List Ins) : upTo l l.length = bytesOf l := by simp [upTo]
theorem take_next (l : List Ins) (k : Nat) (h : k < l.length) : l.take (k + 1) = l.take k ++ [l.getD k .zero] := by
  rw [List.take_succ_eq_append_getElem h, List.getD_eq_getElem?_getD, List.getElem?_eq_getElem h]
  rfl
theorem upTo_put (l : List Ins) (k : Nat) (h : k < l.length) : putL (upTo l k) (8 * k) (l.getD k .zero).bytes = upTo l (k + 1) := by
  have e1 : (bytesOf (l.take k)).length = 8 * k := by rw [bytesOf_length, List.length_take]; omega
  rw [putL, upTo, upTo, take_next l k h, bytesOf_snoc, List.take_append_of_le_length (by omega), List.take_of_length_le (by omega), List.drop_append, Ins.bytes_length, List.drop_eq_nil_of_le (by omega), List.nil_append, e1,
    List.drop_replicate]
  congr 2
  omega
end Go.Proofs.Ytmihmgchbibmoaa
