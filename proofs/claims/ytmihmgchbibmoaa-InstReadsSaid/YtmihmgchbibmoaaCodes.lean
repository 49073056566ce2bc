/-
  Proved here: the instructions that bytes have, have these bytes; and the instructions of a code's bytes are the code (plain lemmas; no Go text is walked). Conditions: eight bytes an instruction; Dst and Src below 16.
-/
import Derived.Test.YtmihmgchbibmoaaRefRead
namespace Go.Proofs.Ytmihmgchbibmoaa
open Go.RowKit

theorem getD_drop (zs : List Int) (q i : Nat) : (zs.drop q).getD i 0 = zs.getD (q + i) 0 := by
  rw [List.getD_eq_getElem?_getD, List.getD_eq_getElem?_getD, List.getElem?_drop]
theorem take8 : ∀ (zs : List Int), 8 ≤ zs.length → zs.take 8 = [zs.getD 0 0, zs.getD 1 0, zs.getD 2 0, zs.getD 3 0, zs.getD 4 0, zs.getD 5 0, zs.getD 6 0, zs.getD 7 0]
  | a :: b :: c :: d :: e :: f :: g :: h :: r, _ => by simp
theorem i16_mod (x : Int) : IntKind.i16.wrap x = (x + 32768) % 65536 - 32768 := by
  simp [IntKind.wrap, IntKind.bits, IntKind.signed]
  split <;> omega
theorem insOf_bytes (zs : List Int) (h8 : 8 ≤ zs.length) (hz : BytesIn zs) : (insOf zs 0).bytes = zs.take 8 := by
  rw [take8 zs h8]
  have z1 := hz 1
  have z2 := hz 2
  have z3 := hz 3
  have z4 := hz 4
  have z5 := hz 5
  have z6 := hz 6
  have z7 := hz 7
  simp only [insOf, Ins.bytes, ldF, Nat.zero_add, Nat.reduceAdd, i16_mod, wrap32]
  generalize zs.getD 0 0 = a0
  generalize zs.getD 1 0 = a1 at *
  generalize zs.getD 2 0 = a2 at *
  generalize zs.getD 3 0 = a3 at *
  generalize zs.getD 4 0 = a4 at *
  generalize zs.getD 5 0 = a5 at *
  generalize zs.getD 6 0 = a6 at *
  generalize zs.getD 7 0 = a7 at *
  simp only [List.cons.injEq, and_true, true_and]
  refine ⟨?_, ?_, ?_, ?_, ?_, ?_, ?_⟩ <;> omega
theorem bytesIn_drop {zs : List Int} (h : BytesIn zs) (q : Nat) : BytesIn (zs.drop q) := fun j => by rw [getD_drop]; exact h (q + j)
theorem bytesOf_take (zs : List Int) (hz : BytesIn zs) : ∀ k, 8 * k ≤ zs.length → bytesOf (insList zs k) = zs.take (8 * k)
  | 0, _ => by simp [insList, bytesOf]
  | k + 1, h => by
    rw [insList_succ, bytesOf_snoc, bytesOf_take zs hz k (by omega), pieceOf, insOf_bytes _ (by rw [List.length_drop]; omega) (bytesIn_drop hz _), show 8 * (k + 1) = 8 * k + 8 by omega, List.take_add]
/-- The instructions that bytes have, have these bytes. -/
theorem bytesOf_insList (zs : List Int) (N : Nat) (hl : zs.length = 8 * N) (hz : BytesIn zs) : bytesOf (insList zs N) = zs := by
  rw [bytesOf_take zs hz N (by omega), List.take_of_length_le (by omega)]
theorem insOf_append (x : Ins) (r : List Int) (hx : x.Fit) (hd : x.dst ≤ 15) (hs : x.src ≤ 15) : insOf (x.bytes ++ r) 0 = x := by
  have h1 := hx.dst
  have h2 := hx.src
  have h3 := hx.off
  have h4 := hx.imm
  obtain ⟨o, d, s, f, m⟩ := x
  simp only at hd hs h1 h2 h3 h4
  simp only [insOf, Ins.bytes, ldF, Nat.zero_add, Nat.reduceAdd, i16_mod, wrap32, List.cons_append, List.getD_cons_zero, List.getD_cons_succ, Ins.mk.injEq, true_and]
  refine ⟨?_, ?_, ?_, ?_⟩ <;> omega
theorem drop_bytesOf : ∀ (l : List Ins) (j : Nat), (bytesOf l).drop (8 * j) = bytesOf (l.drop j)
  | [], j => by simp [bytesOf]
  | x :: l, 0 => by simp
  | x :: l, j + 1 => by
    have ih := drop_bytesOf l j
    simp only [bytesOf, List.flatMap_cons, List.drop_succ_cons] at ih ⊢
    rw [show 8 * (j + 1) = x.bytes.length + 8 * j by rw [Ins.bytes_length]; omega, List.drop_append]
    rw [List.drop_eq_nil_of_le (by omega), List.nil_append, Nat.add_sub_cancel_left]
    exact ih
/-- The instructions of a code's bytes are the code. -/
theorem insList_bytesOf (l : List Ins) (hl : ∀ x ∈ l, x.Fit ∧ x.dst ≤ 15 ∧ x.src ≤ 15) : insList (bytesOf l) l.length = l := by
  apply List.ext_getElem
  · simp [insList]
  · intro j h1 h2
    simp only [insList, List.getElem_map, List.getElem_range, pieceOf, drop_bytesOf]
    rw [List.drop_eq_getElem_cons h2]
    obtain ⟨a, b, c⟩ := hl _ (List.getElem_mem h2)
    simp only [bytesOf, List.flatMap_cons]
    exact insOf_append _ _ a b c
end Go.Proofs.Ytmihmgchbibmoaa
