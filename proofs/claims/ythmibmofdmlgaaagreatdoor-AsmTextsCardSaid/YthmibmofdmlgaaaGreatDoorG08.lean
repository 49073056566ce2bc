import Derived.Test.YthmibmofdmlgaaaGreatDoorHWords
import Derived.Lib.SplitLaws
import Derived.Test.YthmibmofdmlgaaaGreatDoorG07
/-
  Proved here: nothing of a program: what is joined by a separator is split into the same pieces; what is cut at the first separator. Conditions: the separator's first byte stands in no piece.
-/
namespace Go.Proofs.YthmibmofdmlgaaaGreatDoor
open Go.RowKit
set_option linter.unusedVariables false

theorem index_at (c : UInt8) (u r : List UInt8) : ∀ x : List UInt8, c ∉ x → Lib.index (x ++ (c :: u ++ r)) (c :: u) = (x.length : Int)
  | [], _ => by
    rw [List.nil_append]
    have : (c :: u).isPrefixOf (c :: u ++ r) = true := by rw [List.isPrefixOf_iff_prefix]; exact List.prefix_append _ _
    rw [List.cons_append] at this ⊢
    unfold Lib.index
    rw [if_pos this]
    rfl
  | b :: x, h => by
    have ih := index_at c u r x (fun hx => h (List.mem_cons_of_mem _ hx))
    have hbc : (c == b) = false := by rw [beq_eq_false_iff_ne]; intro e; exact h (by rw [e]; simp)
    rw [List.cons_append]
    unfold Lib.index
    rw [if_neg (by simp only [List.isPrefixOf, hbc, Bool.false_and]; simp), ih, if_neg (by simp)]
    simp
theorem index_not (c : UInt8) (u : List UInt8) : ∀ x : List UInt8, c ∉ x → Lib.index x (c :: u) = -1
  | [], _ => rfl
  | b :: x, h => by
    have ih := index_not c u x (fun hx => h (List.mem_cons_of_mem _ hx))
    have hbc : (c == b) = false := by rw [beq_eq_false_iff_ne]; intro e; exact h (by rw [e]; simp)
    unfold Lib.index
    rw [if_neg (by simp only [List.isPrefixOf, hbc, Bool.false_and]; simp), ih]
    rfl
theorem join_two (x y : List UInt8) (r : List (List UInt8)) (sep : List UInt8) : Lib.join (x :: y :: r) sep = x ++ (sep ++ Lib.join (y :: r) sep) := by
  simp [Lib.join, List.intercalate]
theorem count_pieces (c : UInt8) (u : List UInt8) : ∀ (x : List UInt8) (r : List (List UInt8)), (∀ y ∈ x :: r, c ∉ y) → Lib.count (Lib.join (x :: r) (c :: u)) (c :: u) = r.length
  | x, [], h => by
    rw [Lib.join_one]
    exact Lib.count_miss (index_not c u x (h x (by simp)))
  | x, y :: r, h => by
    have ih := count_pieces c u y r (fun z hz => h z (List.mem_cons_of_mem _ hz))
    rw [join_two]
    have hi := index_at c u (Lib.join (y :: r) (c :: u)) x (h x (by simp))
    rw [Lib.count_hit (by simp) hi]
    have e : (x ++ (c :: u ++ Lib.join (y :: r) (c :: u))).drop (x.length + (c :: u).length) = Lib.join (y :: r) (c :: u) := by
      rw [← List.append_assoc]
      have : x.length + (c :: u).length = (x ++ c :: u).length := by simp
      rw [this, List.drop_left]
    rw [e, ih]
    simp
    omega
theorem splitK_pieces (c : UInt8) (u : List UInt8) : ∀ (x : List UInt8) (r : List (List UInt8)), (∀ y ∈ x :: r, c ∉ y) → Lib.splitK (c :: u) 0 r.length (Lib.join (x :: r) (c :: u)) = x :: r
  | x, [], h => by
    rw [Lib.join_one]
    rfl
  | x, y :: r, h => by
    have ih := splitK_pieces c u y r (fun z hz => h z (List.mem_cons_of_mem _ hz))
    rw [join_two]
    have hi := index_at c u (Lib.join (y :: r) (c :: u)) x (h x (by simp))
    have e : (x ++ (c :: u ++ Lib.join (y :: r) (c :: u))).drop (x.length + (c :: u).length) = Lib.join (y :: r) (c :: u) := by
      rw [← List.append_assoc]
      have : x.length + (c :: u).length = (x ++ c :: u).length := by simp
      rw [this, List.drop_left]
    rw [List.length_cons]
    unfold Lib.splitK
    rw [hi, if_neg (by simp)]
    have e2 : ((x.length : Int)).toNat = x.length := by omega
    rw [e2, e, ih]
    simp
/-- What Split gives of pieces that were joined. -/
theorem splitB_pieces (c : UInt8) (u : List UInt8) (x : List UInt8) (r : List (List UInt8)) (h : ∀ y ∈ x :: r, c ∉ y) :
    Lib.countB (S (Lib.join (x :: r) (c :: u))) (S (c :: u)) = r.length ∧ Lib.splitB (S (c :: u)) 0 r.length (S (Lib.join (x :: r) (c :: u))) = (x :: r).map S := by
  refine ⟨count_pieces c u x r h, ?_⟩
  have h1 := Lib.splitB_data (S (c :: u)) 0 r.length (S (Lib.join (x :: r) (c :: u)))
  rw [S_data, S_data, splitK_pieces c u x r h] at h1
  have key : ∀ (A : List ByteArray) (B : List (List UInt8)), A.map (·.data.toList) = B → A = B.map S := by
    intro A
    induction A with
    | nil => intro B hB; cases B with | nil => rfl | cons b B => cases hB
    | cons a A ih =>
      intro B hB
      cases B with
      | nil => cases hB
      | cons b B =>
        rw [List.map_cons] at hB
        injection hB with h1 h2
        rw [List.map_cons, ← ih B h2]
        congr 1
        apply ByteArray.ext
        rw [← h1]
        simp [S]
  exact key _ _ h1
/-- What Cut gives. -/
theorem cut_at (c : UInt8) (x r : List UInt8) (h : c ∉ x) : Lib.cut (x ++ c :: r) [c] = (x, r, true) := by
  have hi := index_at c [] r x h
  rw [List.cons_append, List.nil_append] at hi
  unfold Lib.cut
  rw [hi, if_pos (by omega)]
  have e2 : ((x.length : Int)).toNat = x.length := by omega
  rw [e2]
  have e3 : x ++ c :: r = (x ++ [c]) ++ r := by simp
  rw [List.take_left, e3]
  have : x.length + [c].length = (x ++ [c]).length := by simp
  rw [this, List.drop_left]
theorem cut_not (c : UInt8) (x : List UInt8) (h : c ∉ x) : Lib.cut x [c] = (x, [], false) := by
  unfold Lib.cut
  rw [index_not c [] x h, if_neg (by omega)]
end Go.Proofs.YthmibmofdmlgaaaGreatDoor

/-
  Proved here: readPart of package asm at whatever part reads what the part's text writes. Conditions: the registers are at most 10, the numbers have their sizes; the library's table.
-/
namespace Go.Proofs.YthmibmofdmlgaaaGreatDoor
open Go.RowKit
set_option linter.unusedVariables false

/-- What a part's text turns of a line that is read: the instruction, and its number. -/
def stepL (x : Ins) (N : Int) (reg : Bool) (p : Int) (L : Ins × Int) : Ins × Int :=
  if p = 0 then ({ L.1 with dst := x.dst }, L.2)
  else if p = 1 then (if reg = true then ({ L.1 with op := wreg L.1.op, src := x.src }, L.2) else (L.1, N))
  else if p = 4 then ({ L.1 with off := x.off }, L.2)
  else if p = 5 then ({ L.1 with src := x.src, off := x.off }, L.2)
  else if p = 6 then ({ L.1 with dst := x.dst, off := x.off }, L.2)
  else (L.1, N)
/-- What a line holds. -/
def LineI (W : World) (b : Nat) (L : Ins × Int) : Prop := LineF W b L.1.op L.1.dst L.1.src L.1.off L.1.imm L.2
/-- The line is read so far, and nothing else is turned. -/
def ReadsI (W : World) (b : Nat) (L : Ins × Int) (e : Ending) (w' : World) : Prop := Reads W b L.1.op L.1.dst L.1.src L.1.off L.1.imm L.2 e w'
theorem read_part (w0 W : World) (b : Nat) (x : Ins) (N : Int) (reg : Bool) (p : Int) (L : Ins × Int) (h : LineI W b L) (hx : x.Fit) (hd : x.dst ≤ 10) (hs : x.src ≤ 10) (hp : 0 ≤ p ∧ p ≤ 6) (hN : FitB (bitsN L.1.op) N) (hB : partB x N p = true) (he : Env w0) (hw : Below w0.heap.size w0 W) (hb : w0.heap.size ≤ b) :
    Calls Tryz.prog 70 #[.pointer (some ⟨b, 0, none⟩), .int .u8 p, .string (S (partT x N reg p))] W (ReadsI W b (stepL x N reg p L)) := by
  obtain ⟨⟨o, d, s, f, m⟩, n⟩ := L
  have hE := he.on hw
  have d0 := hx.dst.1
  have s0 := hx.src.1
  have f0 := hx.off.1
  have f1 := hx.off.2
  unfold LineI at h
  unfold ReadsI
  dsimp only at h hN ⊢
  by_cases h0 : p = 0
  · subst h0
    simp only [partT, stepL, if_true]
    exact part_dst W b o d s f m n _ h d0 hd hE
  by_cases h1 : p = 1
  · subst h1
    cases reg with
    | true =>
      simp only [partT, stepL, if_true, if_neg h0, and_self]
      exact part_operand W b o d s f m n _ _ _ _ _ _ _ (operand_reg w0 W b o d s f m n _ h s0 hs he hw hb)
    | false =>
      simp [partT, stepL]
      exact part_operand W b o d s f m n _ _ _ _ _ _ _ (operand_num W b o d s f m n _ h hN hE)
  by_cases h4 : p = 4
  · subst h4
    simp [partT, stepL]
    simp [partB] at hB
    exact part_ahead W b o d s f m n _ h hB f1 hE
  by_cases h5 : p = 5
  · subst h5
    simp [partT, stepL]
    exact part_source W b o d s f m n _ _ h s0 hs f0 f1 hE
  by_cases h6 : p = 6
  · subst h6
    simp [partT, stepL]
    exact part_target W b o d s f m n _ _ h d0 hd f0 f1 hE
  have h23 : p = 2 ∨ p = 3 := by omega
  rcases h23 with rfl | rfl
  · simp [partT, stepL]
    exact part_number W b o d s f m n _ h hN hE
  · simp [partT, stepL]
    simp [partB] at hB
    exact part_count W b o d s f m n _ h hN hB hE
end Go.Proofs.YthmibmofdmlgaaaGreatDoor
