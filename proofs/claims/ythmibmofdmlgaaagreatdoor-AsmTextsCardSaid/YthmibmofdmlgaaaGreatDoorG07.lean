import Derived.Test.YthmibmofdmlgaaaGreatDoorHReadPlace
import Derived.Test.YthmibmofdmlgaaaGreatDoorHLineWide
import Derived.Deep.Heap
import Derived.Deep.RegionHeld
import Derived.Test.YthmibmofdmlgaaaGreatDoorG04
/-
  Proved here: nothing of a program: the box of a line that is read, and worlds that differ in it alone. Conditions: as each lemma says.
-/
namespace Go.Proofs.YthmibmofdmlgaaaGreatDoor
open Go.RowKit
set_option linter.unusedVariables false

/-- All that was there is as it was, but one block. -/
structure But (b : Nat) (w w' : World) : Prop where
  os : w'.os = w.os
  tape : w'.tape = w.tape
  output : w'.output = w.output
  size : w.heap.size ≤ w'.heap.size
  block : ∀ k, k < w.heap.size → k ≠ b → w'.heap[k]? = w.heap[k]?
theorem But.refl (b : Nat) (w : World) : But b w w := ⟨rfl, rfl, rfl, Nat.le_refl _, fun _ _ _ => rfl⟩
theorem But.trans {b : Nat} {x y z : World} (h : But b x y) (k : But b y z) : But b x z :=
  ⟨k.os.trans h.os, k.tape.trans h.tape, k.output.trans h.output, Nat.le_trans h.size k.size, fun i hi hb => (k.block i (Nat.lt_of_lt_of_le hi h.size) hb).trans (h.block i hi hb)⟩
theorem But.of {b : Nat} {w w' : World} (h : Below w.heap.size w w') : But b w w' := ⟨h.os, h.tape, h.output, h.size, fun k hk _ => h.block k hk⟩
theorem But.set {b o : Nat} {w w' : World} (h : But b w w') (u : Value) : But b w (w'.setCell ⟨b, o, none⟩ u) :=
  ⟨h.os, h.tape, h.output, by have := h.size; simp [World.setCell] at *; exact this, fun k hk hb => (Below.heap_setCell _ _ _ _ hb).trans (h.block k hk hb)⟩
theorem But.drew {b : Nat} {w w' : World} (h : But b w w') : But b w w'.drew := ⟨h.os, h.tape, h.output, h.size, h.block⟩
theorem But.below {b B : Nat} {w w' : World} (h : But b w w') (hb : B ≤ b) (hB : B ≤ w.heap.size) : Below B w w' := ⟨h.os, h.tape, h.output, h.size, fun k hk => h.block k (by omega) (by omega)⟩
/-- The box of a line. -/
structure LineF (W : World) (b : Nat) (o d s f m n : Int) : Prop where
  c0 : W.cell? ⟨b, 0, none⟩ = some (.int .u8 o)
  c1 : W.cell? ⟨b, 1, none⟩ = some (.int .u8 d)
  c2 : W.cell? ⟨b, 2, none⟩ = some (.int .u8 s)
  c3 : W.cell? ⟨b, 3, none⟩ = some (.int .i16 f)
  c4 : W.cell? ⟨b, 4, none⟩ = some (.int .i32 m)
  c5 : W.cell? ⟨b, 5, none⟩ = some (.int .i64 n)
  z0 : W.frozen? ⟨b, 0, none⟩ = false
  z1 : W.frozen? ⟨b, 1, none⟩ = false
  z2 : W.frozen? ⟨b, 2, none⟩ = false
  z3 : W.frozen? ⟨b, 3, none⟩ = false
  z5 : W.frozen? ⟨b, 5, none⟩ = false
section
variable {W W' : World} {b : Nat} {o d s f m n : Int}
theorem LineF.lt (h : LineF W b o d s f m n) : b < W.heap.size := World.block_lt_of_cell? W _ h.c0
theorem LineF.on (h : LineF W b o d s f m n) (hb : Below W.heap.size W W') : LineF W' b o d s f m n :=
  ⟨stays hb h.c0, stays hb h.c1, stays hb h.c2, stays hb h.c3, stays hb h.c4, stays hb h.c5, free_on h.z0 h.lt hb, free_on h.z1 h.lt hb, free_on h.z2 h.lt hb, free_on h.z3 h.lt hb, free_on h.z5 h.lt hb⟩
theorem LineF.drew (h : LineF W b o d s f m n) : LineF W.drew b o d s f m n := ⟨h.c0, h.c1, h.c2, h.c3, h.c4, h.c5, h.z0, h.z1, h.z2, h.z3, h.z5⟩
theorem LineF.set0 (h : LineF W b o d s f m n) (v : Int) : LineF (W.setCell ⟨b, 0, none⟩ (.int .u8 v)) b v d s f m n := by
  refine ⟨World.cell?_setCell_same' W _ _ (by rw [h.c0]; rfl), ?_, ?_, ?_, ?_, ?_, ?_, ?_, ?_, ?_, ?_⟩
  all_goals first | rw [World.frozen?_setCell] | rw [World.cell?_setCell_other _ _ _ _ (by simp)]
  all_goals first | exact h.c1 | exact h.c2 | exact h.c3 | exact h.c4 | exact h.c5 | exact h.z0 | exact h.z1 | exact h.z2 | exact h.z3 | exact h.z5
theorem LineF.set1 (h : LineF W b o d s f m n) (v : Int) : LineF (W.setCell ⟨b, 1, none⟩ (.int .u8 v)) b o v s f m n := by
  refine ⟨?_, World.cell?_setCell_same' W _ _ (by rw [h.c1]; rfl), ?_, ?_, ?_, ?_, ?_, ?_, ?_, ?_, ?_⟩
  all_goals first | rw [World.frozen?_setCell] | rw [World.cell?_setCell_other _ _ _ _ (by simp)]
  all_goals first | exact h.c0 | exact h.c2 | exact h.c3 | exact h.c4 | exact h.c5 | exact h.z0 | exact h.z1 | exact h.z2 | exact h.z3 | exact h.z5
theorem LineF.set2 (h : LineF W b o d s f m n) (v : Int) : LineF (W.setCell ⟨b, 2, none⟩ (.int .u8 v)) b o d v f m n := by
  refine ⟨?_, ?_, World.cell?_setCell_same' W _ _ (by rw [h.c2]; rfl), ?_, ?_, ?_, ?_, ?_, ?_, ?_, ?_⟩
  all_goals first | rw [World.frozen?_setCell] | rw [World.cell?_setCell_other _ _ _ _ (by simp)]
  all_goals first | exact h.c0 | exact h.c1 | exact h.c3 | exact h.c4 | exact h.c5 | exact h.z0 | exact h.z1 | exact h.z2 | exact h.z3 | exact h.z5
theorem LineF.set3 (h : LineF W b o d s f m n) (v : Int) : LineF (W.setCell ⟨b, 3, none⟩ (.int .i16 v)) b o d s v m n := by
  refine ⟨?_, ?_, ?_, World.cell?_setCell_same' W _ _ (by rw [h.c3]; rfl), ?_, ?_, ?_, ?_, ?_, ?_, ?_⟩
  all_goals first | rw [World.frozen?_setCell] | rw [World.cell?_setCell_other _ _ _ _ (by simp)]
  all_goals first | exact h.c0 | exact h.c1 | exact h.c2 | exact h.c4 | exact h.c5 | exact h.z0 | exact h.z1 | exact h.z2 | exact h.z3 | exact h.z5
theorem LineF.set5 (h : LineF W b o d s f m n) (v : Int) : LineF (W.setCell ⟨b, 5, none⟩ (.int .i64 v)) b o d s f m v := by
  refine ⟨?_, ?_, ?_, ?_, ?_, World.cell?_setCell_same' W _ _ (by rw [h.c5]; rfl), ?_, ?_, ?_, ?_, ?_⟩
  all_goals first | rw [World.frozen?_setCell] | rw [World.cell?_setCell_other _ _ _ _ (by simp)]
  all_goals first | exact h.c0 | exact h.c1 | exact h.c2 | exact h.c3 | exact h.c4 | exact h.z0 | exact h.z1 | exact h.z2 | exact h.z3 | exact h.z5
end
/-- The line is read so far, and nothing else is turned. -/
def Reads (W : World) (b : Nat) (o d s f m n : Int) (e : Ending) (w' : World) : Prop := e = .returned (.tuple #[]) ∧ LineF w' b o d s f m n ∧ But b W w'
theorem bits_of (o d s f m n : Int) (w : World) : Calls Tryz.prog 88 #[.agg #[.int .u8 o, .int .u8 d, .int .u8 s, .int .i16 f, .int .i32 m, .int .i64 n]] w fun e w' => e = .returned (.int .i64 (if o = 24 then 64 else 32)) ∧ Below w.heap.size w w' := by
  go_enter Tryz.func88, Tryz.ntmps88
  go_wp2
  all_goals
    go_ret
    exact ⟨by simp_all, by first | exact Below.refl _ _ | exact (Below.refl _ _).alloc (Nat.le_refl _) _⟩
end Go.Proofs.YthmibmofdmlgaaaGreatDoor

/-
  Proved here: readPart of package asm reads what a part's text writes. Conditions: the registers are at most 10, the numbers have their sizes; the library's table.
-/
namespace Go.Proofs.YthmibmofdmlgaaaGreatDoor
open Go.RowKit
set_option linter.unusedVariables false

set_option maxRecDepth 100000 in
theorem part_dst (W : World) (b : Nat) (o d s f m n r : Int) (h : LineF W b o d s f m n) (h0 : 0 ≤ r) (h1 : r ≤ 10) (he : Env W) :
    Calls Tryz.prog 70 #[.pointer (some ⟨b, 0, none⟩), .int .u8 0, .string (S (regT r))] W (Reads W b o r s f m n) := by
  unfold Reads
  have hc := fun W' (hb : Below W.heap.size W W') => read_reg r W' h0 h1 (he.on hb)
  unfold Num at hc
  obtain ⟨t, ht⟩ : ∃ t, regT r = t := ⟨_, rfl⟩
  rw [ht] at hc ⊢
  have HH := Lib.hid h
  clear he ht h
  go_enter Tryz.func70, Tryz.ntmps70
  go_wp2_with (go_at_call 85; refine (hc _ (Below.refl _ _)).mono ?_; rintro e w1 ⟨rfl, hb1⟩; have hL := HH.out.on hb1; have c1 := hL.c1; have z1 := hL.z1; have HL := Lib.hid hL; have HB := Lib.hid (But.of (b := b) hb1); clear hb1 hL hc)
  go_end0
  exact ⟨rfl, HL.out.set1 r, HB.out.set _⟩
set_option maxRecDepth 100000 in
theorem part_ahead (W : World) (b : Nat) (o d s f m n v : Int) (h : LineF W b o d s f m n) (h0 : 0 ≤ v) (h1 : v ≤ 32767) (he : Env W) :
    Calls Tryz.prog 70 #[.pointer (some ⟨b, 0, none⟩), .int .u8 4, .string (S (offT v))] W (Reads W b o d s v m n) := by
  unfold Reads
  have e1 : offT v = 43 :: Lib.itoa v := by unfold offT; rw [if_neg (by omega)]
  have hc := read_ahead v W h0 h1 he
  rw [← e1] at hc
  unfold Num at hc
  obtain ⟨t, ht⟩ : ∃ t, offT v = t := ⟨_, rfl⟩
  rw [ht] at hc ⊢
  have HH := Lib.hid h
  clear he ht h e1
  go_enter Tryz.func70, Tryz.ntmps70
  go_wp2_with (go_at_call 90; refine hc.mono ?_; rintro e w1 ⟨rfl, hb1⟩; have hL := HH.out.on hb1; have c1 := hL.c3; have z1 := hL.z3; have HL := Lib.hid hL; have HB := Lib.hid (But.of (b := b) hb1); clear hb1 hL hc)
  go_end0
  exact ⟨rfl, HL.out.set3 v, HB.out.set _⟩
set_option maxRecDepth 100000 in
theorem part_source (W : World) (b : Nat) (o d s f m n r v : Int) (h : LineF W b o d s f m n) (r0 : 0 ≤ r) (r1 : r ≤ 10) (h0 : -32768 ≤ v) (h1 : v ≤ 32767) (he : Env W) :
    Calls Tryz.prog 70 #[.pointer (some ⟨b, 0, none⟩), .int .u8 5, .string (S (placeT r v))] W (Reads W b o d r v m n) := by
  unfold Reads
  have hc := read_place r v W r0 r1 h0 h1 he
  obtain ⟨t, ht⟩ : ∃ t, placeT r v = t := ⟨_, rfl⟩
  rw [ht] at hc ⊢
  have HH := Lib.hid h
  clear he ht h
  go_enter Tryz.func70, Tryz.ntmps70
  go_wp2_with (go_at_call 91; refine hc.mono ?_; rintro e w1 ⟨rfl, hb1⟩; have hL := HH.out.on hb1; have c1 := hL.c2; have z1 := hL.z2; have c2 := hL.c3; have z2 := hL.z3; have HL := Lib.hid hL; have HB := Lib.hid (But.of (b := b) hb1); clear hb1 hL hc)
  go_end0
  exact ⟨rfl, (HL.out.set2 r).set3 v, (HB.out.set _).set _⟩
set_option maxRecDepth 100000 in
theorem part_target (W : World) (b : Nat) (o d s f m n r v : Int) (h : LineF W b o d s f m n) (r0 : 0 ≤ r) (r1 : r ≤ 10) (h0 : -32768 ≤ v) (h1 : v ≤ 32767) (he : Env W) :
    Calls Tryz.prog 70 #[.pointer (some ⟨b, 0, none⟩), .int .u8 6, .string (S (placeT r v))] W (Reads W b o r s v m n) := by
  unfold Reads
  have hc := read_place r v W r0 r1 h0 h1 he
  obtain ⟨t, ht⟩ : ∃ t, placeT r v = t := ⟨_, rfl⟩
  rw [ht] at hc ⊢
  have HH := Lib.hid h
  clear he ht h
  go_enter Tryz.func70, Tryz.ntmps70
  go_wp2_with (go_at_call 91; refine hc.mono ?_; rintro e w1 ⟨rfl, hb1⟩; have hL := HH.out.on hb1; have c1 := hL.c1; have z1 := hL.z1; have c2 := hL.c3; have z2 := hL.z3; have HL := Lib.hid hL; have HB := Lib.hid (But.of (b := b) hb1); clear hb1 hL hc)
  go_end0
  exact ⟨rfl, (HL.out.set1 r).set3 v, (HB.out.set _).set _⟩
/-- How many bits a line's number has. -/
def bitsN (o : Int) : Int := if o = 24 then 64 else 32
set_option maxRecDepth 100000 in
theorem part_number (W : World) (b : Nat) (o d s f m n v : Int) (h : LineF W b o d s f m n) (hv : FitB (bitsN o) v) (he : Env W) :
    Calls Tryz.prog 70 #[.pointer (some ⟨b, 0, none⟩), .int .u8 2, .string (S (Lib.itoa v))] W (Reads W b o d s f m v) := by
  unfold Reads
  have hc := fun W' (hb : Below W.heap.size W W') => read_number (bitsN o) v W' hv (he.on hb)
  have hbit := fun W' => bits_of o d s f m n W'
  unfold Num at hc
  obtain ⟨t, ht⟩ : ∃ t, Lib.itoa v = t := ⟨_, rfl⟩
  rw [ht] at hc ⊢
  unfold bitsN at hc
  obtain ⟨B, hB⟩ : ∃ B, (if o = 24 then (64 : Int) else 32) = B := ⟨_, rfl⟩
  rw [hB] at hc hbit
  obtain ⟨c0, c1, c2, c3, c4, c5, _, _, _, _, _⟩ := id h
  have HH := Lib.hid h
  clear he ht h hv hB
  go_enter Tryz.func70, Tryz.ntmps70
  go_wp2_with (first
    | (go_at_call 88; refine (hbit _).mono ?_; rintro e w0 ⟨rfl, hb0⟩; have HB0 := Lib.hid hb0; clear hb0 hbit)
    | (go_at_call 87; refine (hc _ HB0.out).mono ?_; rintro e w1 ⟨rfl, hb1⟩; have hL := (HH.out.on HB0.out).on hb1; have c9 := hL.c5; have z9 := hL.z5; have HL := Lib.hid hL; have HB := Lib.hid ((But.of (b := b) HB0.out).trans (But.of hb1)); clear hb1 hL hc))
  go_end0
  exact ⟨rfl, HL.out.set5 v, HB.out.set _⟩
set_option maxRecDepth 100000 in
theorem part_count (W : World) (b : Nat) (o d s f m n v : Int) (h : LineF W b o d s f m n) (hv : FitB (bitsN o) v) (h0 : 0 ≤ v) (he : Env W) :
    Calls Tryz.prog 70 #[.pointer (some ⟨b, 0, none⟩), .int .u8 3, .string (S (Lib.itoa v))] W (Reads W b o d s f m v) := by
  unfold Reads
  have hc := fun W' (hb : Below W.heap.size W W') => read_count (bitsN o) v W' hv h0 (he.on hb)
  have hbit := fun W' => bits_of o d s f m n W'
  unfold Num at hc
  obtain ⟨t, ht⟩ : ∃ t, Lib.itoa v = t := ⟨_, rfl⟩
  rw [ht] at hc ⊢
  unfold bitsN at hc
  obtain ⟨B, hB⟩ : ∃ B, (if o = 24 then (64 : Int) else 32) = B := ⟨_, rfl⟩
  rw [hB] at hc hbit
  obtain ⟨c0, c1, c2, c3, c4, c5, _, _, _, _, _⟩ := id h
  have HH := Lib.hid h
  clear he ht h hv hB
  go_enter Tryz.func70, Tryz.ntmps70
  go_wp2_with (first
    | (go_at_call 88; refine (hbit _).mono ?_; rintro e w0 ⟨rfl, hb0⟩; have HB0 := Lib.hid hb0; clear hb0 hbit)
    | (go_at_call 89; refine (hc _ HB0.out).mono ?_; rintro e w1 ⟨rfl, hb1⟩; have hL := (HH.out.on HB0.out).on hb1; have c9 := hL.c5; have z9 := hL.z5; have HL := Lib.hid hL; have HB := Lib.hid ((But.of (b := b) HB0.out).trans (But.of hb1)); clear hb1 hL hc))
  go_end0
  exact ⟨rfl, HL.out.set5 v, HB.out.set _⟩
end Go.Proofs.YthmibmofdmlgaaaGreatDoor

/-
  Proved here: readOperand of package asm, and readPart at an operand, read what its text writes. Conditions: the register is at most 10, the number has its size; the library's table.
-/
namespace Go.Proofs.YthmibmofdmlgaaaGreatDoor
open Go.RowKit
set_option linter.unusedVariables false

theorem itoa_head (n : Int) : ((Lib.itoa n).head? == some 114) = false := by
  cases h : Lib.itoa n with
  | nil => rfl
  | cons c r =>
    have hc := itoa_byte n c (by rw [h]; simp)
    simp only [List.head?_cons]
    rw [beq_eq_false_iff_ne]
    intro he
    cases he
    rcases hc with hc | ⟨_, hc⟩
    · exact absurd hc.2 (by decide)
    · exact absurd hc (by decide)
set_option maxRecDepth 100000 in
theorem operand_reg (w0 W : World) (b : Nat) (o d s f m n r : Int) (h : LineF W b o d s f m n) (h0 : 0 ≤ r) (h1 : r ≤ 10) (he : Env w0) (hw : Below w0.heap.size w0 W) (hb : w0.heap.size ≤ b) :
    Calls Tryz.prog 86 #[.pointer (some ⟨b, 0, none⟩), .string (S (regT r))] W (Reads W b (wreg o) d r f m n) := by
  unfold Reads
  have hp := has_pre 114 (regT r) true (by rfl) W
  have hreg := with_reg o
  unfold Ret at hreg
  obtain ⟨q, hq⟩ : ∃ q, wreg o = q := ⟨_, rfl⟩
  rw [hq] at hreg ⊢
  have hc := read_reg r (W.setCell ⟨b, 0, none⟩ (.int .u8 q)) h0 h1 (he.on (hw.setCell hb _))
  unfold Num at hc
  obtain ⟨t, ht⟩ : ∃ t, regT r = t := ⟨_, rfl⟩
  rw [ht] at hc hp ⊢
  obtain ⟨c0, c1, c2, c3, c4, c5, z0, _, _, _, _⟩ := id h
  have z9 : ({ data := #[114] } : ByteArray) = S [114] := rfl
  have HH := Lib.hid (h.set0 q)
  have HB := Lib.hid ((But.refl b W).set (o := 0) (.int .u8 q))
  clear he ht h hq hw hb
  go_enter Tryz.func86, Tryz.ntmps86
  go_wp2_with (first
    | (go_at_call 102; refine hp.mono ?_; rintro e w0 ⟨rfl, hw0⟩; rw [hw0]; clear hw0 hp)
    | (go_at_call 54; refine (hreg _).mono ?_; rintro e w0 ⟨rfl, rfl⟩; clear hreg)
    | (go_at_call 85; refine hc.mono ?_; rintro e w1 ⟨rfl, hb1⟩; have hL := HH.out.on hb1; have c9 := hL.c2; have z10 := hL.z2; have HL := Lib.hid hL; have HB1 := Lib.hid (HB.out.trans (But.of (b := b) hb1)); clear hb1 hL hc))
  (try simp only [Exit.inBlock, Exit.then])
  refine bodyPost_ret (results_none rfl _ _ _) rfl ?_
  exact ⟨rfl, HL.out.set2 r, HB1.out.set _⟩
set_option maxRecDepth 100000 in
theorem operand_num (W : World) (b : Nat) (o d s f m n v : Int) (h : LineF W b o d s f m n) (hv : FitB (bitsN o) v) (he : Env W) :
    Calls Tryz.prog 86 #[.pointer (some ⟨b, 0, none⟩), .string (S (Lib.itoa v))] W (Reads W b o d s f m v) := by
  unfold Reads
  have hp := has_pre 114 (Lib.itoa v) false (itoa_head v) W
  have hc := fun W' (hb : Below W.heap.size W W') => read_number (bitsN o) v W' hv (he.on hb)
  have hbit := fun W' => bits_of o d s f m n W'
  unfold Num at hc
  obtain ⟨t, ht⟩ : ∃ t, Lib.itoa v = t := ⟨_, rfl⟩
  rw [ht] at hc hp ⊢
  unfold bitsN at hc
  obtain ⟨B, hB⟩ : ∃ B, (if o = 24 then (64 : Int) else 32) = B := ⟨_, rfl⟩
  rw [hB] at hc hbit
  obtain ⟨c0, c1, c2, c3, c4, c5, _, _, _, _, _⟩ := id h
  have z9 : ({ data := #[114] } : ByteArray) = S [114] := rfl
  have HH := Lib.hid h
  clear he ht h hv hB
  go_enter Tryz.func86, Tryz.ntmps86
  go_wp2_with (first
    | (go_at_call 102; refine hp.mono ?_; rintro e w0 ⟨rfl, hw0⟩; rw [hw0]; clear hw0 hp)
    | (go_at_call 88; refine (hbit _).mono ?_; rintro e w0 ⟨rfl, hb0⟩; have HB0 := Lib.hid hb0; clear hb0 hbit)
    | (go_at_call 87; refine (hc _ HB0.out).mono ?_; rintro e w1 ⟨rfl, hb1⟩; have hL := (HH.out.on HB0.out).on hb1; have c9 := hL.c5; have z9 := hL.z5; have HL := Lib.hid hL; have HB := Lib.hid ((But.of (b := b) HB0.out).trans (But.of hb1)); clear hb1 hL hc))
  go_end0
  exact ⟨rfl, HL.out.set5 v, HB.out.set _⟩
theorem part_operand (W : World) (b : Nat) (o d s f m n o' d' s' f' m' n' : Int) (t : List UInt8) (h : Calls Tryz.prog 86 #[.pointer (some ⟨b, 0, none⟩), .string (S t)] W (Reads W b o' d' s' f' m' n')) :
    Calls Tryz.prog 70 #[.pointer (some ⟨b, 0, none⟩), .int .u8 1, .string (S t)] W (Reads W b o' d' s' f' m' n') := by
  have HR : ∀ e w', Reads W b o' d' s' f' m' n' e w' → e = .returned (.tuple #[]) ∧ Hid (Reads W b o' d' s' f' m' n' e w') := fun e w' h => ⟨h.1, h⟩
  go_enter Tryz.func70, Tryz.ntmps70
  go_wp2_with (go_at_call 86; refine h.mono ?_; intro e w1 hr; obtain ⟨rfl, hh⟩ := HR _ _ hr; clear hr h HR)
  go_end0
  exact hh.out
end Go.Proofs.YthmibmofdmlgaaaGreatDoor
