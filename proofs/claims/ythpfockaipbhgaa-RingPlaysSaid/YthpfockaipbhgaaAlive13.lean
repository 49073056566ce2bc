/-
  Proved here: the document's example of rings comes out. Conditions: the contracts.
-/
import Derived.Test.YthpfockaipbhgaaKn13
namespace Go.Proofs.Ythpfockaipbhgaa
open Go.RowKit

deriving instance DecidableEq for Rc
/-- What is known of the example's ring. -/
structure Ex (PS : RgMem) (w W : World) (D : Nat → Prop) (h : Nat) (room drops : Int) (rs : List Rc) : Prop where
  p : PS W D h room drops rs
  b : Below w.heap.size w W
  d : ∀ b, D b → w.heap.size ≤ b
section
variable {PS : RgMem} {w W W1 : World} {D D2 : Nat → Prop} {h : Nat} {room d d2 : Int} {rs rs2 : List Rc}
theorem Ex.stay (hx : Ex PS w W D h room d rs) (A : Acts13 PS) (hb : Below W.heap.size W W1) : Ex PS w W1 D h room d rs := ⟨A.stay hx.p hb, hx.b.trans (hb.mono hx.b.size), hx.d⟩
theorem Ex.next (hx : Ex PS w W D h room d rs) (ht : Turned D W W1) (hp : PS W1 D2 h room d2 rs2) (hD : ∀ b, D2 b → D b ∨ W.heap.size ≤ b) : Ex PS w W1 D2 h room d2 rs2 := by
  refine ⟨hp, ht.below hx.b hx.d, fun b hb' => ?_⟩
  rcases hD b hb' with h2 | h2
  · exact hx.d b h2
  · exact Nat.le_trans hx.b.size h2
end
def rs1 : List Rc := [⟨1, 0, zeros 4, false⟩]
def rs2 : List Rc := [⟨1, 1, zeros 4, false⟩]
def rs3 : List Rc := [⟨1, 1, zeros 4, true⟩]
def rs4 : List Rc := [⟨1, 1, zeros 4, true⟩, ⟨1, 0, zeros 4, false⟩]
theorem ex1 : resR [] 20 1 4 = (0, 0, rs1) := by decide +kernel
theorem ex2 : resR rs1 20 1 4 = (-1, 1, rs1) := by decide +kernel
theorem ex3 : hasR rs1 0 = true := by decide +kernel
theorem ex4 : endR rs1 0 1 = rs2 := by decide +kernel
theorem ex5 : drainR rs2 = ([(1, zeros 4)], rs3) := by decide +kernel
theorem ex6 : resR rs3 20 1 4 = (1, 0, rs4) := by decide +kernel
theorem resV_yes {a d : Int} {ms : List Rc} (h : 0 ≤ a) : resV (a, d, ms) = .tuple #[.int .i64 a, .bool true] := by simp [resV, h, show ¬ a < 0 by omega]
theorem resV_no {a d : Int} {ms : List Rc} (h : a < 0) : resV (a, d, ms) = .tuple #[.int .i64 0, .bool false] := by simp [resV, h, show ¬ 0 ≤ a by omega]
set_option maxRecDepth 100000 in
theorem alive13 {PS : RgMem} (ac : Acts13 PS) (w : World) : Calls Try.prog 6 #[] w (fun e w' => e = .returned (.bool true) ∧ Below w.heap.size w w') := by
  have A := Lib.hid ac
  clear ac
  go_enter Try.func6, Try.ntmps6
  go_wp2_with (first
    | (go_at_call 7; refine (A.out.new (by omega)).mono ?_; rintro e w1 ⟨h, D1, rfl, hp1, hb1, hd1⟩; have X1 := Lib.hid (Ex.mk hp1 hb1 hd1); clear hp1 hb1 hd1)
    | (go_at_call 19; refine (A.out.reserve X1.out.p (by omega) (by omega) (by simp)).mono ?_; rintro e w2 ⟨D2, he, hp2, ht2, hd2⟩; rw [ex1] at he hp2; rw [resV_yes (by omega)] at he; subst he; have X2 : Hid (Ex PS w w2 D2 h 20 0 rs1) := (X1.out.next ht2 hp2 hd2); clear hp2 ht2 hd2 X1)
    | (go_at_call 19; refine (A.out.reserve X2.out.p (by omega) (by omega) (by simp [rs1])).mono ?_; rintro e w3 ⟨D3, he, hp3, ht3, hd3⟩; rw [ex2] at he hp3; rw [resV_no (by omega)] at he; subst he; have X3 : Hid (Ex PS w w3 D3 h 20 1 rs1) := (X2.out.next ht3 hp3 hd3); clear hp3 ht3 hd3 X2)
    | (go_at_call 11; refine (A.out.commit X3.out.p).mono ?_; rintro e w4 ⟨D4, he, hp4, ht4, hd4⟩; rw [ex3] at he; rw [ex4] at hp4; subst he; have X4 := Lib.hid (X3.out.next ht4 hp4 hd4); clear hp4 ht4 hd4 X3)
    | (go_at_call 15; refine (A.out.drain X4.out.p).mono ?_; rintro e w5 ⟨D5, a5, c5, he, -, hp5, ht5, hd5⟩; rw [ex5] at he hp5; subst he; have X5 := Lib.hid (X4.out.next ht5 hp5 hd5); clear hp5 ht5 hd5 X4)
    | (go_at_call 19; refine (A.out.reserve X5.out.p (by omega) (by omega) (by simp [rs3])).mono ?_; rintro e w6 ⟨D6, he, hp6, ht6, hd6⟩; rw [ex6] at he hp6; rw [resV_yes (by omega)] at he; subst he; have X6 : Hid (Ex PS w w6 D6 h 20 1 rs4) := (X5.out.next ht6 hp6 hd6); clear hp6 ht6 hd6 X5)
    | (go_at_call 23; refine (A.out.drops X6.out.p).mono ?_; rintro e w7 ⟨rfl, hb7⟩; have X7 := Lib.hid (X6.out.stay A.out hb7); clear hb7))
  go_ret
  exact ⟨rfl, X7.out.b⟩
set_option maxRecDepth 100000 in
theorem law_not {PS : RgMem} (ac : Acts13 PS) (room t : Int) (w : World) (A : Option Addr) (len cap : Nat) (h : ¬ (1 ≤ room ∧ room ≤ 256)) :
    Calls Try.prog 3 #[.int .i64 room, .slice A len cap, .int .u8 t] w (LawPost w) := by
  have AC := Lib.hid ac
  have HN := Lib.hid h
  clear ac
  by_cases h1 : 1 ≤ room
  · have h2 : 256 < room := by omega
    clear h
    go_enter Try.func3, Try.ntmps3
    go_wp2_with (first
      | (go_at_call 6; refine (alive13 AC.out _).mono ?_; rintro e w1 ⟨rfl, hb1⟩; have HB1 := Lib.hid hb1; clear hb1)
      | (go_at_call 7; refine (AC.out.no HN.out).mono ?_; rintro e w2 ⟨rfl, hb2⟩; have HB2 := Lib.hid hb2; clear hb2))
    go_ret
    exact ⟨rfl, HB1.out.trans (HB2.out.mono HB1.out.size)⟩
  · clear h
    go_enter Try.func3, Try.ntmps3
    go_wp2_with (first
      | (go_at_call 6; refine (alive13 AC.out _).mono ?_; rintro e w1 ⟨rfl, hb1⟩; have HB1 := Lib.hid hb1; clear hb1)
      | (go_at_call 7; refine (AC.out.no HN.out).mono ?_; rintro e w2 ⟨rfl, hb2⟩; have HB2 := Lib.hid hb2; clear hb2))
    go_ret
    exact ⟨rfl, HB1.out.trans (HB2.out.mono HB1.out.size)⟩
end Go.Proofs.Ythpfockaipbhgaa
