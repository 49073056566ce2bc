/-
  Proved here: the law LocalGens returns true, over whatever memory of the program's storage keeps its contracts. Conditions: the contracts.
-/
import Derived.Test.YtijhoiheieighaaAlive12
import Derived.Test.YtijhoiheieighaaOpen
namespace Go.Proofs.Ytijhoiheieighaa
open Go.RowKit

theorem gens_first (a : Ob) : getR [] (zeros 4) 2 2 a true = (0, 0, [a], zeros 4) := rfl
theorem gens_same (a : Ob) (zs : List Int) : getR [a] zs 2 2 a true = (0, 0, [a], zs) := by
  unfold getR findO
  simp
theorem gens_other {a b : Ob} (h : a ≠ b) (c : Int) : getR [a] ((zeros 4).set 0 c) 2 2 b true = (1, 0, [a, b], (zeros 4).set 0 c) := by
  unfold getR findO
  have h1 : (decide (a = b)) = false := by simpa using h
  simp [List.findIdx?_cons, h1]
  rfl
theorem gens_drop (a b : Ob) (zs : List Int) : ∃ zs2, dropR [a, b] zs 2 a = (0, [b], zs2) := by
  unfold dropR findO
  simp [List.findIdx?_cons]
theorem eql_key (a b : Ob) (w : World) : (binOp .eql 32 (.agg #[.int .i64 a.1, .int .i64 a.2]) (.agg #[.int .i64 b.1, .int .i64 b.2])).run Try.prog w = .ok (.bool (keyEq a b)) w := by
  obtain ⟨p, q⟩ := a
  obtain ⟨x, y⟩ := b
  unfold keyEq
  by_cases h1 : p = x <;> by_cases h2 : q = y <;> simp [go_sem, h1, h2]
theorem eql_keys (p q x y : Int) (w : World) : (binOp .eql 32 (.agg #[.int .i64 p, .int .i64 q]) (.agg #[.int .i64 x, .int .i64 y])).run Try.prog w = .ok (.bool (keyEq (p, q) (x, y))) w := eql_key (p, q) (x, y) w
/-- The two boxes at the law's head. -/
structure Boxes (w W : World) (bx : Nat) (x1 y1 x2 y2 : Int) : Prop where
  c0 : W.cell? ⟨bx, 0, none⟩ = some (.int .i64 x1)
  c1 : W.cell? ⟨bx, 1, none⟩ = some (.int .i64 y1)
  d0 : W.cell? ⟨bx + 1, 0, none⟩ = some (.int .i64 x2)
  d1 : W.cell? ⟨bx + 1, 1, none⟩ = some (.int .i64 y2)
  b : Below w.heap.size w W
theorem boxes_two (w : World) (x1 y1 x2 y2 : Int) : Boxes w ((w.alloc (.cells #[.int .i64 x1, .int .i64 y1] 32)).alloc (.cells #[.int .i64 x2, .int .i64 y2] 32)) w.heap.size x1 y1 x2 y2 := by
  have h1 : Below w.heap.size w (w.alloc (.cells #[.int .i64 x1, .int .i64 y1] 32)) := (Below.refl _ _).alloc (Nat.le_refl _) _
  have h2 : Below (w.alloc (.cells #[.int .i64 x1, .int .i64 y1] 32)).heap.size (w.alloc (.cells #[.int .i64 x1, .int .i64 y1] 32)) ((w.alloc (.cells #[.int .i64 x1, .int .i64 y1] 32)).alloc (.cells #[.int .i64 x2, .int .i64 y2] 32)) := (Below.refl _ _).alloc (Nat.le_refl _) _
  have hz : (w.alloc (.cells #[.int .i64 x1, .int .i64 y1] 32)).heap.size = w.heap.size + 1 := by simp
  have e2 := heap_alloc_new (w.alloc (.cells #[.int .i64 x1, .int .i64 y1] 32)) (.cells #[.int .i64 x2, .int .i64 y2] 32)
  have e1 := (h2.block w.heap.size (by omega)).trans (heap_alloc_new w (.cells #[.int .i64 x1, .int .i64 y1] 32))
  rw [hz] at e2
  exact ⟨by unfold World.cell?; simp only [e1]; rfl, by unfold World.cell?; simp only [e1]; rfl, by unfold World.cell?; simp only [e2]; rfl, by unfold World.cell?; simp only [e2]; rfl, h1.trans (h2.mono h1.size)⟩
theorem Boxes.at {w W W2 : World} {bx : Nat} {x1 y1 x2 y2 : Int} (h : Boxes w W bx x1 y1 x2 y2) {PS : StMem} {D : Nat → Prop} {h2 G : Nat} {os : List Ob} {zs : List Int} (hx : Ex PS W W2 D h2 G os zs) :
    W2.cell? ⟨bx, 0, none⟩ = some (.int .i64 x1) ∧ W2.cell? ⟨bx, 1, none⟩ = some (.int .i64 y1) ∧ W2.cell? ⟨bx + 1, 0, none⟩ = some (.int .i64 x2) ∧ W2.cell? ⟨bx + 1, 1, none⟩ = some (.int .i64 y2) :=
  ⟨(hx.b.cell (p := ⟨bx, 0, none⟩) (cell_block_lt h.c0)).trans h.c0, (hx.b.cell (p := ⟨bx, 1, none⟩) (cell_block_lt h.c1)).trans h.c1, (hx.b.cell (p := ⟨bx + 1, 0, none⟩) (cell_block_lt h.d0)).trans h.d0, (hx.b.cell (p := ⟨bx + 1, 1, none⟩) (cell_block_lt h.d1)).trans h.d1⟩
attribute [local go_sem ↓] eql_keys
set_option maxRecDepth 100000 in
set_option maxHeartbeats 2000000 in
theorem gens_law {PS PS1 : StMem} (x1 y1 x2 y2 c : Int) (w : World) (ac : Acts12 PS 2 2 4) (a1 : Acts12 PS1 1 1 1) :
    Calls Try.prog 4 #[.agg #[.int .i64 x1, .int .i64 y1], .agg #[.int .i64 x2, .int .i64 y2], .int .u8 c] w (fun e w' => e = .returned (.bool true) ∧ Below w.heap.size w w') := by
  have hd : Dim 2 2 4 := ⟨by omega, by omega, by omega, by omega, by omega⟩
  have HA := Lib.hid ac
  have HA1 := Lib.hid a1
  have HD := Lib.hid hd
  clear hd ac a1
  by_cases hab : (x1, y1) = (x2, y2)
  · obtain ⟨rfl, rfl⟩ : x1 = x2 ∧ y1 = y2 := by simpa using hab
    have hk : keyEq (x1, y1) (x1, y1) = true := by simp [keyEq]
    clear hab
    go_enter Try.func4, Try.ntmps4
    go_upto_region 1 with fail
    have hW1 := boxes_two w x1 y1 x1 y1
    obtain ⟨bx, hbx⟩ : ∃ bx, w.heap.size = bx := ⟨_, rfl⟩
    obtain ⟨W1, hW⟩ : ∃ W1, (w.alloc (.cells #[.int .i64 x1, .int .i64 y1] 32)).alloc (.cells #[.int .i64 x1, .int .i64 y1] 32) = W1 := ⟨_, rfl⟩
    rw [hW, hbx] at hW1
    rw [hW, hbx]
    have HW := Lib.hid hW1
    clear hW hW1 hbx
    go_wp2_with (first
      | (go_at_call 6; refine (alive12 HA1.out _).mono ?_; rintro e w1 ⟨rfl, hb1⟩; have HB1 := Lib.hid hb1; clear hb1)
      | (go_at_call 7; refine (HA.out.new _).mono ?_; rintro e w2 ⟨h, D2, G, rfl, hp2, hb2, hd2⟩; have X1 := Lib.hid (Ex.mk hp2 (HB1.out.trans (hb2.mono HB1.out.size)) (fun b hb => Nat.le_trans HB1.out.size (hd2 b hb))); obtain ⟨m1, m2, m3, m4⟩ := HW.out.at X1.out; clear hp2 hb2 hd2 HB1)
      | (go_at_call 17; refine (HA.out.get (o := (x1, y1)) (c := true) X1.out.p).mono ?_; rintro e w3 ⟨D3, he, hp3, ht3, hd3⟩; rw [gens_first] at he hp3; subst he; have X3 := Lib.hid (X1.out.next ht3 hp3 hd3); clear hp3 ht3 hd3 X1)
      | (go_at_call 15; refine (HA.out.slotYes (q := 0) X3.out.p (by omega)).mono ?_; rintro e w4 ⟨rfl, hb4⟩; have X4 := Lib.hid (X3.out.stay HA.out hb4); obtain ⟨hc4, hf4⟩ := HA.out.byte (j := 0) X4.out.p (by omega); rw [show (zeros 4).getD 0 0 = 0 from rfl] at hc4; have X5 := Lib.hid (X4.out.put HA.out (j := 0) (by omega) c); have m0 := HW.out.at X5.out; clear hb4 X3)
      | (go_at_call 17; refine (HA.out.get (o := (x1, y1)) (c := true) X5.out.p).mono ?_; rintro e w6 ⟨D6, he, hp6, ht6, hd6⟩; rw [gens_same] at he hp6; subst he; have X6 := Lib.hid (X5.out.next ht6 hp6 hd6); clear hp6 ht6 hd6 X5)
      | (go_at_call 15; refine (HA.out.slotYes (q := 0) X6.out.p (by omega)).mono ?_; rintro e w7 ⟨rfl, hb7⟩; have X7 := Lib.hid (X6.out.stay HA.out hb7); obtain ⟨hc7, hf7⟩ := HA.out.byte (j := 0) X7.out.p (by omega); rw [show ((zeros 4).set 0 c).getD 0 0 = c from rfl] at hc7; obtain ⟨n1, n2, n3, n4⟩ := HW.out.at X7.out; clear hb7 X6))
    go_ret
    exact ⟨rfl, HW.out.b.trans (X7.out.b.mono HW.out.b.size)⟩
  · have hk : keyEq (x1, y1) (x2, y2) = false := by simpa [keyEq] using hab
    go_enter Try.func4, Try.ntmps4
    go_upto_region 1 with fail
    have hW1 := boxes_two w x1 y1 x2 y2
    obtain ⟨bx, hbx⟩ : ∃ bx, w.heap.size = bx := ⟨_, rfl⟩
    obtain ⟨W1, hW⟩ : ∃ W1, (w.alloc (.cells #[.int .i64 x1, .int .i64 y1] 32)).alloc (.cells #[.int .i64 x2, .int .i64 y2] 32) = W1 := ⟨_, rfl⟩
    rw [hW, hbx] at hW1
    rw [hW, hbx]
    have HW := Lib.hid hW1
    clear hW hW1 hbx
    obtain ⟨zd, hzd⟩ := gens_drop (x1, y1) (x2, y2) ((zeros 4).set 0 c)
    have HAB := Lib.hid hab
    have HZD := Lib.hid hzd
    clear hab hzd
    go_wp2_with (first
      | (go_at_call 6; refine (alive12 HA1.out _).mono ?_; rintro e w1 ⟨rfl, hb1⟩; have HB1 := Lib.hid hb1; clear hb1)
      | (go_at_call 7; refine (HA.out.new _).mono ?_; rintro e w2 ⟨h, D2, G, rfl, hp2, hb2, hd2⟩; have X1 := Lib.hid (Ex.mk hp2 (HB1.out.trans (hb2.mono HB1.out.size)) (fun b hb => Nat.le_trans HB1.out.size (hd2 b hb))); obtain ⟨m1, m2, m3, m4⟩ := HW.out.at X1.out; clear hp2 hb2 hd2 HB1)
      | (go_at_call 17; refine (HA.out.get (o := (x1, y1)) (c := true) X1.out.p).mono ?_; rintro e w3 ⟨D3, he, hp3, ht3, hd3⟩; rw [gens_first] at he hp3; subst he; have X3 := Lib.hid (X1.out.next ht3 hp3 hd3); clear hp3 ht3 hd3 X1)
      | (go_at_call 15; refine (HA.out.slotYes (q := 0) X3.out.p (by omega)).mono ?_; rintro e w4 ⟨rfl, hb4⟩; have X4 := Lib.hid (X3.out.stay HA.out hb4); obtain ⟨hc4, hf4⟩ := HA.out.byte (j := 0) X4.out.p (by omega); rw [show (zeros 4).getD 0 0 = 0 from rfl] at hc4; have X5 := Lib.hid (X4.out.put HA.out (j := 0) (by omega) c); have m0 := HW.out.at X5.out; clear hb4 X3)
      | (go_at_call 17; refine (HA.out.get (o := (x2, y2)) (c := true) X5.out.p).mono ?_; rintro e w6 ⟨D6, he, hp6, ht6, hd6⟩; rw [gens_other HAB.out] at he hp6; subst he; have X6 := Lib.hid (X5.out.next ht6 hp6 hd6); clear hp6 ht6 hd6 X5)
      | (go_at_call 15; refine (HA.out.slotYes (q := 1) X6.out.p (by omega)).mono ?_; rintro e w7 ⟨rfl, hb7⟩; have X7 := Lib.hid (X6.out.stay HA.out hb7); obtain ⟨hc7, hf7⟩ := HA.out.byte (j := 0) X7.out.p (by omega); rw [show ((zeros 4).set 0 c).getD 0 0 = c from rfl] at hc7; obtain ⟨hc8, hf8⟩ := HA.out.byte (j := 2) X7.out.p (by omega); rw [show ((zeros 4).set 0 c).getD 2 0 = 0 from rfl] at hc8; obtain ⟨n1, n2, n3, n4⟩ := HW.out.at X7.out; clear hb7 X6)
      | (go_at_call 13; refine (HA.out.drop (o := (x1, y1)) X7.out.p).mono ?_; rintro e w8 ⟨D8, G8, he, hp8, ht8, hd8⟩; rw [HZD.out] at he hp8; subst he; have X8 := Lib.hid (X7.out.next ht8 hp8 hd8); clear hp8 ht8 hd8)
      | (go_at_call 12; refine (HA.out.len X8.out.p).mono ?_; rintro e w9 ⟨rfl, hb9⟩; have X9 := Lib.hid (X8.out.stay HA.out hb9); clear hb9))
    go_ret
    exact ⟨rfl, HW.out.b.trans (X9.out.b.mono HW.out.b.size)⟩
end Go.Proofs.Ytijhoiheieighaa
