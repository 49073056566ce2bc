/-
  Proved here: heldOne, Record, copied of the program's rings. Conditions: as each lemma says.
-/
import Derived.Test.YthpfockaipbhgaaPmB
import Derived.Test.YthpfockaipbhgaaRgCells
namespace Go.Proofs.Ythpfockaipbhgaa
open Go.RowKit

section
variable {w w' : World} {h g : Nat} {room drops : Int} {kv : Value} {ds : Nat → Nat} {ls : List Rc}
set_option maxRecDepth 100000 in
set_option maxHeartbeats 1000000 in
theorem held_yes {b c i : Nat} {id : Int} (H : Pr w h room drops g (.slice (some ⟨b, 0, none⟩) ls.length c) ds ls) (hid : id = (g : Int) + i) (hi : i < ls.length) (h0 : (rget ls i).st = 0) :
    Calls Try.prog 28 #[.pointer (some ⟨h, 0, none⟩), .int .i64 id] w (fun e w' => e = .returned (.pointer (some ⟨b, i * 3, none⟩)) ∧ Below w.heap.size w w') := by
  have c2 := H.h2
  have c3 := H.h3
  have hle := H.le
  have HST := Lib.hid (fun k => bdrewN (Below.refl w.heap.size w) k)
  obtain ⟨b', hb', -, -, hcs⟩ := H.lv.at_ (by omega)
  injection hb' with hb'
  injection hb' with hb' _ _
  subst hb'
  obtain ⟨-, d1, -⟩ := hcs i hi
  rw [h0] at d1
  obtain ⟨n, hn⟩ : ∃ n, ls.length = n := ⟨_, rfl⟩
  rw [hn] at c3 hle hi
  have hsub : id - (g : Int) = (i : Int) := by omega
  have k1 : decide (id < (g : Int)) = false := by simp; omega
  have k2 : decide ((g : Int) + (n : Int) ≤ id) = false := by simp; omega
  have k3 : IntKind.i64.wrap ((g : Int) + (n : Int)) = (g : Int) + (n : Int) := IntWalk.i64_in _ (by omega)
  have k4 : IntKind.i64.wrap (i : Int) = (i : Int) := IntWalk.i64_in _ (by omega)
  clear H hcs hn h0 hid
  go_enter Try.func28, Try.ntmps28
  go_wp2
  go_quiet (fail)
  go_wp2
  go_quiet (fail)
  go_wp2
  go_ret
  exact ⟨rfl, HST.out _⟩
set_option maxRecDepth 100000 in
set_option maxHeartbeats 1000000 in
theorem held_no {id : Int} (H : Pr w h room drops g kv ds ls) (hn : id < (g : Int) ∨ (g : Int) + ls.length ≤ id ∨ ∃ i, id = (g : Int) + (i : Nat) ∧ i < ls.length ∧ (rget ls i).st ≠ 0) :
    Calls Try.prog 28 #[.pointer (some ⟨h, 0, none⟩), .int .i64 id] w (fun e w' => e = .returned (.pointer none) ∧ Below w.heap.size w w') := by
  obtain ⟨a, c, rfl, hrow, -⟩ := H.shape
  have c2 := H.h2
  have c3 := H.h3
  have hle := H.le
  have HST := Lib.hid (fun k => bdrewN (Below.refl w.heap.size w) k)
  rcases (by omega : id < (g : Int) ∨ (g : Int) ≤ id) with hlt | hge
  · obtain ⟨n, hl⟩ : ∃ n, ls.length = n := ⟨_, rfl⟩
    rw [hl] at c3 hle
    have k1 : decide (id < (g : Int)) = true := by simpa using hlt
    clear H hl hn hrow hlt
    go_enter Try.func28, Try.ntmps28
    go_wp2
    go_quiet (fail)
    go_wp2
    go_ret
    exact ⟨rfl, HST.out _⟩
  · rcases (by omega : id < (g : Int) + ls.length ∨ (g : Int) + ls.length ≤ id) with h2 | h2
    · obtain ⟨i, hid, hi, hst⟩ : ∃ i, id = (g : Int) + (i : Nat) ∧ i < ls.length ∧ (rget ls i).st ≠ 0 := by
        rcases hn with h9 | h9 | h9
        · omega
        · omega
        · exact h9
      obtain ⟨b, rfl, -, -, hcs⟩ := hrow.at_ (by omega)
      obtain ⟨-, d1, -⟩ := hcs i hi
      have hs2 := H.st i hi
      obtain ⟨n, hl⟩ : ∃ n, ls.length = n := ⟨_, rfl⟩
      rw [hl] at c3 hle hi
      obtain ⟨s, hs⟩ : ∃ s, (rget ls i).st = s := ⟨_, rfl⟩
      rw [hs] at d1 hst hs2
      have hsub : id - (g : Int) = (i : Int) := by omega
      have k1 : decide (id < (g : Int)) = false := by simp; omega
      have k2 : decide ((g : Int) + (n : Int) ≤ id) = false := by simp; omega
      have k3 : IntKind.i64.wrap ((g : Int) + (n : Int)) = (g : Int) + (n : Int) := IntWalk.i64_in _ (by omega)
      have k4 : IntKind.i64.wrap (i : Int) = (i : Int) := IntWalk.i64_in _ (by omega)
      have k5 : (s == 0) = false := by simpa using hst
      clear H hcs hl hid hn hrow hge h2 hs
      go_enter Try.func28, Try.ntmps28
      go_wp2
      go_quiet (fail)
      go_wp2
      go_quiet (fail)
      go_wp2
      go_ret
      exact ⟨rfl, HST.out _⟩
    · obtain ⟨n, hl⟩ : ∃ n, ls.length = n := ⟨_, rfl⟩
      rw [hl] at c3 hle h2
      have k1 : decide (id < (g : Int)) = false := by simpa using hge
      have k2 : decide ((g : Int) + (n : Int) ≤ id) = true := by simpa using h2
      have k3 : IntKind.i64.wrap ((g : Int) + (n : Int)) = (g : Int) + (n : Int) := IntWalk.i64_in _ (by omega)
      clear H hl hn hrow hge h2
      go_enter Try.func28, Try.ntmps28
      go_wp2
      go_quiet (fail)
      go_wp2
      go_ret
      exact ⟨rfl, HST.out _⟩
set_option maxRecDepth 100000 in
theorem rec_yes {b c i : Nat} {id : Int} (H : Pr w h room drops g (.slice (some ⟨b, 0, none⟩) ls.length c) ds ls) (hid : id = (g : Int) + i) (hi : i < ls.length) (h0 : (rget ls i).st = 0) :
    Calls Try.prog 17 #[.pointer (some ⟨h, 0, none⟩), .int .i64 id] w (fun e w' => e = .returned (.tuple #[.slice (some ⟨ds i, 0, none⟩) (rget ls i).b.length (rget ls i).b.length, .bool true]) ∧ Below w.heap.size w w') := by
  have HP := Lib.hid H
  have HI := Lib.hid (And.intro hid (And.intro hi h0))
  clear H hid hi h0
  go_enter Try.func17, Try.ntmps17
  go_wp2_with (go_at_call 28; refine (held_yes HP.out HI.out.1 HI.out.2.1 HI.out.2.2).mono ?_; rintro e w1 ⟨rfl, hb⟩; obtain ⟨b', hb', -, -, hcs⟩ := (HP.out.stay hb).lv.at_ (by have := HI.out.2.1; omega); injection hb' with hb'; injection hb' with hb' _ _; subst hb'; obtain ⟨-, -, d2⟩ := hcs i HI.out.2.1; have HB := Lib.hid hb; clear hb hcs)
  go_ret2
  exact ⟨rfl, HB.out⟩
set_option maxRecDepth 100000 in
theorem rec_no {id : Int} (H : Pr w h room drops g kv ds ls) (hn : id < (g : Int) ∨ (g : Int) + ls.length ≤ id ∨ ∃ i, id = (g : Int) + (i : Nat) ∧ i < ls.length ∧ (rget ls i).st ≠ 0) :
    Calls Try.prog 17 #[.pointer (some ⟨h, 0, none⟩), .int .i64 id] w (fun e w' => e = .returned (.tuple #[.slice none 0 0, .bool false]) ∧ Below w.heap.size w w') := by
  have HP := Lib.hid H
  have HI := Lib.hid hn
  clear H hn
  go_enter Try.func17, Try.ntmps17
  go_wp2_with (go_at_call 28; refine (held_no HP.out HI.out).mono ?_; rintro e w1 ⟨rfl, hb⟩; have HB := Lib.hid hb; clear hb)
  go_ret2
  exact ⟨rfl, HB.out⟩
end
/-- A copy of bytes, of as much room as there are. -/
theorem copied_call {w : World} {G n : Nat} {zs : List Int} (h1 : n ≤ 1000) (hz : zs.length = n) (hr : RowAt w G 0 n zs) (hG : G < w.heap.size) :
    Calls Try.prog 25 #[.slice (some ⟨G, 0, none⟩) n n] w (fun e w' => ∃ G2, e = .returned (.slice (some ⟨G2, 0, none⟩) n n) ∧ Fresh w w' G2 n zs) := by
  have hmk := make_any n h1
  have hb1 : Below w.heap.size w (w.alloc (.cells (u8s (zeros n)).toArray 5)) := (Below.refl _ _).alloc (Nat.le_refl _) _
  have hnew : (w.alloc (.cells (u8s (zeros n)).toArray 5)).heap[w.heap.size]? = some (.cells (u8s (zeros n)).toArray 5 (0, 0)) := heap_alloc_new w _
  have hfr : ∀ j, (w.alloc (.cells (u8s (zeros n)).toArray 5)).frozen? ⟨w.heap.size, j, none⟩ = false := fun j => by
    unfold World.frozen?
    simp only [hnew]
    simp
  have hrz : RowAt (w.alloc (.cells (u8s (zeros n)).toArray 5)) w.heap.size 0 n (zeros n) := fun j hj => by
    rw [Nat.zero_add, zeros_get]
    unfold World.cell?
    simp only [hnew]
    simp [u8s, zeros, hj]
  have hcp := copy_bytes (w := w.alloc (.cells (u8s (zeros n)).toArray 5)) (cap := n) (d := n) (c2 := n) (a := ⟨G, 0, none⟩) 3 hrz (fun j hj => hfr _) hz rfl (fun j v hj => by rw [add_lit]; exact u8s_cells hz (rowAt_below hr hG hb1) j v hj)
  have hw := wrote_cells hrz hz
  obtain ⟨W2, hW2⟩ : ∃ W2, (w.alloc (.cells (u8s (zeros n)).toArray 5)).setCells w.heap.size 0 (u8s zs) = W2 := ⟨_, rfl⟩
  rw [hW2] at hcp hw
  have hF : Fresh w W2 w.heap.size n zs := ⟨Nat.le_refl _, hw.cell, fun j => by rw [hw.froz]; exact hfr j, ⟨hw.os.trans hb1.os, hw.tape.trans hb1.tape, hw.output.trans hb1.output, by rw [← hw.size]; exact hb1.size, fun k hk => (hw.block k (by omega)).trans (hb1.block k hk)⟩⟩
  have HF := Lib.hid hF
  clear hb1 hnew hfr hrz hw hF hW2
  go_enter Try.func25, Try.ntmps25
  go_wp2
  go_ret
  exact ⟨_, rfl, HF.out⟩
end Go.Proofs.Ythpfockaipbhgaa
