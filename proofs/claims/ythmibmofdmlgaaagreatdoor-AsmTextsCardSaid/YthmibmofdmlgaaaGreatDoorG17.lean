import Derived.Test.YthmibmofdmlgaaaGreatDoorG01
import Derived.Deep.QuietTactic
import Derived.BigQuiet
import Derived.Lib.Hide
import Derived.Deep.Draws
import Derived.Test.YthmibmofdmlgaaaGreatDoorG16
/-
  Proved here: Same of the document's answers says yes of two rows with the same instructions. Conditions: at most 200 of them.
-/
namespace Go.Proofs.YthmibmofdmlgaaaGreatDoor
open Go.RowKit

/-- Yes, and nothing is turned. -/
def SaidYes (W : World) (e : Ending) (w : World) : Prop := e = .returned (.bool true) ∧ ∃ n, w = W.drewN n

theorem same_ref (w : World) (A B : Option Addr) (len capA capB : Nat) (l : List Ins) (hl : l.length = len) (h200 : len ≤ 200) (ha : InsAt w A l) (hb : InsAt w B l) :
    Calls Tryz.prog 8 #[.slice A len capA, .slice B len capB] w (SaidYes w) := by
  have HL := Lib.hid hl
  clear hl
  go_enter Tryz.func8, Tryz.ntmps8
  go_wp2
  go_loopw [5] (fun i wr => ∃ k n : Nat, k ≤ len ∧ i = .int .i64 k ∧ wr = w.drewN n) (fun i _ => len - (intOf i).toNat)
  case atStart => exact ⟨0, 0, by omega, rfl, rfl⟩
  case round =>
    obtain ⟨k, n, hk, rfl, rfl⟩ := hrel
    by_cases hlt : k < len
    · have hll := HL.out
      obtain ⟨g, off, rfl, hg, hrow⟩ : ∃ g off, A = some ⟨g, off, none⟩ ∧ g < w.heap.size ∧ InsRow w g off l := by
        rcases ha with h | h
        · omega
        · exact h
      obtain ⟨g', off', rfl, hg', hrow'⟩ : ∃ g off, B = some ⟨g, off, none⟩ ∧ g < w.heap.size ∧ InsRow w g off l := by
        rcases hb with h | h
        · omega
        · exact h
      obtain ⟨c0, c1, c2, c3, c4⟩ := hrow k (by omega)
      obtain ⟨b0, b1, b2, b3, b4⟩ := hrow' k (by omega)
      obtain ⟨x, hx⟩ : ∃ x, l.getD k .zero = x := ⟨_, rfl⟩
      rw [hx] at c0 c1 c2 c3 c4 b0 b1 b2 b3 b4
      have HA := Lib.hid hrow
      have HB := Lib.hid hrow'
      clear hx hll hrow hrow' ha hb
      have i0 : (0 : Int) ≤ (k : Int) := by omega
      have i1 : (k : Int) < (len : Int) := by omega
      go_wp2
      go_quiet (fail)
      go_wp2
      go_roundw
      case rel => exact ⟨k + 1, n + nq, by omega, by go_num, rfl⟩
      case measure => simp [intOf]; omega
    · obtain rfl : k = len := by omega
      clear ha hb
      go_wp2
      go_ret
      exact ⟨rfl, n, rfl⟩
end Go.Proofs.YthmibmofdmlgaaaGreatDoor

/-
  Proved here: alive of halberdlaw05 (the document's examples) returns true. Conditions: the library's variables.
-/
namespace Go.Proofs.YthmibmofdmlgaaaGreatDoor
open Go.RowKit
set_option linter.unusedVariables false

theorem cellsOf_get (l : List Ins) : ∀ j i, j < l.length → i < 5 → (cellsOf l)[j * 5 + i]? = ((l.getD j .zero).cells)[i]? := by
  induction l with
  | nil => intro j i h; simp at h
  | cons x l ih =>
    intro j i hj hi
    have e : cellsOf (x :: l) = x.cells ++ cellsOf l := by simp [cellsOf]
    rw [e]
    cases j with
    | zero =>
      rw [List.getElem?_append_left (by simpa [Ins.cells] using hi)]
      simp
    | succ j =>
      have h5 : x.cells.length = 5 := rfl
      rw [List.getElem?_append_right (by rw [h5]; omega), h5]
      have e2 : (j + 1) * 5 + i - 5 = j * 5 + i := by omega
      rw [e2, ih j i (by simpa using hj) hi]
      simp
/-- Cells as instructions in a row. -/
theorem row_cells {w : World} {g : Nat} {l : List Ins} {cs : Array Value} (h : w.heap[g]? = some (.cells cs 35)) (hc : cs.toList.take (l.length * 5) = cellsOf l) : InsRow w g 0 l := by
  intro j hj
  have key : ∀ i u, i < 5 → ((l.getD j .zero).cells)[i]? = some u → w.cell? ⟨g, j * 5 + i, none⟩ = some u := by
    intro i u hi hu
    rw [← cellsOf_get l j i hj hi, ← hc] at hu
    unfold World.cell?
    simp only [h]
    rw [List.getElem?_take] at hu
    split at hu
    · simpa using hu
    · cases hu
  simp only [Nat.zero_add]
  exact ⟨key 0 _ (by omega) rfl, key 1 _ (by omega) rfl, key 2 _ (by omega) rfl, key 3 _ (by omega) rfl, key 4 _ (by omega) rfl⟩
theorem own_insAt {w : World} {B : Nat} {v : Value} {l : List Ins} (h : w.ownsRow B 35 5 v l.length (cellsOf l)) (hl : 0 < l.length) : ∃ A cap, v = .slice A l.length cap ∧ InsAt w A l := by
  rcases h.2 with ⟨rfl, h0⟩ | ⟨g, cap, cur, rfl, hb, hg, h1, h2, h3, h4⟩
  · omega
  · exact ⟨_, cap, rfl, .inr ⟨g, 0, rfl, (Array.getElem?_eq_some_iff.1 hg).1, row_cells hg h4⟩⟩
def exL : List Ins := [⟨183, 1, 0, 0, 5⟩, ⟨121, 2, 1, 8, 0⟩, ⟨123, 10, 2, -8, 0⟩, ⟨21, 1, 0, 0, 0⟩, ⟨149, 0, 0, 0, 0⟩]
def exC (x : Ins) : Chunk := (lineT x x.imm (wordI x), [x])
def exT : List UInt8 := [109, 111, 118, 32, 114, 49, 44, 32, 53, 10, 108, 100, 56, 32, 114, 50, 44, 32, 91, 114, 49, 43, 56, 93, 10, 115, 116, 56, 32, 91, 114, 49, 48, 45, 56, 93, 44, 32, 114, 50, 10, 106, 101, 113, 32, 114, 49, 44, 32, 48, 44, 32, 43, 48, 10, 101, 120, 105, 116]
theorem ex_text : Lib.join ((exL.map exC).map Prod.fst) [10] = exT ∧ Lib.trimSuffix exT [10] = exT := by decide +kernel
theorem ex_good : ∀ x ∈ exL, (rightI x = true ∧ x.op ≠ 24 ∧ lineB x x.imm (wordI x) = true) ∧ (0 ≤ x.op ∧ x.op ≤ 255) ∧ (0 ≤ x.dst ∧ x.dst ≤ 255) ∧ (0 ≤ x.src ∧ x.src ≤ 255) ∧ (-32768 ≤ x.off ∧ x.off ≤ 32767) ∧ (-2147483648 ≤ x.imm ∧ x.imm ≤ 2147483647) := by decide +kernel
theorem ex_chunks : ∀ d ∈ exL.map exC, GoodC d := by
  intro d hd
  obtain ⟨x, hx, rfl⟩ := List.mem_map.1 hd
  obtain ⟨⟨h1, h2, h3⟩, a, b, c, e, f⟩ := ex_good x hx
  exact .inl ⟨x, rfl, ⟨a, b, c, e, f⟩, h1, h2, h3⟩
theorem chunkI_map (l : List Ins) : chunkI (l.map exC) = l := by
  induction l with
  | nil => rfl
  | cons x l ih =>
    have e : chunkI ((x :: l).map exC) = x :: chunkI (l.map exC) := by simp [chunkI, exC]
    rw [e, ih]
theorem ex_len : exT.length ≤ 100000 := by decide +kernel
theorem ex_read (w : World) (he : Env w) : Calls Tryz.prog 7 #[.string (S exT)] w (TriedV exL w) := by
  have hC := ex_chunks
  have ht := ex_text
  have hch := chunkI_map exL
  have hlen : (exL.map exC).length = 5 := by rw [List.length_map]; rfl
  have hl := ex_len
  generalize exL.map exC = C at hC ht hch hlen
  generalize exT = s at ht hl ⊢
  generalize exL = l at hch ⊢
  cases C with
  | nil => cases hlen
  | cons c C0 =>
    rw [← hch]
    exact read_call w c C0 hC (by omega) s (by rw [ht.2]; exact ht.1.symm) hl he
theorem ex_row (w : World) : InsAt (w.alloc (.cells (cellsOf exL).toArray 35)) (some ⟨w.heap.size, 0, none⟩) exL :=
  .inr ⟨w.heap.size, 0, rfl, by simp, row_cells (MapKept.heap_alloc w _).1 (by rw [List.take_of_length_le (by rw [cellsOf_length]; exact Nat.le_refl _)])⟩
theorem alive (w : World) (he : Env w) : Calls Tryz.prog 4 #[] w fun e w' => e = .returned (.bool true) ∧ Below w.heap.size w w' := by
  have hrd := ex_read w he
  have z0 : ({ data := #[109, 111, 118, 32, 114, 49, 44, 32, 53, 10, 108, 100, 56, 32, 114, 50, 44, 32, 91, 114, 49, 43, 56, 93, 10, 115, 116, 56, 32, 91, 114, 49, 48, 45, 56, 93, 44, 32, 114, 50, 10, 106, 101, 113, 32, 114, 49, 44, 32, 48, 44, 32, 43, 48, 10, 101, 120, 105, 116] } : ByteArray) = S exT := rfl
  obtain ⟨T, hT⟩ : ∃ T, S exT = T := ⟨_, rfl⟩
  rw [hT] at hrd z0
  clear hT he
  go_enter Tryz.func4, Tryz.ntmps4
  go_wp2_with (first
    | (go_at_call 7; refine hrd.mono ?_; rintro e w1 ⟨v, rfl, hown, hb1⟩; obtain ⟨A, cap, rfl, hA⟩ := own_insAt hown (by decide); have HA := Lib.hid hA; have HB1 := Lib.hid hb1; clear hown hb1 hrd hA)
    | (go_at_call 8; refine (same_ref _ _ _ 5 _ _ exL rfl (by omega) (HA.out.below (below_box _ _)) (ex_row _)).mono ?_; rintro e w2 ⟨rfl, n, rfl⟩))
  go_ret
  exact ⟨rfl, below_drews (HB1.out.alloc HB1.out.size _) _⟩
end Go.Proofs.YthmibmofdmlgaaaGreatDoor
