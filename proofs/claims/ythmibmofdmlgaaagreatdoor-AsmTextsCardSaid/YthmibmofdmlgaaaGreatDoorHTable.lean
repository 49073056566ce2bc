import Derived.Test.YthmibmofdmlgaaaGreatDoorG04
import Derived.Test.YthmibmofdmlgaaaGreatDoorHAddMem
import Derived.Deep.DeepCutAuto
/-
  Proved here: wordsByOpcodes of package asm makes a new map that has the table's words. Conditions: none.
-/
namespace Go.Proofs.YthmibmofdmlgaaaGreatDoor
open Go.RowKit

theorem opsL_bd : ∀ k : Fin 12, decide ((0 ≤ bits .or .u8 7 (opsL.getD k.val (0, [])).1 ∧ bits .or .u8 7 (opsL.getD k.val (0, [])).1 ≤ 255) ∧ (0 ≤ bits .or .u8 4 (opsL.getD k.val (0, [])).1 ∧ bits .or .u8 4 (opsL.getD k.val (0, [])).1 ≤ 255)) = true := by decide +kernel
theorem condL_bd : ∀ k : Fin 11, decide ((0 ≤ bits .or .u8 5 (condL.getD k.val (0, [])).1 ∧ bits .or .u8 5 (condL.getD k.val (0, [])).1 ≤ 255) ∧ (0 ≤ bits .or .u8 6 (condL.getD k.val (0, [])).1 ∧ bits .or .u8 6 (condL.getD k.val (0, [])).1 ≤ 255)) = true := by decide +kernel
theorem words_made (w : World) : WordsIn (w.alloc (.map #[] 0)) w.heap.size 0 [] :=
  ⟨_, World.ownsMap_made _ _ _ _, fun _ _ _ _ => rfl, fun _ _ _ _ h => by simp [look] at h⟩
/-- What is known of a world in which the map of words is being made. -/
structure Making (w0 wr : World) (b n : Nat) (T : List (Int × Wd)) : Prop where
  words : WordsIn wr b n T
  below : Below w0.heap.size w0 wr
  new : w0.heap.size ≤ b
theorem Making.alloc {w0 wr : World} {b n : Nat} {T : List (Int × Wd)} (h : Making w0 wr b n T) (o : Obj) : Making w0 (wr.alloc o) b n T := ⟨h.words.alloc o, h.below.alloc h.below.size o, h.new⟩
theorem Making.put {w0 wr w' : World} {b n m : Nat} {T T' : List (Int × Wd)} (h : Making w0 wr b n T) (hi : WordsIn w' b m T') (hg : wr.grownBy w' (some b)) : Making w0 w' b m T' :=
  ⟨hi, h.below.grown hg h.below.size (fun k hk => by cases hk; exact h.new), h.new⟩
theorem put_making {w0 wr : World} {b n : Nat} {T : List (Int × Wd)} (h : Making w0 wr b n T) (op : Int) (t : List UInt8) (ps : List Int) (len : Nat) (h0 : 0 ≤ op) (h1 : op ≤ 255) (hl : ps.length = len) (hn : n < 1000) :
    ∃ w', (Instr.mapUpdate 49 (.map (some b)) (.int .u8 op) (.agg #[.string (S t), .slice (some ⟨wr.heap.size, 0, none⟩) len len, .bool false])).run Tryz.prog (wr.alloc (.cells (ps.map (Value.int .u8)).toArray 74)) = .ok () w' ∧ Making w0 w' b (n + 1) ((op, t, ps, false) :: T) := by
  obtain ⟨w', r, i, g⟩ := put_word (wr.alloc (.cells (ps.map (Value.int .u8)).toArray 74)) b n T op t (some ⟨wr.heap.size, 0, none⟩) ps len len false (h.alloc _).words h0 h1 (parts_new _ _) hl hn
  exact ⟨w', r, (h.alloc _).put i g⟩
/-- The map's literal. -/
theorem base_made (w : World) : ∃ w1 w2 w3 w4 w5 w6,
    (Instr.mapUpdate 49 (.map (some w.heap.size)) (.int .u8 24) (.agg #[.string (S [108, 100, 100, 119]), .slice (some ⟨w.heap.size + 1, 0, none⟩) 2 2, .bool false])).run Tryz.prog ((w.alloc (.map #[] 0)).alloc (.cells #[.int .u8 0, .int .u8 2] 74)) = .ok () w1 ∧
    (Instr.mapUpdate 49 (.map (some w.heap.size)) (.int .u8 135) (.agg #[.string (S [110, 101, 103]), .slice (some ⟨w1.heap.size, 0, none⟩) 1 1, .bool false])).run Tryz.prog (w1.alloc (.cells #[.int .u8 0] 74)) = .ok () w2 ∧
    (Instr.mapUpdate 49 (.map (some w.heap.size)) (.int .u8 132) (.agg #[.string (S [110, 101, 103, 51, 50]), .slice (some ⟨w2.heap.size, 0, none⟩) 1 1, .bool false])).run Tryz.prog (w2.alloc (.cells #[.int .u8 0] 74)) = .ok () w3 ∧
    (Instr.mapUpdate 49 (.map (some w.heap.size)) (.int .u8 5) (.agg #[.string (S [106, 97]), .slice (some ⟨w3.heap.size, 0, none⟩) 1 1, .bool false])).run Tryz.prog (w3.alloc (.cells #[.int .u8 4] 74)) = .ok () w4 ∧
    (Instr.mapUpdate 49 (.map (some w.heap.size)) (.int .u8 133) (.agg #[.string (S [99, 97, 108, 108]), .slice (some ⟨w4.heap.size, 0, none⟩) 1 1, .bool false])).run Tryz.prog (w4.alloc (.cells #[.int .u8 3] 74)) = .ok () w5 ∧
    (Instr.mapUpdate 49 (.map (some w.heap.size)) (.int .u8 149) (.agg #[.string (S [101, 120, 105, 116]), .slice none 0 0, .bool false])).run Tryz.prog w5 = .ok () w6 ∧
    Making w w6 w.heap.size 6 (opT 0) := by
  have h0 : Making w (w.alloc (.map #[] 0)) w.heap.size 0 [] := ⟨words_made w, (Below.refl _ _).alloc (Nat.le_refl _) _, Nat.le_refl _⟩
  obtain ⟨w1, r1, m1⟩ := put_making h0 24 [108, 100, 100, 119] [0, 2] 2 (by omega) (by omega) rfl (by omega)
  obtain ⟨w2, r2, m2⟩ := put_making m1 135 [110, 101, 103] [0] 1 (by omega) (by omega) rfl (by omega)
  obtain ⟨w3, r3, m3⟩ := put_making m2 132 [110, 101, 103, 51, 50] [0] 1 (by omega) (by omega) rfl (by omega)
  obtain ⟨w4, r4, m4⟩ := put_making m3 5 [106, 97] [4] 1 (by omega) (by omega) rfl (by omega)
  obtain ⟨w5, r5, m5⟩ := put_making m4 133 [99, 97, 108, 108] [3] 1 (by omega) (by omega) rfl (by omega)
  obtain ⟨w6, r6, i6, g6⟩ := put_word w5 w.heap.size 5 _ 149 [101, 120, 105, 116] none [] 0 0 false m5.words (by omega) (by omega) (.inl ⟨rfl, rfl⟩) rfl (by omega)
  have e1 : (w.alloc (.map #[] 0)).heap.size = w.heap.size + 1 := by simp
  rw [e1] at r1
  exact ⟨w1, w2, w3, w4, w5, w6, r1, r2, r3, r4, r5, r6, m5.put i6 g6⟩
end Go.Proofs.YthmibmofdmlgaaaGreatDoor
