/-
  Proved here: New and Copy of the program's rings; its rings keep all contracts that the laws ask. Conditions: as each lemma says.
-/
import Derived.Test.YthpfockaipbhgaaPmC
namespace Go.Proofs.Ythpfockaipbhgaa
open Go.RowKit

theorem new_pr {w : World} {room : Int} (h : 1 ≤ room ∧ room ≤ 256) : Calls Try.prog 7 #[.int .i64 room] w (NewQ PrM room w) := by
  obtain ⟨h1, h2⟩ := h
  go_enter Try.func7, Try.ntmps7
  go_wp2
  go_ret2
  refine ⟨w.heap.size, PrS w.heap.size (.slice none 0 0) (fun _ => 0) 0, rfl, ⟨[], [], .slice none 0 0, fun _ => 0, ⟨rfl, fun i hi => absurd hi (Nat.not_lt_zero _), fun i hi => absurd hi (Nat.not_lt_zero _)⟩, ⟨by simp [go_sem], by simp [go_sem], by simp [go_sem], by simp [go_sem], fun j => by simp [go_sem], ⟨[], World.ownsRow_nil _ _ _ _, fun i hi => absurd hi (Nat.not_lt_zero _)⟩, fun e => (by cases e), fun i hi => absurd hi (Nat.not_lt_zero _), fun i hi => absurd hi (Nat.not_lt_zero _), fun i j hi => absurd hi (Nat.not_lt_zero _), fun i hi => absurd hi (Nat.not_lt_zero _), fun i hi => absurd hi (Nat.not_lt_zero _), fun i hi => absurd hi (Nat.not_lt_zero _), fun i hi => absurd hi (Nat.not_lt_zero _), by simp⟩, fun b => Iff.rfl⟩, (Below.refl _ _).alloc (Nat.le_refl _) _, ?_⟩
  rintro b (rfl | hb | ⟨i, hi, -⟩)
  · exact Nat.le_refl _
  · cases hb
  · omega
theorem new_not {w : World} {room : Int} (h : ¬ (1 ≤ room ∧ room ≤ 256)) : Calls Try.prog 7 #[.int .i64 room] w (fun e w' => e = .returned (.tuple #[.pointer none, .int .i64 22]) ∧ Below w.heap.size w w') := by
  by_cases h1 : 1 ≤ room
  · have h2 : 256 < room := by omega
    clear h
    go_enter Try.func7, Try.ntmps7
    go_wp2
    go_ret2
    exact ⟨rfl, Below.refl _ _⟩
  · clear h
    go_enter Try.func7, Try.ntmps7
    go_wp2
    go_ret2
    exact ⟨rfl, Below.refl _ _⟩
theorem copy_pr {w : World} {D : Nat → Prop} {h : Nat} {room drops : Int} {rs : List Rc} (H : PrM w D h room drops rs) : Calls Try.prog 9 #[.pointer (some ⟨h, 0, none⟩)] w (CopyQ PrM room drops rs w) := by
  obtain ⟨pre, ls, kv, ds, S, H, hD⟩ := H
  refine (pr_copy H).mono ?_
  rintro e w1 ⟨C, v, es, rfl, q⟩
  refine ⟨C, PrS C v es ls.length, rfl, ⟨pre, ls, v, es, S, q.pr, fun b => Iff.rfl⟩, q.b, ?_⟩
  rintro b (rfl | hb | ⟨i, hi, rfl⟩)
  · exact q.atC
  · exact q.atV b hb
  · exact q.new i hi
/-- The program's rings keep what the laws ask. -/
theorem pr_acts : Acts13 PrM where
  kept := fun ⟨pre, ls, kv, ds, S, H, hD⟩ he => ⟨pre, ls, kv, ds, S, H.kept (fun b hb => he b ((hD b).2 hb)), hD⟩
  lt := fun ⟨pre, ls, kv, ds, S, H, hD⟩ b hb => H.lt b ((hD b).1 hb)
  room := fun ⟨pre, ls, kv, ds, S, H, hD⟩ => pr_room H
  used := fun ⟨pre, ls, kv, ds, S, H, hD⟩ => by rw [S.usedR]; exact pr_used H S.there
  drops := fun ⟨pre, ls, kv, ds, S, H, hD⟩ => pr_drops H
  held := fun ⟨pre, ls, kv, ds, S, H, hD⟩ => by rw [S.heldR]; exact pr_held H
  bytes := fun ⟨pre, ls, kv, ds, S, H, hD⟩ => by rw [S.bytesR H.st]; exact pr_bytes H
  recYes := recYes_pr
  recNo := recNo_pr
  commit := commit_pr
  discard := discard_pr
  drain := drain_pr
  reserve := reserve_pr
  copy := copy_pr
  new := new_pr
  no := new_not
end Go.Proofs.Ythpfockaipbhgaa
