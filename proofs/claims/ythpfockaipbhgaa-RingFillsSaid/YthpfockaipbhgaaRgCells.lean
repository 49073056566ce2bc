/-
  Proved here: what the builtin copy leaves in a row of bytes: a write of them (WroteAt). Conditions: as each lemma says.
-/
import Derived.Test.YthpfockaipbhgaaRgPut
import Derived.Laws.IdiomCopy
import Derived.Laws.CopyRow
namespace Go.Proofs.Ythpfockaipbhgaa
open Go.RowKit

/-- What storing cells keeps. -/
theorem put_cells (g : Nat) : ∀ (vs : List Value) (o : Nat) (w : World), (w.setCells g o vs).os = w.os ∧ (w.setCells g o vs).tape = w.tape ∧ (w.setCells g o vs).output = w.output ∧ w.heap.size = (w.setCells g o vs).heap.size ∧ ∀ b, b ≠ g → (w.setCells g o vs).heap[b]? = w.heap[b]?
  | [], _, _ => ⟨rfl, rfl, rfl, rfl, fun _ _ => rfl⟩
  | v :: r, o, w => by
    obtain ⟨h1, h2, h3, h4, h5⟩ := put_cells g r (o + 1) (w.setCell ⟨g, o, none⟩ v)
    refine ⟨h1, h2, h3, ?_, fun b hb => (h5 b hb).trans (Below.heap_setCell w ⟨g, o, none⟩ _ b hb)⟩
    rw [World.setCells, ← h4]
    simp [World.setCell]
theorem wrote_cells {w : World} {G p len : Nat} {old zs : List Int} (hr : RowAt w G p len old) (hz : zs.length = len) : WroteAt G p len zs w (w.setCells G p (u8s zs)) := by
  obtain ⟨h1, h2, h3, h4, h5⟩ := put_cells G (u8s zs) p w
  refine ⟨h1, h2, h3, h4, h5, fun j hj => ?_, fun j hj => ?_, fun j => World.frozen?_setCells G _ _ _ _⟩
  · have hl : j < (u8s zs).length := by rw [u8s_length]; omega
    rw [World.cell?_setCells_in G (u8s zs) p w (fun i hi => by rw [hr i (by rw [u8s_length] at hi; omega)]; rfl) j hl]
    simp [u8s, List.getD_eq_getElem?_getD, List.getElem?_eq_getElem (show j < zs.length by omega)]
  · refine World.cell?_setCells_out G (u8s zs) p w ⟨G, j, none⟩ (fun _ _ => ?_)
    rw [u8s_length]
    simp only
    rcases Nat.lt_or_ge j p with h | h
    · exact .inl h
    · exact .inr (by
        have := hj (j - p)
        omega)
/-- The builtin copy of bytes into a row of as many. -/
theorem copy_bytes {w : World} {G p len cap d c2 : Nat} {a : Addr} {old zs : List Int} (ty : TypeId) (hr : RowAt w G p len old) (hf : ∀ j, j < len → w.frozen? ⟨G, p + j, none⟩ = false) (hz : zs.length = len) (hd : d = len) (hsrc : ∀ j v, (u8s zs)[j]? = some v → w.cell? (a.add j) = some v) :
    (Builtin.copy_ #[36, 36] ty #[.slice (some ⟨G, p, none⟩) len cap, .slice (some a) d c2]).run Try.prog w = .ok (goInt len) (w.setCells G p (u8s zs)) := by
  have hl : (u8s zs).length = len := by rw [u8s_length]; exact hz
  have h := run_copy_cells (P := Try.prog) w 36 36 ty 5 G p len cap a d c2 (u8s zs) Try.underlying36 (by kernel_rfl) (by rw [hl, hd]; exact (Nat.min_self _).symm) hsrc
    (fun j hj => by rw [hr j (by omega)]; rfl) (fun j hj => hf j (by omega)) u8s_one
  rwa [hl] at h
end Go.Proofs.Ythpfockaipbhgaa
