/-
  Proved here: a slice of bools that came in is nil, or a row of cells with bools. Conditions: none.
-/
import Derived.Test.YtcngkbmffaojoaaOpen
import Derived.RowKit
namespace Go.Proofs.Ytcngkbmffaojoaa
open Go.ChangeShapes Go.WideShapes Go.RowKit Go.Deep

section
variable {H : Type} {enc : TypeId × Value → H} {P : Program} {w : World} {base : Nat} {spare : Nat → Bool} {held : Bool}
variable {r : Reach} {b0 : Nat} {t : TypeId} {v : Value} {d : DataW H} {p : List MemPlace}
/-- A slice of bools. -/
def IsBools (w : World) (v : Value) : Prop := v = .slice none 0 0 ∨ ∃ (a : Addr) (len cap : Nat), v = .slice (some a) len cap ∧ len ≤ cap ∧ cap ≤ maxLen ∧ ∀ j, j < len → ∃ b : Bool, w.cell? (a.add j) = some (.bool b)
theorem isBools_of {e : TypeId} (ht : P.underlying t = some (.slice e)) (he : P.underlying e = some .bool) (hc : P.cellsOf e = 1)
    (hv : Value.okWide P w r b0 t v) (h : DataW.Trod enc P w base spare held t v d p) : IsBools w v := by
  obtain ⟨a, len, cap, rfl⟩ := okWide_slice ht hv
  obtain ⟨fuel, hf⟩ := h
  rcases open_slice1 ht hc hf with ⟨hcs, -⟩ | ⟨x, l, c, m, n, V, D, Pl, hcs, -, hl, hm, hmm, -, hcell⟩
  · simp [Value.cells] at hcs
    obtain ⟨rfl, rfl, rfl⟩ := hcs
    exact .inl rfl
  · simp [Value.cells] at hcs
    obtain ⟨rfl, rfl, rfl⟩ := hcs
    refine .inr ⟨_, _, _, rfl, hl, hm, fun j hj => ?_⟩
    have hjm : j < m := by rw [hmm]; split <;> omega
    obtain ⟨h1, h2⟩ := hcell j hjm
    obtain ⟨b, hb, -⟩ := DataW.trod_bool he h2
    refine ⟨b, ?_⟩
    rw [h1]
    simpa using hb
end
/-- Bools that came in: a length, and of each place below it the bool that its cell holds. -/
theorem bools_in {w : World} {v : Value} (h : IsBools w v) : ∃ A len cap, v = .slice A len cap ∧ len ≤ maxLen ∧ (0 < len → ∃ g off, A = some ⟨g, off, none⟩ ∧ ∀ j, j < len → ∃ b : Bool, w.cell? ⟨g, off + j, none⟩ = some (.bool b)) := by
  rcases h with rfl | ⟨a, len, cap, rfl, hl, hm, hc⟩
  · exact ⟨none, 0, 0, rfl, Nat.zero_le _, fun h => absurd h (by omega)⟩
  · refine ⟨some a, len, cap, rfl, by omega, fun h0 => ?_⟩
    obtain ⟨b, off, spot⟩ := a
    obtain ⟨q, hq⟩ := hc 0 h0
    have hspot : spot = none := by simpa [Addr.add] using World.cell?_spot hq
    subst hspot
    refine ⟨b, off, rfl, fun j hj => ?_⟩
    obtain ⟨q, hq⟩ := hc j hj
    rw [Go.WideShapes.add_plain] at hq
    exact ⟨q, hq⟩
end Go.Proofs.Ytcngkbmffaojoaa
