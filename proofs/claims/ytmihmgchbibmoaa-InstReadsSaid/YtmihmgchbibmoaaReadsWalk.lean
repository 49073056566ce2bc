/-
  Proved here: the law InstReads returns true for whatever bytes came in. Conditions: the argument fits its type.
-/
import Derived.Test.YtmihmgchbibmoaaReadsLaw
namespace Go.Proofs.Ytmihmgchbibmoaa
open Go.RowKit

/-- Bytes that came in: as an address, a length, a room; of one byte at least a row. -/
theorem bytes_in {w : World} {v : Value} (h : IsSlice .u8 w v) : ∃ A len cap, v = .slice A len cap ∧ len ≤ cap ∧ cap ≤ maxLen ∧
    (0 < len → ∃ g off zs, A = some ⟨g, off, none⟩ ∧ zs.length = len ∧ RowAt w g off len zs ∧ BytesIn zs) := by
  rcases h with rfl | ⟨a, len, cap, rfl, hl, hm, hc⟩
  · exact ⟨none, 0, 0, rfl, by omega, Nat.zero_le _, fun h => absurd h (by omega)⟩
  · refine ⟨some a, len, cap, rfl, hl, hm, fun h0 => ?_⟩
    obtain ⟨f, hf⟩ := Go.Deep.choose_lt hc
    obtain ⟨b, off, spot⟩ := a
    have hspot : spot = none := by simpa [Addr.add] using World.cell?_spot (hf 0 h0).1
    subst hspot
    have e : ∀ j, j < len → ((List.range len).map f).getD j 0 = f j := fun j hj => by
      rw [List.getD_eq_getElem?_getD, List.getElem?_map, List.getElem?_range hj]
      rfl
    refine ⟨b, off, (List.range len).map f, rfl, by simp, fun j hj => ?_, bytesIn_of fun n hn => ?_⟩
    · have := (hf j hj).1
      rw [Go.WideShapes.add_plain] at this
      rw [e j hj]
      exact this
    · simp only [List.mem_map, List.mem_range] at hn
      obtain ⟨j, hj, rfl⟩ := hn
      exact bounds_u8 (hf j hj).2
theorem instReads.walk (v0 : Value) (w : World) (h0 : IsSlice .u8 w v0) : Calls Try.prog 4 #[v0] w fun e w' => e = .returned (.bool true) ∧ Below w.heap.size w w' := by
  obtain ⟨A, len, cap, rfl, hl, hm, hr⟩ := bytes_in h0
  by_cases h : 2000 < len
  · exact law_reads_long w A len cap h (by omega)
  · cases hc : codeB len
    · exact law_reads_bad w A len cap (by omega) hc
    · obtain ⟨h8, h1, h64⟩ := codeB_true hc
      obtain ⟨g, off, zs, rfl, hz, hrow, hb⟩ := hr (by omega)
      obtain ⟨N, rfl⟩ : ∃ N, len = 8 * N := ⟨len / 8, by omega⟩
      exact law_reads_good w g off cap N zs hz (by omega) (by omega) hl hm hrow hb
end Go.Proofs.Ytmihmgchbibmoaa
