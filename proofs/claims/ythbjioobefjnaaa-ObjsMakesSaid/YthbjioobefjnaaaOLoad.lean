/-
  Proved here: what Load, Path and Inside of the document's objects give. Conditions: an object that reads as one.
-/
import Derived.Test.YthbjioobefjnaaaOBytes
import Derived.Deep.WholeRow
namespace Go.Proofs.Ythbjioobefjnaaa
open Go.RowKit

theorem below_drewN (w : World) (n : Nat) : Below w.heap.size w (w.drewN n) := ⟨rfl, rfl, rfl, Nat.le_refl _, fun _ _ => rfl⟩
theorem bsL_in (x : Int) : ∀ k, ∀ z ∈ bsL x k, 0 ≤ z ∧ z ≤ 255
  | 0, z, h => by simp [bsL] at h
  | k + 1, z, h => by
    rw [bsL, List.mem_append] at h
    rcases h with h | h
    · exact bsL_in x k z h
    · simp at h; omega
theorem bytesF_in (f : List Int) : ∀ i, ∀ z ∈ bytesF f i, 0 ≤ z ∧ z ≤ 255
  | 0, z, h => by simp [bytesF] at h
  | i + 1, z, h => by
    rw [bytesF, List.mem_append] at h
    rcases h with h | h
    · exact bytesF_in f i z h
    · exact bsL_in _ 8 z h
theorem bytesIn_of {zs : List Int} (h : ∀ z ∈ zs, 0 ≤ z ∧ z ≤ 255) : BytesIn zs := by
  intro j
  rw [List.getD_eq_getElem?_getD]
  cases e : zs[j]? with
  | none => simp
  | some z => exact h z (List.mem_of_getElem? e)
/-- What a load of an object tells. -/
def loadO (o : Kob) (at_ n : Int) : Value := if thB 64 at_ n then .tuple #[.int .u64 (ldF (bytesF o.f 8) at_.toNat n.toNat), .bool true] else .tuple #[.int .u64 0, .bool false]
/-- A load of a whole object, veiled. -/
def loadObjV (v : Value) : Sem Value := Instr.loadAt 39 v
theorem loadObj_veil (v : Value) : Instr.loadAt 39 v = loadObjV v := rfl
theorem run_loadObj (w : World) (b : Nat) (X : Array Value) (T : TypeId) (fz : Nat × Nat) (h : w.heap[b]? = some (.cells X T fz)) (hs : X.size = 13) : (loadObjV (.pointer (some ⟨b, 0, none⟩))).run Try.prog w = .ok (.agg X) w := by
  unfold loadObjV
  simp only [Instr.loadAt, Instr.sureAddr, Sem.run_bind, Sem.run_pure, Result.andThen_ok]
  exact run_loadVar_row w b T 39 X fz _ h Try.underlying39 rfl (by rw [hs]; kernel_rfl)
attribute [local go_sem ↓] loadObj_veil
end Go.Proofs.Ythbjioobefjnaaa
