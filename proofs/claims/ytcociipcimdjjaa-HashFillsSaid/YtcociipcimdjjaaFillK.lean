/-
  Proved here: what putting unlike keys one behind the other makes of a map by keys. No Go text is walked. Conditions: none.
-/
import Derived.Test.YtcociipcimdjjaaAlive11
namespace Go.Proofs.Ytcociipcimdjjaa
open Go.RowKit

/-- The bytes of the key number j. -/
def kB (p : Nat) (j : Int) : List Int := (zeros (p + 1)).set p j
def ksF (p m i : Nat) : List ByteArray := (List.range m).map fun j => if j < i then strOfNums (kB p j) else ⟨#[]⟩
def zsF (m i : Nat) : List Int := (List.range m).map fun j => if j < i then 100 + (j : Int) else 0
theorem fill_start (p m : Nat) : noKeys m = ksF p m 0 ∧ zeros m = zsF m 0 := by
  constructor
  · unfold noKeys ksF
    apply List.ext_getElem
    · simp
    · intro i h1 h2; simp
  · unfold zeros zsF
    apply List.ext_getElem
    · simp
    · intro i h1 h2; simp
theorem fill_step : ∀ p : Fin 8, ∀ m : Fin 17, ∀ i : Fin 16, i.val < m.val → putR (ksF p m i) (zsF m i) (p + 1) 1 (kB p i) [100 + (i.val : Int)] 0 = ((i.val : Int), 0, ksF p m (i + 1), zsF m (i + 1)) := by decide +kernel
theorem fill_more : ∀ p : Fin 8, ∀ m : Fin 17, 1 ≤ m.val → putR (ksF p m m) (zsF m m) (p + 1) 1 ((zeros (p + 1)).set 0 200) [1] 0 = (0, 28, ksF p m m, zsF m m) := by decide +kernel
theorem fill_len : ∀ p : Fin 8, ∀ m : Fin 17, (listK (ksF p m m)).length = m.val := by decide +kernel
theorem fill_get (m k : Nat) (hk : k < m) : (zsF m m).getD k 0 = 100 + (k : Int) := by
  rw [List.getD_eq_getElem?_getD, List.getElem?_eq_getElem (by simpa [zsF] using hk)]
  simp [zsF, hk]
end Go.Proofs.Ytcociipcimdjjaa
