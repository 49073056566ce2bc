/-
  Proved here: plain lemmas on numbers of bytes (what k bytes are as a number, the bytes of a number, a list with others in some places); no Go text is spoken of. Conditions: as each lemma says.
-/
import Derived.Laws.BitsAllLaws
namespace Go.Proofs.Ytcdpmggjdmibjaa

/-- The number of k bytes from place a on, the least one first. -/
def ldF (zs : List Int) : Nat → Nat → Int
  | _, 0 => 0
  | a, k + 1 => zs.getD a 0 + 256 * ldF zs (a + 1) k
/-- The k low bytes of a number, the least one first. -/
def bsL (x : Int) : Nat → List Int
  | 0 => []
  | k + 1 => bsL x k ++ [x / 256 ^ k % 256]
/-- A list with others from place a on. -/
def putL (zs : List Int) (a : Nat) (vs : List Int) : List Int := zs.take a ++ vs ++ zs.drop (a + vs.length)

def BytesIn (zs : List Int) : Prop := ∀ j, 0 ≤ zs.getD j 0 ∧ zs.getD j 0 ≤ 255

theorem pow256_pos (k : Nat) : (0 : Int) < 256 ^ k := Int.pow_pos (by decide)
theorem bsL_length (x : Int) : ∀ k, (bsL x k).length = k
  | 0 => rfl
  | k + 1 => by simp [bsL, bsL_length x k]
theorem bsL_getD (x : Int) : ∀ k j, j < k → (bsL x k).getD j 0 = x / 256 ^ j % 256
  | 0, _, h => absurd h (by omega)
  | k + 1, j, h => by
    have hl := bsL_length x k
    rcases Nat.lt_or_ge j k with hj | hj
    · have ih := bsL_getD x k j hj
      rw [bsL, List.getD_eq_getElem?_getD, List.getElem?_append_left (by omega)]
      rwa [List.getD_eq_getElem?_getD] at ih
    · have : j = k := by omega
      subst this
      rw [bsL, List.getD_eq_getElem?_getD, List.getElem?_append_right (by omega), hl]
      simp
theorem ldF_bd (zs : List Int) (h : BytesIn zs) : ∀ k a, 0 ≤ ldF zs a k ∧ ldF zs a k < 256 ^ k
  | 0, a => by simp [ldF]
  | k + 1, a => by
    have ih := ldF_bd zs h k (a + 1)
    have hz := h a
    rw [ldF, Int.pow_succ]
    omega
theorem ldF_snoc (zs : List Int) : ∀ k a, ldF zs a (k + 1) = ldF zs a k + zs.getD (a + k) 0 * 256 ^ k
  | 0, a => by simp [ldF]
  | k + 1, a => by
    have ih := ldF_snoc zs k (a + 1)
    rw [ldF, ih]
    conv => rhs; rw [ldF]
    rw [show a + 1 + k = a + (k + 1) by omega, Int.pow_succ]
    have := Int.mul_comm (256 ^ k) 256
    generalize zs.getD (a + (k + 1)) 0 = z
    rw [Int.mul_add, Int.mul_left_comm 256 z (256 ^ k), this]
    omega
theorem putL_length {zs : List Int} {a : Nat} {vs : List Int} (h : a + vs.length ≤ zs.length) : (putL zs a vs).length = zs.length := by
  simp [putL]; omega
theorem putL_getD_in {zs : List Int} {a : Nat} {vs : List Int} (h : a + vs.length ≤ zs.length) {j : Nat} (hj : j < vs.length) : (putL zs a vs).getD (a + j) 0 = vs.getD j 0 := by
  have hl : (zs.take a).length = a := by simp; omega
  rw [List.getD_eq_getElem?_getD, List.getD_eq_getElem?_getD, putL, List.append_assoc, List.getElem?_append_right (by omega), hl, List.getElem?_append_left (by omega)]
  rw [Nat.add_sub_cancel_left]
theorem putL_getD_out {zs : List Int} {a : Nat} {vs : List Int} (h : a + vs.length ≤ zs.length) {j : Nat} (hj : j < a ∨ a + vs.length ≤ j) : (putL zs a vs).getD j 0 = zs.getD j 0 := by
  have hl : (zs.take a).length = a := by simp; omega
  rw [List.getD_eq_getElem?_getD, List.getD_eq_getElem?_getD, putL, List.append_assoc]
  rcases hj with hj | hj
  · rw [List.getElem?_append_left (by omega), List.getElem?_take_of_lt hj]
  · rw [List.getElem?_append_right (by omega), hl, List.getElem?_append_right (by omega), List.getElem?_drop]
    congr 2; omega
theorem putL_snoc {zs : List Int} {a : Nat} {vs : List Int} {v : Int} (h : a + vs.length < zs.length) : (putL zs a vs).set (a + vs.length) v = putL zs a (vs ++ [v]) := by
  have hl : (zs.take a).length = a := by simp; omega
  unfold putL
  rw [List.set_append_right _ _ (by rw [List.length_append, hl]; exact Nat.le_refl _), show a + vs.length - (List.take a zs ++ vs).length = 0 by rw [List.length_append, hl]; omega]
  rw [List.drop_eq_getElem_cons (by omega), List.set_cons_zero]
  simp [Nat.add_assoc]
/-- What was stored is loaded, as its low bytes. -/
theorem ldF_bytes (x : Int) (hx : 0 ≤ x) (zs : List Int) : ∀ k a, (∀ j, j < k → zs.getD (a + j) 0 = x / 256 ^ j % 256) → ldF zs a k = x % 256 ^ k
  | 0, a, _ => by simp [ldF]
  | k + 1, a, h => by
    rw [ldF_snoc, ldF_bytes x hx zs k a (fun j hj => h j (by omega)), h k (by omega), Int.pow_succ]
    obtain ⟨y, rfl⟩ := Int.eq_ofNat_of_zero_le hx
    have e := Nat.mod_mul (x := y) (a := 256 ^ k) (b := 256)
    have e' : ((y % (256 ^ k * 256) : Nat) : Int) = ((y % 256 ^ k + 256 ^ k * (y / 256 ^ k % 256) : Nat) : Int) := by rw [e]
    simp only [Int.natCast_add, Int.natCast_mul, Int.natCast_emod, Int.natCast_ediv, Int.natCast_pow] at e'
    rw [Int.mul_comm ((y : Int) / 256 ^ k % 256)]
    exact e'.symm
theorem or_shift (a : Int) (z : Int) (k : Nat) (hk : k ≤ 7) (h0 : 0 ≤ a) (h1 : a < 256 ^ k) (z0 : 0 ≤ z) (z1 : z ≤ 255) :
    bits BinOp.or IntKind.u64 a (z * 256 ^ k) = a + z * 256 ^ k := by
  obtain ⟨a, rfl⟩ := Int.eq_ofNat_of_zero_le h0
  obtain ⟨z, rfl⟩ := Int.eq_ofNat_of_zero_le z0
  have h1' : a < 256 ^ k := Int.ofNat_lt.1 (by rw [Int.natCast_pow]; exact h1)
  have hp : 256 ^ k ≤ 256 ^ 7 := Nat.pow_le_pow_right (by decide) hk
  have hm : z * 256 ^ k ≤ 255 * 256 ^ 7 := Nat.mul_le_mul (by omega) hp
  have e2 : ((z : Int) * 256 ^ k) = ((z * 256 ^ k : Nat) : Int) := by simp
  rw [e2, u64_or_nat _ _ (by omega) (by omega)]
  have e := Nat.two_pow_add_eq_or_of_lt (i := 8 * k) (b := a) (by rw [Nat.pow_mul]; exact h1') z
  rw [Nat.pow_mul, show 2 ^ 8 = 256 by rfl] at e
  rw [Nat.or_comm, Nat.mul_comm z, ← e]
  simp; omega
end Go.Proofs.Ytcdpmggjdmibjaa
