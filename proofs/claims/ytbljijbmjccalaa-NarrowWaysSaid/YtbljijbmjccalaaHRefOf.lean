/-
  Proved here: what Of of the document's answers returns: the pattern whose bits may be so. Conditions: two slices of 64 bools.
-/
import Derived.Test.YtbljijbmjccalaaHHasLaw
namespace Go.Proofs.Ytbljijbmjccalaa
open Go.RowKit

/-- 64 bools in a row. -/
def Bools (W : World) (g : Nat) (f : Nat → Bool) : Prop := ∀ i, i < 64 → W.cell? ⟨g, i, none⟩ = some (.bool (f i))
theorem Bools.keep {W W' : World} {g : Nat} {f : Nat → Bool} {B : Nat} (h : Bools W g f) (hb : Below B W W') (hg : g < B) : Bools W' g f :=
  fun i hi => (hb.cell (p := ⟨g, i, none⟩) hg).trans (h i hi)
theorem sum_bd (f : Nat → Bool) (k : Nat) : 0 ≤ ((sumB f k : Nat) : Int) ∧ ((sumB f k : Nat) : Int) < 2 ^ k := by
  have := sumB_lt f k
  have e : ((2 : Int) ^ k) = ((2 ^ k : Nat) : Int) := by simp
  rw [e]
  omega
theorem sum_yes {f : Nat → Bool} {k : Nat} (h : f k = true) : ((sumB f (k + 1) : Nat) : Int) = sumB f k + 2 ^ k := by
  have e : sumB f (k + 1) = sumB f k + 2 ^ k := by show sumB f k + (if f k = true then 2 ^ k else 0) = _; rw [if_pos h]
  rw [e]
  simp
theorem sum_no {f : Nat → Bool} {k : Nat} (h : f k = false) : ((sumB f (k + 1) : Nat) : Int) = sumB f k := by
  have e : sumB f (k + 1) = sumB f k := by show sumB f k + (if f k = true then 2 ^ k else 0) = _; rw [h]; rfl
  rw [e]
/-- The boxes of the loop: the result's, and the sums. -/
def OfRel (w0 : World) (z o : Nat → Bool) (a b : Value) (W : World) : Prop := ∃ k : Nat, k ≤ 64 ∧ a = .int .u64 (2 ^ k % 18446744073709551616) ∧ b = .int .i64 k ∧
  Twain w0 (.int .u64 0) (.int .u64 0) (.int .u64 (sumB (fun i => !z i && o i) k)) (.int .u64 (sumB (fun i => z i && o i) k)) W
theorem twain_put {w0 W : World} {a b x y x' : Value} (h : Twain w0 a b x y W) : Twain w0 a b x' y (W.setCell ⟨w0.heap.size + 1, 0, none⟩ x') := by
  obtain ⟨h1, h2, hB⟩ := h
  refine ⟨?_, ?_, hB.setCell (by simp) _⟩
  · simp [World.setCell, Array.getElem?_modify, h1]
  · simp [World.setCell, Array.getElem?_modify, h2]
theorem twain_put1 {w0 W : World} {a b x y y' : Value} (h : Twain w0 a b x y W) : Twain w0 a b x y' (W.setCell ⟨w0.heap.size + 1, 1, none⟩ y') := by
  obtain ⟨h1, h2, hB⟩ := h
  refine ⟨?_, ?_, hB.setCell (by simp) _⟩
  · simp [World.setCell, Array.getElem?_modify, h1]
  · simp [World.setCell, Array.getElem?_modify, h2]
theorem twain_new0 (w : World) (a b x y : Value) : Twain w a b x y ((w.alloc (Obj.cells #[a, b] 24)).alloc (Obj.cells #[x, y] 24)) := by
  have h := twain_new w a b x y
  exact ⟨h.1, h.2.1, ((Below.refl _ _).alloc (Nat.le_refl _) _).alloc (by simp) _⟩
set_option maxHeartbeats 2000000 in
theorem of_ref (g q : Nat) (z o : Nat → Bool) (w : World) (hz : Bools w g z) (ho : Bools w q o) (hg : g < w.heap.size) (hq : q < w.heap.size) :
    Calls Try.prog 47 #[.slice (some ⟨g, 0, none⟩) 64 64, .slice (some ⟨q, 0, none⟩) 64 64] w (Gives (tnV (valB z o) (maskB z o)) w) := by
  have HZ := Lib.hid hz
  have HO := Lib.hid ho
  clear hz ho
  have HT := Lib.hid (show Twain w (.int .u64 0) (.int .u64 0) (.int .u64 0) (.int .u64 0) ((w.alloc (Obj.cells #[Value.int .u64 0, .int .u64 0] 24)).alloc (Obj.cells #[Value.int .u64 0, .int .u64 0] 24)) from twain_new0 w _ _ _ _)
  unfold Gives tnV
  go_enter Try.func47, Try.ntmps47
  go_wp2
  obtain ⟨W0, hW0⟩ : ∃ W, (w.alloc (Obj.cells #[Value.int .u64 0, .int .u64 0] 24)).alloc (Obj.cells #[Value.int .u64 0, .int .u64 0] 24) = W := ⟨_, rfl⟩
  rw [hW0] at HT ⊢
  clear hW0
  go_loopw [6, 7] (fun a b wr => OfRel w z o a b wr) (fun _ b _ => 64 - (intOf b).toNat)
  case atStart => exact ⟨0, by omega, rfl, rfl, HT.out⟩
  case round =>
    obtain ⟨k, hk, rfl, rfl, hT⟩ := hrel
    clear HT
    have HT := Lib.hid hT
    clear hT
    by_cases hlt : k < 64
    · have hp := pow_le63 (n := k) (by omega)
      have s1 := sum_bd (fun i => !z i && o i) k
      have s2 := sum_bd (fun i => z i && o i) k
      have hmod : (2 : Int) ^ k % 18446744073709551616 = 2 ^ k := Int.emod_eq_of_lt (by omega) (by omega)
      rw [hmod]
      obtain ⟨N, hN⟩ : ∃ N, IntKind.u64.wrap (2 * 2 ^ k) = N := ⟨_, rfl⟩
      have HN := Lib.hid (show N = 2 ^ (k + 1) % 18446744073709551616 by rw [← hN, wrap_u, Int.pow_succ, Int.mul_comm])
      obtain ⟨c4, c5, f4, f5, z2⟩ := blk_facts HT.out.2.1
      have l0 := (HT.out.2.2.cell (p := ⟨g, k, none⟩) hg).trans (HZ.out k hlt)
      have l1 := (HT.out.2.2.cell (p := ⟨q, k, none⟩) hq).trans (HO.out k hlt)
      obtain ⟨P, hP⟩ : ∃ P, (2 : Int) ^ k = P := ⟨_, rfl⟩
      obtain ⟨V, hV⟩ : ∃ V, ((sumB (fun i => !z i && o i) k : Nat) : Int) = V := ⟨_, rfl⟩
      obtain ⟨M, hM⟩ : ∃ M, ((sumB (fun i => z i && o i) k : Nat) : Int) = M := ⟨_, rfl⟩
      rw [hV] at c4 s1
      rw [hM] at c5 s2
      rw [hP] at hp hN s1 s2 ⊢
      have HP := Lib.hid hP
      have HV := Lib.hid hV
      have HM := Lib.hid hM
      clear hmod hP hV hM
      have t1 : V + P ≤ 18446744073709551615 := by omega
      have t2 : M + P ≤ 18446744073709551615 := by omega
      cases hzk : z k <;> cases hok : o k
      all_goals
        rw [hzk] at l0
        rw [hok] at l1
        have HZK := Lib.hid hzk
        have HOK := Lib.hid hok
        clear hzk hok
        go_wp2
        go_roundw
        case rel =>
          refine ⟨k + 1, by omega, by rw [← HN.out], by go_num, ?_⟩
          first
            | (rw [sum_no (f := fun i => !z i && o i) (by simp [HZK.out, HOK.out]), sum_no (f := fun i => z i && o i) (by simp [HZK.out, HOK.out])]; exact HT.out)
            | (rw [sum_yes (f := fun i => !z i && o i) (by simp [HZK.out, HOK.out]), sum_no (f := fun i => z i && o i) (by simp [HZK.out, HOK.out]), HP.out, HV.out]; exact twain_put HT.out)
            | (rw [sum_no (f := fun i => !z i && o i) (by simp [HZK.out, HOK.out]), sum_yes (f := fun i => z i && o i) (by simp [HZK.out, HOK.out]), HP.out, HM.out]; exact twain_put1 HT.out)
        case measure => simp [intOf]; omega
    · obtain rfl : k = 64 := by omega
      have hv := u_ofB (fun i => !z i && o i)
      have hm := u_ofB (fun i => z i && o i)
      obtain ⟨c4, c5, f4, f5, z2⟩ := blk_facts HT.out.2.1
      obtain ⟨c0, c1, f0, f1, z0⟩ := blk_facts HT.out.1
      rw [← hv] at c4
      rw [← hm] at c5
      have HB := Lib.hid HT.out.2.2
      clear hv hm
      go_wp2
      refine bodyPost_ret (v := .agg #[.int .u64 (u (valB z o)), .int .u64 (u (maskB z o))]) (by simp [results, Try.results47, go_sem, c0, c1, valB, maskB]) rfl ⟨rfl, ?_⟩
      exact (HB.out.setCell (by simp) _).setCell (by simp) _
end Go.Proofs.Ytbljijbmjccalaa
