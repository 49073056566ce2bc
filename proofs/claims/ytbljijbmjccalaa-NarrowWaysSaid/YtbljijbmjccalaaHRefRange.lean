/-
  Proved here: what Range of the document's answers returns. Conditions: none.
-/
import Derived.Test.YtbljijbmjccalaaHRefHas
namespace Go.Proofs.Ytbljijbmjccalaa
open Go.RowKit

/-- The result's box. -/
def ResAt (w0 : World) (W : World) : Prop := W.heap[w0.heap.size]? = some (.cells #[.int .u64 0, .int .u64 0] 24) ∧ Below w0.heap.size w0 W
theorem res_new (w : World) : ResAt w (w.alloc (.cells #[.int .u64 0, .int .u64 0] 24)) := ⟨(MapKept.heap_alloc w _).1, below_box _ _⟩
theorem res_drews {w W : World} (h : ResAt w W) (n : Nat) : ResAt w (W.drewN n) := ⟨h.1, below_drews h.2 n⟩
theorem res_keep {w W W' : World} (h : ResAt w W) (hb : Below W.heap.size W W') : ResAt w W' :=
  ⟨(hb.block _ (blk_facts h.1).2.2.2.2).trans h.1, h.2.trans (hb.mono h.2.size)⟩
theorem refrange_no (lo hi : B64) (w : World) (h : u hi < u lo) : Calls Try.prog 60 #[.int .u64 (u lo), .int .u64 (u hi)] w (Gives (tnV 0#64 (~~~0#64)) w) := by
  unfold Gives tnV
  go_enter Try.func60, Try.ntmps60
  go_wp2
  refine bodyPost_ret (v := .agg #[.int .u64 0, .int .u64 18446744073709551615]) (by simp [results, Try.results60, go_sem]) rfl ⟨rfl, ?_⟩
  exact below_box _ _
/-- What the loop keeps: p is a power of two, all below it is in the mask, and it is not above what they haven't in common. -/
def RgRel (w0 : World) (lo hi : B64) (a b : Value) (W : World) : Prop := ∃ k : Nat, k ≤ 63 ∧ k ≤ rgL lo hi ∧ a = .int .u64 (2 ^ k) ∧ b = .int .u64 (2 ^ k - 1) ∧ ResAt w0 W
theorem pv_lowM64 (lo : B64) : pv lo (lowM 64) = 0#64 := by
  apply BitVec.eq_of_getLsbD_eq
  intro i hi
  unfold lowM
  rw [pv_bit _ _ _ hi, low_bit _ _ _ hi, not_bit _ _ hi]
  simp [hi]
set_option maxHeartbeats 2000000 in
theorem range_ref (lo hi : B64) (w : World) (h : u lo ≤ u hi) : Calls Try.prog 60 #[.int .u64 (u lo), .int .u64 (u hi)] w (Gives (tnV (pv lo (lowM (rgL lo hi))) (lowM (rgL lo hi))) w) := by
  have hd : decide (u hi < u lo) = false := by simp; omega
  have b1 := u_bd lo
  have b2 := u_bd hi
  have HR := Lib.hid (res_new w)
  unfold Gives tnV
  go_enter Try.func60, Try.ntmps60
  go_wp2
  obtain ⟨W0, hW0⟩ : ∃ W, w.alloc (Obj.cells #[Value.int IntKind.u64 0, Value.int IntKind.u64 0] 24) = W := ⟨_, rfl⟩
  replace HR := Lib.hid (show ResAt w W0 from by rw [← hW0]; exact HR.out)
  rw [hW0]
  clear hW0
  go_loopw [5, 6] (fun a b wr => RgRel w lo hi a b wr) (fun a _ _ => (18446744073709551616 - intOf a).toNat)
  case atStart => exact ⟨0, by omega, by omega, rfl, rfl, HR.out⟩
  case round =>
    obtain ⟨k, hk, hL, rfl, rfl, hR⟩ := hrel
    have HR' := Lib.hid hR
    clear hR HR
    have hp := pow_le63 (n := k) hk
    have hsame := rg_same lo hi k (by omega)
    have hdm : u lo / 2 ^ k * 2 ^ k ≤ u lo := Int.ediv_mul_le _ (by omega)
    have d1 := div_bd k b1.1 b1.2
    have d2 := div_bd k b2.1 b2.2
    have hm0 : 0 ≤ u lo / 2 ^ k * 2 ^ k := Int.mul_nonneg d1.1 (by omega)
    by_cases hend : rgL lo hi ≤ k
    · obtain rfl : k = rgL lo hi := by omega
      have e1 := Lib.hid (u_lowM (rgL lo hi) (by omega))
      have e2 := Lib.hid (pv_lowM lo (rgL lo hi))
      have hq := hsame.2 (Nat.le_refl _)
      obtain ⟨P, hP⟩ : ∃ P, (2 : Int) ^ rgL lo hi = P := ⟨_, rfl⟩
      obtain ⟨A, hA⟩ : ∃ A, u lo / 2 ^ rgL lo hi = A := ⟨_, rfl⟩
      have HE1 := Lib.hid (show u (lowM (rgL lo hi)) = P - 1 by rw [e1.out, hP])
      have HE2 := Lib.hid (show u (pv lo (lowM (rgL lo hi))) = A * P by rw [e2.out, hA, hP])
      rw [hA] at hq hm0 hdm d1
      rw [hP] at hp hdm hm0 ⊢ hA hq
      have hq' := hq.symm
      clear hsame hend hq hL hP e1 e2 d2
      obtain ⟨c4, c5, f4, f5, z2⟩ := blk_facts HR'.out.1
      go_wp2
      go_quiet (fail)
      go_wp2
      refine bodyPost_ret (v := .agg #[.int .u64 (A * P), .int .u64 (P - 1)]) (by simp [results, Try.results60, go_sem, c4, c5]) rfl ⟨by rw [HE1.out, HE2.out], ?_⟩
      exact ((below_drews HR'.out.2 _).setCell (by simp) _).setCell (by simp) _
    · have hne : ¬ u lo / 2 ^ k = u hi / 2 ^ k := fun e => hend (hsame.1 e)
      have hL64 := rgL_64 lo hi
      obtain ⟨c4, c5, f4, f5, z2⟩ := blk_facts HR'.out.1
      by_cases h63 : k = 63
      · have hL64' : rgL lo hi = 64 := by omega
        subst h63
        have eP : (2 : Int) ^ 63 = 9223372036854775808 := by decide
        rw [eP] at hne ⊢
        have HL := Lib.hid hL64'
        obtain ⟨A, hA⟩ : ∃ A, u lo / 9223372036854775808 = A := ⟨_, rfl⟩
        obtain ⟨B, hB⟩ : ∃ B, u hi / 9223372036854775808 = B := ⟨_, rfl⟩
        rw [hA, hB] at hne
        clear hsame hend hL hL64 hL64' eP hdm hm0 d1 d2 hp
        go_wp2
        go_quiet (fail)
        go_wp2
        refine bodyPost_ret (v := .agg #[.int .u64 0, .int .u64 18446744073709551615]) (by simp [results, Try.results60, go_sem, c4, c5]) rfl ⟨?_, ?_⟩
        · rw [HL.out, pv_lowM64, u_lowM 64 (Nat.le_refl _)]; rfl
        · exact ((below_drews HR'.out.2 _).setCell (by simp) _).setCell (by simp) _
      · have hp2 := pow_le63 (n := k + 1) (by omega)
        have hs := Lib.hid (Int.pow_succ (2 : Int) k)
        have hLk := Lib.hid (show k + 1 ≤ rgL lo hi by omega)
        have hP63 : (2 : Int) ^ k ≤ 4611686018427387904 := by rw [hs.out] at hp2; omega
        have hk1 := Lib.hid (show k + 1 ≤ 63 by omega)
        obtain ⟨P, hP⟩ : ∃ P, (2 : Int) ^ k = P := ⟨_, rfl⟩
        rw [hP] at hne hp hP63 ⊢
        obtain ⟨A, hA⟩ : ∃ A, u lo / P = A := ⟨_, rfl⟩
        obtain ⟨B, hB⟩ : ∃ B, u hi / P = B := ⟨_, rfl⟩
        rw [hA, hB] at hne
        have HP := Lib.hid hP
        clear hsame hend hL hL64 hdm hm0 d1 d2 hp2 hP h63
        go_wp2
        go_quiet (fail)
        go_wp2
        go_roundw
        case rel =>
          refine ⟨k + 1, hk1.out, hLk.out, ?_, ?_, res_drews HR'.out _⟩
          · rw [hs.out, HP.out, Int.mul_comm]
          · rw [hs.out, HP.out]; congr 1; omega
        case measure => simp [intOf]; omega
end Go.Proofs.Ytbljijbmjccalaa
