/-
  Proved here: what Has and Range of the document's answers return. Conditions: none.
-/
import Derived.Test.YtbljijbmjccalaaHRefBit
namespace Go.Proofs.Ytbljijbmjccalaa
open Go.RowKit

theorem cells2_keep {p : Nat} {w0 W w2 : World} {a b : Value} (h : W.cell? ⟨p, 0, none⟩ = some a ∧ W.cell? ⟨p, 1, none⟩ = some b ∧ Below w0.heap.size w0 W) (hb : Below W.heap.size W w2) :
    w2.cell? ⟨p, 0, none⟩ = some a ∧ w2.cell? ⟨p, 1, none⟩ = some b ∧ Below w0.heap.size w0 w2 := keep2 h hb
def BoxAt (w0 : World) (v m : B64) (W : World) : Prop := W.cell? ⟨w0.heap.size, 0, none⟩ = some (.int .u64 (u v)) ∧ W.cell? ⟨w0.heap.size, 1, none⟩ = some (.int .u64 (u m)) ∧ Below w0.heap.size w0 W
def HasRel (w0 : World) (v m x : B64) (a b : Value) (W : World) : Prop := ∃ k : Nat, k ≤ 64 ∧ a = .int .u64 (u x / 2 ^ k) ∧ b = .int .i64 k ∧ (∀ i, i < k → hasAt v m x i = true) ∧ BoxAt w0 v m W
theorem hasAt_of {v m x : B64} {k : Nat} {a z o : Bool} (hx : x.getLsbD k = a) (hz : bz v m k = z) (ho : bo v m k = o) : hasAt v m x k = if a = true then o else z := by
  unfold hasAt
  rw [hx, hz, ho]
set_option maxHeartbeats 2000000 in
theorem has_ref (v m x : B64) (w : World) : Calls Try.prog 19 #[tnV v m, .int .u64 (u x)] w (Gives (.bool (hasB v m x)) w) := by
  have hx := u_bd x
  unfold Gives tnV
  go_enter Try.func19, Try.ntmps19
  go_wp2
  have hS0 := new2 w (.int .u64 (u v)) (.int .u64 (u m)) 24
  obtain ⟨W0, hW0⟩ : ∃ W, w.alloc (Obj.cells #[Value.int IntKind.u64 (u v), Value.int IntKind.u64 (u m)] 24) = W := ⟨_, rfl⟩
  rw [hW0] at hS0 ⊢
  clear hW0
  have HS := Lib.hid hS0
  clear hS0
  go_loopw [1, 5] (fun a b wr => HasRel w v m x a b wr) (fun _ b _ => 64 - (intOf b).toNat)
  case atStart => exact ⟨0, by omega, by simp, rfl, by omega, HS.out⟩
  case round =>
    obtain ⟨k, hk, rfl, rfl, hall, hS⟩ := hrel
    have HA := Lib.hid hall
    obtain ⟨c0, c1, hB⟩ := hS
    have HS' := Lib.hid (show BoxAt w v m wr from ⟨c0, c1, hB⟩)
    clear hall hB HS
    have b1 := div_bd k hx.1 hx.2
    by_cases hlt : k < 64
    · have d1 := div_step (u x) k
      have e1 := bit_dec x k
      obtain ⟨p, hp⟩ : ∃ p, u x / 2 ^ k = p := ⟨_, rfl⟩
      rw [hp] at d1 b1 e1 ⊢
      have D1 := Lib.hid d1
      clear d1 hp
      cases hxb : x.getLsbD k <;> cases hzb : bz v m k <;> cases hob : bo v m k
      all_goals
        have HH := Lib.hid (hasAt_of hxb hzb hob)
        have HZ := Lib.hid hzb
        have HO := Lib.hid hob
        simp only [hxb, Bool.false_eq_true, if_false, if_true] at e1
        clear hxb hzb hob
        go_wp2_with (go_at_call 37; refine (bit_ref v m k (by omega) _).mono ?_; rw [HZ.out, HO.out]; rintro e w1 ⟨rfl, hb⟩; have HS1 := Lib.hid (show BoxAt w v m w1 from keep2 HS'.out hb); clear hb)
        first
          | (go_ret
             exact ⟨by rw [has_not v m x k hlt HH.out]; rfl, HS1.out.2.2⟩)
          | (go_roundw
             case rel =>
               refine ⟨k + 1, by omega, by rw [D1.out], by go_num, ?_, HS1.out⟩
               intro i hi
               by_cases e : i = k
               · subst e; exact HH.out
               · exact HA.out i (by omega)
             case measure => simp [intOf]; omega)
    · obtain rfl : k = 64 := by omega
      go_wp2
      go_ret
      exact ⟨by rw [(has_all v m x).2 HA.out]; rfl, HS'.out.2.2⟩
end Go.Proofs.Ytbljijbmjccalaa
