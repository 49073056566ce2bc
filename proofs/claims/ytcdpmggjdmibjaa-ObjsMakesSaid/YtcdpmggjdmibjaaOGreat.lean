/-
  Proved here: what Right of the document's contexts and Great of the laws give. Conditions: a context that reads as one.
-/
import Derived.Test.YtcdpmggjdmibjaaORight
namespace Go.Proofs.Ytcdpmggjdmibjaa
open Go.RowKit

theorem right_ref (C : Array Value) (c : Cx) (w : World) (hx : CxX w C c) : Calls Try.prog 9 #[.agg C] w (Tells (.bool (rightB c)) w) := by
  by_cases h : 1 ≤ c.hook ∧ c.hook ≤ 16
  · exact right_yes C c c.hook.toNat w hx (by omega) (by omega) (by omega)
  · have e : rightB c = false := by
      unfold rightB lettH
      rw [if_neg h]
      rfl
    rw [e]
    exact right_no C c w hx h
/-- Some bool, with nothing turned. -/
def SomeB (w : World) (e : Ending) (w' : World) : Prop := ∃ b : Bool, e = .returned (.bool b) ∧ Below w.heap.size w w'
theorem great_law (C : Array Value) (c : Cx) (w : World) (hx : CxX w C c) : Calls Try.prog 7 #[.agg C] w (SomeB w) := by
  obtain ⟨a, k, h9, hrow⟩ := hx.c9
  have hbo := hx.bo
  unfold maxLen at hbo
  obtain ⟨n, hn⟩ : ∃ n, c.objs.length = n := ⟨_, rfl⟩
  rw [hn] at h9 hbo
  have hc9 : (w.alloc (.cells C 26)).cell? ⟨w.heap.size, 9, none⟩ = some (.slice a n k) := (box_cells w C 26 9).trans h9
  have hb0 : Below w.heap.size w (w.alloc (.cells C 26)) := (Below.refl _ _).alloc (Nat.le_refl _) _
  have HN := Lib.hid hn
  have HR := Lib.hid (hrow.stay hb0)
  have HB := Lib.hid hb0
  clear hn hrow hb0 hx h9
  by_cases h20 : 20 < n
  · go_enter Try.func7, Try.ntmps7
    go_wp2
    go_ret
    exact ⟨true, rfl, HB.out⟩
  · go_enter Try.func7, Try.ntmps7
    go_wp2
    go_loop [3] (fun x => ∃ i : Nat, i ≤ n ∧ x = .int .i64 i) (fun x => n - (intOf x).toNat)
    case atStart => exact ⟨0, by omega, rfl⟩
    case round =>
      obtain ⟨i, hi, rfl⟩ := hrel
      by_cases hlt : i < n
      · obtain ⟨p, off, rfl, -, hr⟩ := HR.out (by rw [HN.out]; omega)
        obtain ⟨X, hX, hcs⟩ := hr i (by rw [HN.out]; exact hlt)
        obtain ⟨a2, k2, h12, -⟩ := hX.x12
        have hc11 := (hcs 11 (by omega)).trans hX.x11
        have hc12 := (hcs 12 (by omega)).trans h12
        rw [← Nat.add_assoc] at hc11 hc12
        have hbp := hX.bp
        have hbu := hX.bu
        unfold maxLen at hbp hbu
        generalize (c.objs.getD i default).path = s at hc11 hbp
        generalize (c.objs.getD i default).up.length = u at hc12 hbu
        clear hcs hX hr h12 HR
        by_cases h200 : 200 < s.size
        · go_wp2
          go_ret
          exact ⟨true, rfl, HB.out⟩
        · by_cases h50 : 50 < u
          · go_wp2
            go_ret
            exact ⟨true, rfl, HB.out⟩
          · go_wp2
            go_round
            case rel => exact ⟨i + 1, by omega, by go_num⟩
            case measure => simp [intOf]; omega
      · go_wp2
        go_ret
        exact ⟨false, rfl, HB.out⟩
end Go.Proofs.Ytcdpmggjdmibjaa
