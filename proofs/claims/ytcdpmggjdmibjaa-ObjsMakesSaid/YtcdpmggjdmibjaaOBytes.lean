/-
  Proved here: what Bytes and Load of the document's objects give. Conditions: an object that reads as one.
-/
import Derived.Test.YtcdpmggjdmibjaaOBase
namespace Go.Proofs.Ytcdpmggjdmibjaa
open Go.RowKit

/-- The bytes of the first i fields. -/
def bytesF (f : List Int) : Nat → List Int
  | 0 => []
  | i + 1 => bytesF f i ++ bsL (f.getD i 0) 8
theorem bytesF_len (f : List Int) : ∀ i, (bytesF f i).length = 8 * i
  | 0 => rfl
  | i + 1 => by rw [bytesF, List.length_append, bytesF_len f i, bsL_length]; omega
theorem pow_step (x : Int) (k : Nat) : x / 256 ^ k / 256 = x / 256 ^ (k + 1) := by
  rw [Int.ediv_ediv_of_nonneg (Int.le_of_lt (pow256_pos k)), Int.pow_succ]
theorem ediv_bd {x : Int} (h0 : 0 ≤ x) (h1 : x ≤ 18446744073709551615) (k : Nat) : 0 ≤ x / 256 ^ k ∧ x / 256 ^ k ≤ 18446744073709551615 := by
  have hp := pow256_pos k
  refine ⟨Int.ediv_nonneg h0 (Int.le_of_lt hp), Int.le_trans ?_ h1⟩
  exact Int.ediv_le_self _ h0
theorem bytes_obj (X : Array Value) (o : Kob) (w : World) (hx : ObX w X o) : Calls Try.prog 32 #[.agg X] w (GaveB (bytesF o.f 8) w) := by
  have hxf := hx.xf
  have hbf := hx.bf
  obtain ⟨f, hf⟩ : ∃ f, o.f = f := ⟨_, rfl⟩
  rw [hf] at hxf hbf ⊢
  have HXF := Lib.hid hxf
  have HBF := Lib.hid hbf
  clear hxf hbf hf hx
  go_enter Try.func32, Try.ntmps32
  go_wp2
  go_loopw [3, 4] (fun v i wr => ∃ k : Nat, k ≤ 8 ∧ i = .int .i64 k ∧ OwnB (w.alloc (.cells X 38)) wr v (bytesF f k)) (fun _ i _ => 8 - (intOf i).toNat)
  case atStart => exact ⟨0, by omega, rfl, ownB_nil _⟩
  case round =>
    obtain ⟨k, hk, rfl, ho⟩ := hrel
    have HO := Lib.hid ho
    clear ho
    by_cases hlt : k < 8
    · have hcell : wr.cell? ⟨w.heap.size, 3 + k, none⟩ = some (.int .u64 (f.getD k 0)) := (box_stay HO.out.b _).trans (HXF.out k hlt)
      obtain ⟨x, hxk⟩ : ∃ x, f.getD k 0 = x := ⟨_, rfl⟩
      have hxb := HBF.out k
      rw [hxk] at hcell hxb
      have HX := Lib.hid hxk
      clear hxk
      have hkb : decide ((k : Int) < 8) = true := by simp; omega
      go_wp2
      clear hcell
      go_loopw [3, 5, 6] (fun v y j wx => ∃ m : Nat, m ≤ 8 ∧ j = .int .i64 m ∧ y = .int .u64 (x / 256 ^ m) ∧ OwnB (w.alloc (.cells X 38)) wx v (bytesF f k ++ bsL x m)) (fun _ _ j _ => 8 - (intOf j).toNat)
      case atStart => exact ⟨0, by omega, rfl, by simp, by simpa [bsL] using HO.out⟩
      case round =>
        obtain ⟨m, hm, rfl, rfl, ho2⟩ := hrel
        have HO2 := Lib.hid ho2
        clear ho2 HO
        by_cases hmt : m < 8
        · obtain ⟨y0, y1⟩ := ediv_bd hxb.1 hxb.2 m
          have hstep := pow_step x m
          generalize hy : x / 256 ^ m = y at *
          have HY := Lib.hid hy
          have HS := Lib.hid hstep
          clear hy hstep
          go_wp2_with (at_builtin; refine wpList_byte rfl _ _ rfl HO2.out rfl rfl (by rw [List.length_append, bytesF_len, bsL_length]; omega) ?_; intro v1 w1 ho3)
          go_roundw
          case rel => exact ⟨m + 1, by omega, by go_num, by rw [HS.out], by rw [bsL, HY.out, ← List.append_assoc]; exact ho3⟩
          case measure => simp [intOf]; omega
        · obtain rfl : m = 8 := by omega
          go_wp2
          go_roundw
          case rel => exact ⟨k + 1, by omega, by go_num, by rw [bytesF, HX.out]; exact HO2.out⟩
          case measure => simp [intOf]; omega
    · obtain rfl : k = 8 := by omega
      go_wp2
      obtain ⟨a, c, rfl, hrow⟩ := HO.out.gave
      go_ret
      refine ⟨a, c, rfl, below_box HO.out.b, fun hn => ?_⟩
      obtain ⟨g, ha, hg, hgl, hr⟩ := hrow hn
      exact ⟨g, ha, by simp at hg; omega, hgl, hr⟩
end Go.Proofs.Ytcdpmggjdmibjaa
