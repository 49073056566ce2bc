/-
  Proved here: what Load, Path and Inside of the document's objects give. Conditions: an object that reads as one.
-/
import Derived.Test.YtcdpmggjdmibjaaOBytes
import Derived.Deep.WholeRow
namespace Go.Proofs.Ytcdpmggjdmibjaa
open Go.RowKit

theorem below_drewN (w : World) (n : Nat) : Below w.heap.size w (w.drewN n) := ⟨rfl, rfl, rfl, Nat.le_refl _, fun _ _ => rfl⟩
theorem bsL_in (x : Int) : ∀ k, ∀ z ∈ bsL x k, 0 ≤ z ∧ z ≤ 255
  | 0, z, h => by simp [bsL] at h
  | k + 1, z, h => by
    rw [bsL, List.mem_append] at h
    rcases h with h | h
    · exact bsL_in x k z h
    · simp at h; omega
theorem bytesF_in (f : List Int) : ∀ i, ∀ z ∈ bytesF f i, 0 ≤ z ∧ z ≤ 255
  | 0, z, h => by simp [bytesF] at h
  | i + 1, z, h => by
    rw [bytesF, List.mem_append] at h
    rcases h with h | h
    · exact bytesF_in f i z h
    · exact bsL_in _ 8 z h
theorem bytesIn_of {zs : List Int} (h : ∀ z ∈ zs, 0 ≤ z ∧ z ≤ 255) : BytesIn zs := by
  intro j
  rw [List.getD_eq_getElem?_getD]
  cases e : zs[j]? with
  | none => simp
  | some z => exact h z (List.mem_of_getElem? e)
/-- What a load of an object tells. -/
def loadO (o : Kob) (at_ n : Int) : Value := if thB 64 at_ n then .tuple #[.int .u64 (ldF (bytesF o.f 8) at_.toNat n.toNat), .bool true] else .tuple #[.int .u64 0, .bool false]
/-- A load of a whole object, veiled. -/
def loadObjV (v : Value) : Sem Value := Instr.loadAt 38 v
theorem loadObj_veil (v : Value) : Instr.loadAt 38 v = loadObjV v := rfl
theorem run_loadObj (w : World) (b : Nat) (X : Array Value) (T : TypeId) (fz : Nat × Nat) (h : w.heap[b]? = some (.cells X T fz)) (hs : X.size = 13) : (loadObjV (.pointer (some ⟨b, 0, none⟩))).run Try.prog w = .ok (.agg X) w := by
  unfold loadObjV
  simp only [Instr.loadAt, Instr.sureAddr, Sem.run_bind, Sem.run_pure, Result.andThen_ok]
  exact run_loadVar_row w b T 38 X fz _ h Try.underlying38 rfl (by rw [hs]; kernel_rfl)
attribute [local go_sem ↓] loadObj_veil
theorem load_none (X : Array Value) (o : Kob) (at_ n : Int) (w : World) (hn : -9223372036854775808 ≤ n ∧ n ≤ 9223372036854775807) (h : thB 64 at_ n = false) : Calls Try.prog 13 #[.agg X, .int .i64 at_, .int .i64 n] w (Tells (loadO o at_ n) w) := by
  have e : loadO o at_ n = .tuple #[.int .u64 0, .bool false] := by unfold loadO; rw [h]; rfl
  rw [e]
  have HT := Lib.hid h
  clear h e
  cases hs : sizeB n
  · go_enter Try.func13, Try.ntmps13
    go_wp2_with (go_at_call 30; refine (size_ref _ _).mono ?_; rintro e w1 ⟨rfl, rfl⟩)
    go_ret2
    exact ⟨rfl, (Below.refl _ _).alloc (Nat.le_refl _) _⟩
  · have hb := size_bd hs
    by_cases h0 : at_ < 0
    · go_enter Try.func13, Try.ntmps13
      go_wp2_with (go_at_call 30; refine (size_ref _ _).mono ?_; rintro e w1 ⟨rfl, rfl⟩)
      go_ret2
      exact ⟨rfl, (Below.refl _ _).alloc (Nat.le_refl _) _⟩
    · have h1 : 64 - n < at_ := by
        have h := HT.out
        unfold thB at h
        rw [hs] at h
        simp at h
        omega
      have h00 : 0 ≤ at_ := by omega
      have e64 : IntKind.i64.wrap (64 - n) = 64 - n := IntWalk.i64_in _ (by omega)
      go_enter Try.func13, Try.ntmps13
      go_wp2_with (go_at_call 30; refine (size_ref _ _).mono ?_; rintro e w1 ⟨rfl, rfl⟩)
      go_ret2
      exact ⟨rfl, (Below.refl _ _).alloc (Nat.le_refl _) _⟩
theorem load_some (X : Array Value) (o : Kob) (at_ n : Int) (w : World) (hx : ObX w X o) (h : thB 64 at_ n = true) : Calls Try.prog 13 #[.agg X, .int .i64 at_, .int .i64 n] w (Tells (loadO o at_ n) w) := by
  obtain ⟨hs, h0, h1⟩ := thB_true h
  have hb := size_bd hs
  obtain ⟨a, rfl⟩ := Int.eq_ofNat_of_zero_le h0
  obtain ⟨m, rfl⟩ := Int.eq_ofNat_of_zero_le (show 0 ≤ n by omega)
  have e : loadO o a m = .tuple #[.int .u64 (ldF (bytesF o.f 8) a m), .bool true] := by unfold loadO; rw [if_pos h, Int.toNat_natCast, Int.toNat_natCast]
  rw [e]
  have hld := run_loadObj (w.alloc (.cells X 38)) w.heap.size X 38 (0, 0) (heap_alloc_new _ _) hx.size
  have hxb : ObX (w.alloc (.cells X 38)) X o := hx.stay ((Below.refl _ _).alloc (Nat.le_refl _) _)
  have HXB := Lib.hid hxb
  generalize hy : ldF (bytesF o.f 8) a m = y
  have HY := Lib.hid hy
  have HZ := Lib.hid (bytesIn_of (bytesF_in o.f 8))
  have HL := Lib.hid (bytesF_len o.f 8)
  clear h e hxb hy hx
  have e64 : IntKind.i64.wrap (64 - (m : Int)) = 64 - m := IntWalk.i64_in _ (by omega)
  go_enter Try.func13, Try.ntmps13
  go_wp2_with (go_at_call 30; refine (size_ref _ _).mono ?_; rintro e w1 ⟨rfl, rfl⟩)
  refine (bytes_obj X o _ HXB.out).mono ?_
  rintro e w2 ⟨A, c, rfl, hb2, hrow⟩
  obtain ⟨g, rfl, hg, hgl, hr⟩ := hrow (by rw [HL.out]; omega)
  rw [HL.out] at hr ⊢
  have HB2 := Lib.hid hb2
  have HR := Lib.hid hr
  clear hb2 hr hrow
  go_wp2_with fail
  refine (load_ref g 0 64 c a m (bytesF o.f 8) _ (by unfold maxLen; omega) (by omega) (by omega) HR.out HZ.out).mono ?_
  rintro e w3 ⟨rfl, rfl⟩
  rw [HY.out]
  go_wp2
  go_ret2
  exact ⟨rfl, below_box HB2.out⟩
theorem load_obj (X : Array Value) (o : Kob) (at_ n : Int) (w : World) (hx : ObX w X o) (hn : -9223372036854775808 ≤ n ∧ n ≤ 9223372036854775807) : Calls Try.prog 13 #[.agg X, .int .i64 at_, .int .i64 n] w (Tells (loadO o at_ n) w) := by
  cases h : thB 64 at_ n
  · exact load_none X o at_ n w hn h
  · exact load_some X o at_ n w hx h
end Go.Proofs.Ytcdpmggjdmibjaa
