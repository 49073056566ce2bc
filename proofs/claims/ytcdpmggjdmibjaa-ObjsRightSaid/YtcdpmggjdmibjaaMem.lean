/-
  Proved here: what Load, Store and the inner 'there' of package words, and There and Load of the document's answers, return and write, over a row of bytes in memory. Conditions: the row's cells hold bytes; where bytes are written, they are not frozen.
-/
import Derived.Test.YtcdpmggjdmibjaaInts
import Derived.Test.YtcdpmggjdmibjaaPlain
import Derived.Lib.Hide
import Derived.Lib.VarintMem
import Derived.Laws.IdiomCopy
namespace Go.Proofs.Ytcdpmggjdmibjaa
open Go.RowKit

/-- Are n bytes there, from at on? -/
def thB (len : Nat) (at_ n : Int) : Bool := sizeB n && decide (0 ≤ at_) && decide (at_ + n ≤ len)
theorem size_bd {n : Int} (h : sizeB n = true) : 1 ≤ n ∧ n ≤ 8 := by
  simp [sizeB] at h; omega

theorem there_words (a : Option Addr) (len cap : Nat) (p n : Int) (w : World) (hl : len ≤ maxLen) (hp : -9223372036854775808 ≤ p ∧ p ≤ 9223372036854775807) :
    Calls Try.prog 41 #[.slice a len cap, .int .i64 p, .int .i64 n] w (Ret (.bool (thB len p n)) w) := by
  unfold Ret
  unfold maxLen at hl
  by_cases hs : sizeB n = true
  · have hb := size_bd hs
    by_cases h0 : 0 ≤ p
    · by_cases h1 : p ≤ len - n
      all_goals
        have e : thB len p n = decide (p ≤ len - n) := by unfold thB; rw [hs, decide_eq_true h0, Bool.true_and, Bool.true_and]; exact decide_eq_decide.2 (by omega)
        rw [e]
        clear e
        go_enter Try.func41, Try.ntmps41
        go_wp2_with (go_at_call 44; refine (size_words _ _).mono ?_; rintro e w' ⟨rfl, rfl⟩)
        go_ret
        exact ⟨ret_bool (by simp [h1]), rfl⟩
    · have e : thB len p n = false := by unfold thB; rw [decide_eq_false h0]; simp
      rw [e]
      clear e
      go_enter Try.func41, Try.ntmps41
      go_wp2_with (go_at_call 44; refine (size_words _ _).mono ?_; rintro e w' ⟨rfl, rfl⟩)
      go_ret
      exact ⟨ret_bool (by simp), rfl⟩
  · have hs' : sizeB n = false := by simpa using hs
    have e : thB len p n = false := by unfold thB; rw [hs']; simp
    rw [e]
    clear e hs
    go_enter Try.func41, Try.ntmps41
    go_wp2_with (go_at_call 44; refine (size_words _ _).mono ?_; rintro e w' ⟨rfl, rfl⟩)
    go_ret
    exact ⟨ret_bool (by simp), rfl⟩

/-- The cells of a row of bytes. -/
def RowAt (w : World) (g off len : Nat) (zs : List Int) : Prop := ∀ j, j < len → w.cell? ⟨g, off + j, none⟩ = some (.int .u8 (zs.getD j 0))

/-- What is not there isn't loaded. -/
theorem load_no (a : Option Addr) (len cap : Nat) (p n : Int) (w : World) (hl : len ≤ maxLen) (hp : -9223372036854775808 ≤ p ∧ p ≤ 9223372036854775807) (ht : thB len p n = false) :
    Calls Try.prog 29 #[.slice a len cap, .int .i64 p, .int .i64 n] w (Ret (.tuple #[.int .u64 0, .bool false]) w) := by
  unfold Ret
  go_enter Try.func29, Try.ntmps29
  go_wp2_with (go_at_call 41; refine (there_words _ _ _ _ _ _ hl hp).mono ?_; rintro e w' ⟨rfl, rfl⟩)
  go_ret2
  exact ⟨rfl, rfl⟩
theorem store_no (a : Option Addr) (len cap : Nat) (p n x : Int) (w : World) (hl : len ≤ maxLen) (hp : -9223372036854775808 ≤ p ∧ p ≤ 9223372036854775807) (ht : thB len p n = false) :
    Calls Try.prog 40 #[.slice a len cap, .int .i64 p, .int .i64 n, .int .u64 x] w (Ret (.bool false) w) := by
  unfold Ret
  go_enter Try.func40, Try.ntmps40
  go_wp2_with (go_at_call 41; refine (there_words _ _ _ _ _ _ hl hp).mono ?_; rintro e w' ⟨rfl, rfl⟩)
  go_ret
  exact ⟨rfl, rfl⟩
theorem thB_true {len : Nat} {p n : Int} (h : thB len p n = true) : sizeB n = true ∧ 0 ≤ p ∧ p + n ≤ len := by
  simpa [thB, and_assoc] using h
theorem load_round (zs : List Int) (p k : Nat) {y z : Int} (hk : k ≤ 7) (hy : ldF zs p k = y) (hz : zs.getD (p + k) 0 = z) (hyb : 0 ≤ y ∧ y < 256 ^ k) (hzb : 0 ≤ z ∧ z ≤ 255) :
    bits BinOp.or IntKind.u64 y (IntKind.u64.wrap (z * 2 ^ (8 * k))) = ldF zs p (k + 1) := by
  have hp : (256 : Int) ^ k ≤ 256 ^ 7 := by
    have h : (256 : Nat) ^ k ≤ 256 ^ 7 := Nat.pow_le_pow_right (by decide) hk
    have h2 : ((256 ^ k : Nat) : Int) ≤ ((256 ^ 7 : Nat) : Int) := Int.ofNat_le.2 h
    rwa [Int.natCast_pow, Int.natCast_pow] at h2
  have h0 := pow256_pos k
  have hm : z * 256 ^ k ≤ 255 * 256 ^ 7 := Int.mul_le_mul hzb.2 hp (by omega) (by omega)
  have hm0 : 0 ≤ z * 256 ^ k := Int.mul_nonneg hzb.1 (by omega)
  have e : (2 : Int) ^ (8 * k) = 256 ^ k := by rw [Int.pow_mul]; rfl
  rw [e, IntWalk.u64_in _ (by omega), or_shift y z k hk hyb.1 hyb.2 hzb.1 hzb.2, ldF_snoc, hy, hz]
/-- What is there is loaded. -/
theorem load_yes (g off len cap p n : Nat) (zs : List Int) (w : World) (hl : len ≤ maxLen) (ht : thB len p n = true) (hr : RowAt w g off len zs) (hz : BytesIn zs) :
    Calls Try.prog 29 #[.slice (some ⟨g, off, none⟩) len cap, .int .i64 p, .int .i64 n] w (Ret (.tuple #[.int .u64 (ldF zs p n), .bool true]) w) := by
  unfold Ret
  obtain ⟨hs, -, hpn⟩ := thB_true ht
  have hb := size_bd hs
  clear hs
  have hl' := hl
  unfold maxLen at hl'
  go_enter Try.func29, Try.ntmps29
  go_wp2_with (go_at_call 41; refine (there_words _ _ _ _ _ _ hl (by omega)).mono ?_; rintro e w' ⟨rfl, rfl⟩)
  clear ht
  go_loop [8, 16] (fun v i => ∃ k : Nat, k ≤ n ∧ i = .int .i64 k ∧ v = .int .u64 (ldF zs p k)) (fun _ i => n - (intOf i).toNat)
  case atStart => exact ⟨0, by omega, rfl, rfl⟩
  case round =>
    obtain ⟨k, hk, rfl, rfl⟩ := hrel
    by_cases hlt : k < n
    · have hcell := hr (p + k) (by omega)
      have hzb := hz (p + k)
      have hld := ldF_bd zs hz k p
      obtain ⟨z, hz1⟩ : ∃ z, zs.getD (p + k) 0 = z := ⟨_, rfl⟩
      obtain ⟨y, hy1⟩ : ∃ y, ldF zs p k = y := ⟨_, rfl⟩
      rw [hz1] at hcell hzb
      rw [hy1] at hld ⊢
      have H1 := Lib.hid hz1
      have H2 := Lib.hid hy1
      clear hz1 hy1 hz
      go_wp2
      go_round
      case rel => exact ⟨k + 1, by omega, by go_num, congrArg _ (load_round zs p k (by omega) H2.out H1.out hld hzb)⟩
      case measure => simp [intOf]; omega
    · obtain rfl : k = n := by omega
      go_wp2
      go_ret2
      exact ⟨rfl, rfl⟩

theorem ref_round (zs : List Int) (p k n : Nat) {y z : Int} (hk : k + 1 ≤ n) (hn : n ≤ 8) (hy : ldF zs (p + (k + 1)) (n - (k + 1)) = y) (hz : zs.getD (p + k) 0 = z)
    (hyb : 0 ≤ y ∧ y < 256 ^ (n - (k + 1))) (hzb : 0 ≤ z ∧ z ≤ 255) : IntKind.u64.wrap (IntKind.u64.wrap (256 * y) + z) = ldF zs (p + k) (n - k) := by
  have hp : (256 : Int) ^ (n - (k + 1)) ≤ 256 ^ 7 := by
    have h : (256 : Nat) ^ (n - (k + 1)) ≤ 256 ^ 7 := Nat.pow_le_pow_right (by decide) (by omega)
    have h2 : ((256 ^ (n - (k + 1)) : Nat) : Int) ≤ ((256 ^ 7 : Nat) : Int) := Int.ofNat_le.2 h
    rwa [Int.natCast_pow, Int.natCast_pow] at h2
  have e1 : IntKind.u64.wrap (256 * y) = 256 * y := IntWalk.u64_in _ ⟨by omega, by omega⟩
  have e2 : IntKind.u64.wrap (256 * y + z) = 256 * y + z := IntWalk.u64_in _ ⟨by omega, by omega⟩
  rw [e1, e2, show n - k = n - (k + 1) + 1 by omega, ldF, hz, show p + k + 1 = p + (k + 1) by omega, hy, Int.add_comm]
/-- The document's own number of bytes. -/
theorem load_ref (g off len cap p n : Nat) (zs : List Int) (w : World) (hl : len ≤ maxLen) (hn : n ≤ 8) (hpn : p + n ≤ len) (hr : RowAt w g off len zs) (hz : BytesIn zs) :
    Calls Try.prog 31 #[.slice (some ⟨g, off, none⟩) len cap, .int .i64 p, .int .i64 n] w (Ret (.int .u64 (ldF zs p n)) w) := by
  unfold Ret
  unfold maxLen at hl
  go_enter Try.func31, Try.ntmps31
  go_wp2
  go_loop [7, 8] (fun v i => ∃ k : Nat, k ≤ n ∧ i = .int .i64 ((k : Int) - 1) ∧ v = .int .u64 (ldF zs (p + k) (n - k))) (fun _ i => (intOf i + 1).toNat)
  case atStart => exact ⟨n, by omega, rfl, by simp [ldF]⟩
  case round =>
    obtain ⟨k, hk, rfl, rfl⟩ := hrel
    by_cases hlt : 0 < k
    · obtain ⟨k, rfl⟩ : ∃ m, k = m + 1 := ⟨k - 1, by omega⟩
      have hcell := hr (p + k) (by omega)
      have hzb := hz (p + k)
      have hld := ldF_bd zs hz (n - (k + 1)) (p + (k + 1))
      obtain ⟨z, hz1⟩ : ∃ z, zs.getD (p + k) 0 = z := ⟨_, rfl⟩
      obtain ⟨y, hy1⟩ : ∃ y, ldF zs (p + (k + 1)) (n - (k + 1)) = y := ⟨_, rfl⟩
      rw [hz1] at hcell hzb
      rw [hy1] at hld ⊢
      have H1 := Lib.hid hz1
      have H2 := Lib.hid hy1
      clear hz1 hy1 hz
      have e : ((k + 1 : Nat) : Int) - 1 = (k : Int) := by omega
      rw [e]
      clear e
      go_wp2
      go_round
      case rel => exact ⟨k, by omega, rfl, congrArg _ (ref_round zs p k n (by omega) (by omega) H2.out H1.out hld hzb)⟩
      case measure => simp [intOf]
    · obtain rfl : k = 0 := by omega
      go_wp2
      go_ret
      exact ⟨rfl, rfl⟩

/-! ### Store -/
def u8s (zs : List Int) : List Value := zs.map (Value.int .u8)
theorem u8s_length (zs : List Int) : (u8s zs).length = zs.length := by simp [u8s]
theorem store_round {w wr : World} {g off p k : Nat} {x : Int} (h : wr = w.setCells g (off + p) (u8s (bsL x k))) :
    wr.setCell ⟨g, off + (p + k), none⟩ (.int .u8 (x / 2 ^ (8 * k) % 256)) = w.setCells g (off + p) (u8s (bsL x (k + 1))) := by
  have e : (2 : Int) ^ (8 * k) = 256 ^ k := by rw [Int.pow_mul]; rfl
  have hl : off + (p + k) = off + p + (u8s (bsL x k)).length := by rw [u8s_length, bsL_length]; omega
  rw [h, e, hl, Lib.setCells_snoc_w]
  simp [u8s, bsL]
/-- What is there is written: byte by byte. -/
theorem store_yes (g off len cap p n : Nat) (x : Int) (zs : List Int) (w : World) (hl : len ≤ maxLen) (ht : thB len p n = true) (hr : RowAt w g off len zs)
    (hf : ∀ j, j < len → w.frozen? ⟨g, off + j, none⟩ = false) :
    Calls Try.prog 40 #[.slice (some ⟨g, off, none⟩) len cap, .int .i64 p, .int .i64 n, .int .u64 x] w (Ret (.bool true) (w.setCells g (off + p) (u8s (bsL x n)))) := by
  unfold Ret
  obtain ⟨hs, -, hpn⟩ := thB_true ht
  have hb := size_bd hs
  clear hs
  have hl' := hl
  unfold maxLen at hl'
  go_enter Try.func40, Try.ntmps40
  go_wp2_with (go_at_call 41; refine (there_words _ _ _ _ _ _ hl (by omega)).mono ?_; rintro e w' ⟨rfl, rfl⟩)
  clear ht
  go_loopw [16] (fun i wr => ∃ k : Nat, k ≤ n ∧ i = .int .i64 k ∧ wr = w.setCells g (off + p) (u8s (bsL x k))) (fun i _ => n - (intOf i).toNat)
  case atStart => exact ⟨0, by omega, rfl, rfl⟩
  case round =>
    obtain ⟨k, hk, rfl, hw⟩ := hrel
    by_cases hlt : k < n
    · have hcell : wr.cell? ⟨g, off + (p + k), none⟩ = some (.int .u8 (zs.getD (p + k) 0)) := by
        rw [hw, World.cell?_setCells_out _ _ _ _ _ (fun _ _ => .inr (by rw [u8s_length, bsL_length]; simp; omega))]
        exact hr (p + k) (by omega)
      have hfr : wr.frozen? ⟨g, off + (p + k), none⟩ = false := by
        rw [hw, World.frozen?_setCells]
        exact hf (p + k) (by omega)
      have HW := Lib.hid hw
      clear hw
      go_wp2
      go_roundw
      case rel => exact ⟨k + 1, by omega, by go_num, store_round HW.out⟩
      case measure => simp [intOf]; omega
    · obtain rfl : k = n := by omega
      go_wp2
      go_ret
      exact ⟨rfl, rfl⟩
end Go.Proofs.Ytcdpmggjdmibjaa
