/-
  Proved here: what Same of the document's objects gives of objects that read alike. Conditions: both read as the same object.
-/
import Derived.Test.YtcdpmggjdmibjaaOLLaw
import Derived.ChangeKeysEq
namespace Go.Proofs.Ytcdpmggjdmibjaa
open Go.RowKit

theorem items_same (xs : Array Value) (W : World) : ∀ is : List Nat, (∀ i, i ∈ is → ∃ z, xs[i]? = some (.int .u64 z)) → (Op.eqItems 9999 22 1 xs xs is).run Try.prog W = .ok true W
  | [], _ => by simp [Op.eqItems]
  | i :: is, h => by
    obtain ⟨z, hz⟩ := h i (by simp)
    have hp : (part 22 xs (i * 1)).run Try.prog W = .ok (.int .u64 z) W := run_part_plain W (by kernel_rfl) (by rw [Nat.mul_one]; exact hz)
    have he : (Op.equalIn 9999 22 (.int .u64 z) (.int .u64 z)).run Try.prog W = .ok (z == z) W := run_equalIn_int W 9998 22 .u64 .u64 z z Try.underlying22
    have ih := items_same xs W is (fun j hj => h j (by simp [hj]))
    simp only [Op.eqItems, Sem.run_bind, hp, Result.andThen_ok, he, beq_self_eq_true]
    simpa using ih
theorem eq_fields (f0 f1 f2 f3 f4 f5 f6 f7 : Int) (W : World) : (Op.equalIn 10000 23 (.agg #[.int .u64 f0, .int .u64 f1, .int .u64 f2, .int .u64 f3, .int .u64 f4, .int .u64 f5, .int .u64 f6, .int .u64 f7]) (.agg #[.int .u64 f0, .int .u64 f1, .int .u64 f2, .int .u64 f3, .int .u64 f4, .int .u64 f5, .int .u64 f6, .int .u64 f7])).run Try.prog W = .ok true W := by
  cases hi : Try.prog.info? 22 with
  | none => exact absurd hi (by decide)
  | some i =>
    rw [run_equalIn_array W 9999 _ _ Try.underlying23 hi]
    refine items_same _ W _ fun j hj => ?_
    have hj8 : j < 8 := by simpa using hj
    match j, hj8 with
    | 0, _ => exact ⟨_, rfl⟩
    | 1, _ => exact ⟨_, rfl⟩
    | 2, _ => exact ⟨_, rfl⟩
    | 3, _ => exact ⟨_, rfl⟩
    | 4, _ => exact ⟨_, rfl⟩
    | 5, _ => exact ⟨_, rfl⟩
    | 6, _ => exact ⟨_, rfl⟩
    | 7, _ => exact ⟨_, rfl⟩
    | n + 8, h => exact absurd h (by omega)
set_option maxHeartbeats 1000000 in
set_option maxRecDepth 100000 in
theorem same_refl (X Y : Array Value) (o : Kob) (w : World) (hx : ObX w X o) (hy : ObX w Y o) : Calls Try.prog 20 #[.agg X, .agg Y] w (Tells (.bool true) w) := by
  obtain ⟨ax, kx, h12x, hrx⟩ := hx.x12
  obtain ⟨ay, ky, h12y, hry⟩ := hy.x12
  have hbu := hx.bu
  unfold maxLen at hbu
  obtain ⟨W, hW⟩ : ∃ W, (w.alloc (.cells X 38)).alloc (.cells Y 38) = W := ⟨_, rfl⟩
  have hb : Below w.heap.size w W := hW ▸ ((Below.refl _ _).alloc (Nat.le_refl _) _).alloc (by simp) _
  have bx : ∀ j, W.cell? ⟨w.heap.size, j, none⟩ = X[j]? := fun j => by rw [← hW, World.cell?_alloc_lt _ _ _ (by simp), box_cells]
  have bq : ∀ j, W.cell? ⟨w.heap.size + 1, j, none⟩ = Y[j]? := fun j => by
    have h := box_cells (w.alloc (.cells X 38)) Y 38 j
    rw [World.size_alloc, hW] at h
    exact h
  have hrx := hrx.stay hb
  have hry := hry.stay hb
  obtain ⟨t, d1, d2, f, s, up⟩ := o
  obtain ⟨n, hn⟩ : ∃ n, up.length = n := ⟨_, rfl⟩
  simp only at h12x h12y hrx hry hbu
  rw [hn] at h12x h12y hbu
  obtain ⟨f0, hf0⟩ : ∃ z, f.getD 0 0 = z := ⟨_, rfl⟩
  obtain ⟨f1, hf1⟩ : ∃ z, f.getD 1 0 = z := ⟨_, rfl⟩
  obtain ⟨f2, hf2⟩ : ∃ z, f.getD 2 0 = z := ⟨_, rfl⟩
  obtain ⟨f3, hf3⟩ : ∃ z, f.getD 3 0 = z := ⟨_, rfl⟩
  obtain ⟨f4, hf4⟩ : ∃ z, f.getD 4 0 = z := ⟨_, rfl⟩
  obtain ⟨f5, hf5⟩ : ∃ z, f.getD 5 0 = z := ⟨_, rfl⟩
  obtain ⟨f6, hf6⟩ : ∃ z, f.getD 6 0 = z := ⟨_, rfl⟩
  obtain ⟨f7, hf7⟩ : ∃ z, f.getD 7 0 = z := ⟨_, rfl⟩
  have x0 : W.cell? ⟨w.heap.size, 0, none⟩ = some (.int .i64 t) := (bx 0).trans (hx.x0)
  have x1 : W.cell? ⟨w.heap.size, 1, none⟩ = some (.int .i64 d1) := (bx 1).trans (hx.x1)
  have x2 : W.cell? ⟨w.heap.size, 2, none⟩ = some (.int .i64 d2) := (bx 2).trans (hx.x2)
  have x3 : W.cell? ⟨w.heap.size, 3, none⟩ = some (.int .u64 f0) := (bx 3).trans ((hx.xf 0 (by omega)).trans (by simp only [hf0]))
  have x4 : W.cell? ⟨w.heap.size, 4, none⟩ = some (.int .u64 f1) := (bx 4).trans ((hx.xf 1 (by omega)).trans (by simp only [hf1]))
  have x5 : W.cell? ⟨w.heap.size, 5, none⟩ = some (.int .u64 f2) := (bx 5).trans ((hx.xf 2 (by omega)).trans (by simp only [hf2]))
  have x6 : W.cell? ⟨w.heap.size, 6, none⟩ = some (.int .u64 f3) := (bx 6).trans ((hx.xf 3 (by omega)).trans (by simp only [hf3]))
  have x7 : W.cell? ⟨w.heap.size, 7, none⟩ = some (.int .u64 f4) := (bx 7).trans ((hx.xf 4 (by omega)).trans (by simp only [hf4]))
  have x8 : W.cell? ⟨w.heap.size, 8, none⟩ = some (.int .u64 f5) := (bx 8).trans ((hx.xf 5 (by omega)).trans (by simp only [hf5]))
  have x9 : W.cell? ⟨w.heap.size, 9, none⟩ = some (.int .u64 f6) := (bx 9).trans ((hx.xf 6 (by omega)).trans (by simp only [hf6]))
  have x10 : W.cell? ⟨w.heap.size, 10, none⟩ = some (.int .u64 f7) := (bx 10).trans ((hx.xf 7 (by omega)).trans (by simp only [hf7]))
  have x11 : W.cell? ⟨w.heap.size, 11, none⟩ = some (.string s) := (bx 11).trans (hx.x11)
  have x12 : W.cell? ⟨w.heap.size, 12, none⟩ = some (.slice ax n kx) := (bx 12).trans (h12x)
  have y0 : W.cell? ⟨w.heap.size + 1, 0, none⟩ = some (.int .i64 t) := (bq 0).trans (hy.x0)
  have y1 : W.cell? ⟨w.heap.size + 1, 1, none⟩ = some (.int .i64 d1) := (bq 1).trans (hy.x1)
  have y2 : W.cell? ⟨w.heap.size + 1, 2, none⟩ = some (.int .i64 d2) := (bq 2).trans (hy.x2)
  have y3 : W.cell? ⟨w.heap.size + 1, 3, none⟩ = some (.int .u64 f0) := (bq 3).trans ((hy.xf 0 (by omega)).trans (by simp only [hf0]))
  have y4 : W.cell? ⟨w.heap.size + 1, 4, none⟩ = some (.int .u64 f1) := (bq 4).trans ((hy.xf 1 (by omega)).trans (by simp only [hf1]))
  have y5 : W.cell? ⟨w.heap.size + 1, 5, none⟩ = some (.int .u64 f2) := (bq 5).trans ((hy.xf 2 (by omega)).trans (by simp only [hf2]))
  have y6 : W.cell? ⟨w.heap.size + 1, 6, none⟩ = some (.int .u64 f3) := (bq 6).trans ((hy.xf 3 (by omega)).trans (by simp only [hf3]))
  have y7 : W.cell? ⟨w.heap.size + 1, 7, none⟩ = some (.int .u64 f4) := (bq 7).trans ((hy.xf 4 (by omega)).trans (by simp only [hf4]))
  have y8 : W.cell? ⟨w.heap.size + 1, 8, none⟩ = some (.int .u64 f5) := (bq 8).trans ((hy.xf 5 (by omega)).trans (by simp only [hf5]))
  have y9 : W.cell? ⟨w.heap.size + 1, 9, none⟩ = some (.int .u64 f6) := (bq 9).trans ((hy.xf 6 (by omega)).trans (by simp only [hf6]))
  have y10 : W.cell? ⟨w.heap.size + 1, 10, none⟩ = some (.int .u64 f7) := (bq 10).trans ((hy.xf 7 (by omega)).trans (by simp only [hf7]))
  have y11 : W.cell? ⟨w.heap.size + 1, 11, none⟩ = some (.string s) := (bq 11).trans (hy.x11)
  have y12 : W.cell? ⟨w.heap.size + 1, 12, none⟩ = some (.slice ay n ky) := (bq 12).trans (h12y)
  have HB := Lib.hid hb
  have HN := Lib.hid hn
  have HRX := Lib.hid hrx
  have HRY := Lib.hid hry
  clear hb hn hrx hry bx bq hx hy h12x h12y hf0 hf1 hf2 hf3 hf4 hf5 hf6 hf7
  have heq := eq_fields f0 f1 f2 f3 f4 f5 f6 f7
  go_enter Try.func20, Try.ntmps20
  go_wp2
  clear heq x0 x1 x2 x3 x4 x5 x6 x7 x8 x9 x10 x11 y0 y1 y2 y3 y4 y5 y6 y7 y8 y9 y10 y11
  go_loopw [5] (fun x V => ∃ i : Nat, i ≤ n ∧ x = .int .i64 i ∧ Below W.heap.size W V) (fun x _ => n - (intOf x).toNat)
  case atStart => exact ⟨0, by omega, rfl, Below.refl _ _⟩
  case round =>
    obtain ⟨i, hi, rfl, hbv⟩ := hrel
    have x12' := (hbv.cell (p := ⟨w.heap.size, 12, none⟩) (World.block_lt_of_cell? W _ x12)).trans x12
    have y12' := (hbv.cell (p := ⟨w.heap.size + 1, 12, none⟩) (World.block_lt_of_cell? W _ y12)).trans y12
    have HBV := Lib.hid hbv
    clear x12 y12
    by_cases hlt : i < n
    · obtain ⟨px, ox, rfl, -, hx⟩ := HRX.out.stay hbv (by rw [HN.out]; omega)
      obtain ⟨py, oy, rfl, -, hy⟩ := HRY.out.stay hbv (by rw [HN.out]; omega)
      have hcx := hx i (by rw [HN.out]; exact hlt)
      have hcy := hy i (by rw [HN.out]; exact hlt)
      generalize up.getD i 0 = z at hcx hcy
      clear hbv hx hy
      go_wp2
      go_quiet (fail)
      go_wp2
      go_roundw
      case rel => exact ⟨i + 1, by omega, by go_num, HBV.out.trans ((below_drewN _ _).mono HBV.out.size)⟩
      case measure => simp [intOf]; omega
    · clear hbv
      go_wp2
      go_ret
      exact ⟨rfl, HB.out.trans (HBV.out.mono HB.out.size)⟩
end Go.Proofs.Ytcdpmggjdmibjaa
