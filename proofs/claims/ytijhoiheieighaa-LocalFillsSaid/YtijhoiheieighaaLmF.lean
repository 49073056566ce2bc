/-
  Proved here: a slot is found by a closure: slotOf of the program's storage. Conditions: as each lemma says.
-/
import Derived.Test.YtijhoiheieighaaLm
import Derived.LoopTactic
namespace Go.Proofs.Ytijhoiheieighaa
open Go.RowKit

theorem eqlF_key (p q x y : Int) (w : World) : (binOp .eql 32 (.agg #[.int .i64 p, .int .i64 q]) (.agg #[.int .i64 x, .int .i64 y])).run Try.prog w = .ok (.bool (keyEq (p, q) (x, y))) w := by
  unfold keyEq
  by_cases h1 : p = x <;> by_cases h2 : q = y <;> simp [go_sem, h1, h2]
attribute [local go_sem ↓] eqlF_key
/-- The closure: is it the object that lies in box B? -/
theorem same_key {p q x y : Int} {B : Nat} {w : World} (h0 : w.cell? ⟨B, 0, none⟩ = some (.int .i64 x)) (h1 : w.cell? ⟨B, 1, none⟩ = some (.int .i64 y)) :
    Calls Try.prog 36 #[.agg #[.int .i64 p, .int .i64 q], .pointer (some ⟨B, 0, none⟩)] w (fun e w' => e = .returned (.bool (keyEq (p, q) (x, y))) ∧ Below w.heap.size w w') := by
  have hB := cell_block_lt h0
  have hb0 : Below w.heap.size w (w.alloc (.cells #[.int .i64 p, .int .i64 q] 32)) := (Below.refl _ _).alloc (Nat.le_refl _) _
  have HB0 := Lib.hid hb0
  have g0 := (hb0.cell (p := ⟨B, 0, none⟩) hB).trans h0
  have g1 := (hb0.cell (p := ⟨B, 1, none⟩) hB).trans h1
  have hx : (w.alloc (.cells #[.int .i64 p, .int .i64 q] 32)).cell? ⟨w.heap.size, 0, none⟩ = some (.int .i64 p) := by simp [go_sem]
  have hy : (w.alloc (.cells #[.int .i64 p, .int .i64 q] 32)).cell? ⟨w.heap.size, 1, none⟩ = some (.int .i64 q) := by simp [go_sem]
  clear hb0 h0 h1
  go_enter Try.func36, Try.ntmps36
  go_wp2
  go_ret
  exact ⟨rfl, HB0.out⟩
theorem index_key {a : Option Addr} {c B n : Nat} {os : List Ob} {x y : Int} {w : World} (ha : ObsIn w a os) (hl : os.length = n) (hn : n ≤ 16) (h0 : w.cell? ⟨B, 0, none⟩ = some (.int .i64 x)) (h1 : w.cell? ⟨B, 1, none⟩ = some (.int .i64 y)) :
    Calls Try.prog 35 #[.slice a n c, .func (.func 36) #[] #[.pointer (some ⟨B, 0, none⟩)]] w (fun e w' => e = .returned (.int .i64 (findV os (x, y))) ∧ Below w.heap.size w w') := by
  have hBl := cell_block_lt h0
  have HA := Lib.hid ha
  have HL := Lib.hid hl
  have HX := Lib.hid (And.intro h0 h1)
  clear ha hl h0 h1
  go_enter Try.func35, Try.ntmps35
  go_wp2
  go_loopw [8] (fun v wr => ∃ k : Nat, k ≤ n ∧ v = .int .i64 k ∧ Below w.heap.size w wr ∧ ∀ j, j < k → os.getD j (0, 0) ≠ (x, y)) (fun v _ => n - (intOf v).toNat)
  case atStart => exact ⟨0, by omega, rfl, Below.refl _ _, fun j hj => by omega⟩
  case round =>
    obtain ⟨k, hk, rfl, hb, hno⟩ := hrel
    have HB := Lib.hid hb
    have HN := Lib.hid hno
    by_cases hlt : k < n
    · obtain ⟨g, rfl, hg, hobs⟩ := HA.out (by rw [HL.out]; omega)
      obtain ⟨d1, d2⟩ := hobs k (by rw [HL.out]; exact hlt)
      have d1 := (hb.cell (p := ⟨g, k * 2, none⟩) hg).trans d1
      have d2 := (hb.cell (p := ⟨g, k * 2 + 1, none⟩) hg).trans d2
      have x1 := (hb.cell (p := ⟨B, 0, none⟩) hBl).trans HX.out.1
      have x2 := (hb.cell (p := ⟨B, 1, none⟩) hBl).trans HX.out.2
      have X1 := Lib.hid x1
      have X2 := Lib.hid x2
      obtain ⟨o, ho⟩ : ∃ o, os.getD k (0, 0) = o := ⟨_, rfl⟩
      obtain ⟨p, q⟩ := o
      rw [ho] at d1 d2
      have HOB := Lib.hid ho
      clear hobs ho hb hno x1 x2
      by_cases e1 : (p, q) = ((x, y) : Ob)
      · have hq : keyEq (p, q) (x, y) = true := by simp [keyEq, e1]
        have HQ := Lib.hid hq
        clear hq
        go_wp2_with (go_at_call 36; refine (same_key X1.out X2.out).mono ?_; rintro e w1 ⟨rfl, hb1⟩; rw [HQ.out]; have HB1 := Lib.hid hb1; clear hb1)
        go_ret
        exact ⟨by rw [findV_of (by rw [HL.out]; exact hlt) (by rw [HOB.out]; exact e1) HN.out]; rfl, HB.out.trans (HB1.out.mono HB.out.size)⟩
      · have hq : keyEq (p, q) (x, y) = false := by simp [keyEq, e1]
        have HQ := Lib.hid hq
        clear hq
        go_wp2_with (go_at_call 36; refine (same_key X1.out X2.out).mono ?_; rintro e w1 ⟨rfl, hb1⟩; rw [HQ.out]; have HB1 := Lib.hid hb1; clear hb1)
        go_roundw
        case rel =>
          refine ⟨k + 1, by omega, by go_num, HB.out.trans (HB1.out.mono HB.out.size), fun j hj => ?_⟩
          by_cases e : j = k
          · rw [e, HOB.out]; exact e1
          · exact HN.out j (by omega)
        case measure => simp [intOf]; omega
    · obtain rfl : k = n := by omega
      clear hb hno
      go_wp2
      go_ret
      exact ⟨by rw [findV_none (fun j hj => HN.out j (by rw [← HL.out]; exact hj))]; rfl, HB.out⟩
section
variable {w w' : World} {h A G C : Nat} {v : Value} {s n L : Nat} {os : List Ob} {zs : List Int}
theorem lm_slotOf (H : Lm w h A G C v s n L os zs) (hd : Dim s n L) (x y : Int) :
    Calls Try.prog 25 #[.pointer (some ⟨h, 0, none⟩), .agg #[.int .i64 x, .int .i64 y]] w (fun e w' => e = .returned (.int .i64 (findV os (x, y))) ∧ Below w.heap.size w w') := by
  obtain ⟨a, c, rfl, hsh⟩ := H.ks.shape
  have h16 : os.length ≤ 16 := Nat.le_trans H.le hd.n1
  have hb0 : Below w.heap.size w (w.alloc (.cells #[.int .i64 x, .int .i64 y] 32)) := (Below.refl _ _).alloc (Nat.le_refl _) _
  have HB0 := Lib.hid hb0
  have c1 := (H.stay hb0).h1
  have hoi : ObsIn (w.alloc (.cells #[.int .i64 x, .int .i64 y] 32)) a os := ObsIn.stay (w := w) hsh hb0
  have HOI := Lib.hid hoi
  have hx : (w.alloc (.cells #[.int .i64 x, .int .i64 y] 32)).cell? ⟨w.heap.size, 0, none⟩ = some (.int .i64 x) := by simp [go_sem]
  have hy : (w.alloc (.cells #[.int .i64 x, .int .i64 y] 32)).cell? ⟨w.heap.size, 1, none⟩ = some (.int .i64 y) := by simp [go_sem]
  have HX := Lib.hid hx
  have HY := Lib.hid hy
  clear hb0 hoi H hsh hx hy
  go_enter Try.func25, Try.ntmps25
  go_wp2_with (go_at_call 35; refine (index_key HOI.out rfl h16 HX.out HY.out).mono ?_; rintro e w1 ⟨rfl, hb1⟩; have HB1 := Lib.hid hb1; clear hb1)
  go_ret
  exact ⟨rfl, HB0.out.trans (HB1.out.mono HB0.out.size)⟩
end
end Go.Proofs.Ytijhoiheieighaa
