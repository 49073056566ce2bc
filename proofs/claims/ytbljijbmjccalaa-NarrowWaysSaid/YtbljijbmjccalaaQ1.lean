/-
  Proved here: what Has, Const, All, Add, Sub, And, Or and Xor of package tnum return. Conditions: none.
-/
import Derived.Test.YtbljijbmjccalaaPat
import Derived.Deep.RegionWith
import Derived.Deep.RegionHeld3
import Derived.Deep.DeepCutAuto
import Derived.Test.YtbljijbmjccalaaShelf
namespace Go.Proofs.Ytbljijbmjccalaa
open Go.RowKit
attribute [local go_sem ↓] eql_tn neq_tn
attribute [local go_sem] u_and u_or u_xor u_andNot u_add u_sub

theorem has_eq (v m x : B64) : tnEq (pv x m) m (pv v m) m = hasB v m x := by
  unfold tnEq hasB
  simp
/-- Three boxes: two patterns, and the result's. -/
def Three (w0 : World) (a b c d x y : Value) (W : World) : Prop :=
  W.heap[w0.heap.size]? = some (.cells #[a, b] 24) ∧ W.heap[w0.heap.size + 1]? = some (.cells #[c, d] 24) ∧ W.heap[w0.heap.size + 2]? = some (.cells #[x, y] 24) ∧ Below w0.heap.size w0 W
theorem blk_facts {W : World} {B : Nat} {a b : Value} (h : W.heap[B]? = some (.cells #[a, b] 24)) :
    W.cell? ⟨B, 0, none⟩ = some a ∧ W.cell? ⟨B, 1, none⟩ = some b ∧ W.frozen? ⟨B, 0, none⟩ = false ∧ W.frozen? ⟨B, 1, none⟩ = false ∧ B < W.heap.size :=
  ⟨by simp [World.cell?, h], by simp [World.cell?, h], by simp [World.frozen?, h], by simp [World.frozen?, h], (Array.getElem?_eq_some_iff.1 h).1⟩
theorem three_keep {w0 W W' : World} {a b c d x y : Value} (h : Three w0 a b c d x y W) (hb : Below W.heap.size W W') : Three w0 a b c d x y W' := by
  obtain ⟨h1, h2, h3, hB⟩ := h
  have s1 := (blk_facts h1).2.2.2.2
  have s2 := (blk_facts h2).2.2.2.2
  have s3 := (blk_facts h3).2.2.2.2
  exact ⟨(hb.block _ s1).trans h1, (hb.block _ s2).trans h2, (hb.block _ s3).trans h3, hB.trans (hb.mono (by omega))⟩
theorem three_new (w : World) (a b c d x y : Value) : Three w a b c d x y (((w.alloc (Obj.cells #[a, b] 24)).alloc (Obj.cells #[c, d] 24)).alloc (Obj.cells #[x, y] 24)).drew := by
  have e1 : (w.alloc (Obj.cells #[a, b] 24)).heap.size = w.heap.size + 1 := by simp
  have e2 : ((w.alloc (Obj.cells #[a, b] 24)).alloc (Obj.cells #[c, d] 24)).heap.size = w.heap.size + 2 := by simp
  have h1 := (MapKept.heap_alloc w (Obj.cells #[a, b] 24)).1
  have h2 := MapKept.heap_alloc (w.alloc (Obj.cells #[a, b] 24)) (Obj.cells #[c, d] 24)
  have h3 := MapKept.heap_alloc ((w.alloc (Obj.cells #[a, b] 24)).alloc (Obj.cells #[c, d] 24)) (Obj.cells #[x, y] 24)
  rw [e1] at h2
  rw [e2] at h3
  refine ⟨?_, ?_, ?_, ?_⟩
  · exact (h3.2 _ (by omega)).trans ((h2.2 _ (by omega)).trans h1)
  · exact (h3.2 _ (by omega)).trans h2.1
  · exact h3.1
  · exact ((((Below.refl _ _).alloc (Nat.le_refl _) _).alloc (by simp) _).alloc (by simp; omega) _).drew
theorem three_set {w0 W : World} {a b c d x y a' b' c' d' : Value} (h : Three w0 a b c d x y W) :
    Three w0 a' b' c' d' x y ((((W.setCell ⟨w0.heap.size, 0, none⟩ a').setCell ⟨w0.heap.size, 1, none⟩ b').setCell ⟨w0.heap.size + 1, 0, none⟩ c').setCell ⟨w0.heap.size + 1, 1, none⟩ d') := by
  obtain ⟨h1, h2, h3, hB⟩ := h
  refine ⟨?_, ?_, ?_, ?_⟩
  · simp [World.setCell, Array.getElem?_modify, h1]
  · simp [World.setCell, Array.getElem?_modify, h2]
  · simp [World.setCell, Array.getElem?_modify, h3]
  · exact (((hB.setCell (Nat.le_refl _) _).setCell (Nat.le_refl _) _).setCell (by simp) _).setCell (by simp) _
end Go.Proofs.Ytbljijbmjccalaa

/-
  Proved here: what Sub, And and Or of package tnum return. Conditions: none.
-/
namespace Go.Proofs.Ytbljijbmjccalaa
open Go.RowKit
attribute [local go_sem ↓] eql_tn neq_tn
attribute [local go_sem] u_and u_or u_xor u_andNot u_add u_sub

end Go.Proofs.Ytbljijbmjccalaa

/-
  Proved here: what All, Xor, Lsh, Rsh, Arsh, Cut, Meet and Range of package tnum return. Conditions: none.
-/
namespace Go.Proofs.Ytbljijbmjccalaa
open Go.RowKit
attribute [local go_sem ↓] eql_tn neq_tn
attribute [local go_sem] u_and u_or u_xor u_andNot u_add u_sub

theorem lw_64 : lw 64 = u (~~~0#64) := by decide
theorem pv_all : pv 0#64 (~~~0#64) = 0#64 := by decide
theorem all_tnum (w : World) : Calls Try.prog 59 #[] w (Gives (tnV 0#64 (~~~0#64)) w) := by
  rw [← pv_all]
  have HL := Lib.hid lw_64
  unfold Gives tnV
  go_enter Try.func59, Try.ntmps59
  go_wp2_with (first
    | (go_at_call 44; refine (low_words _ _).mono ?_; rintro e w1 ⟨rfl, rfl⟩; rw [HL.out])
    | (go_at_call 61; refine (pattern_tnum 0#64 _ _).mono ?_; rintro e w1 ⟨rfl, hb⟩; unfold tnV; obtain ⟨hc, hf⟩ := bcell hb; have HB := Lib.hid ((below_box _ _).trans (hb.mono (by simp))); clear hb))
  refine bodyPost_ret (v := .agg #[.int .u64 (u (pv (0#64) (~~~0#64))), .int .u64 (u (~~~0#64))]) (by simp [results, Try.results59, go_sem, hc]) rfl ⟨rfl, ?_⟩
  exact (HB.out.setCell (by simp) _).setCell (by simp) _
theorem three_box {w w1 : World} {o1 o2 o3 : Obj} (hb : Below (((w.alloc o1).alloc o2).alloc o3).heap.size (((w.alloc o1).alloc o2).alloc o3) w1) : w.heap.size + 1 + 1 < w1.heap.size ∧ Below w.heap.size w w1 := by
  have := hb.size
  simp at this
  exact ⟨by omega, ((((Below.refl _ _).alloc (Nat.le_refl _) _).alloc (by simp) _).alloc (by simp; omega) _).trans (hb.mono (by simp; omega))⟩
/-! ### Shifts -/
theorem u_shl (x : B64) (k : Nat) : IntKind.u64.wrap (u x * 2 ^ k) = u (x <<< k) := by
  rw [wrap_u]
  unfold u
  rw [BitVec.toNat_shiftLeft, Nat.shiftLeft_eq]
  simp
theorem u_shr (x : B64) (k : Nat) : u x / 2 ^ k = u (x >>> k) := by
  unfold u
  rw [BitVec.toNat_ushiftRight, Nat.shiftRight_eq_div_pow]
  simp
theorem wrap64_u (x : B64) : wrap64 (u x) = x.toInt := by
  unfold wrap64 u
  have := x.isLt
  rw [BitVec.toInt_eq_toNat_cond]
  split <;> omega
theorem u_sar (x : B64) (k : Nat) : IntKind.u64.wrap (wrap64 (u x) / 2 ^ k) = u (x.sshiftRight k) := by
  rw [wrap_u, wrap64_u]
  unfold u BitVec.sshiftRight
  rw [BitVec.toNat_ofInt, Int.shiftRight_eq_div_pow]
  simp
  omega
theorem u_mod64 (n : B64) : (u n % 64).toNat = n.toNat % 64 := by
  unfold u
  omega
theorem shX_0 (x : B64) (k : Nat) : shX 0 x k = x <<< k := rfl
theorem shX_1 (x : B64) (k : Nat) : shX 1 x k = x >>> k := rfl
theorem shX_2 (x : B64) (k : Nat) : shX 2 x k = x.sshiftRight k := rfl
attribute [local go_sem] u_shl u_shr u_sar u_mod64
theorem two_box2 {w w1 : World} {o1 o2 : Obj} (hb : Below ((w.alloc o1).alloc o2).heap.size ((w.alloc o1).alloc o2) w1) : w.heap.size + 1 < w1.heap.size ∧ Below w.heap.size w w1 := two_box hb
/-- Two boxes: a pattern, and the result's. -/
def Twain (w0 : World) (a b x y : Value) (W : World) : Prop :=
  W.heap[w0.heap.size]? = some (.cells #[a, b] 24) ∧ W.heap[w0.heap.size + 1]? = some (.cells #[x, y] 24) ∧ Below w0.heap.size w0 W
theorem twain_keep {w0 W W' : World} {a b x y : Value} (h : Twain w0 a b x y W) (hb : Below W.heap.size W W') : Twain w0 a b x y W' := by
  obtain ⟨h1, h2, hB⟩ := h
  have s1 := (blk_facts h1).2.2.2.2
  have s2 := (blk_facts h2).2.2.2.2
  exact ⟨(hb.block _ s1).trans h1, (hb.block _ s2).trans h2, hB.trans (hb.mono (by omega))⟩
theorem twain_new (w : World) (a b x y : Value) : Twain w a b x y ((w.alloc (Obj.cells #[a, b] 24)).alloc (Obj.cells #[x, y] 24)).drew := by
  have e1 : (w.alloc (Obj.cells #[a, b] 24)).heap.size = w.heap.size + 1 := by simp
  have h1 := (MapKept.heap_alloc w (Obj.cells #[a, b] 24)).1
  have h2 := MapKept.heap_alloc (w.alloc (Obj.cells #[a, b] 24)) (Obj.cells #[x, y] 24)
  rw [e1] at h2
  exact ⟨(h2.2 _ (by omega)).trans h1, h2.1, ((((Below.refl _ _).alloc (Nat.le_refl _) _).alloc (by simp) _)).drew⟩
theorem twain_cells {w0 W : World} {a b x y : Value} (h : Twain w0 a b x y W) : W.cell? ⟨w0.heap.size, 0, none⟩ = some a ∧ W.cell? ⟨w0.heap.size, 1, none⟩ = some b ∧ Below w0.heap.size w0 W :=
  ⟨(blk_facts h.1).1, (blk_facts h.1).2.1, h.2.2⟩
theorem twain_set {w0 W : World} {a b x' y' : Value} (h : W.cell? ⟨w0.heap.size, 0, none⟩ = some a ∧ W.cell? ⟨w0.heap.size, 1, none⟩ = some b ∧ Below w0.heap.size w0 W) :
    ((W.setCell ⟨w0.heap.size + 1, 0, none⟩ x').setCell ⟨w0.heap.size + 1, 1, none⟩ y').cell? ⟨w0.heap.size, 0, none⟩ = some a ∧ ((W.setCell ⟨w0.heap.size + 1, 0, none⟩ x').setCell ⟨w0.heap.size + 1, 1, none⟩ y').cell? ⟨w0.heap.size, 1, none⟩ = some b ∧
    Below w0.heap.size w0 ((W.setCell ⟨w0.heap.size + 1, 0, none⟩ x').setCell ⟨w0.heap.size + 1, 1, none⟩ y') := by
  refine ⟨?_, ?_, (h.2.2.setCell (by simp) _).setCell (by simp) _⟩
  · rw [World.cell?_setCell_far _ _ _ _ (by simp), World.cell?_setCell_far _ _ _ _ (by simp)]; exact h.1
  · rw [World.cell?_setCell_far _ _ _ _ (by simp), World.cell?_setCell_far _ _ _ _ (by simp)]; exact h.2.1
end Go.Proofs.Ytbljijbmjccalaa
