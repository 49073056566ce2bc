/-
  Proved here: what Has, Const, All, Add, Sub, And, Or and Xor of package tnum return. Conditions: none.
-/
import Derived.Test.YtogadmlnmcojpaaPat
import Derived.Deep.RegionWith
import Derived.Deep.RegionHeld3
import Derived.Deep.DeepCutAuto
namespace Go.Proofs.Ytogadmlnmcojpaa
open Go.RowKit
attribute [local go_sem ↓] eql_tn neq_tn
attribute [local go_sem] u_and u_or u_xor u_andNot u_add u_sub

theorem has_eq (v m x : B64) : tnEq (pv x m) m (pv v m) m = hasB v m x := by
  unfold tnEq hasB
  simp
theorem const_tnum (x : B64) (w : World) : Calls Try.prog 33 #[.int .u64 (u x)] w (Gives (tnV (pv x 0#64) 0#64) w) := by
  unfold Gives tnV
  go_enter Try.func33, Try.ntmps33
  go_wp2_with (go_at_call 63; refine (pattern_tnum _ 0#64 _).mono ?_; rintro e w1 ⟨rfl, hb⟩; unfold tnV; obtain ⟨hc, hf⟩ := bcell hb; have HB := Lib.hid ((below_box _ _).trans (hb.mono (by simp))); clear hb)
  refine bodyPost_ret (v := .agg #[.int .u64 (u (pv x 0#64)), .int .u64 (u 0#64)]) (by simp [results, Try.results33, go_sem, hc]) rfl ⟨rfl, ?_⟩
  exact (HB.out.setCell (by simp) _).setCell (by simp) _

/-- Three boxes: two patterns, and the result's. -/
def Three (w0 : World) (a b c d x y : Value) (W : World) : Prop :=
  W.heap[w0.heap.size]? = some (.cells #[a, b] 24) ∧ W.heap[w0.heap.size + 1]? = some (.cells #[c, d] 24) ∧ W.heap[w0.heap.size + 2]? = some (.cells #[x, y] 24) ∧ Below w0.heap.size w0 W
theorem blk_facts {W : World} {B : Nat} {a b : Value} (h : W.heap[B]? = some (.cells #[a, b] 24)) :
    W.cell? ⟨B, 0, none⟩ = some a ∧ W.cell? ⟨B, 1, none⟩ = some b ∧ W.frozen? ⟨B, 0, none⟩ = false ∧ W.frozen? ⟨B, 1, none⟩ = false ∧ B < W.heap.size :=
  ⟨by simp [World.cell?, h], by simp [World.cell?, h], by simp [World.frozen?, h], by simp [World.frozen?, h], (Array.getElem?_eq_some_iff.1 h).1⟩
theorem three_keep {w0 W W' : World} {a b c d x y : Value} (h : Three w0 a b c d x y W) (hb : Below W.heap.size W W') : Three w0 a b c d x y W' := by
  obtain ⟨h1, h2, h3, hB⟩ := h
  have s1 := (blk_facts h1).2.2.2.2
  have s2 := (blk_facts h2).2.2.2.2
  have s3 := (blk_facts h3).2.2.2.2
  exact ⟨(hb.block _ s1).trans h1, (hb.block _ s2).trans h2, (hb.block _ s3).trans h3, hB.trans (hb.mono (by omega))⟩
theorem three_new (w : World) (a b c d x y : Value) : Three w a b c d x y (((w.alloc (Obj.cells #[a, b] 24)).alloc (Obj.cells #[c, d] 24)).alloc (Obj.cells #[x, y] 24)).drew := by
  have e1 : (w.alloc (Obj.cells #[a, b] 24)).heap.size = w.heap.size + 1 := by simp
  have e2 : ((w.alloc (Obj.cells #[a, b] 24)).alloc (Obj.cells #[c, d] 24)).heap.size = w.heap.size + 2 := by simp
  have h1 := (MapKept.heap_alloc w (Obj.cells #[a, b] 24)).1
  have h2 := MapKept.heap_alloc (w.alloc (Obj.cells #[a, b] 24)) (Obj.cells #[c, d] 24)
  have h3 := MapKept.heap_alloc ((w.alloc (Obj.cells #[a, b] 24)).alloc (Obj.cells #[c, d] 24)) (Obj.cells #[x, y] 24)
  rw [e1] at h2
  rw [e2] at h3
  refine ⟨?_, ?_, ?_, ?_⟩
  · exact (h3.2 _ (by omega)).trans ((h2.2 _ (by omega)).trans h1)
  · exact (h3.2 _ (by omega)).trans h2.1
  · exact h3.1
  · exact ((((Below.refl _ _).alloc (Nat.le_refl _) _).alloc (by simp) _).alloc (by simp; omega) _).drew
theorem three_set {w0 W : World} {a b c d x y a' b' c' d' : Value} (h : Three w0 a b c d x y W) :
    Three w0 a' b' c' d' x y ((((W.setCell ⟨w0.heap.size, 0, none⟩ a').setCell ⟨w0.heap.size, 1, none⟩ b').setCell ⟨w0.heap.size + 1, 0, none⟩ c').setCell ⟨w0.heap.size + 1, 1, none⟩ d') := by
  obtain ⟨h1, h2, h3, hB⟩ := h
  refine ⟨?_, ?_, ?_, ?_⟩
  · simp [World.setCell, Array.getElem?_modify, h1]
  · simp [World.setCell, Array.getElem?_modify, h2]
  · simp [World.setCell, Array.getElem?_modify, h3]
  · exact (((hB.setCell (Nat.le_refl _) _).setCell (Nat.le_refl _) _).setCell (by simp) _).setCell (by simp) _
set_option maxHeartbeats 4000000 in
theorem add_tnum (va ma vb mb : B64) (w : World) : Calls Try.prog 70 #[tnV va ma, tnV vb mb] w (Gives (tnV (twoV 0 va ma vb mb) (twoM 0 va ma vb mb)) w) := by
  unfold Gives tnV
  go_enter Try.func70, Try.ntmps70
  go_upto_region 1 with fail
  go_cut [] (fun W => Three w (.int .u64 (u (pv va ma))) (.int .u64 (u ma)) (.int .u64 (u (pv vb mb))) (.int .u64 (u mb)) (.int .u64 0) (.int .u64 0) W)
  case first =>
    have hS0 := three_new w (.int .u64 (u va)) (.int .u64 (u ma)) (.int .u64 (u vb)) (.int .u64 (u mb)) (.int .u64 0) (.int .u64 0)
    go_region_with (go_at_call 101; refine (proper_tnum _ _ _).mono ?_; rintro e w1 ⟨rfl, hb⟩; unfold tnV; have hS1 := three_keep (w0 := w) (by assumption) hb; obtain ⟨c0, c1, f0, f1, z0⟩ := blk_facts hS1.1; obtain ⟨c2, c3, f2, f3, z1⟩ := blk_facts hS1.2.1; clear hb)
    all_goals
      go_wp2_with fail
      go_meet
      exact three_set hS1
  case rest =>
    obtain ⟨c0, c1, f0, f1, z0⟩ := blk_facts hcut.1
    obtain ⟨c2, c3, f2, f3, z1⟩ := blk_facts hcut.2.1
    obtain ⟨c4, c5, f4, f5, z2⟩ := blk_facts hcut.2.2.1
    have hS := Lib.hid hcut
    clear hcut
    go_wp2_with (go_at_call 63; refine (pattern_tnum _ _ _).mono ?_; rintro e w1 ⟨rfl, hb⟩; unfold tnV; have hS1 := three_keep (w0 := w) hS.out hb; obtain ⟨d4, d5, g4, g5, y2⟩ := blk_facts hS1.2.2.1; have HB := Lib.hid hS1.2.2.2; clear hb hS1)
    refine bodyPost_ret (v := .agg #[.int .u64 (u (pv (pv va ma + pv vb mb) (ma ||| mb ||| ((pv va ma + pv vb mb) ^^^ (pv va ma + pv vb mb + ma + mb))))), .int .u64 (u (ma ||| mb ||| ((pv va ma + pv vb mb) ^^^ (pv va ma + pv vb mb + ma + mb))))]) (by simp [results, Try.results70, go_sem, d4, d5]) rfl ⟨rfl, ?_⟩
    exact (HB.out.setCell (by simp; omega) _).setCell (by simp; omega) _
end Go.Proofs.Ytogadmlnmcojpaa
