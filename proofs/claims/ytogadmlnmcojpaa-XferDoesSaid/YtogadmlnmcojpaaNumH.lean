/-
  Proved here: what refined, Bounds, Signed and Meet of package num return. Conditions: refined: the pointer's block holds what is known.
-/
import Derived.Test.YtogadmlnmcojpaaNumG
namespace Go.Proofs.Ytogadmlnmcojpaa
open Go.RowKit
attribute [local go_sem] u_and u_or u_xor u_andNot u_add u_sub s_conv u_conv max_u min_u max_s min_s

theorem num_six {n : Nat} {z : K} {W : World} (h : NumAt n z W) (q : K) : NumAt n q ((((((W.setCell ⟨n, 0, none⟩ (.int .u64 (u q.v))).setCell ⟨n, 1, none⟩ (.int .u64 (u q.m))).setCell ⟨n, 2, none⟩ (.int .u64 (u q.a))).setCell ⟨n, 3, none⟩ (.int .u64 (u q.b))).setCell ⟨n, 4, none⟩ (.int .i64 (s q.c))).setCell ⟨n, 5, none⟩ (.int .i64 (s q.d))) := by
  unfold NumAt at *
  simp [World.setCell, Array.getElem?_modify, h]
theorem zero_new (w : World) : NumAt w.heap.size zeroK (w.alloc (.cells #[.int .u64 0, .int .u64 0, .int .u64 0, .int .u64 0, .int .i64 0, .int .i64 0] 26)) := (MapKept.heap_alloc w _).1
theorem refined_num (g : Nat) (k : K) (w : World) (h : AtK g k w) : Calls Try.prog 40 #[.pointer (some ⟨g, 0, none⟩)] w (Gives (numV k.fine) w) := by
  have hg := at_lt h
  obtain ⟨c0, c1, c2, c3, c4, c5⟩ := at_cells h
  have hr := fun W => refine_num k W
  unfold numV at hr
  obtain ⟨q, hq⟩ : ∃ q, k.fine = q := ⟨_, rfl⟩
  obtain ⟨o, ho⟩ : ∃ o, k.okF = o := ⟨_, rfl⟩
  rw [hq, ho] at hr
  rw [hq]
  clear hq ho
  have HZ := Lib.hid (zero_new w)
  unfold Gives numV
  go_enter Try.func40, Try.ntmps40
  go_wp2_with (go_at_call 34; refine (hr _).mono ?_; rintro e w1 ⟨rfl, hb⟩; obtain ⟨hc, hf⟩ := bcell hb; have HN := Lib.hid (num_keep HZ.out hb); have HB := Lib.hid ((below_box _ _).trans (hb.mono (by simp))); have hz : w.heap.size < w1.heap.size := (by have := hb.size; simp at this; omega); clear hb)
  obtain ⟨n0, n1, n2, n3, n4, n5⟩ := num_cells (num_keep (num_six HN.out q) (below_box _ (.cells #[.int .u64 (u q.v), .int .u64 (u q.m), .int .u64 (u q.a), .int .u64 (u q.b), .int .i64 (s q.c), .int .i64 (s q.d)] 26)))
  refine bodyPost_ret (v := numV q) (by unfold numV; simp [results, Try.results40, go_sem, n0, n1, n2, n3, n4, n5]) rfl ⟨rfl, ?_⟩
  exact (below_six HB.out _ _ _ _ _ _).alloc (below_six HB.out _ _ _ _ _ _).size _
/-- The result's box, and what is below. -/
def Box1 (w0 : World) (z : K) (W : World) : Prop := NumAt w0.heap.size z W ∧ Below w0.heap.size w0 W
theorem box1_keep {w0 W W' : World} {z : K} (h : Box1 w0 z W) (hb : Below W.heap.size W W') : Box1 w0 z W' := ⟨num_keep h.1 hb, h.2.trans (hb.mono h.2.size)⟩
theorem at_new (k : K) (w : World) : AtK w.heap.size k (w.alloc (.cells #[.int .u64 (u k.v), .int .u64 (u k.m), .int .u64 (u k.a), .int .u64 (u k.b), .int .i64 (s k.c), .int .i64 (s k.d)] 63)) := (MapKept.heap_alloc w _).1
end Go.Proofs.Ytogadmlnmcojpaa
