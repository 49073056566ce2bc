/-
  Proved here: slices.Delete of the first record. Conditions: as each lemma says.
-/
import Derived.Test.YthpfockaipbhgaaPmR
namespace Go.Proofs.Ythpfockaipbhgaa
open Go.RowKit

theorem turned_cells {S : Nat → Prop} {W : World} (b : Nat) (hb : S b) : ∀ (vs : List Value) (o : Nat) {w : World}, Turned S W w → Turned S W (w.setCells b o vs)
  | [], _, _, h => h
  | v :: r, o, _, h => turned_cells b hb r (o + 1) (h.set (a := ⟨b, o, none⟩) (.inl hb) v)
theorem own_beyond {w : World} {b n c o : Nat} {xs vs : List Value} (h : w.ownsRow 0 62 3 (.slice (some ⟨b, 0, none⟩) n c) n xs) (ho : n * 3 ≤ o) : (w.setCells b o vs).ownsRow 0 62 3 (.slice (some ⟨b, 0, none⟩) n c) n xs := by
  induction vs generalizing w o with
  | nil => exact h
  | cons v r ih =>
    have h1 := (h.stored o v).1
    rw [List.set_eq_of_length_le (by rw [h.1]; exact ho)] at h1
    exact ih h1 (by omega)
/-- All but the first go one place to the front. -/
theorem move_down {w : World} {b n c : Nat} {xs : List Value} (h : w.ownsRow 0 62 3 (.slice (some ⟨b, 0, none⟩) (n + 1) c) (n + 1) xs) (hv : ∀ u ∈ xs, u.oneCell' = true) (a : Addr) (ca : Nat) (ha : ∀ j u, (xs.drop 3)[j]? = some u → w.drew.cell? (a.add j) = some u) :
    ∃ W3, (appendV #[56, 56] 56 #[.slice (some ⟨b, 0, none⟩) 0 c, .slice (some a) n ca]).run Try.prog w.drew = .ok (.slice (some ⟨b, 0, none⟩) n c) W3 ∧ W3.ownsRow 0 62 3 (.slice (some ⟨b, 0, none⟩) n c) n (xs.drop 3) ∧ Turned (fun k => k = b) w W3 ∧
      ∃ W4, (∀ ty, (Builtin.clear_ #[56] ty #[.slice (some ⟨b, n * 3, none⟩) 1 (c - n)]).run Try.prog W3 = .ok (.tuple #[]) W4) ∧ W4.ownsRow 0 62 3 (.slice (some ⟨b, 0, none⟩) n c) n (xs.drop 3) ∧ Turned (fun k => k = b) w W4 := by
  obtain ⟨i0, hi0, hz0, hz1, hz2⟩ := info_parts lrec_info
  rcases h.2 with ⟨h', _⟩ | ⟨g, cap, cur, he, hb, hg, hnc, hcm, hcs, htake⟩
  · simp at h'
  · simp only [Value.slice.injEq, Option.some.injEq, Addr.mk.injEq, and_true, true_and] at he
    obtain ⟨rfl, rfl⟩ := he
    have hxl := h.1
    have hdl : (xs.drop 3).length = n * 3 := by rw [List.length_drop]; omega
    have hgd : w.drew.heap[b]? = some (.cells cur 62 (0, 0)) := hg
    have hr := run_append_room (P := Try.prog) w.drew 56 56 62 i0 Try.underlying56 hi0 b 0 c cur hgd a n ca (xs.drop 3) (by rw [hdl, hz1]) ha (fun u hu => hv u (List.mem_of_mem_drop hu)) (by omega) (by rw [hdl, hcs]; omega)
    rw [Nat.zero_add] at hr
    obtain ⟨cs, hcs2⟩ : ∃ cs, (cur.toList.take (0 * i0.size) ++ xs.drop 3 ++ cur.toList.drop (0 * i0.size + (xs.drop 3).length)).toArray = cs := ⟨_, rfl⟩
    rw [hcs2] at hr
    have hlen : cs.size = c * 3 := by
      rw [← hcs2]
      simp only [Nat.zero_mul, List.take_zero, List.nil_append, Nat.zero_add, List.size_toArray, List.length_append, List.length_drop, Array.length_toList]
      omega
    have htk : cs.toList.take (n * 3) = xs.drop 3 := by
      rw [← hcs2]
      simp only [Nat.zero_mul, List.take_zero, List.nil_append, Nat.zero_add]
      rw [← hdl]
      exact List.take_left
    have hh3 := setRow_heap w.drew b cur cs 62 (0, 0) hgd
    have ht3 : Turned (fun k => k = b) w (w.drew.setRow b cs) := ⟨rfl, rfl, rfl, by rw [setRow_size]; exact Nat.le_refl _, fun k _ hk => setRow_other w.drew b k _ hk⟩
    obtain ⟨W3, hW3⟩ : ∃ W, w.drew.setRow b cs = W := ⟨_, rfl⟩
    rw [hW3] at hr hh3 ht3
    have hown : W3.ownsRow 0 62 3 (.slice (some ⟨b, 0, none⟩) n c) n (xs.drop 3) := ⟨hdl, .inr ⟨b, c, cs, rfl, Nat.zero_le _, hh3, by omega, hcm, hlen, htk⟩⟩
    have hst := run_storeCells_cells (P := Try.prog) b (n * 3) [.int .i64 0, .int .u8 0, .slice none 0 0] 0 W3 (fun j hj => by
        have hj3 : j < 3 := hj
        unfold World.cell?
        simp only [hh3]
        rw [Array.getElem?_eq_getElem (by omega)]
        simp) (fun j hj => by unfold World.frozen?; simp only [hh3]; simp) (fun v hv => by simp at hv; rcases hv with rfl | rfl | rfl <;> rfl)
    rw [Nat.add_zero] at hst
    refine ⟨W3, hr, hown, ht3, W3.setCells b (n * 3) [.int .i64 0, .int .u8 0, .slice none 0 0], fun ty => ?_, own_beyond hown (Nat.le_refl _), turned_cells (S := fun k => k = b) b rfl _ _ ht3⟩
    have hzc : (Builtin.zeroCells (Value.agg #[.int .i64 0, .int .u8 0, .slice none 0 0]).cells 1).toList = [.int .i64 0, .int .u8 0, .slice none 0 0] := by simp [Builtin.zeroCells, Value.cells]; rfl
    simp [Builtin.clear_, run_underlying Try.underlying56, hzc, hst]
def Popped (b n c : Nat) (xs : List Value) (W : World) (e : Ending) (w : World) : Prop :=
  e = .returned (.slice (some ⟨b, 0, none⟩) n c) ∧ w.ownsRow 0 62 3 (.slice (some ⟨b, 0, none⟩) n c) n (xs.drop 3) ∧ Turned (fun k => k = b) W w
attribute [local go_sem ↓] append_veil
set_option maxRecDepth 100000 in
set_option maxHeartbeats 1000000 in
theorem delete_first {w : World} {b n c : Nat} {xs : List Value} (h : w.ownsRow 0 62 3 (.slice (some ⟨b, 0, none⟩) (n + 1) c) (n + 1) xs) (hv : ∀ u ∈ xs, u.oneCell' = true) (hn : n + 1 ≤ 1000) (hc : c ≤ maxLen) (hnc : n + 1 ≤ c) :
    Calls Try.prog 27 #[.slice (some ⟨b, 0, none⟩) (n + 1) c, .int .i64 0, .int .i64 1] w (Popped b n c xs w) := by
  unfold maxLen at hc
  have hcn : ¬ c = n := by omega
  by_cases hc1 : c = 1
  · obtain rfl : n = 0 := by omega
    subst hc1
    obtain ⟨W3, hr, -, -, W4, hcl, ho, ht⟩ := move_down h hv ⟨b, 0, none⟩ 0 (fun j u hu => by
      have := h.1
      rw [List.drop_eq_nil_of_le (by omega)] at hu
      cases hu)
    have HO := Lib.hid (And.intro ho ht)
    clear ho ht h hv
    go_enter Try.func27, Try.ntmps27
    go_wp2
    go_region
    go_wp2_with (simp only [hcl])
    go_ret
    exact ⟨rfl, HO.out⟩
  · obtain ⟨W3, hr, -, -, W4, hcl, ho, ht⟩ := move_down h hv ⟨b, 3, none⟩ (c - 1) (fun j u hu => by
      rw [add_lit]
      rw [List.getElem?_drop] at hu
      have hj : 3 + j < xs.length := by
        rcases Nat.lt_or_ge (3 + j) xs.length with h9 | h9
        · exact h9
        · rw [List.getElem?_eq_none h9] at hu; cases hu
      exact (h.cellAt (3 + j) (by rw [← h.1]; exact hj)).trans hu)
    have HO := Lib.hid (And.intro ho ht)
    clear ho ht h hv
    go_enter Try.func27, Try.ntmps27
    go_wp2
    go_region
    go_wp2_with (simp only [hcl])
    go_ret
    exact ⟨rfl, HO.out⟩
end Go.Proofs.Ythpfockaipbhgaa
