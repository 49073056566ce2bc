/-
  Proved here: slices.Chunk at bytes and the size 8 hands back an iterator whose rounds are given the pieces of eight bytes, in order. Conditions: eight times as many bytes as pieces, and a loop body that keeps the bytes and the iterator's own two variables.
-/
import Derived.RangeFuncNested
import Derived.RangeFuncBound
import Derived.RangeFuncCalls
import Derived.RangeFuncLeaves
import Derived.RangeFuncBox
import Derived.Shelf.Abstract
import Derived.Shelf.RegionOpen
import Derived.WalkKit
import Derived.OwnWalkIn
import Derived.TacticsInMore
import Derived.LoopNIn
import Derived.LoopIn
import Derived.RegionIn
import Derived.Outline
import Derived.Test.YtmihmgchbibmoaaReadOne
namespace Go.Proofs.Ytmihmgchbibmoaa
open Go.RowKit Go.Shelf
attribute [local go_sem] Oper.semAt_some

set_option maxHeartbeats 1000000 in
theorem chunk_in (F : Fence) (n : Nat) (h : F.fn 17) (hro : F.round = none) (A : Option Addr) (len cap : Nat) (w : World) :
    CallsIn F n Try.prog 17 #[.slice A len cap, .int .i64 8] w fun e w' => e = .returned (.func (.func 24) #[] #[.pointer (some ⟨w.heap.size, 0, none⟩), .pointer (some ⟨w.heap.size + 1, 0, none⟩)]) ∧
      w' = (w.alloc (.cells #[.slice A len cap] 24)).alloc (.cells #[.int .i64 8] 3) := by
  refine callsIn_of_wp Try.func17 rfl h ?_ hro
  simp only [Try.ntmps17, List.size_toArray, List.length_cons, List.length_nil, Nat.reduceAdd, Nat.reduceSub, Array.replicate_succ, Array.replicate_zero, List.push_toArray, List.append_toArray, List.nil_append, List.cons_append]
  gi_wp2
  go_ret
  exact ⟨rfl, rfl⟩

/-- What a round must keep: the bytes, and the iterator's own two variables. -/
def Kept (g s m : Nat) (W W' : World) : Prop := W'.heap[g]? = W.heap[g]? ∧ W'.heap[s]? = W.heap[s]? ∧ W'.heap[m]? = W.heap[m]?
theorem Kept.refl (g s m : Nat) (W : World) : Kept g s m W W := ⟨rfl, rfl, rfl⟩
theorem Kept.trans {g s m : Nat} {A B C : World} (h : Kept g s m A B) (k : Kept g s m B C) : Kept g s m A C := ⟨k.1.trans h.1, k.2.1.trans h.2.1, k.2.2.trans h.2.2⟩

set_option maxRecDepth 100000 in
set_option maxHeartbeats 2000000 in
theorem chunk1_in (F : Fence) (n : Nat) (h : F.fn 24) (hro : F.round = none) (hn : 1 ≤ n) (l s m g off N cap : Nat) (hN : N ≤ 1000) (hcap : 8 * N ≤ cap) (hcm : cap ≤ maxLen) (J Jx : List (Fin N) → World → Prop) (hJA : ∀ pre W, J pre W → J pre W.drew)
    (hY : ∀ pre (x : Fin N) W, J pre W → pre.length < N → YieldAt F (n - 1) Try.prog l #[.slice (some ⟨g, off + 8 * x.1, none⟩) 8 8] W fun e W' =>
      (e = .returned (.bool true) ∧ J (pre ++ [x]) W' ∧ Kept g s m W W') ∨ (e = .returned (.bool false) ∧ Jx (pre ++ [x]) W'))
    (W : World) (hs : W.cell? ⟨s, 0, none⟩ = some (.slice (some ⟨g, off, none⟩) (8 * N) cap)) (hm : W.cell? ⟨m, 0, none⟩ = some (.int .i64 8)) (h0 : J [] W) :
    CallsIn F n Try.prog 24 #[.func (.yield l) #[] #[], .pointer (some ⟨s, 0, none⟩), .pointer (some ⟨m, 0, none⟩)] W fun e W' => (∃ v, e = .returned v) ∧
      ((∃ ys : List (Fin N), ys.map Fin.val = List.range N ∧ J ys W') ∨ (∃ pre : List (Fin N), True ∧ Jx pre W')) := by
  unfold maxLen at hcm
  refine callsIn_of_wp Try.func24 rfl h ?_ hro
  simp only [Try.ntmps24, List.size_toArray, List.length_cons, List.length_nil, Nat.reduceAdd, Nat.reduceSub, Array.replicate_succ, Array.replicate_zero, List.push_toArray, List.append_toArray, List.nil_append, List.cons_append]
  gi_wp2
  gi_loopw [4] (fun i wr => ∃ (k : Nat) (pre : List (Fin N)), k ≤ N ∧ i = .int .i64 (8 * (k : Int)) ∧ Hid (pre.map Fin.val = List.range k) ∧ J pre wr ∧ Kept g s m W wr) (fun i _ => 8 * N - (intOf i).toNat)
  case atStart => exact ⟨0, [], Nat.zero_le _, rfl, rfl, h0, Kept.refl _ _ _ _⟩
  case round =>
    obtain ⟨k, pre, hk, rfl, hpre, hJ, hK⟩ := hrel
    have hs1 : wr.cell? ⟨s, 0, none⟩ = some (.slice (some ⟨g, off, none⟩) (8 * N) cap) := (World.cell?_of_block hK.2.1).trans hs
    have hm1 : wr.cell? ⟨m, 0, none⟩ = some (.int .i64 8) := (World.cell?_of_block hK.2.2).trans hm
    by_cases hlt : k < N
    · have e0 : (0 : Int) ≤ 8 * (k : Int) := by omega
      have e1 : 8 * (k : Int) ≤ 8 * (N : Int) := by omega
      have e2 : (8 * (k : Int)).toNat = 8 * k := by omega
      have e3 : ¬ (cap = 8 * k) := by omega
      have e4 : 8 * k ≤ 8 * N := by omega
      have e5 : (8 : Int) ≤ ((8 * N - 8 * k : Nat) : Int) := by omega
      have e6 : 8 * (k : Int) ≤ (cap : Int) := by omega
      have e7 : min (8 : Int) ((8 * N - 8 * k : Nat) : Int) = 8 := by omega
      obtain ⟨fn, tmps, assign, body, hy, hR⟩ := hY pre ⟨k, hlt⟩ wr.drew (hJA _ _ hJ) (by have := congrArg List.length hpre.out; simp at this; omega)
      dsimp only at hy
      have hs2 : wr.drew.cell? ⟨s, 0, none⟩ = some (.slice (some ⟨g, off, none⟩) (8 * N) cap) := hs1
      have HJ := Lib.hid hJ
      have HY := Lib.hid hy
      have HR := Lib.hid hR
      clear hJ hJA hy hR hY
      have HE0 := Lib.hid hs
      have HE1 := Lib.hid hm
      clear hs hm h0
      gi_wp2
      gi_region
      all_goals
        have e8 : 8 * (k : Int) + 8 ≤ 8 * (N : Int) := by omega
        have e9 : 8 * (k : Int) + 8 ≤ (cap : Int) := by omega
        have hy1 := HY.out
        gi_wp2
        clear hy1
        refine HR.out.mono ?_
        rintro e W3 (⟨rfl, hJ3, hk3⟩ | ⟨rfl, hJx3⟩)
        · have hm3 : W3.cell? ⟨m, 0, none⟩ = some (.int .i64 8) := (World.cell?_of_block hk3.2.2).trans hm1
          have HJ3 := Lib.hid hJ3
          have HK3 := Lib.hid (hK.trans (Kept.trans (show Kept g s m wr wr.drew from ⟨rfl, rfl, rfl⟩) hk3))
          clear hJ3 hk3
          gi_wp2
          go_roundw
          case rel => exact ⟨k + 1, _, by omega, congrArg _ (by omega), by unfold Hid; rw [List.map_append, hpre.out, List.range_succ]; rfl, HJ3.out, HK3.out⟩
          case measure => simp [intOf]; omega
        · have HJx := Lib.hid hJx3
          clear hJx3
          gi_wp2
          refine bodyPost_ret (results_none rfl _ _ _) rfl ?_
          exact ⟨⟨_, rfl⟩, .inr ⟨_, trivial, HJx.out⟩⟩
    · obtain rfl : k = N := by omega
      clear hY hJA
      gi_wp2
      go_end0
      exact ⟨⟨_, rfl⟩, .inl ⟨_, hpre.out, hJ⟩⟩

theorem kept_t {g s m : Nat} {A B C : World} (h : Kept g s m A B) (k : Kept g s m B C) : Kept g s m A C := h.trans k
theorem kept_b {g s m : Nat} {w : World} (hg : g < w.heap.size) (hs : s < w.heap.size) (hm : m < w.heap.size) (W : World) (l : Nat) (o o' : Obj) (hl : w.heap.size ≤ l) (_ : W.heap[l]? = some o) (_ : o.isCells = false) (_ : o.isWalk = false) :
    Kept g s m W (W.putObj l o') :=
  ⟨World.putObj_heap_other (by omega), World.putObj_heap_other (by omega), World.putObj_heap_other (by omega)⟩
theorem chunk_stops (F : Fence) (n : Nat) (h : F.fn 24) (hro : F.round = none) (hn : 1 ≤ n) (s m g off N cap : Nat) (hN : N ≤ 1000) (hcap : 8 * N ≤ cap) (hcm : cap ≤ maxLen) (w : World) (hs0 : s < w.heap.size) (hm0 : m < w.heap.size)
    (hs : w.cell? ⟨s, 0, none⟩ = some (.slice (some ⟨g, off, none⟩) (8 * N) cap)) (hm : w.cell? ⟨m, 0, none⟩ = some (.int .i64 8)) :
    SeqStopsK F n Try.prog 24 #[.pointer (some ⟨s, 0, none⟩), .pointer (some ⟨m, 0, none⟩)] (fun x : Fin N => #[Value.slice (some ⟨g, off + 8 * x.1, none⟩) 8 8]) (Kept g s m) (fun ys => ys.map Fin.val = List.range N) (fun _ => True) N w :=
  fun l J Jx W hW hJ _ hY h0 =>
    chunk1_in F n h hro hn l s m g off N cap hN hcap hcm J Jx (fun pre W1 hj => hJ pre W1 W1.drew none hj ⟨rfl, rfl, rfl, Nat.le_refl _, fun _ _ _ => rfl⟩ (fun r e => by cases e)) hY W
      ((hW.cell (p := ⟨s, 0, none⟩) hs0).trans hs) ((hW.cell (p := ⟨m, 0, none⟩) hm0).trans hm) h0
end Go.Proofs.Ytmihmgchbibmoaa
