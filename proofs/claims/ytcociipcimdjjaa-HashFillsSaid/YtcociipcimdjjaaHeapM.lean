/-
  Proved here: what Len, Less and Swap of the free places do, over a list in memory. Conditions: as each says.
-/
import Derived.Test.YtcociipcimdjjaaHeapI
import Derived.LoopTactic
import Derived.RegionTactic
import Derived.BigRegion
import Derived.Deep.QuietTactic
import Derived.BigQuiet
namespace Go.Proofs.Ytcociipcimdjjaa
open Go.RowKit

/-- All but block B stays. -/
structure Only (B : Nat) (W w : World) : Prop where
  os : w.os = W.os
  tape : w.tape = W.tape
  output : w.output = W.output
  size : w.heap.size = W.heap.size
  block : ∀ k, k ≠ B → w.heap[k]? = W.heap[k]?
theorem Only.refl (B : Nat) (w : World) : Only B w w := ⟨rfl, rfl, rfl, rfl, fun _ _ => rfl⟩
theorem Only.trans {B : Nat} {a b c : World} (h : Only B a b) (k : Only B b c) : Only B a c :=
  ⟨k.os.trans h.os, k.tape.trans h.tape, k.output.trans h.output, k.size.trans h.size, fun i hi => (k.block i hi).trans (h.block i hi)⟩
theorem Only.drewN {B : Nat} {a w : World} (h : Only B a w) (n : Nat) : Only B a (w.drewN n) := ⟨h.os, h.tape, h.output, h.size, h.block⟩
theorem Only.drew {B : Nat} {a w : World} (h : Only B a w) : Only B a w.drew := ⟨h.os, h.tape, h.output, h.size, h.block⟩
theorem Only.set {B : Nat} {a w : World} (h : Only B a w) (o : Nat) (v : Value) : Only B a (w.setCell ⟨B, o, none⟩ v) :=
  h.trans ⟨rfl, rfl, rfl, by simp [World.setCell], fun k hk => Below.heap_setCell _ _ _ _ hk⟩

def ints (l : List Int) : List Value := l.map (Value.int .i64)
theorem ints_length (l : List Int) : (ints l).length = l.length := by simp [ints]
theorem ints_get {l : List Int} {k : Nat} (h : k < l.length) : (ints l)[k]? = some (.int .i64 (at0 l k)) := by
  rw [at0_eq h]; simp [ints, h]
/-- A list of numbers in memory, behind a pointer to its slice. -/
structure ListAt (w : World) (p : Addr) (B len cap : Nat) (l : List Int) : Prop where
  c : w.cell? p = some (.slice (some ⟨B, 0, none⟩) len cap)
  own : w.ownsRow 0 3 1 (.slice (some ⟨B, 0, none⟩) len cap) len (ints l)
  ne : p.block ≠ B
theorem ListAt.len {w : World} {p : Addr} {B n cap : Nat} {l : List Int} (h : ListAt w p B n cap l) : l.length = n := by
  have := h.own.1
  rw [ints_length] at this
  omega
section
variable {w : World} {p : Addr} {B len cap : Nat} {l : List Int}
theorem ListAt.block (h : ListAt w p B len cap l) : ∃ cur, w.heap[B]? = some (.cells cur 3 (0, 0)) ∧ len ≤ cap ∧ cap ≤ maxLen ∧ cur.size = cap ∧ cur.toList.take len = ints l := by
  rcases h.own.2 with ⟨h0, _⟩ | ⟨g, cap', cur, hv, -, hh, h1, h2, h3, h4⟩
  · cases h0
  · injection hv with hv _ hc
    injection hv with hv
    injection hv with hv
    subst hv hc
    exact ⟨cur, hh, h1, h2, by omega, by simpa using h4⟩
theorem ListAt.row (h : ListAt w p B len cap l) : ∀ k, k < len → w.cell? ⟨B, k, none⟩ = some (.int .i64 (at0 l k)) := fun k hk => by
  have := h.own.cells (g := B) rfl k _ (ints_get (by rw [h.len]; exact hk))
  rwa [add_lit, Nat.zero_add] at this
theorem ListAt.free (h : ListAt w p B len cap l) : ∀ j, w.frozen? ⟨B, j, none⟩ = false := fun j => by
  obtain ⟨cur, hh, -⟩ := h.block
  simp [World.frozen?, hh]
theorem ListAt.drewN (h : ListAt w p B len cap l) (n : Nat) : ListAt (w.drewN n) p B len cap l := ⟨h.c, h.own, h.ne⟩
theorem ListAt.drew (h : ListAt w p B len cap l) : ListAt w.drew p B len cap l := ⟨h.c, h.own, h.ne⟩
theorem ListAt.set {i : Nat} {x : Int} (h : ListAt w p B len cap l) (_hi : i < len) : ListAt (w.setCell ⟨B, i, none⟩ (.int .i64 x)) p B len cap (l.set i x) := by
  obtain ⟨cur, hh, h1, h2, h3, h4⟩ := h.block
  refine ⟨?_, ⟨by rw [ints_length, List.length_set, h.len]; omega, .inr ⟨B, cap, cur.setIfInBounds i (.int .i64 x), rfl, Nat.zero_le _, ?_, h1, h2, by simp [h3], ?_⟩⟩, h.ne⟩
  · rw [World.cell?_setCell_other _ _ _ _ (by intro e; exact h.ne (by rw [← e]))]
    exact h.c
  · simp [World.setCell, Array.getElem?_modify, hh]
  · rw [Nat.mul_one, Array.toList_setIfInBounds, List.take_set, h4, ints, ints, List.map_set]
end
theorem len_free (a : Option Addr) (n c : Nat) (w : World) : Calls Try.prog 32 #[.slice a n c] w (Ret (.int .i64 n) w) := by
  unfold Ret
  go_enter Try.func32, Try.ntmps32
  go_wp2
  go_ret
  exact ⟨rfl, rfl⟩
/-- What Less gives. -/
def LessPost (B i j : Nat) (p : Addr) (len cap : Nat) (l : List Int) (W : World) (e : Ending) (w : World) : Prop := e = .returned (.bool (decide (at0 l i < at0 l j))) ∧ Only B W w ∧ ListAt w p B len cap l
theorem less_free (B i j len cap : Nat) (p : Addr) (l : List Int) (w : World) (h : ListAt w p B len cap l) (hi : i < len) (hj : j < len) :
    Calls Try.prog 61 #[.slice (some ⟨B, 0, none⟩) len cap, .int .i64 i, .int .i64 j] w (LessPost B i j p len cap l w) := by
  have h1 := h.row i hi
  have h2 := h.row j hj
  obtain ⟨x, hx⟩ : ∃ x, at0 l i = x := ⟨_, rfl⟩
  obtain ⟨y, hy⟩ : ∃ y, at0 l j = y := ⟨_, rfl⟩
  have HX := Lib.hid hx
  have HY := Lib.hid hy
  rw [hx] at h1
  rw [hy] at h2
  have H := Lib.hid h
  clear h hx hy
  go_enter Try.func61, Try.ntmps61
  go_wp2
  go_quiet (fail)
  go_wp2
  go_ret
  refine ⟨by rw [HX.out, HY.out]; rfl, (Only.refl _ _).drewN _, H.out.drewN _⟩
def SwapPost (B i j : Nat) (p : Addr) (len cap : Nat) (l : List Int) (W : World) (e : Ending) (w : World) : Prop := e = .returned (.tuple #[]) ∧ Only B W w ∧ ListAt w p B len cap (swapL l i j)
theorem swap_free (B i j len cap : Nat) (p : Addr) (l : List Int) (w : World) (h : ListAt w p B len cap l) (hi : i < len) (hj : j < len) :
    Calls Try.prog 62 #[.slice (some ⟨B, 0, none⟩) len cap, .int .i64 i, .int .i64 j] w (SwapPost B i j p len cap l w) := by
  have h1 := h.row i hi
  have h2 := h.row j hj
  have f1 := h.free i
  have f2 := h.free j
  obtain ⟨x, hx⟩ : ∃ x, at0 l i = x := ⟨_, rfl⟩
  obtain ⟨y, hy⟩ : ∃ y, at0 l j = y := ⟨_, rfl⟩
  have HX := Lib.hid hx
  have HY := Lib.hid hy
  rw [hx] at h1
  rw [hy] at h2
  have H := Lib.hid h
  clear h hx hy
  go_enter Try.func62, Try.ntmps62
  obtain ⟨v1, hv1⟩ := cell?_setCell_some (p := (⟨B, i, none⟩ : Addr)) (x := .int .i64 y) h2
  obtain ⟨v2, hv2⟩ := cell?_setCell_some (p := (⟨B, j, none⟩ : Addr)) (x := .int .i64 x) h1
  go_region
  first | go_end0 | refine bodyPost_ret (results_none rfl _ _ _) rfl ?_
  refine ⟨rfl, (((Only.refl _ _).set _ _).set _ _).drew, ?_⟩
  rw [swapL, HX.out, HY.out]
  exact ((H.out.set hi).set hj).drew
/-- What going up, or down, gives: the same numbers, a heap of the first n. -/
def Sorted (B : Nat) (p : Addr) (len cap n : Nat) (l : List Int) (W w : World) : Prop := ∃ l' : List Int, Only B W w ∧ ListAt w p B len cap l' ∧ l'.Perm l ∧ IsHeap l' n
def UpPost (B : Nat) (p : Addr) (len cap : Nat) (l : List Int) (W : World) (e : Ending) (w : World) : Prop := e = .returned (.tuple #[]) ∧ Sorted B p len cap len l W w
set_option maxHeartbeats 1000000 in
theorem up_free (B j len cap : Nat) (p : Addr) (l : List Int) (w : World) (h : ListAt w p B len cap l) (hl : len ≤ 1000) (hj : j < len) (hu : UpAt l len j) :
    Calls Try.prog 39 #[.iface 71 (.pointer (some p)), .int .i64 j] w (UpPost B p len cap l w) := by
  have H := Lib.hid h
  have HU := Lib.hid hu
  clear h hu
  go_enter Try.func39, Try.ntmps39
  go_wp2
  go_loopw [1] (fun i wr => ∃ (k : Nat) (l' : List Int), k < len ∧ i = .int .i64 k ∧ Only B w wr ∧ ListAt wr p B len cap l' ∧ l'.Perm l ∧ UpAt l' len k) (fun i _ => (intOf i).toNat)
  case atStart => exact ⟨j, l, hj, rfl, Only.refl _ _, H.out, List.Perm.refl _, HU.out⟩
  case round =>
    obtain ⟨k, l', hk, rfl, ho, hL, hp, hu⟩ := hrel
    have HO := Lib.hid ho
    have HL := Lib.hid hL
    have HP := Lib.hid hp
    have HK := Lib.hid hu
    have hm := method_less p wr _ _ _ hL.c
    clear ho hL hp hu H HU
    by_cases hk0 : k = 0
    · subst hk0
      go_wp2
      first | go_end0 | refine bodyPost_ret (results_none rfl _ _ _) rfl ?_
      exact ⟨rfl, l', HO.out, HL.out, HP.out, up_done HK.out (.inl rfl)⟩
    · obtain ⟨q, hq⟩ : ∃ q, par k = q := ⟨_, rfl⟩
      have e1 : ((k : Int) - 1) / 2 = (q : Int) := by unfold par at hq; omega
      have hqk : q < k := by rw [← hq]; exact par_lt (by omega)
      have hne : ((q : Int) == (k : Int)) = false := by simp; omega
      have HQ := Lib.hid hq
      clear hq
      by_cases hlt : at0 l' k < at0 l' q
      · have hlt2 : decide (at0 l' k < at0 l' q) = true := by simp [hlt]
        have HLT := Lib.hid hlt
        clear hlt
        go_wp2_with (first
          | (go_at_call 61; refine (less_free _ _ _ _ _ _ _ _ HL.out (by omega) (by omega)).mono ?_; rintro e w1 ⟨rfl, ho1, hL1⟩; have hm1 := method_swap p w1 _ _ _ hL1.c; have HO1 := Lib.hid ho1; have HL1 := Lib.hid hL1; clear ho1 hL1)
          | (go_at_call 62; refine (swap_free _ _ _ _ _ _ _ _ HL1.out (by omega) (by omega)).mono ?_; rintro e w2 ⟨rfl, ho2, hL2⟩; have HO2 := Lib.hid ho2; have HL2 := Lib.hid hL2; clear ho2 hL2))
        go_roundw
        case rel =>
          have hs := up_step HK.out HL.out.len.symm (by omega) hk (by rw [HQ.out]; exact HLT.out)
          rw [HQ.out] at hs
          exact ⟨q, _, by omega, rfl, (HO.out.trans HO1.out).trans HO2.out, HL2.out, (swapL_perm (by rw [HL.out.len]; omega) (by rw [HL.out.len]; omega)).trans HP.out, hs⟩
        case measure => simp [intOf]; omega
      · have hlt2 : decide (at0 l' k < at0 l' q) = false := by simp; omega
        have HLT := Lib.hid hlt
        clear hlt
        go_wp2_with (go_at_call 61; refine (less_free _ _ _ _ _ _ _ _ HL.out (by omega) (by omega)).mono ?_; rintro e w1 ⟨rfl, ho1, hL1⟩; have HO1 := Lib.hid ho1; have HL1 := Lib.hid hL1; clear ho1 hL1)
        first | go_end0 | refine bodyPost_ret (results_none rfl _ _ _) rfl ?_
        exact ⟨rfl, l', HO.out.trans HO1.out, HL1.out, HP.out, up_done HK.out (.inr (by rw [HQ.out]; have := HLT.out; omega))⟩
end Go.Proofs.Ytcociipcimdjjaa
