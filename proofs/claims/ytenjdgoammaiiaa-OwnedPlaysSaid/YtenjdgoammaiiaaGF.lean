/-
  Proved here: lists of numbers as heaps: what going up and going down makes of them; the first one is the least. Conditions: as each says. No Go text is spoken of.
-/
import Derived.Test.YtenjdgoammaiiaaGA
import Derived.LoopTactic
import Derived.RegionTactic
import Derived.BigRegion
import Derived.Deep.QuietTactic
import Derived.BigQuiet
namespace Go.Proofs.Ytenjdgoammaiiaa

/-- The number at a place. -/
def at0 (l : List Int) (k : Nat) : Int := l.getD k 0
/-- Two places exchanged. -/
def swapL (l : List Int) (i j : Nat) : List Int := (l.set i (at0 l j)).set j (at0 l i)
theorem swapL_length (l : List Int) (i j : Nat) : (swapL l i j).length = l.length := by simp [swapL]
theorem at0_set {l : List Int} {i k : Nat} {x : Int} (hi : i < l.length) : at0 (l.set i x) k = if i = k then x else at0 l k := by
  unfold at0
  rw [List.getD_eq_getElem?_getD, List.getD_eq_getElem?_getD, List.getElem?_set]
  by_cases e : i = k
  · subst e; simp [hi]
  · simp [e]
theorem at0_swap {l : List Int} {i j k : Nat} (hi : i < l.length) (hj : j < l.length) : at0 (swapL l i j) k = if k = j then at0 l i else if k = i then at0 l j else at0 l k := by
  unfold swapL
  rw [at0_set (by simpa using hj), at0_set hi]
  by_cases e : k = j
  · subst e; simp
  · rw [if_neg (fun h => e h.symm), if_neg e]
    by_cases e2 : k = i
    · subst e2; simp
    · rw [if_neg (fun h => e2 h.symm), if_neg e2]
theorem at0_eq {l : List Int} {k : Nat} (h : k < l.length) : at0 l k = l[k] := by
  simp [at0, List.getD_eq_getElem?_getD, h]
theorem swapL_perm {l : List Int} {i j : Nat} (hi : i < l.length) (hj : j < l.length) : (swapL l i j).Perm l := by
  have h := Array.swap_perm (xs := l.toArray) (i := i) (j := j) (by simpa using hi) (by simpa using hj)
  have e : ((l.toArray).swap i j (by simpa using hi) (by simpa using hj)).toList = swapL l i j := by
    rw [Array.toList_swap]
    simp [swapL, at0_eq hi, at0_eq hj]
  have h2 := Array.perm_iff_toList_perm.1 h
  rw [e] at h2
  simpa using h2

/-- The place above. -/
def par (k : Nat) : Nat := (k - 1) / 2
theorem par_lt {k : Nat} (h : 0 < k) : par k < k := by unfold par; omega
/-- A heap of the first n. -/
def IsHeap (l : List Int) (n : Nat) : Prop := ∀ k, 0 < k → k < n → at0 l (par k) ≤ at0 l k
/-- .. but that the one at j may be too small. -/
structure UpAt (l : List Int) (n j : Nat) : Prop where
  but : ∀ k, 0 < k → k < n → k ≠ j → at0 l (par k) ≤ at0 l k
  over : ∀ k, 0 < k → k < n → par k = j → 0 < j → at0 l (par j) ≤ at0 l k
/-- .. but that the one at i may be too great. -/
structure DownAt (l : List Int) (n i : Nat) : Prop where
  but : ∀ k, 0 < k → k < n → par k ≠ i → at0 l (par k) ≤ at0 l k
  over : ∀ k, 0 < k → k < n → par k = i → 0 < i → at0 l (par i) ≤ at0 l k

theorem heap_least {l : List Int} {n : Nat} (h : IsHeap l n) : ∀ k, k < n → at0 l 0 ≤ at0 l k := by
  intro k
  induction k using Nat.strongRecOn with
  | ind k ih =>
    intro hk
    by_cases h0 : k = 0
    · subst h0; omega
    · have := par_lt (k := k) (by omega)
      have h1 := ih (par k) this (by omega)
      have h2 := h k (by omega) hk
      omega
theorem up_done {l : List Int} {n j : Nat} (h : UpAt l n j) (hd : j = 0 ∨ at0 l (par j) ≤ at0 l j) : IsHeap l n := by
  intro k hk hn
  by_cases e : k = j
  · subst e
    rcases hd with h0 | h0
    · omega
    · exact h0
  · exact h.but k hk hn e
theorem up_step {l : List Int} {n j : Nat} (h : UpAt l n j) (hn : n = l.length) (hj : 0 < j) (hjn : j < n) (hlt : at0 l j < at0 l (par j)) : UpAt (swapL l (par j) j) n (par j) := by
  have hp := par_lt hj
  have hi : par j < l.length := by omega
  have hjl : j < l.length := by omega
  refine ⟨fun k hk hkn hne => ?_, fun k hk hkn hpk hp0 => ?_⟩
  · rw [at0_swap hi hjl, at0_swap hi hjl]
    by_cases e : k = j
    · subst e
      rw [if_pos rfl, if_neg (by omega), if_pos rfl]
      omega
    · rw [if_neg e, if_neg hne]
      by_cases e1 : par k = j
      · rw [if_pos e1]
        exact h.over k hk hkn e1 hj
      · rw [if_neg e1]
        have h1 := h.but k hk hkn e
        by_cases e2 : par k = par j
        · rw [if_pos e2]
          rw [e2] at h1
          omega
        · rw [if_neg e2]
          exact h1
  · have hpp := par_lt hp0
    rw [at0_swap hi hjl, at0_swap hi hjl, if_neg (by omega), if_neg (by omega)]
    have h0 := h.but (par j) hp0 (by omega) (by omega)
    by_cases e : k = j
    · rw [if_pos e]
      exact h0
    · rw [if_neg e, if_neg (by have := par_lt hk; omega)]
      have h1 := h.but k hk hkn e
      rw [hpk] at h1
      omega
theorem down_done {l : List Int} {n i : Nat} (h : DownAt l n i) (hd : ∀ k, 0 < k → k < n → par k = i → at0 l i ≤ at0 l k) : IsHeap l n := by
  intro k hk hn
  by_cases e : par k = i
  · rw [e]; exact hd k hk hn e
  · exact h.but k hk hn e
theorem down_step {l : List Int} {n i j : Nat} (h : DownAt l n i) (hn : n ≤ l.length) (hj : 0 < j) (hjn : j < n) (hpj : par j = i) (hlt : at0 l j < at0 l i) (hmin : ∀ k, 0 < k → k < n → par k = i → at0 l j ≤ at0 l k) : DownAt (swapL l i j) n j := by
  have hp := par_lt hj
  have hi : i < l.length := by omega
  have hjl : j < l.length := by omega
  refine ⟨fun k hk hkn hne => ?_, fun k hk hkn hpk hj0 => ?_⟩
  · rw [at0_swap hi hjl, at0_swap hi hjl, if_neg hne]
    by_cases e1 : par k = i
    · rw [if_pos e1]
      by_cases e : k = j
      · rw [if_pos e]; omega
      · rw [if_neg e, if_neg (by have := par_lt hk; omega)]
        exact hmin k hk hkn e1
    · rw [if_neg e1]
      have h1 := h.but k hk hkn e1
      by_cases e : k = j
      · subst e; exact absurd hpj e1
      · rw [if_neg e]
        by_cases e2 : k = i
        · subst e2
          rw [if_pos rfl]
          have := h.over j hj hjn hpj hk
          omega
        · rw [if_neg e2]; exact h1
  · have hk2 := par_lt hk
    rw [at0_swap hi hjl, at0_swap hi hjl, hpj, if_neg (by omega), if_pos rfl, if_neg (by omega), if_neg (by omega)]
    have := h.but k hk hkn (by omega)
    rw [hpk] at this
    exact this
theorem child_of {k i : Nat} (hk : 0 < k) (h : par k = i) : k = 2 * i + 1 ∨ k = 2 * i + 2 := by unfold par at h; omega
theorem par_left (i : Nat) : par (2 * i + 1) = i := by unfold par; omega
theorem par_right (i : Nat) : par (2 * i + 2) = i := by unfold par; omega
/-- One more at the end. -/
theorem up_start {l : List Int} {x : Int} (h : IsHeap l l.length) : UpAt (l ++ [x]) (l.length + 1) l.length := by
  have hg : ∀ k, k < l.length → at0 (l ++ [x]) k = at0 l k := fun k hk => by
    simp [at0, List.getD_eq_getElem?_getD, List.getElem?_append_left hk]
  refine ⟨fun k hk hkn hne => ?_, fun k hk hkn hpk _ => ?_⟩
  · have hp := par_lt hk
    rw [hg _ (by omega), hg _ (by omega)]
    exact h k hk (by omega)
  · have hp := par_lt hk
    omega
/-- The last in the place of the first. -/
theorem down_start {l : List Int} {n : Nat} (hl : l.length = n + 1) (h : IsHeap l l.length) : DownAt (swapL l 0 n) n 0 := by
  refine ⟨fun k hk hkn hne => ?_, fun k hk hkn hpk h0 => by omega⟩
  have hp := par_lt hk
  rw [at0_swap (by omega) (by omega), at0_swap (by omega) (by omega), if_neg (by omega), if_neg hne, if_neg (by omega), if_neg (by omega)]
  exact h k hk (by omega)
theorem isHeap_take {l : List Int} {n : Nat} (h : IsHeap l n) (hn : n ≤ l.length) : IsHeap (l.take n) (l.take n).length := by
  have hl : (l.take n).length = n := by simp; omega
  rw [hl]
  intro k hk hkn
  have hp := par_lt hk
  have hg : ∀ j, j < n → at0 (l.take n) j = at0 l j := fun j hj => by
    simp [at0, List.getD_eq_getElem?_getD, List.getElem?_take_of_lt hj]
  rw [hg _ (by omega), hg _ hkn]
  exact h k hk hkn
/-- Numbers from 0 on are a heap. -/
theorem isHeap_range (n : Nat) : IsHeap ((List.range n).map Int.ofNat) n := by
  intro k hk hn
  have hp := par_lt hk
  have hg : ∀ j, j < n → at0 ((List.range n).map Int.ofNat) j = j := fun j hj => by
    simp [at0, List.getD_eq_getElem?_getD, hj]
  rw [hg _ (by omega), hg _ hn]
  omega
end Go.Proofs.Ytenjdgoammaiiaa

namespace Go.Proofs.Ytenjdgoammaiiaa
open Go.RowKit
set_option maxRecDepth 100000
theorem wrap_nil (P : Program) (xt : TypeId) (p : Addr) (s m : String) (w : World) : (Builtin.ssaWrapNilChk_ #[xt] xt #[.pointer (some p), strVal s, strVal m]).run P w = .ok (.pointer (some p)) w := rfl
theorem method_any (p : Addr) (w : World) (a : Option Addr) (n c : Nat) (s : String) (f : FuncId) (h : w.cell? p = some (.slice a n c))
    (hs : ((Try.prog.info? 128).bind (fun i => i.methods.find? (·.name == s))).map (fun m => (m.path.toList, m.func)) = some ([], some (f, false))) :
    (method 277 128 (.pointer (some p)) s).run Try.prog w = .ok (f, .slice a n c) w := by
  obtain ⟨m, hs1, hm1⟩ := Option.map_eq_some_iff.1 hs
  obtain ⟨i, hi, hm⟩ := Option.bind_eq_some_iff.1 hs1
  injection hm1 with hp hf
  unfold method
  have hp2 : m.path = #[] := by
    cases hq : m.path
    rw [hq] at hp
    simp at hp
    rw [hp]
  simp [typeInfo, hi, hm, hp, hf, follow, receiverAt, Place.get, go_sem]
  simp [hp2, wrap_nil, go_sem, h]
theorem method_len (p : Addr) (w : World) (a : Option Addr) (n c : Nat) (h : w.cell? p = some (.slice a n c)) : (method 277 128 (.pointer (some p)) "Len").run Try.prog w = .ok (63, .slice a n c) w :=
  method_any p w a n c _ _ h (by kernel_rfl)
theorem method_less (p : Addr) (w : World) (a : Option Addr) (n c : Nat) (h : w.cell? p = some (.slice a n c)) : (method 277 128 (.pointer (some p)) "Less").run Try.prog w = .ok (115, .slice a n c) w :=
  method_any p w a n c _ _ h (by kernel_rfl)
theorem method_swap (p : Addr) (w : World) (a : Option Addr) (n c : Nat) (h : w.cell? p = some (.slice a n c)) : (method 277 128 (.pointer (some p)) "Swap").run Try.prog w = .ok (116, .slice a n c) w :=
  method_any p w a n c _ _ h (by kernel_rfl)
theorem method_push (p : Addr) (w : World) : (method 277 128 (.pointer (some p)) "Push").run Try.prog w = .ok (118, .pointer (some p)) w := by kernel_rfl
theorem method_pop (p : Addr) (w : World) : (method 277 128 (.pointer (some p)) "Pop").run Try.prog w = .ok (117, .pointer (some p)) w := by kernel_rfl
end Go.Proofs.Ytenjdgoammaiiaa

/-
  Proved here: what Len, Less and Swap of the free places do, over a list in memory. Conditions: as each says.
-/
namespace Go.Proofs.Ytenjdgoammaiiaa
open Go.RowKit
set_option maxRecDepth 100000

/-- All but block B stays. -/
structure Only (B : Nat) (W w : World) : Prop where
  os : w.os = W.os
  tape : w.tape = W.tape
  output : w.output = W.output
  size : w.heap.size = W.heap.size
  block : ∀ k, k ≠ B → w.heap[k]? = W.heap[k]?
theorem Only.refl (B : Nat) (w : World) : Only B w w := ⟨rfl, rfl, rfl, rfl, fun _ _ => rfl⟩
theorem Only.trans {B : Nat} {a b c : World} (h : Only B a b) (k : Only B b c) : Only B a c :=
  ⟨k.os.trans h.os, k.tape.trans h.tape, k.output.trans h.output, k.size.trans h.size, fun i hi => (k.block i hi).trans (h.block i hi)⟩
theorem Only.drewN {B : Nat} {a w : World} (h : Only B a w) (n : Nat) : Only B a (w.drewN n) := ⟨h.os, h.tape, h.output, h.size, h.block⟩
theorem Only.drew {B : Nat} {a w : World} (h : Only B a w) : Only B a w.drew := ⟨h.os, h.tape, h.output, h.size, h.block⟩
theorem Only.set {B : Nat} {a w : World} (h : Only B a w) (o : Nat) (v : Value) : Only B a (w.setCell ⟨B, o, none⟩ v) :=
  h.trans ⟨rfl, rfl, rfl, by simp [World.setCell], fun k hk => Below.heap_setCell _ _ _ _ hk⟩

def ints (l : List Int) : List Value := l.map (Value.int .i64)
theorem ints_length (l : List Int) : (ints l).length = l.length := by simp [ints]
theorem ints_get {l : List Int} {k : Nat} (h : k < l.length) : (ints l)[k]? = some (.int .i64 (at0 l k)) := by
  rw [at0_eq h]; simp [ints, h]
/-- A list of numbers in memory, behind a pointer to its slice. -/
structure ListAt (w : World) (p : Addr) (B len cap : Nat) (l : List Int) : Prop where
  c : w.cell? p = some (.slice (some ⟨B, 0, none⟩) len cap)
  own : w.ownsRow 0 3 1 (.slice (some ⟨B, 0, none⟩) len cap) len (ints l)
  ne : p.block ≠ B
theorem ListAt.len {w : World} {p : Addr} {B n cap : Nat} {l : List Int} (h : ListAt w p B n cap l) : l.length = n := by
  have := h.own.1
  rw [ints_length] at this
  omega
section
variable {w : World} {p : Addr} {B len cap : Nat} {l : List Int}
theorem ListAt.block (h : ListAt w p B len cap l) : ∃ cur, w.heap[B]? = some (.cells cur 3 (0, 0)) ∧ len ≤ cap ∧ cap ≤ maxLen ∧ cur.size = cap ∧ cur.toList.take len = ints l := by
  rcases h.own.2 with ⟨h0, _⟩ | ⟨g, cap', cur, hv, -, hh, h1, h2, h3, h4⟩
  · cases h0
  · injection hv with hv _ hc
    injection hv with hv
    injection hv with hv
    subst hv hc
    exact ⟨cur, hh, h1, h2, by omega, by simpa using h4⟩
theorem ListAt.row (h : ListAt w p B len cap l) : ∀ k, k < len → w.cell? ⟨B, k, none⟩ = some (.int .i64 (at0 l k)) := fun k hk => by
  have := h.own.cells (g := B) rfl k _ (ints_get (by rw [h.len]; exact hk))
  rwa [add_lit, Nat.zero_add] at this
theorem ListAt.free (h : ListAt w p B len cap l) : ∀ j, w.frozen? ⟨B, j, none⟩ = false := fun j => by
  obtain ⟨cur, hh, -⟩ := h.block
  simp [World.frozen?, hh]
theorem ListAt.drewN (h : ListAt w p B len cap l) (n : Nat) : ListAt (w.drewN n) p B len cap l := ⟨h.c, h.own, h.ne⟩
theorem ListAt.drew (h : ListAt w p B len cap l) : ListAt w.drew p B len cap l := ⟨h.c, h.own, h.ne⟩
theorem ListAt.set {i : Nat} {x : Int} (h : ListAt w p B len cap l) (_hi : i < len) : ListAt (w.setCell ⟨B, i, none⟩ (.int .i64 x)) p B len cap (l.set i x) := by
  obtain ⟨cur, hh, h1, h2, h3, h4⟩ := h.block
  refine ⟨?_, ⟨by rw [ints_length, List.length_set, h.len]; omega, .inr ⟨B, cap, cur.setIfInBounds i (.int .i64 x), rfl, Nat.zero_le _, ?_, h1, h2, by simp [h3], ?_⟩⟩, h.ne⟩
  · rw [World.cell?_setCell_other _ _ _ _ (by intro e; exact h.ne (by rw [← e]))]
    exact h.c
  · simp [World.setCell, Array.getElem?_modify, hh]
  · rw [Nat.mul_one, Array.toList_setIfInBounds, List.take_set, h4, ints, ints, List.map_set]
end
theorem len_free (a : Option Addr) (n c : Nat) (w : World) : Calls Try.prog 63 #[.slice a n c] w (Ret (.int .i64 n) w) := by
  unfold Ret
  go_enter Try.func63, Try.ntmps63
  go_wp2
  go_ret
  exact ⟨rfl, rfl⟩
/-- What Less gives. -/
def LessPost (B i j : Nat) (p : Addr) (len cap : Nat) (l : List Int) (W : World) (e : Ending) (w : World) : Prop := e = .returned (.bool (decide (at0 l i < at0 l j))) ∧ Only B W w ∧ ListAt w p B len cap l
theorem less_free (B i j len cap : Nat) (p : Addr) (l : List Int) (w : World) (h : ListAt w p B len cap l) (hi : i < len) (hj : j < len) :
    Calls Try.prog 115 #[.slice (some ⟨B, 0, none⟩) len cap, .int .i64 i, .int .i64 j] w (LessPost B i j p len cap l w) := by
  have h1 := h.row i hi
  have h2 := h.row j hj
  obtain ⟨x, hx⟩ : ∃ x, at0 l i = x := ⟨_, rfl⟩
  obtain ⟨y, hy⟩ : ∃ y, at0 l j = y := ⟨_, rfl⟩
  have HX := Lib.hid hx
  have HY := Lib.hid hy
  rw [hx] at h1
  rw [hy] at h2
  have H := Lib.hid h
  clear h hx hy
  go_enter Try.func115, Try.ntmps115
  go_wp2
  go_quiet (fail)
  go_wp2
  go_ret
  refine ⟨by rw [HX.out, HY.out]; rfl, (Only.refl _ _).drewN _, H.out.drewN _⟩
def SwapPost (B i j : Nat) (p : Addr) (len cap : Nat) (l : List Int) (W : World) (e : Ending) (w : World) : Prop := e = .returned (.tuple #[]) ∧ Only B W w ∧ ListAt w p B len cap (swapL l i j)
theorem swap_free (B i j len cap : Nat) (p : Addr) (l : List Int) (w : World) (h : ListAt w p B len cap l) (hi : i < len) (hj : j < len) :
    Calls Try.prog 116 #[.slice (some ⟨B, 0, none⟩) len cap, .int .i64 i, .int .i64 j] w (SwapPost B i j p len cap l w) := by
  have h1 := h.row i hi
  have h2 := h.row j hj
  have f1 := h.free i
  have f2 := h.free j
  obtain ⟨x, hx⟩ : ∃ x, at0 l i = x := ⟨_, rfl⟩
  obtain ⟨y, hy⟩ : ∃ y, at0 l j = y := ⟨_, rfl⟩
  have HX := Lib.hid hx
  have HY := Lib.hid hy
  rw [hx] at h1
  rw [hy] at h2
  have H := Lib.hid h
  clear h hx hy
  go_enter Try.func116, Try.ntmps116
  obtain ⟨v1, hv1⟩ := cell?_setCell_some (p := (⟨B, i, none⟩ : Addr)) (x := .int .i64 y) h2
  obtain ⟨v2, hv2⟩ := cell?_setCell_some (p := (⟨B, j, none⟩ : Addr)) (x := .int .i64 x) h1
  go_region
  first | go_end0 | refine bodyPost_ret (results_none rfl _ _ _) rfl ?_
  refine ⟨rfl, (((Only.refl _ _).set _ _).set _ _).drew, ?_⟩
  rw [swapL, HX.out, HY.out]
  exact ((H.out.set hi).set hj).drew
/-- What going up, or down, gives: the same numbers, a heap of the first n. -/
def Sorted (B : Nat) (p : Addr) (len cap n : Nat) (l : List Int) (W w : World) : Prop := ∃ l' : List Int, Only B W w ∧ ListAt w p B len cap l' ∧ l'.Perm l ∧ IsHeap l' n
def UpPost (B : Nat) (p : Addr) (len cap : Nat) (l : List Int) (W : World) (e : Ending) (w : World) : Prop := e = .returned (.tuple #[]) ∧ Sorted B p len cap len l W w
set_option maxHeartbeats 1000000 in
theorem up_free (B j len cap : Nat) (p : Addr) (l : List Int) (w : World) (h : ListAt w p B len cap l) (hl : len ≤ 1000) (hj : j < len) (hu : UpAt l len j) :
    Calls Try.prog 86 #[.iface 128 (.pointer (some p)), .int .i64 j] w (UpPost B p len cap l w) := by
  have H := Lib.hid h
  have HU := Lib.hid hu
  clear h hu
  go_enter Try.func86, Try.ntmps86
  go_wp2
  go_loopw [1] (fun i wr => ∃ (k : Nat) (l' : List Int), k < len ∧ i = .int .i64 k ∧ Only B w wr ∧ ListAt wr p B len cap l' ∧ l'.Perm l ∧ UpAt l' len k) (fun i _ => (intOf i).toNat)
  case atStart => exact ⟨j, l, hj, rfl, Only.refl _ _, H.out, List.Perm.refl _, HU.out⟩
  case round =>
    obtain ⟨k, l', hk, rfl, ho, hL, hp, hu⟩ := hrel
    have HO := Lib.hid ho
    have HL := Lib.hid hL
    have HP := Lib.hid hp
    have HK := Lib.hid hu
    have hm := method_less p wr _ _ _ hL.c
    clear ho hL hp hu H HU
    by_cases hk0 : k = 0
    · subst hk0
      go_wp2
      first | go_end0 | refine bodyPost_ret (results_none rfl _ _ _) rfl ?_
      exact ⟨rfl, l', HO.out, HL.out, HP.out, up_done HK.out (.inl rfl)⟩
    · obtain ⟨q, hq⟩ : ∃ q, par k = q := ⟨_, rfl⟩
      have e1 : ((k : Int) - 1) / 2 = (q : Int) := by unfold par at hq; omega
      have hqk : q < k := by rw [← hq]; exact par_lt (by omega)
      have hne : ((q : Int) == (k : Int)) = false := by simp; omega
      have HQ := Lib.hid hq
      clear hq
      by_cases hlt : at0 l' k < at0 l' q
      · have hlt2 : decide (at0 l' k < at0 l' q) = true := by simp [hlt]
        have HLT := Lib.hid hlt
        clear hlt
        go_wp2_with (first
          | (go_at_call 115; refine (less_free _ _ _ _ _ _ _ _ HL.out (by omega) (by omega)).mono ?_; rintro e w1 ⟨rfl, ho1, hL1⟩; have hm1 := method_swap p w1 _ _ _ hL1.c; have HO1 := Lib.hid ho1; have HL1 := Lib.hid hL1; clear ho1 hL1)
          | (go_at_call 116; refine (swap_free _ _ _ _ _ _ _ _ HL1.out (by omega) (by omega)).mono ?_; rintro e w2 ⟨rfl, ho2, hL2⟩; have HO2 := Lib.hid ho2; have HL2 := Lib.hid hL2; clear ho2 hL2))
        go_roundw
        case rel =>
          have hs := up_step HK.out HL.out.len.symm (by omega) hk (by rw [HQ.out]; exact HLT.out)
          rw [HQ.out] at hs
          exact ⟨q, _, by omega, rfl, (HO.out.trans HO1.out).trans HO2.out, HL2.out, (swapL_perm (by rw [HL.out.len]; omega) (by rw [HL.out.len]; omega)).trans HP.out, hs⟩
        case measure => simp [intOf]; omega
      · have hlt2 : decide (at0 l' k < at0 l' q) = false := by simp; omega
        have HLT := Lib.hid hlt
        clear hlt
        go_wp2_with (go_at_call 115; refine (less_free _ _ _ _ _ _ _ _ HL.out (by omega) (by omega)).mono ?_; rintro e w1 ⟨rfl, ho1, hL1⟩; have HO1 := Lib.hid ho1; have HL1 := Lib.hid hL1; clear ho1 hL1)
        first | go_end0 | refine bodyPost_ret (results_none rfl _ _ _) rfl ?_
        exact ⟨rfl, l', HO.out.trans HO1.out, HL1.out, HP.out, up_done HK.out (.inr (by rw [HQ.out]; have := HLT.out; omega))⟩
end Go.Proofs.Ytenjdgoammaiiaa

/-
  Proved here: going down, Pop and Push of container/heap, over the free places in memory. Conditions: as each says.
-/
namespace Go.Proofs.Ytenjdgoammaiiaa
open Go.RowKit
set_option maxRecDepth 100000

def DownPost (B : Nat) (p : Addr) (len cap n : Nat) (l : List Int) (W : World) (e : Ending) (w : World) : Prop :=
  ∃ b : Bool, e = .returned (.bool b) ∧ ∃ l' : List Int, Only B W w ∧ ListAt w p B len cap l' ∧ l'.Perm l ∧ IsHeap l' n ∧ ∀ k, n ≤ k → at0 l' k = at0 l k
theorem down_end {l : List Int} {n k j : Nat} (h : DownAt l n k) (hj : at0 l k ≤ at0 l j) (hmin : ∀ i, 0 < i → i < n → par i = k → at0 l j ≤ at0 l i) : IsHeap l n :=
  down_done h fun i h0 hi hp => by have := hmin i h0 hi hp; omega
theorem min_right {l : List Int} {n k : Nat} (h : at0 l (2 * k + 2) < at0 l (2 * k + 1)) : ∀ i, 0 < i → i < n → par i = k → at0 l (2 * k + 2) ≤ at0 l i := by
  intro i h0 _ hp
  rcases child_of h0 hp with rfl | rfl <;> omega
theorem min_left {l : List Int} {n k : Nat} (h : ¬ at0 l (2 * k + 2) < at0 l (2 * k + 1)) : ∀ i, 0 < i → i < n → par i = k → at0 l (2 * k + 1) ≤ at0 l i := by
  intro i h0 _ hp
  rcases child_of h0 hp with rfl | rfl <;> omega
theorem min_only {l : List Int} {n k : Nat} (h : n ≤ 2 * k + 2) : ∀ i, 0 < i → i < n → par i = k → at0 l (2 * k + 1) ≤ at0 l i := by
  intro i h0 hi hp
  rcases child_of h0 hp with rfl | rfl <;> omega
theorem min_of_right {l : List Int} {n k a b : Nat} (ha : 2 * k + 1 = a) (hb : 2 * k + 2 = b) (h : at0 l b < at0 l a) : ∀ i, 0 < i → i < n → par i = k → at0 l b ≤ at0 l i := by
  subst ha hb
  exact min_right h
theorem min_of_left {l : List Int} {n k a b : Nat} (ha : 2 * k + 1 = a) (hb : 2 * k + 2 = b) (h : ¬ at0 l b < at0 l a) : ∀ i, 0 < i → i < n → par i = k → at0 l a ≤ at0 l i := by
  subst ha hb
  exact min_left h
theorem min_of_only {l : List Int} {n k a : Nat} (ha : 2 * k + 1 = a) (h : n ≤ 2 * k + 2) : ∀ i, 0 < i → i < n → par i = k → at0 l a ≤ at0 l i := by
  subst ha
  exact min_only h
theorem par_a {k a : Nat} (ha : 2 * k + 1 = a) : par a = k := by subst ha; exact par_left k
theorem par_b {k b : Nat} (hb : 2 * k + 2 = b) : par b = k := by subst hb; exact par_right k
theorem swap_far {l : List Int} {i j n k : Nat} (hi : i < n) (hj : j < n) (hn : n ≤ l.length) (hk : n ≤ k) : at0 (swapL l i j) k = at0 l k := by
  rw [at0_swap (by omega) (by omega), if_neg (by omega), if_neg (by omega)]
set_option maxHeartbeats 4000000 in
theorem down_free (B len cap n : Nat) (p : Addr) (l : List Int) (w : World) (h : ListAt w p B len cap l) (hl : len ≤ 1000) (hn : n ≤ len) (hu : DownAt l n 0) :
    Calls Try.prog 81 #[.iface 128 (.pointer (some p)), .int .i64 0, .int .i64 n] w (DownPost B p len cap n l w) := by
  have H := Lib.hid h
  have HU := Lib.hid hu
  clear h hu
  go_enter Try.func81, Try.ntmps81
  go_wp2
  go_loopw [7] (fun i wr => ∃ (k : Nat) (l' : List Int), k ≤ n ∧ i = .int .i64 k ∧ Only B w wr ∧ ListAt wr p B len cap l' ∧ l'.Perm l ∧ DownAt l' n k ∧ ∀ k, n ≤ k → at0 l' k = at0 l k) (fun i _ => n - (intOf i).toNat)
  case atStart => exact ⟨0, l, by omega, rfl, Only.refl _ _, H.out, List.Perm.refl _, HU.out, fun _ _ => rfl⟩
  case round =>
    obtain ⟨k, l', hk, rfl, ho, hL, hp, hu, hf⟩ := hrel
    have HO := Lib.hid ho
    have HL := Lib.hid hL
    have HP := Lib.hid hp
    have HK := Lib.hid hu
    have HF := Lib.hid hf
    have hm := method_less p wr _ _ _ hL.c
    clear ho hL hp hu H HU hf
    by_cases h1 : n ≤ 2 * k + 1
    · go_wp2
      go_ret
      exact ⟨_, rfl, l', HO.out, HL.out, HP.out, down_done HK.out (fun i h0 hi hp => by have := child_of h0 hp; omega), HF.out⟩
    · obtain ⟨a, ha⟩ : ∃ a, 2 * k + 1 = a := ⟨_, rfl⟩
      obtain ⟨b, hb⟩ : ∃ b, 2 * k + 2 = b := ⟨_, rfl⟩
      have e2 : 2 * (k : Int) + 1 = (a : Int) := by omega
      have e3 : (a : Int) + 1 = (b : Int) := by omega
      have h1' : a < n := by omega
      have hka : k < a := by omega
      have hkb : k < b := by omega
      have HA := Lib.hid ha
      have HB := Lib.hid hb
      clear h1 ha hb
      by_cases h2 : b < n
      · by_cases h3 : at0 l' b < at0 l' a
        · have HM := Lib.hid (min_of_right (n := n) HA.out HB.out h3)
          have d3 : decide (at0 l' b < at0 l' a) = true := by simp [h3]
          clear h3
          have tok1 : True := trivial
          by_cases h4 : at0 l' (b) < at0 l' k
          · have d4 : decide (at0 l' (b) < at0 l' k) = true := by simp [h4]
            have H4 := Lib.hid h4
            clear h4
            go_wp2_with (first
              | (have _t := tok1; go_at_call 115; refine (less_free _ b a _ _ _ _ _ HL.out (by omega) (by omega)).mono ?_; rintro e w1 ⟨rfl, ho1, hL1⟩; have hm1 := method_less p w1 _ _ _ hL1.c; have HO1 := Lib.hid ho1; have HL1 := Lib.hid hL1; clear ho1 hL1; clear tok1)
              | (go_at_call 115; refine (less_free _ (b) k _ _ _ _ _ HL1.out (by omega) (by omega)).mono ?_; rintro e w2 ⟨rfl, ho2, hL2⟩; have hm2 := method_swap p w2 _ _ _ hL2.c; have HO2 := Lib.hid ho2; have HL2 := Lib.hid hL2; clear ho2 hL2)
              | (go_at_call 116; refine (swap_free _ k (b) _ _ _ _ _ HL2.out (by omega) (by omega)).mono ?_; rintro e w3 ⟨rfl, ho3, hL3⟩; have HO3 := Lib.hid ho3; have HL3 := Lib.hid hL3; clear ho3 hL3))
            go_roundw
            case rel =>
              exact ⟨b, _, by omega, by go_num, ((HO.out.trans HO1.out).trans HO2.out).trans HO3.out, HL3.out, (swapL_perm (by rw [HL.out.len]; omega) (by rw [HL.out.len]; omega)).trans HP.out, down_step HK.out (by rw [HL.out.len]; omega) (by omega) (by omega) (par_b HB.out) H4.out HM.out, fun i hi => (swap_far (n := n) (by omega) (by omega) (by rw [HL.out.len]; omega) hi).trans (HF.out i hi)⟩
            case measure => simp [intOf]; omega
          · have d4 : decide (at0 l' (b) < at0 l' k) = false := by simp; omega
            have H4 := Lib.hid h4
            clear h4
            go_wp2_with (first
              | (have _t := tok1; go_at_call 115; refine (less_free _ b a _ _ _ _ _ HL.out (by omega) (by omega)).mono ?_; rintro e w1 ⟨rfl, ho1, hL1⟩; have hm1 := method_less p w1 _ _ _ hL1.c; have HO1 := Lib.hid ho1; have HL1 := Lib.hid hL1; clear ho1 hL1; clear tok1)
              | (go_at_call 115; refine (less_free _ (b) k _ _ _ _ _ HL1.out (by omega) (by omega)).mono ?_; rintro e w2 ⟨rfl, ho2, hL2⟩; have hm2 := method_swap p w2 _ _ _ hL2.c; have HO2 := Lib.hid ho2; have HL2 := Lib.hid hL2; clear ho2 hL2)
              | (go_at_call 116; refine (swap_free _ k (b) _ _ _ _ _ HL2.out (by omega) (by omega)).mono ?_; rintro e w3 ⟨rfl, ho3, hL3⟩; have HO3 := Lib.hid ho3; have HL3 := Lib.hid hL3; clear ho3 hL3))
            go_ret
            exact ⟨_, rfl, l', (HO.out.trans HO1.out).trans HO2.out, HL2.out, HP.out, down_end HK.out (by have := H4.out; omega) HM.out, HF.out⟩
        · have HM := Lib.hid (min_of_left (n := n) HA.out HB.out h3)
          have d3 : decide (at0 l' b < at0 l' a) = false := by simp; omega
          clear h3
          have tok1 : True := trivial
          by_cases h4 : at0 l' (a) < at0 l' k
          · have d4 : decide (at0 l' (a) < at0 l' k) = true := by simp [h4]
            have H4 := Lib.hid h4
            clear h4
            go_wp2_with (first
              | (have _t := tok1; go_at_call 115; refine (less_free _ b a _ _ _ _ _ HL.out (by omega) (by omega)).mono ?_; rintro e w1 ⟨rfl, ho1, hL1⟩; have hm1 := method_less p w1 _ _ _ hL1.c; have HO1 := Lib.hid ho1; have HL1 := Lib.hid hL1; clear ho1 hL1; clear tok1)
              | (go_at_call 115; refine (less_free _ (a) k _ _ _ _ _ HL1.out (by omega) (by omega)).mono ?_; rintro e w2 ⟨rfl, ho2, hL2⟩; have hm2 := method_swap p w2 _ _ _ hL2.c; have HO2 := Lib.hid ho2; have HL2 := Lib.hid hL2; clear ho2 hL2)
              | (go_at_call 116; refine (swap_free _ k (a) _ _ _ _ _ HL2.out (by omega) (by omega)).mono ?_; rintro e w3 ⟨rfl, ho3, hL3⟩; have HO3 := Lib.hid ho3; have HL3 := Lib.hid hL3; clear ho3 hL3))
            go_roundw
            case rel =>
              exact ⟨a, _, by omega, by go_num, ((HO.out.trans HO1.out).trans HO2.out).trans HO3.out, HL3.out, (swapL_perm (by rw [HL.out.len]; omega) (by rw [HL.out.len]; omega)).trans HP.out, down_step HK.out (by rw [HL.out.len]; omega) (by omega) (by omega) (par_a HA.out) H4.out HM.out, fun i hi => (swap_far (n := n) (by omega) (by omega) (by rw [HL.out.len]; omega) hi).trans (HF.out i hi)⟩
            case measure => simp [intOf]; omega
          · have d4 : decide (at0 l' (a) < at0 l' k) = false := by simp; omega
            have H4 := Lib.hid h4
            clear h4
            go_wp2_with (first
              | (have _t := tok1; go_at_call 115; refine (less_free _ b a _ _ _ _ _ HL.out (by omega) (by omega)).mono ?_; rintro e w1 ⟨rfl, ho1, hL1⟩; have hm1 := method_less p w1 _ _ _ hL1.c; have HO1 := Lib.hid ho1; have HL1 := Lib.hid hL1; clear ho1 hL1; clear tok1)
              | (go_at_call 115; refine (less_free _ (a) k _ _ _ _ _ HL1.out (by omega) (by omega)).mono ?_; rintro e w2 ⟨rfl, ho2, hL2⟩; have hm2 := method_swap p w2 _ _ _ hL2.c; have HO2 := Lib.hid ho2; have HL2 := Lib.hid hL2; clear ho2 hL2)
              | (go_at_call 116; refine (swap_free _ k (a) _ _ _ _ _ HL2.out (by omega) (by omega)).mono ?_; rintro e w3 ⟨rfl, ho3, hL3⟩; have HO3 := Lib.hid ho3; have HL3 := Lib.hid hL3; clear ho3 hL3))
            go_ret
            exact ⟨_, rfl, l', (HO.out.trans HO1.out).trans HO2.out, HL2.out, HP.out, down_end HK.out (by have := H4.out; omega) HM.out, HF.out⟩
      · have HM := Lib.hid (min_of_only (l := l') (n := n) (k := k) HA.out (by have := HB.out; omega))
        by_cases h4 : at0 l' (a) < at0 l' k
        · have d4 : decide (at0 l' (a) < at0 l' k) = true := by simp [h4]
          have H4 := Lib.hid h4
          clear h4
          go_wp2_with (first
            | (go_at_call 115; refine (less_free _ (a) k _ _ _ _ _ HL.out (by omega) (by omega)).mono ?_; rintro e w2 ⟨rfl, ho2, hL2⟩; have hm2 := method_swap p w2 _ _ _ hL2.c; have HO2 := Lib.hid ho2; have HL2 := Lib.hid hL2; clear ho2 hL2)
            | (go_at_call 116; refine (swap_free _ k (a) _ _ _ _ _ HL2.out (by omega) (by omega)).mono ?_; rintro e w3 ⟨rfl, ho3, hL3⟩; have HO3 := Lib.hid ho3; have HL3 := Lib.hid hL3; clear ho3 hL3))
          go_roundw
          case rel =>
            exact ⟨a, _, by omega, by go_num, (HO.out.trans HO2.out).trans HO3.out, HL3.out, (swapL_perm (by rw [HL.out.len]; omega) (by rw [HL.out.len]; omega)).trans HP.out, down_step HK.out (by rw [HL.out.len]; omega) (by omega) (by omega) (par_a HA.out) H4.out HM.out, fun i hi => (swap_far (n := n) (by omega) (by omega) (by rw [HL.out.len]; omega) hi).trans (HF.out i hi)⟩
          case measure => simp [intOf]; omega
        · have d4 : decide (at0 l' (a) < at0 l' k) = false := by simp; omega
          have H4 := Lib.hid h4
          clear h4
          go_wp2_with (first
            | (go_at_call 115; refine (less_free _ (a) k _ _ _ _ _ HL.out (by omega) (by omega)).mono ?_; rintro e w2 ⟨rfl, ho2, hL2⟩; have hm2 := method_swap p w2 _ _ _ hL2.c; have HO2 := Lib.hid ho2; have HL2 := Lib.hid hL2; clear ho2 hL2)
            | (go_at_call 116; refine (swap_free _ k (a) _ _ _ _ _ HL2.out (by omega) (by omega)).mono ?_; rintro e w3 ⟨rfl, ho3, hL3⟩; have HO3 := Lib.hid ho3; have HL3 := Lib.hid hL3; clear ho3 hL3))
          go_ret
          exact ⟨_, rfl, l', HO.out.trans HO2.out, HL2.out, HP.out, down_end HK.out (by have := H4.out; omega) HM.out, HF.out⟩
end Go.Proofs.Ytenjdgoammaiiaa

/-
  Proved here: Pop and Push of container/heap, over the free places in memory. Conditions: as each says.
-/
namespace Go.Proofs.Ytenjdgoammaiiaa
open Go.RowKit
set_option maxRecDepth 100000

theorem int_info : (Try.prog.info? 3).map (fun i => (i.zero, i.size, i.bytes)) = some (some (.int .i64 0), 1, 8) := by kernel_rfl
theorem Only.cell {B : Nat} {W w : World} (h : Only B W w) {p : Addr} (hp : p.block ≠ B) : w.cell? p = W.cell? p := World.cell?_of_block (w := W) (h.block _ hp)
theorem Only.frozen {B : Nat} {W w : World} (h : Only B W w) {p : Addr} (hp : p.block ≠ B) : w.frozen? p = W.frozen? p := World.frozen?_of_block (w := W) (h.block _ hp)
/-- The slice is made shorter by one. -/
theorem ListAt.pop {w : World} {p : Addr} {B n cap : Nat} {l : List Int} (h : ListAt w p B (n + 1) cap l) : ListAt (w.setCell p (.slice (some ⟨B, 0, none⟩) n cap)) p B n cap (l.take n) := by
  obtain ⟨cur, hh, h1, h2, h3, h4⟩ := h.block
  have hl := h.len
  refine ⟨World.cell?_setCell_same _ _ _ h.c, ⟨by rw [ints_length, List.length_take]; omega, .inr ⟨B, cap, cur, rfl, Nat.zero_le _, ?_, by omega, h2, by omega, ?_⟩⟩, h.ne⟩
  · rw [Below.heap_setCell _ _ _ _ (fun e => h.ne e.symm)]
    exact hh
  · rw [Nat.mul_one, ints, List.map_take, ← ints, ← h4, List.take_take, Nat.min_eq_left (by omega)]
def PopM (p : Addr) (B n cap : Nat) (x : Int) (W : World) (e : Ending) (w : World) : Prop := e = .returned (.iface 3 (.int .i64 x)) ∧ w = W.setCell p (.slice (some ⟨B, 0, none⟩) n cap)
theorem pop_free (B n cap : Nat) (p : Addr) (l : List Int) (w : World) (h : ListAt w p B (n + 1) cap l) (hf : w.frozen? p = false) (hn : n ≤ 1000) :
    Calls Try.prog 117 #[.pointer (some p)] w (PopM p B n cap (at0 l n) w) := by
  have hc := h.c
  have h1 := h.row n (by omega)
  obtain ⟨cur, hh, hcap, hmax, -, -⟩ := h.block
  have e1 : ((n + 1 : Nat) : Int) - 1 = (n : Int) := by omega
  obtain ⟨x, hx⟩ : ∃ x, at0 l n = x := ⟨_, rfl⟩
  rw [hx] at h1 ⊢
  unfold maxLen at hmax
  clear hh hx h
  go_enter Try.func117, Try.ntmps117
  go_wp2
  go_ret
  exact ⟨rfl, rfl⟩
/-- What Pop of container/heap gives: the least one; the others stay, a heap. -/
def HeapPop (p : Addr) (B n cap : Nat) (l : List Int) (W : World) (e : Ending) (w : World) : Prop :=
  e = .returned (.iface 3 (.int .i64 (at0 l 0))) ∧ ∃ (W1 : World) (l2 : List Int), Only B W W1 ∧ w = W1.setCell p (.slice (some ⟨B, 0, none⟩) n cap) ∧ ListAt w p B n cap l2 ∧ IsHeap l2 n ∧ (l2 ++ [at0 l 0]).Perm l
theorem pop_perm {l l1 : List Int} {n : Nat} (hl : l.length = n + 1) (hp : l1.Perm (swapL l 0 n)) (hx : at0 l1 n = at0 (swapL l 0 n) n) : (l1.take n ++ [at0 l 0]).Perm l := by
  have h1 : l1.length = n + 1 := by rw [hp.length_eq, swapL_length, hl]
  have e : at0 (swapL l 0 n) n = at0 l 0 := by rw [at0_swap (by omega) (by omega), if_pos rfl]
  have e2 : l1.take n ++ [at0 l 0] = l1 := by
    rw [← e, ← hx, at0_eq (by omega), ← List.take_succ_eq_append_getElem (by omega), List.take_of_length_le (by omega)]
  rw [e2]
  exact hp.trans (swapL_perm (by omega) (by omega))
theorem heap_pop (B n cap : Nat) (p : Addr) (l : List Int) (w : World) (h : ListAt w p B (n + 1) cap l) (hf : w.frozen? p = false) (hn : n < 1000) (hh : IsHeap l (n + 1)) :
    Calls Try.prog 64 #[.iface 128 (.pointer (some p))] w (HeapPop p B n cap l w) := by
  have hm := method_len p w _ _ _ h.c
  have hm2 := method_swap p w _ _ _ h.c
  have hmp := fun W => method_pop p W
  have e1 : ((n + 1 : Nat) : Int) - 1 = (n : Int) := by omega
  have hds : DownAt (swapL l 0 n) n 0 := down_start h.len (by rw [h.len]; exact hh)
  have H := Lib.hid h
  have HD := Lib.hid hds
  have HF := Lib.hid hf
  clear h hds hf hh
  go_enter Try.func64, Try.ntmps64
  go_wp2_with (first
    | (go_at_call 63; refine (len_free _ _ _ _).mono ?_; rintro e w1 ⟨rfl, rfl⟩)
    | (go_at_call 116; refine (swap_free _ 0 n _ _ _ _ _ H.out (by omega) (by omega)).mono ?_; rintro e w2 ⟨rfl, ho2, hL2⟩; have HO2 := Lib.hid ho2; have HL2 := Lib.hid hL2; clear ho2 hL2)
    | (go_at_call 81; refine (down_free _ _ _ n _ _ _ HL2.out (by omega) (by omega) HD.out).mono ?_; rintro e w3 ⟨b3, rfl, l3, ho3, hL3, hp3, hh3, hx3⟩; have HO3 := Lib.hid ho3; have HL3 := Lib.hid hL3; have HP3 := Lib.hid hp3; have HH3 := Lib.hid hh3; have HX3 := Lib.hid (hx3 n (Nat.le_refl _)); clear ho3 hL3 hp3 hh3 hx3)
    | (go_at_call 117; refine (pop_free _ _ _ _ _ _ HL3.out (by rw [HO3.out.frozen HL3.out.ne, HO2.out.frozen HL3.out.ne]; exact HF.out) (by omega)).mono ?_; rintro e w4 ⟨rfl, hw4⟩; have HW4 := Lib.hid hw4; clear hw4))
  go_ret
  have hl := H.out.len
  have hx : at0 l3 n = at0 l 0 := by rw [HX3.out, at0_swap (by omega) (by omega), if_pos rfl]
  refine ⟨by rw [← hx]; rfl, w3, l3.take n, HO2.out.trans HO3.out, HW4.out, by rw [HW4.out]; exact HL3.out.pop, ?_, pop_perm hl HP3.out HX3.out⟩
  have h2 := isHeap_take HH3.out (by rw [HL3.out.len]; omega)
  rwa [List.length_take, Nat.min_eq_left (by rw [HL3.out.len]; omega)] at h2
/-- All but block c, and one more, stays; new blocks may come. -/
structure But2 (c : Nat) (b : Option Nat) (W w : World) : Prop where
  os : w.os = W.os
  tape : w.tape = W.tape
  output : w.output = W.output
  size : W.heap.size ≤ w.heap.size
  block : ∀ k, k < W.heap.size → k ≠ c → some k ≠ b → w.heap[k]? = W.heap[k]?
def appendH (ats : Array TypeId) (ty : TypeId) (args : Array Value) : Sem Value := Builtin.append_ ats ty args
theorem append_veilH (ats : Array TypeId) (ty : TypeId) (args : Array Value) : Builtin.append_ ats ty args = appendH ats ty args := rfl
/-- A list behind a pointer to its slice, which may be nil. -/
structure FreeAt (w : World) (p : Addr) (v : Value) (len : Nat) (l : List Int) : Prop where
  c : w.cell? p = some v
  own : w.ownsRow 0 3 1 v len (ints l)
  ne : some p.block ≠ v.ownBlock
def PushM (p : Addr) (v : Value) (len : Nat) (l : List Int) (x : Int) (W : World) (e : Ending) (w : World) : Prop :=
  e = .returned (.tuple #[]) ∧ ∃ B cap, ListAt w p B (len + 1) cap (l ++ [x]) ∧ But2 p.block v.ownBlock W w ∧ (some B = v.ownBlock ∨ W.heap.size ≤ B) ∧ w.frozen? p = false ∧ ∀ o, o ≠ p.off → w.cell? ⟨p.block, o, none⟩ = W.cell? ⟨p.block, o, none⟩
theorem push_run {w : World} {p : Addr} {v : Value} {len : Nat} {l : List Int} {x : Int} (h : FreeAt w p v len l) (hf : w.frozen? p = false) (hl : len ≤ 1000) :
    ∃ B cap W3, (appendH #[124, 124] 124 #[v, .slice (some ⟨w.heap.size, 0, none⟩) 1 1]).run Try.prog (w.alloc (.cells #[.int .i64 x] 3)).drew = .ok (.slice (some ⟨B, 0, none⟩) (len + 1) cap) W3 ∧
      W3.cell? p = some v ∧ W3.frozen? p = false ∧ ListAt (W3.setCell p (.slice (some ⟨B, 0, none⟩) (len + 1) cap)) p B (len + 1) cap (l ++ [x]) ∧
      But2 p.block v.ownBlock w (W3.setCell p (.slice (some ⟨B, 0, none⟩) (len + 1) cap)) ∧ (some B = v.ownBlock ∨ w.heap.size ≤ B) ∧ ∀ o, o ≠ p.off → (W3.setCell p (.slice (some ⟨B, 0, none⟩) (len + 1) cap)).cell? ⟨p.block, o, none⟩ = w.cell? ⟨p.block, o, none⟩ := by
  obtain ⟨i0, hi0, hz0, hz1, hz2⟩ := info_parts int_info
  have hp := cell_block_lt h.c
  have hown : (w.alloc (.cells #[.int .i64 x] 3)).drew.ownsRow 0 3 1 v len (ints l) := h.own.alloc _
  obtain ⟨v', W3, hrun, hown3, hgr, -, hat⟩ := run_append_own_at (P := Try.prog) (w.alloc (.cells #[.int .i64 x] 3)).drew 0 124 124 3 i0 _ 1 8 Try.underlying124 hi0 hz0 hz1 hz2 rfl (by omega) v len (ints l) hown
    ⟨w.heap.size, 0, none⟩ 1 1 [.int .i64 x] rfl (cell_one_new w (.int .i64 x) 3) (fun u hu => by simp at hu; subst hu; rfl) (by unfold maxLen; omega) (by omega) (by omega)
  have e : ints l ++ [.int .i64 x] = ints (l ++ [x]) := by simp [ints]
  rw [e] at hown3
  obtain ⟨B, cap, rfl⟩ : ∃ B cap, v' = .slice (some ⟨B, 0, none⟩) (len + 1) cap := by
    rcases hown3.2 with ⟨_, h0⟩ | ⟨g, cap, cur, hv, -⟩
    · omega
    · exact ⟨g, cap, hv⟩
  have hbp : W3.heap[p.block]? = w.heap[p.block]? := by
    rw [hgr.block p.block (by simp; omega) h.ne]
    exact Below.heap_alloc _ _ _ hp
  have hat2 : some B = v.ownBlock ∨ w.heap.size ≤ B := by
    rcases hat with h1 | h1
    · exact .inl h1
    · simp [Value.ownBlock] at h1; exact .inr (by omega)
  have hneB : p.block ≠ B := by
    rcases hat2 with h1 | h1
    · intro e2; exact h.ne (by rw [e2]; exact h1)
    · omega
  have hz : w.heap.size + 1 ≤ W3.heap.size := by have := hgr.size; simpa using this
  refine ⟨B, cap, W3, hrun, (World.cell?_of_block (w := w) hbp).trans h.c, (World.frozen?_of_block (w := w) hbp).trans hf, ⟨?_, ?_, hneB⟩, ⟨hgr.os, hgr.tape, hgr.output, by simp [World.setCell]; omega, fun k hk hkc hkb => ?_⟩, hat2, fun o ho => ?_⟩
  · exact World.cell?_setCell_same _ _ _ ((World.cell?_of_block (w := w) hbp).trans h.c)
  · obtain ⟨h1, h2⟩ := hown3
    refine ⟨h1, ?_⟩
    rcases h2 with h2 | ⟨g, cap2, cur, hv, hg, hh, r⟩
    · exact Or.inl h2
    · injection hv with hv1 _ hv3
      injection hv1 with hv1
      injection hv1 with hv1
      subst hv1 hv3
      exact Or.inr ⟨B, cap, cur, rfl, hg, by rw [Below.heap_setCell _ _ _ _ (fun e2 => hneB e2.symm)]; exact hh, r⟩
  · rw [Below.heap_setCell _ _ _ _ hkc, hgr.block k (by simp; omega) hkb]
    exact Below.heap_alloc _ _ _ hk
  · rw [World.cell?_setCell_other _ _ _ _ (by intro e; exact ho (by rw [e]))]
    exact World.cell?_of_block (w := w) hbp
theorem assert_int (x : Int) (W : World) : (Instr.typeAssert (.iface 3 (.int .i64 x)) 20 3 false).run Try.prog W = .ok (.int .i64 x) W := by kernel_rfl
attribute [local go_sem ↓] append_veilH
theorem push_free (p : Addr) (v : Value) (len : Nat) (l : List Int) (x : Int) (w : World) (h : FreeAt w p v len l) (hf : w.frozen? p = false) (hl : len ≤ 1000) :
    Calls Try.prog 118 #[.pointer (some p), .iface 3 (.int .i64 x)] w (PushM p v len l x w) := by
  obtain ⟨B, cap, W3, hrun, hc3, hf3, hL3, hb3, ha3, ho3⟩ := push_run (x := x) h hf hl
  have hc := h.c
  have hc2 : (w.alloc (.cells #[.int .i64 x] 3)).cell? p = some v := by rw [World.cell?_alloc_lt _ _ _ (cell_block_lt hc)]; exact hc
  have HL := Lib.hid hL3
  have HB := Lib.hid hb3
  have HA := Lib.hid ha3
  have HO := Lib.hid ho3
  have hta := assert_int x
  clear h hL3 hb3 ha3 ho3
  go_enter Try.func118, Try.ntmps118
  go_region
  first | go_end0 | refine bodyPost_ret (results_none rfl _ _ _) rfl ?_
  exact ⟨rfl, B, cap, HL.out, HB.out, HA.out, by rw [World.frozen?_setCell]; exact hf3, HO.out⟩
/-- What Push of container/heap gives: one more, a heap. -/
def HeapPush (p : Addr) (v : Value) (len : Nat) (l : List Int) (x : Int) (W : World) (e : Ending) (w : World) : Prop :=
  e = .returned (.tuple #[]) ∧ ∃ (B cap : Nat) (l2 : List Int), ListAt w p B (len + 1) cap l2 ∧ IsHeap l2 (len + 1) ∧ l2.Perm (l ++ [x]) ∧ But2 p.block v.ownBlock W w ∧ (some B = v.ownBlock ∨ W.heap.size ≤ B) ∧ w.frozen? p = false ∧ ∀ o, o ≠ p.off → w.cell? ⟨p.block, o, none⟩ = W.cell? ⟨p.block, o, none⟩
theorem but_only {c B : Nat} {b : Option Nat} {W w1 w : World} (h : But2 c b W w1) (ho : Only B w1 w) (hB : some B = b ∨ W.heap.size ≤ B) : But2 c b W w :=
  ⟨ho.os.trans h.os, ho.tape.trans h.tape, ho.output.trans h.output, by rw [ho.size]; exact h.size, fun k hk hc hb => by
    rw [ho.block k (by rcases hB with e | e
                       · intro e2; exact hb (by rw [e2]; exact e)
                       · omega)]
    exact h.block k hk hc hb⟩
theorem heap_push (p : Addr) (v : Value) (len : Nat) (l : List Int) (x : Int) (w : World) (h : FreeAt w p v len l) (hf : w.frozen? p = false) (hl : len < 1000) (hh : IsHeap l len) :
    Calls Try.prog 76 #[.iface 128 (.pointer (some p)), .iface 3 (.int .i64 x)] w (HeapPush p v len l x w) := by
  have hmp := fun W => method_push p W
  have e1 : ((len + 1 : Nat) : Int) - 1 = (len : Int) := by omega
  have hll : l.length = len := by have := h.own.1; rw [ints_length] at this; omega
  have hu : UpAt (l ++ [x]) (len + 1) len := by have := up_start (x := x) (l := l) (by rw [hll]; exact hh); rwa [hll] at this
  have H := Lib.hid h
  have HU := Lib.hid hu
  clear h hh hu hll
  go_enter Try.func76, Try.ntmps76
  go_wp2_with (first
    | (go_at_call 118; refine (push_free _ _ _ _ _ _ H.out hf (by omega)).mono ?_; rintro e w1 ⟨rfl, B, cap, hL1, hb1, ha1, hf1, ho1⟩; have HO1 := Lib.hid ho1; have hm1 := method_len p w1 _ _ _ hL1.c; have HL1 := Lib.hid hL1; have HB1 := Lib.hid hb1; have HA1 := Lib.hid ha1; clear hL1 hb1 ha1 ho1)
    | (go_at_call 63; refine (len_free _ _ _ _).mono ?_; rintro e w2 ⟨rfl, rfl⟩)
    | (go_at_call 86; refine (up_free _ len _ _ _ _ _ HL1.out (by omega) (by omega) HU.out).mono ?_; rintro e w3 ⟨rfl, l3, ho3, hL3, hp3, hh3⟩; have HO3 := Lib.hid ho3; have HL3 := Lib.hid hL3; have HP3 := Lib.hid hp3; have HH3 := Lib.hid hh3; clear ho3 hL3 hp3 hh3))
  first | go_end0 | refine bodyPost_ret (results_none rfl _ _ _) rfl ?_
  exact ⟨rfl, B, cap, l3, HL3.out, HH3.out, HP3.out, but_only HB1.out HO3.out HA1.out, HA1.out, by rw [HO3.out.frozen HL3.out.ne]; exact hf1, fun o ho => (HO3.out.cell (p := ⟨p.block, o, none⟩) HL3.out.ne).trans (HO1.out o ho)⟩
end Go.Proofs.Ytenjdgoammaiiaa
