/-
  Proved here: the law InstBack returns true, over a slice of instructions. Conditions: the fields fit their kinds.
-/
import Derived.Test.YtmihmgchbibmoaaReadsLaw
namespace Go.Proofs.Ytmihmgchbibmoaa
open Go.RowKit

theorem law_back_none (w : World) (A : Option Addr) (len cap : Nat) (h : len < 1 ∨ 64 < len) (hm : len ≤ maxLen) :
    Calls Try.prog 5 #[.slice A len cap] w fun e w' => e = .returned (.bool true) ∧ Below w.heap.size w w' := by
  unfold maxLen at hm
  by_cases h1 : len < 1
  · have d : decide ((len : Int) < 1) = true := decide_eq_true (by omega)
    clear h h1
    go_enter Try.func5, Try.ntmps5
    go_wp2_with (go_at_call 7; refine (alive _).mono ?_; rintro e w1 ⟨rfl, hb1⟩; have HB1 := Lib.hid hb1; clear hb1)
    go_ret
    exact ⟨rfl, HB1.out⟩
  · have d : decide ((len : Int) < 1) = false := decide_eq_false (by omega)
    have d2 : decide (64 < (len : Int)) = true := decide_eq_true (by omega)
    clear h h1
    go_enter Try.func5, Try.ntmps5
    go_wp2_with (go_at_call 7; refine (alive _).mono ?_; rintro e w1 ⟨rfl, hb1⟩; have HB1 := Lib.hid hb1; clear hb1)
    go_ret
    exact ⟨rfl, HB1.out⟩
/-- The first k instructions have four bits in Dst and in Src. -/
def Small (l : List Ins) (k : Nat) : Prop := ∀ j, j < k → (l.getD j .zero).dst ≤ 15 ∧ (l.getD j .zero).src ≤ 15
theorem Small.next {l : List Ins} {k : Nat} {x : Ins} (h : Small l k) (hx : l.getD k .zero = x) (hd : x.dst ≤ 15) (hs : x.src ≤ 15) : Small l (k + 1) := by
  intro j hj
  rcases Nat.lt_or_ge j k with h1 | h1
  · exact h j h1
  · obtain rfl : j = k := by omega
    rw [hx]
    exact ⟨hd, hs⟩
theorem Small.all {l : List Ins} (h : Small l l.length) (hfit : ∀ x ∈ l, x.Fit) : ∀ x ∈ l, x.Fit ∧ x.dst ≤ 15 ∧ x.src ≤ 15 := by
  intro x hx
  obtain ⟨j, hj, rfl⟩ := List.getElem_of_mem hx
  have := h j hj
  rw [List.getD_eq_getElem?_getD, List.getElem?_eq_getElem hj] at this
  exact ⟨hfit _ hx, this.1, this.2⟩
set_option maxHeartbeats 2000000 in
theorem law_back_code (w : World) (A : Option Addr) (len cap : Nat) (l : List Ins) (hl : l.length = len) (h1 : 1 ≤ len) (h64 : len ≤ 64) (hfit : ∀ x ∈ l, x.Fit) (hr : InsAt w A l) :
    Calls Try.prog 5 #[.slice A len cap] w fun e w' => e = .returned (.bool true) ∧ Below w.heap.size w w' := by
  have d : decide ((len : Int) < 1) = false := decide_eq_false (by omega)
  have d2 : decide (64 < (len : Int)) = false := decide_eq_false (by omega)
  have HL := Lib.hid hl
  clear hl
  go_enter Try.func5, Try.ntmps5
  go_wp2_with (go_at_call 7; refine (alive _).mono ?_; rintro e w1 ⟨rfl, hb1⟩; have hr1 := insAt_below hr hb1; have HB1 := Lib.hid hb1; clear hb1)
  clear d d2
  go_loop [3] (fun i => ∃ k : Nat, k ≤ len ∧ i = .int .i64 k ∧ Small l k) (fun i => len - (intOf i).toNat)
  case atStart => exact ⟨0, by omega, rfl, fun j hj => absurd hj (by omega)⟩
  case round =>
    obtain ⟨k, hk, rfl, hsm⟩ := hrel
    by_cases hlt : k < len
    · have hll := HL.out
      obtain ⟨g, off, rfl, hg, hrow⟩ : ∃ g off, A = some ⟨g, off, none⟩ ∧ g < w1.heap.size ∧ InsRow w1 g off l := by
        rcases hr1 with h | h
        · omega
        · exact h
      obtain ⟨-, c1, c2, -, -⟩ := hrow k (by omega)
      obtain ⟨x, hx⟩ : ∃ x, l.getD k .zero = x := ⟨_, rfl⟩
      rw [hx] at c1 c2
      have HX := Lib.hid hx
      have HS := Lib.hid hsm
      clear hx hsm hll hrow hr hr1
      by_cases hd : 15 < x.dst
      · have e1 : decide (15 < x.dst) = true := decide_eq_true hd
        go_wp2
        go_ret
        exact ⟨rfl, HB1.out⟩
      · have e1 : decide (15 < x.dst) = false := decide_eq_false hd
        by_cases hs : 15 < x.src
        · have e2 : decide (15 < x.src) = true := decide_eq_true hs
          go_wp2
          go_ret
          exact ⟨rfl, HB1.out⟩
        · have e2 : decide (15 < x.src) = false := decide_eq_false hs
          go_wp2
          go_round
          case rel => exact ⟨k + 1, by omega, by go_num, HS.out.next HX.out (by omega) (by omega)⟩
          case measure => simp [intOf]; omega
    · obtain rfl : k = len := by omega
      have hb := insList_bytesOf l (Small.all (by rw [HL.out]; exact hsm) hfit)
      rw [HL.out] at hb
      have hbl := bytesOf_length l
      rw [HL.out] at hbl
      have hbi := bytesIn_of (bytesOf_in hfit)
      have HBL := Lib.hid hbl
      have HIL := Lib.hid hb
      clear hsm hb hbl
      go_wp2_with (first
        | (go_at_call 8; refine (bytes_full _ _ _ _ l HL.out (by omega) hfit (by exact hr1)).mono ?_; rintro e w2 ⟨g2, rfl, hf2⟩;
            have hr2 := insAt_below hr1 hf2.below; have hrow2 := hf2.row; have HB2 := Lib.hid hf2.below; clear hf2)
        | (go_at_call 10; refine (read_good _ _ _ k (bytesOf l) _ h1 h64 (by omega) (by unfold maxLen; omega) (by exact hrow2) hbi).mono ?_; rintro e w3 ⟨v3, rfl, ho3, hb3⟩; rw [HIL.out] at ho3;
            obtain ⟨A3, cap3, rfl, hi3⟩ := insRow_of_own HL.out ho3; have hr3 := insAt_below hr2 hb3; have HB3 := Lib.hid hb3; clear hb3 ho3 hrow2)
        | (go_at_call 12; refine (same_yes _ _ _ _ _ _ l HL.out (by omega) (by exact hr3) (by exact hi3)).mono ?_; rintro e w4 ⟨rfl, hb4⟩; have HB4 := Lib.hid hb4; clear hb4))
      go_ret
      have a1 := HB1.out
      have a2 := HB2.out
      have a3 := HB3.out
      have a4 := HB4.out
      exact ⟨rfl, ((a1.trans (a2.mono a1.size)).trans (a3.mono (Nat.le_trans a1.size a2.size))).trans (a4.mono (Nat.le_trans a1.size (Nat.le_trans a2.size a3.size)))⟩

theorem instBack.walk (v0 : Value) (w : World) (h0 : IsRows insKinds w v0) : Calls Try.prog 5 #[v0] w fun e w' => e = .returned (.bool true) ∧ Below w.heap.size w w' := by
  obtain ⟨A, len, cap, l, rfl, hl, hm, hfit, hat⟩ := rows_in h0
  by_cases h : len < 1 ∨ 64 < len
  · exact law_back_none w A len cap h hm
  · exact law_back_code w A len cap l hl (by omega) (by omega) hfit hat
end Go.Proofs.Ytmihmgchbibmoaa
