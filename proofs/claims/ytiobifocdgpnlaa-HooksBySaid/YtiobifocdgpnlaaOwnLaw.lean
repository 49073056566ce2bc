/-
  Proved here: the walk of the law HooksOwn. Conditions: none.
-/
import Derived.Test.YtiobifocdgpnlaaOfLaw
namespace Go.Proofs.Ytiobifocdgpnlaa
open Go.RowKit

theorem row_free {w : World} {p j : Nat} {cs : Array Value} {T : TypeId} (h : w.heap[p]? = some (.cells cs T (0, 0))) : ∀ o, (w.alloc o).frozen? ⟨p, j, none⟩ = false := by
  intro o
  have h2 : (w.alloc o).heap[p]? = some (.cells cs T (0, 0)) := (Below.heap_alloc w o p (Array.getElem?_eq_some_iff.1 h).1).trans h
  simp [World.frozen?, h2]
theorem ends {W w w' : World} {o : Obj} (h : Below W.heap.size W w) (h3 : Below (w.alloc o).heap.size (w.alloc o) w') : Below W.heap.size W w' := h.trans ((below_box h3).mono h.size)
theorem own_in (k j : Nat) (c : Int) (w : World) (h1 : 1 ≤ k) (h2 : k ≤ 16) (hj : j < (kindL k).length) : Calls Try.prog 6 #[.int .i64 k, .int .i64 j, .int .u8 c] w (TrueB w) := by
  obtain ⟨n, hn⟩ : ∃ n, (kindL k).length = n := ⟨_, rfl⟩
  obtain ⟨v, hv⟩ : ∃ v, (kindL k).getD j 0 = v := ⟨_, rfl⟩
  rw [hn] at hj
  have HN := Lib.hid hn
  have HV := Lib.hid hv
  have HJ := Lib.hid hj
  clear hn hv
  go_enter Try.func6, Try.ntmps6
  go_wp2_with (first
    | (go_at_call 7; refine (alive_call _).mono ?_; rintro e w1 ⟨rfl, hb1⟩; have HB1 := Lib.hid hb1; clear hb1)
    | (go_at_call 8; refine (of_yes k _ h1 h2).mono ?_; rintro e w2 ⟨p, rfl, hp, hr, hb2⟩; rw [HN.out]; have hpl : p < w2.heap.size := (Array.getElem?_eq_some_iff.1 hr).1; have hcell := word_cell hr (j := j) (by rw [HN.out]; exact HJ.out); rw [HV.out] at hcell; have hcell' : ∀ o, (w2.alloc o).cell? ⟨p, j, none⟩ = some (.int .u8 v) := (fun o => (World.cell?_alloc_lt _ _ _ hpl).trans hcell); have hfr : ∀ o, (w2.alloc o).frozen? ⟨p, j, none⟩ = false := row_free hr; have HB2 := Lib.hid hb2; clear hb2 hr hcell)
    | (go_at_call 3; refine (of_law _ _ _).mono ?_; rintro e w3 ⟨rfl, hb3⟩; have HB3 := Lib.hid hb3; clear hb3))
  go_ret
  have hw2 := HB1.out.trans (HB2.out.mono HB1.out.size)
  exact ⟨rfl, ends (hw2.setCell (p := ⟨p, j, none⟩) (Nat.le_trans HB1.out.size hp) (.int .u8 c)) HB3.out⟩
theorem own_lo (k : Nat) (j c : Int) (w : World) (h1 : 1 ≤ k) (h2 : k ≤ 16) (hj : j < 0) : Calls Try.prog 6 #[.int .i64 k, .int .i64 j, .int .u8 c] w (TrueB w) := by
  obtain ⟨n, hn⟩ : ∃ n, (kindL k).length = n := ⟨_, rfl⟩
  have HN := Lib.hid hn
  clear hn
  go_enter Try.func6, Try.ntmps6
  go_wp2_with (first
    | (go_at_call 7; refine (alive_call _).mono ?_; rintro e w1 ⟨rfl, hb1⟩; have HB1 := Lib.hid hb1; clear hb1)
    | (go_at_call 8; refine (of_yes k _ h1 h2).mono ?_; rintro e w2 ⟨p, rfl, hp, hr, hb2⟩; rw [HN.out]; have HR := Lib.hid hr; have HB2 := Lib.hid hb2; clear hb2 hr)
    | (go_at_call 3; refine (of_law _ _ _).mono ?_; rintro e w3 ⟨rfl, hb3⟩; have HB3 := Lib.hid hb3; clear hb3))
  go_ret
  have hw2 := HB1.out.trans (HB2.out.mono HB1.out.size)
  exact ⟨rfl, ends hw2 HB3.out⟩
theorem own_hi (k : Nat) (j c : Int) (w : World) (h1 : 1 ≤ k) (h2 : k ≤ 16) (hj : (((kindL k).length : Nat) : Int) ≤ j) : Calls Try.prog 6 #[.int .i64 k, .int .i64 j, .int .u8 c] w (TrueB w) := by
  obtain ⟨n, hn⟩ : ∃ n, (kindL k).length = n := ⟨_, rfl⟩
  rw [hn] at hj
  have HN := Lib.hid hn
  clear hn
  have hj0 : 0 ≤ j := by omega
  go_enter Try.func6, Try.ntmps6
  go_wp2_with (first
    | (go_at_call 7; refine (alive_call _).mono ?_; rintro e w1 ⟨rfl, hb1⟩; have HB1 := Lib.hid hb1; clear hb1)
    | (go_at_call 8; refine (of_yes k _ h1 h2).mono ?_; rintro e w2 ⟨p, rfl, hp, hr, hb2⟩; rw [HN.out]; have HR := Lib.hid hr; have HB2 := Lib.hid hb2; clear hb2 hr)
    | (go_at_call 3; refine (of_law _ _ _).mono ?_; rintro e w3 ⟨rfl, hb3⟩; have HB3 := Lib.hid hb3; clear hb3))
  go_ret
  have hw2 := HB1.out.trans (HB2.out.mono HB1.out.size)
  exact ⟨rfl, ends hw2 HB3.out⟩
theorem own_no_lo (k j c : Int) (w : World) (h : ¬ (1 ≤ k ∧ k ≤ 16)) (hj : j < 0) : Calls Try.prog 6 #[.int .i64 k, .int .i64 j, .int .u8 c] w (TrueB w) := by
  have HH := Lib.hid h
  clear h
  go_enter Try.func6, Try.ntmps6
  go_wp2_with (first
    | (go_at_call 7; refine (alive_call _).mono ?_; rintro e w1 ⟨rfl, hb1⟩; have HB1 := Lib.hid hb1; clear hb1)
    | (go_at_call 8; refine (of_no k _ HH.out).mono ?_; rintro e w2 ⟨rfl, hb2⟩; have HB2 := Lib.hid hb2; clear hb2)
    | (go_at_call 3; refine (of_law _ _ _).mono ?_; rintro e w3 ⟨rfl, hb3⟩; have HB3 := Lib.hid hb3; clear hb3))
  go_ret
  have hw2 := HB1.out.trans (HB2.out.mono HB1.out.size)
  exact ⟨rfl, ends hw2 HB3.out⟩
theorem own_no_hi (k j c : Int) (w : World) (h : ¬ (1 ≤ k ∧ k ≤ 16)) (hj : 0 ≤ j) : Calls Try.prog 6 #[.int .i64 k, .int .i64 j, .int .u8 c] w (TrueB w) := by
  have HH := Lib.hid h
  clear h
  go_enter Try.func6, Try.ntmps6
  go_wp2_with (first
    | (go_at_call 7; refine (alive_call _).mono ?_; rintro e w1 ⟨rfl, hb1⟩; have HB1 := Lib.hid hb1; clear hb1)
    | (go_at_call 8; refine (of_no k _ HH.out).mono ?_; rintro e w2 ⟨rfl, hb2⟩; have HB2 := Lib.hid hb2; clear hb2)
    | (go_at_call 3; refine (of_law _ _ _).mono ?_; rintro e w3 ⟨rfl, hb3⟩; have HB3 := Lib.hid hb3; clear hb3))
  go_ret
  have hw2 := HB1.out.trans (HB2.out.mono HB1.out.size)
  exact ⟨rfl, ends hw2 HB3.out⟩

theorem own_law (k j c : Int) (w : World) : Calls Try.prog 6 #[.int .i64 k, .int .i64 j, .int .u8 c] w (TrueB w) := by
  by_cases h : 1 ≤ k ∧ k ≤ 16
  · obtain ⟨k, rfl⟩ := Int.eq_ofNat_of_zero_le (show 0 ≤ k by omega)
    by_cases hj : j < 0
    · exact own_lo k j c w (by omega) (by omega) hj
    · by_cases hk : (((kindL k).length : Nat) : Int) ≤ j
      · exact own_hi k j c w (by omega) (by omega) hk
      · obtain ⟨j, rfl⟩ := Int.eq_ofNat_of_zero_le (show 0 ≤ j by omega)
        exact own_in k j c w (by omega) (by omega) (by omega)
  · by_cases hj : j < 0
    · exact own_no_lo k j c w h hj
    · exact own_no_hi k j c w h (by omega)
end Go.Proofs.Ytiobifocdgpnlaa
