/-
  Proved here: the walk of the law HooksOf. Conditions: none.
-/
import Derived.Test.YtiobifocdgpnlaaFldLaw
namespace Go.Proofs.Ytiobifocdgpnlaa
open Go.RowKit

theorem ret_same {k : FuncId} {args : Array Value} {v : Value} {w : World} (h : Calls Try.prog k args w (Ret v w)) : Calls Try.prog k args w fun e w' => e = .returned v ∧ w' = w :=
  h.mono fun _ _ h => ⟨h.1, h.2.symm⟩
theorem name_full (k : Nat) (h1 : 1 ≤ k) (h2 : k ≤ 16) : (nameB k).toList.isEmpty = false := by
  have h : ∀ i : Fin 17, 1 ≤ i.val → (nameB i.val).toList.isEmpty = false := by decide +kernel
  exact h ⟨k, by omega⟩ h1
theorem lett_map (k : Nat) (h2 : k ≤ 16) : (lettB k).data.toList.map (fun c => lettI (c.toNat : Int)) = kindL k := by
  have h : ∀ i : Fin 17, (lettB i.val).data.toList.map (fun c => lettI (c.toNat : Int)) = kindL i.val := by decide +kernel
  exact h ⟨k, by omega⟩
theorem kind_len (k : Nat) (h2 : k ≤ 16) : (kindL k).length ≤ 5 := by
  have h : ∀ i : Fin 17, (kindL i.val).length ≤ 5 := by decide +kernel
  exact h ⟨k, by omega⟩
theorem lett_size (k : Nat) (h2 : k ≤ 16) : (lettB k).size = (kindL k).length := by
  rw [← lett_map k h2, List.length_map]
  rfl
theorem lett_at (k : Nat) (h2 : k ≤ 16) (ws : ByteArray) (hw : lettB k = ws) (i : Nat) (hi : i < ws.size) : lettI ((ws[i]).toNat : Int) = (kindL k).getD i 0 := by
  subst hw
  have e := lett_map k h2
  rw [← e]
  have hl : i < (lettB k).data.toList.length := by simpa using hi
  rw [List.getD_eq_getElem?_getD, List.getElem?_map, List.getElem?_eq_getElem hl]
  rfl
/-- What is known of the description behind the calls. -/
structure AtLoop (w W : World) (D p n : Nat) (zs : List Int) : Prop where
  below : Below w.heap.size w W
  box : W.cell? ⟨D, 1, none⟩ = some (.slice (some ⟨p, 0, none⟩) n n)
  row : ∀ j, j < n → W.cell? ⟨p, j, none⟩ = some (.int .u8 (zs.getD j 0))
theorem AtLoop.stay {w W W' : World} {D p n : Nat} {zs : List Int} (h : AtLoop w W D p n zs) (hb : Below W.heap.size W W') : AtLoop w W' D p n zs :=
  ⟨h.below.trans (hb.mono h.below.size), (hb.cell (p := ⟨D, 1, none⟩) (World.block_lt_of_cell? W _ h.box)).trans h.box, fun j hj => (hb.cell (p := ⟨p, j, none⟩) (World.block_lt_of_cell? W _ (h.row j hj))).trans (h.row j hj)⟩
theorem of_law_in (k : Nat) (j : Nat) (w : World) (h1 : 1 ≤ k) (h2 : k ≤ 16) (hj : j < (kindL k).length) : Calls Try.prog 3 #[.int .i64 k, .int .i64 j] w (TrueB w) := by
  obtain ⟨n, hn⟩ : ∃ n, (kindL k).length = n := ⟨_, rfl⟩
  obtain ⟨nm, hnm⟩ : ∃ nm, nameB k = nm := ⟨_, rfl⟩
  obtain ⟨ws, hws⟩ : ∃ ws, lettB k = ws := ⟨_, rfl⟩
  obtain ⟨m, hm⟩ : ∃ m, mostI k = m := ⟨_, rfl⟩
  have hfull : nm.toList.isEmpty = false := hnm ▸ name_full k h1 h2
  have hsz : ws.size = n := by rw [← hws, ← hn]; exact lett_size k h2
  have hl := lett_at k h2 ws hws
  have hn5 : n ≤ 5 := hn ▸ kind_len k h2
  rw [hn] at hj
  have HN := Lib.hid hn
  have HNM := Lib.hid hnm
  have HWS := Lib.hid hws
  have HM := Lib.hid hm
  have HL := Lib.hid hl
  clear hn hnm hws hm hl
  have HJ := Lib.hid hj
  obtain ⟨v, hv⟩ : ∃ v, (kindL k).getD j 0 = v := ⟨_, rfl⟩
  have HV := Lib.hid hv
  clear hv
  go_enter Try.func3, Try.ntmps3
  go_wp2_with (first
    | (go_at_call 7; refine (alive_call _).mono ?_; rintro e w1 ⟨rfl, hb1⟩; have HB1 := Lib.hid hb1; clear hb1)
    | (go_at_call 8; refine (of_yes k _ h1 h2).mono ?_; rintro e w2 ⟨p, rfl, hp, hr, hb2⟩; rw [HN.out, HNM.out, HM.out]; have HR := Lib.hid hr; have HB2 := Lib.hid hb2; clear hb2 hr)
    | (go_at_call 9; refine (row_yes k _ h1 h2).mono ?_; rintro e w3 ⟨rfl, hb3⟩; rw [HNM.out, HWS.out, HM.out]; obtain ⟨hx, hf⟩ := boxed hb3; have HX := Lib.hid hx; have HB3 := Lib.hid hb3; clear hb3 hx hf)
    | (go_at_call 10; refine (kind_yes k j _ h1 h2 (by rw [HN.out]; exact HJ.out)).mono ?_; rintro e w4 ⟨rfl, hb4⟩; rw [HV.out]; have hx4 := (fun i => (hb4.cell (p := ⟨w2.heap.size, i, none⟩) (Nat.lt_of_lt_of_le (by simp) HB3.out.size)).trans (HX.out i)); have HB4 := Lib.hid hb4; clear hb4)
    | (go_at_call 11; refine (count_call _).mono ?_; rintro e w5 ⟨rfl, rfl⟩))
  have hpl : p < w2.heap.size := (Array.getElem?_eq_some_iff.1 HR.out).1
  have hw2 : Below w.heap.size w w2 := HB1.out.trans (HB2.out.mono HB1.out.size)
  have ha2 : ∀ i, i < n → w2.cell? ⟨p, i, none⟩ = some (.int .u8 ((kindL k).getD i 0)) := fun i hi => word_cell HR.out (by rw [HN.out]; exact hi)
  have ha3 : AtLoop w w3 w2.heap.size p n (kindL k) := ⟨hw2.trans ((below_box HB3.out).mono hw2.size), HX.out 1, fun i hi => ((HB3.out.cell (p := ⟨p, i, none⟩) (by simp; omega)).trans (World.cell?_alloc_lt _ _ _ hpl)).trans (ha2 i hi)⟩
  have HA := Lib.hid (ha3.stay HB4.out)
  clear hx4 ha3 ha2 hw2
  go_loopw [12] (fun x W => ∃ i : Nat, i ≤ n ∧ x = .int .i64 i ∧ AtLoop w W w2.heap.size p n (kindL k)) (fun x _ => n - (intOf x).toNat)
  case atStart => exact ⟨0, Nat.zero_le _, rfl, HA.out⟩
  case round =>
    obtain ⟨i, hi, rfl, ha⟩ := hrel
    have HA' := Lib.hid ha
    have hbox := ha.box
    by_cases hlt : i < n
    · have hrow := ha.row i hlt
      clear ha
      obtain ⟨z, hz⟩ : ∃ z, (kindL k).getD i 0 = z := ⟨_, rfl⟩
      have hlz : lettI ((ws[i]'(by rw [hsz]; exact hlt)).toNat : Int) = z := (HL.out i (by rw [hsz]; exact hlt)).trans hz
      rw [hz] at hrow
      clear hz
      go_wp2
      go_quiet ((go_at_call 12; exact Calls.quiet_of_same (ret_same (kind_ref _ _))))
      go_wp2
      go_roundw
      case rel => exact ⟨i + 1, by omega, by go_num, HA'.out.stay (below_drewN _ _)⟩
      case measure => simp [intOf]; omega
    · clear ha
      obtain rfl : i = n := by omega
      have hlj : lettI ((ws[j]'(by rw [hsz]; exact hj)).toNat : Int) = v := (HL.out j (by rw [hsz]; exact hj)).trans HV.out
      go_wp2_with (go_at_call 12; refine (kind_ref _ _).mono ?_; rintro e w6 ⟨rfl, rfl⟩)
      go_ret
      exact ⟨rfl, HA'.out.below⟩
theorem of_law_lo (k : Nat) (j : Int) (w : World) (h1 : 1 ≤ k) (h2 : k ≤ 16) (hj : j < 0) : Calls Try.prog 3 #[.int .i64 k, .int .i64 j] w (TrueB w) := by
  obtain ⟨n, hn⟩ : ∃ n, (kindL k).length = n := ⟨_, rfl⟩
  obtain ⟨nm, hnm⟩ : ∃ nm, nameB k = nm := ⟨_, rfl⟩
  obtain ⟨ws, hws⟩ : ∃ ws, lettB k = ws := ⟨_, rfl⟩
  obtain ⟨m, hm⟩ : ∃ m, mostI k = m := ⟨_, rfl⟩
  have hfull : nm.toList.isEmpty = false := hnm ▸ name_full k h1 h2
  have hsz : ws.size = n := by rw [← hws, ← hn]; exact lett_size k h2
  have hl := lett_at k h2 ws hws
  have hn5 : n ≤ 5 := hn ▸ kind_len k h2
  have HN := Lib.hid hn
  have HNM := Lib.hid hnm
  have HWS := Lib.hid hws
  have HM := Lib.hid hm
  have HL := Lib.hid hl
  clear hn hnm hws hm hl
  have HJ := Lib.hid hj

  go_enter Try.func3, Try.ntmps3
  go_wp2_with (first
    | (go_at_call 7; refine (alive_call _).mono ?_; rintro e w1 ⟨rfl, hb1⟩; have HB1 := Lib.hid hb1; clear hb1)
    | (go_at_call 8; refine (of_yes k _ h1 h2).mono ?_; rintro e w2 ⟨p, rfl, hp, hr, hb2⟩; rw [HN.out, HNM.out, HM.out]; have HR := Lib.hid hr; have HB2 := Lib.hid hb2; clear hb2 hr)
    | (go_at_call 9; refine (row_yes k _ h1 h2).mono ?_; rintro e w3 ⟨rfl, hb3⟩; rw [HNM.out, HWS.out, HM.out]; obtain ⟨hx, hf⟩ := boxed hb3; have HX := Lib.hid hx; have HB3 := Lib.hid hb3; clear hb3 hx hf)
    | (go_at_call 10; refine (kind_out k j _ h1 h2 (by omega)).mono ?_; rintro e w4 ⟨rfl, hb4⟩; skip; have hx4 := (fun i => (hb4.cell (p := ⟨w2.heap.size, i, none⟩) (Nat.lt_of_lt_of_le (by simp) HB3.out.size)).trans (HX.out i)); have HB4 := Lib.hid hb4; clear hb4)
    | (go_at_call 11; refine (count_call _).mono ?_; rintro e w5 ⟨rfl, rfl⟩))
  have hpl : p < w2.heap.size := (Array.getElem?_eq_some_iff.1 HR.out).1
  have hw2 : Below w.heap.size w w2 := HB1.out.trans (HB2.out.mono HB1.out.size)
  have ha2 : ∀ i, i < n → w2.cell? ⟨p, i, none⟩ = some (.int .u8 ((kindL k).getD i 0)) := fun i hi => word_cell HR.out (by rw [HN.out]; exact hi)
  have ha3 : AtLoop w w3 w2.heap.size p n (kindL k) := ⟨hw2.trans ((below_box HB3.out).mono hw2.size), HX.out 1, fun i hi => ((HB3.out.cell (p := ⟨p, i, none⟩) (by simp; omega)).trans (World.cell?_alloc_lt _ _ _ hpl)).trans (ha2 i hi)⟩
  have HA := Lib.hid (ha3.stay HB4.out)
  clear hx4 ha3 ha2 hw2
  go_loopw [12] (fun x W => ∃ i : Nat, i ≤ n ∧ x = .int .i64 i ∧ AtLoop w W w2.heap.size p n (kindL k)) (fun x _ => n - (intOf x).toNat)
  case atStart => exact ⟨0, Nat.zero_le _, rfl, HA.out⟩
  case round =>
    obtain ⟨i, hi, rfl, ha⟩ := hrel
    have HA' := Lib.hid ha
    have hbox := ha.box
    by_cases hlt : i < n
    · have hrow := ha.row i hlt
      clear ha
      obtain ⟨z, hz⟩ : ∃ z, (kindL k).getD i 0 = z := ⟨_, rfl⟩
      have hlz : lettI ((ws[i]'(by rw [hsz]; exact hlt)).toNat : Int) = z := (HL.out i (by rw [hsz]; exact hlt)).trans hz
      rw [hz] at hrow
      clear hz
      go_wp2
      go_quiet ((go_at_call 12; exact Calls.quiet_of_same (ret_same (kind_ref _ _))))
      go_wp2
      go_roundw
      case rel => exact ⟨i + 1, by omega, by go_num, HA'.out.stay (below_drewN _ _)⟩
      case measure => simp [intOf]; omega
    · clear ha
      obtain rfl : i = n := by omega
      go_wp2
      go_ret
      exact ⟨rfl, HA'.out.below⟩

theorem of_law_hi (k : Nat) (j : Int) (w : World) (h1 : 1 ≤ k) (h2 : k ≤ 16) (hj : (((kindL k).length : Nat) : Int) ≤ j) : Calls Try.prog 3 #[.int .i64 k, .int .i64 j] w (TrueB w) := by
  obtain ⟨n, hn⟩ : ∃ n, (kindL k).length = n := ⟨_, rfl⟩
  obtain ⟨nm, hnm⟩ : ∃ nm, nameB k = nm := ⟨_, rfl⟩
  obtain ⟨ws, hws⟩ : ∃ ws, lettB k = ws := ⟨_, rfl⟩
  obtain ⟨m, hm⟩ : ∃ m, mostI k = m := ⟨_, rfl⟩
  have hfull : nm.toList.isEmpty = false := hnm ▸ name_full k h1 h2
  have hsz : ws.size = n := by rw [← hws, ← hn]; exact lett_size k h2
  have hl := lett_at k h2 ws hws
  have hn5 : n ≤ 5 := hn ▸ kind_len k h2
  rw [hn] at hj
  have HN := Lib.hid hn
  have HNM := Lib.hid hnm
  have HWS := Lib.hid hws
  have HM := Lib.hid hm
  have HL := Lib.hid hl
  clear hn hnm hws hm hl
  have HJ := Lib.hid hj
  have hj0 : ¬ j < 0 := by omega
  go_enter Try.func3, Try.ntmps3
  go_wp2_with (first
    | (go_at_call 7; refine (alive_call _).mono ?_; rintro e w1 ⟨rfl, hb1⟩; have HB1 := Lib.hid hb1; clear hb1)
    | (go_at_call 8; refine (of_yes k _ h1 h2).mono ?_; rintro e w2 ⟨p, rfl, hp, hr, hb2⟩; rw [HN.out, HNM.out, HM.out]; have HR := Lib.hid hr; have HB2 := Lib.hid hb2; clear hb2 hr)
    | (go_at_call 9; refine (row_yes k _ h1 h2).mono ?_; rintro e w3 ⟨rfl, hb3⟩; rw [HNM.out, HWS.out, HM.out]; obtain ⟨hx, hf⟩ := boxed hb3; have HX := Lib.hid hx; have HB3 := Lib.hid hb3; clear hb3 hx hf)
    | (go_at_call 10; refine (kind_out k j _ h1 h2 (by rw [HN.out]; omega)).mono ?_; rintro e w4 ⟨rfl, hb4⟩; skip; have hx4 := (fun i => (hb4.cell (p := ⟨w2.heap.size, i, none⟩) (Nat.lt_of_lt_of_le (by simp) HB3.out.size)).trans (HX.out i)); have HB4 := Lib.hid hb4; clear hb4)
    | (go_at_call 11; refine (count_call _).mono ?_; rintro e w5 ⟨rfl, rfl⟩))
  have hpl : p < w2.heap.size := (Array.getElem?_eq_some_iff.1 HR.out).1
  have hw2 : Below w.heap.size w w2 := HB1.out.trans (HB2.out.mono HB1.out.size)
  have ha2 : ∀ i, i < n → w2.cell? ⟨p, i, none⟩ = some (.int .u8 ((kindL k).getD i 0)) := fun i hi => word_cell HR.out (by rw [HN.out]; exact hi)
  have ha3 : AtLoop w w3 w2.heap.size p n (kindL k) := ⟨hw2.trans ((below_box HB3.out).mono hw2.size), HX.out 1, fun i hi => ((HB3.out.cell (p := ⟨p, i, none⟩) (by simp; omega)).trans (World.cell?_alloc_lt _ _ _ hpl)).trans (ha2 i hi)⟩
  have HA := Lib.hid (ha3.stay HB4.out)
  clear hx4 ha3 ha2 hw2
  go_loopw [12] (fun x W => ∃ i : Nat, i ≤ n ∧ x = .int .i64 i ∧ AtLoop w W w2.heap.size p n (kindL k)) (fun x _ => n - (intOf x).toNat)
  case atStart => exact ⟨0, Nat.zero_le _, rfl, HA.out⟩
  case round =>
    obtain ⟨i, hi, rfl, ha⟩ := hrel
    have HA' := Lib.hid ha
    have hbox := ha.box
    by_cases hlt : i < n
    · have hrow := ha.row i hlt
      clear ha
      obtain ⟨z, hz⟩ : ∃ z, (kindL k).getD i 0 = z := ⟨_, rfl⟩
      have hlz : lettI ((ws[i]'(by rw [hsz]; exact hlt)).toNat : Int) = z := (HL.out i (by rw [hsz]; exact hlt)).trans hz
      rw [hz] at hrow
      clear hz
      go_wp2
      go_quiet ((go_at_call 12; exact Calls.quiet_of_same (ret_same (kind_ref _ _))))
      go_wp2
      go_roundw
      case rel => exact ⟨i + 1, by omega, by go_num, HA'.out.stay (below_drewN _ _)⟩
      case measure => simp [intOf]; omega
    · clear ha
      obtain rfl : i = n := by omega
      go_wp2
      go_ret
      exact ⟨rfl, HA'.out.below⟩

theorem of_law_no_lo (k j : Int) (w : World) (h : ¬ (1 ≤ k ∧ k ≤ 16)) (hj : j < 0) : Calls Try.prog 3 #[.int .i64 k, .int .i64 j] w (TrueB w) := by
  have HH := Lib.hid h
  clear h
  go_enter Try.func3, Try.ntmps3
  go_wp2_with (first
    | (go_at_call 7; refine (alive_call _).mono ?_; rintro e w1 ⟨rfl, hb1⟩; have HB1 := Lib.hid hb1; clear hb1)
    | (go_at_call 8; refine (of_no k _ HH.out).mono ?_; rintro e w2 ⟨rfl, hb2⟩; have HB2 := Lib.hid hb2; clear hb2)
    | (go_at_call 9; refine (row_no k _ HH.out).mono ?_; rintro e w3 ⟨rfl, hb3⟩; obtain ⟨hx, hf⟩ := boxed hb3; have HX := Lib.hid hx; have HB3 := Lib.hid hb3; clear hb3 hx hf)
    | (go_at_call 10; refine (kind_none k j _ HH.out).mono ?_; rintro e w4 ⟨rfl, hb4⟩; have hx4 := (fun i => (hb4.cell (p := ⟨w2.heap.size, i, none⟩) (Nat.lt_of_lt_of_le (by simp) HB3.out.size)).trans (HX.out i)); have HB4 := Lib.hid hb4; clear hb4)
    | (go_at_call 11; refine (count_call _).mono ?_; rintro e w5 ⟨rfl, rfl⟩))
  have hw2 : Below w.heap.size w w2 := HB1.out.trans (HB2.out.mono HB1.out.size)
  have hw3 : Below w.heap.size w w3 := hw2.trans ((below_box HB3.out).mono hw2.size)
  have HW := Lib.hid (hw3.trans (HB4.out.mono hw3.size))
  clear hx4 hw2 hw3
  go_loop [12] (fun x => x = .int .i64 0) (fun _ => 0)
  case atStart => rfl
  case round =>
    obtain rfl := hrel
    go_wp2
    go_ret
    exact ⟨rfl, HW.out⟩
theorem of_law_no_hi (k j : Int) (w : World) (h : ¬ (1 ≤ k ∧ k ≤ 16)) (hj : 0 ≤ j) : Calls Try.prog 3 #[.int .i64 k, .int .i64 j] w (TrueB w) := by
  have HH := Lib.hid h
  clear h
  go_enter Try.func3, Try.ntmps3
  go_wp2_with (first
    | (go_at_call 7; refine (alive_call _).mono ?_; rintro e w1 ⟨rfl, hb1⟩; have HB1 := Lib.hid hb1; clear hb1)
    | (go_at_call 8; refine (of_no k _ HH.out).mono ?_; rintro e w2 ⟨rfl, hb2⟩; have HB2 := Lib.hid hb2; clear hb2)
    | (go_at_call 9; refine (row_no k _ HH.out).mono ?_; rintro e w3 ⟨rfl, hb3⟩; obtain ⟨hx, hf⟩ := boxed hb3; have HX := Lib.hid hx; have HB3 := Lib.hid hb3; clear hb3 hx hf)
    | (go_at_call 10; refine (kind_none k j _ HH.out).mono ?_; rintro e w4 ⟨rfl, hb4⟩; have hx4 := (fun i => (hb4.cell (p := ⟨w2.heap.size, i, none⟩) (Nat.lt_of_lt_of_le (by simp) HB3.out.size)).trans (HX.out i)); have HB4 := Lib.hid hb4; clear hb4)
    | (go_at_call 11; refine (count_call _).mono ?_; rintro e w5 ⟨rfl, rfl⟩))
  have hw2 : Below w.heap.size w w2 := HB1.out.trans (HB2.out.mono HB1.out.size)
  have hw3 : Below w.heap.size w w3 := hw2.trans ((below_box HB3.out).mono hw2.size)
  have HW := Lib.hid (hw3.trans (HB4.out.mono hw3.size))
  clear hx4 hw2 hw3
  go_loop [12] (fun x => x = .int .i64 0) (fun _ => 0)
  case atStart => rfl
  case round =>
    obtain rfl := hrel
    go_wp2
    go_ret
    exact ⟨rfl, HW.out⟩
theorem of_law (k j : Int) (w : World) : Calls Try.prog 3 #[.int .i64 k, .int .i64 j] w (TrueB w) := by
  by_cases h : 1 ≤ k ∧ k ≤ 16
  · obtain ⟨k, rfl⟩ := Int.eq_ofNat_of_zero_le (show 0 ≤ k by omega)
    by_cases hj : j < 0
    · exact of_law_lo k j w (by omega) (by omega) hj
    · by_cases hk : (((kindL k).length : Nat) : Int) ≤ j
      · exact of_law_hi k j w (by omega) (by omega) hk
      · obtain ⟨j, rfl⟩ := Int.eq_ofNat_of_zero_le (show 0 ≤ j by omega)
        exact of_law_in k j w (by omega) (by omega) (by omega)
  · by_cases hj : j < 0
    · exact of_law_no_lo k j w h hj
    · exact of_law_no_hi k j w h (by omega)
end Go.Proofs.Ytiobifocdgpnlaa
