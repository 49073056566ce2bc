/-
  Proved here: the walks of the laws OwnedPlays and OwnedApart, over whatever memory of the program's maps keeps its contracts. Conditions: the contracts; what came in reads as its types say.
-/
import Derived.Test.YtenjdgoammaiiaaHLaw14
import Derived.Test.YtenjdgoammaiiaaHApart14
namespace Go.Proofs.Ytenjdgoammaiiaa
open Go.RowKit
set_option maxRecDepth 100000

theorem plays_not {PS : OwMem} (ac : Acts14 PS) (t : Int) (w : World) (a0 : Option Addr) (cp0 : Nat) (ds : List Df) (A0 : Option Addr) (len cap0 : Nat) (hds : DfsIn w a0 ds) (h : ¬ (ds.length ≤ 60 ∧ mayL ds = true)) :
    Calls Try.prog 3 #[.slice a0 ds.length cp0, .slice A0 len cap0, .int .u8 t] w (LawPost w) := by
  have AC := Lib.hid ac
  have HD := Lib.hid hds
  clear ac hds
  by_cases h1 : 60 < ds.length
  · clear h
    go_enter Try.func3, Try.ntmps3
    go_wp2_with (go_at_call 5; refine (alive14 AC.out _).mono ?_; rintro e w1 ⟨rfl, hb1⟩; have HB1 := Lib.hid hb1; clear hb1)
    go_ret
    exact ⟨rfl, HB1.out⟩
  · have h2 : ds.length ≤ 60 := by omega
    have h3 : mayL ds = false := by
      cases hm : mayL ds with
      | false => rfl
      | true => exact absurd ⟨h2, hm⟩ h
    have HM := Lib.hid h3
    clear h h3 h1
    go_enter Try.func3, Try.ntmps3
    go_wp2_with (first
      | (go_at_call 5; refine (alive14 AC.out _).mono ?_; rintro e w1 ⟨rfl, hb1⟩; have HB1 := Lib.hid hb1; have HD1 := Lib.hid (HD.out.stay hb1); clear hb1)
      | (go_at_call 6; refine (ow_may ds a0 cp0 _ HD1.out (by omega)).mono ?_; rintro e w3 ⟨he, hb3⟩; rw [HM.out] at he; subst he; have HB3 := Lib.hid (HB1.out.trans (hb3.mono HB1.out.size)); clear hb3))
    go_ret
    exact ⟨rfl, HB3.out⟩
theorem plays_walk {PS : OwMem} (ac : Acts14 PS) (v0 v1 v2 : Value) (w : World) (h0 : IsRows [.i64, .i64, .i64, .i64] w v0) (h1 : FitV Try.prog w 5 23 v1) (h2 : IsInt .u8 v2) :
    Calls Try.prog 3 #[v0, v1, v2] w fun e w' => e = .returned (.bool true) ∧ Below w.heap.size w w' := by
  obtain ⟨a0, c0, ds, rfl, hds, -⟩ := dfs_in h0
  obtain ⟨t, rfl, wt⟩ := h2
  obtain ⟨A, len, cap, rfl, hl, ho⟩ := rows_ops h1
  by_cases h : ds.length ≤ 60 ∧ mayL ds = true
  · exact law_may t w a0 c0 ds A len cap ac (alive14 ac) hds h.1 h.2 hl ho (bounds_u8 wt)
  · exact plays_not ac t w a0 c0 ds A len cap hds h
theorem fitV_cells {P : Program} {w : World} {n : Nat} {t : TypeId} {fs : Array Field} {v : Value} (ht : P.underlying t = some (.struct fs)) (h : FitV P w n t v) : (∃ xs : Array Value, v = .agg xs) ∧ Fit P w n t v.cells.toList := by
  obtain ⟨h1, h2⟩ := h
  rw [ht] at h2
  exact ⟨h2, h1⟩
theorem op_val {w : World} {v : Value} (h : FitV Try.prog w 4 37 v) : ∃ kd M a1 l1 c1 a2 l2 c2 kz vz id gn fl K T C, v = .agg #[.int .u8 kd, .int .i64 M, .slice a1 l1 c1, .slice a2 l2 c2, .int .i64 id, .int .i64 gn, .int .u64 fl, .int .i64 K, .int .i64 T, .int .u8 C] ∧ OpV w kd a1 l1 c1 a2 l2 c2 kz vz := by
  obtain ⟨⟨xs, rfl⟩, hf⟩ := fitV_cells Try.underlying37 h
  obtain ⟨kd, M, a1, l1, c1, a2, l2, c2, kz, vz, id, gn, fl, K, T, C, he, ho⟩ := op_in (n := 0) hf
  refine ⟨kd, M, a1, l1, c1, a2, l2, c2, kz, vz, id, gn, fl, K, T, C, ?_, ho⟩
  have h1 : xs.toList = opCells kd M (.slice a1 l1 c1) (.slice a2 l2 c2) id gn fl K T C := he
  have h2 : xs = (opCells kd M (.slice a1 l1 c1) (.slice a2 l2 c2) id gn fl K T C).toArray := by rw [← h1]
  rw [h2]
  rfl
set_option maxHeartbeats 2000000 in
theorem apart_not {PS : OwMem} (ac : Acts14 PS) (w : World) (a0 : Option Addr) (cp0 : Nat) (ds : List Df) (A0 : Option Addr) (len cap0 : Nat) (kx Mx : Int) (b1 b2 : Option Addr) (n1 p1 n2 p2 : Nat) (ky vy : List Int) (ix gx fx Kx Tx Cx : Int) (hds : DfsIn w a0 ds) (hx : OpV w kx b1 n1 p1 b2 n2 p2 ky vy) (h : ¬ (ds.length ≤ 60 ∧ mayL ds = true ∧ n1 ≤ 100 ∧ n2 ≤ 100)) :
    Calls Try.prog 4 #[.slice a0 ds.length cp0, .slice A0 len cap0, .agg #[.int .u8 kx, .int .i64 Mx, .slice b1 n1 p1, .slice b2 n2 p2, .int .i64 ix, .int .i64 gx, .int .u64 fx, .int .i64 Kx, .int .i64 Tx, .int .u8 Cx]] w (LawPost w) := by
  have m1 := hx.m1
  have m2 := hx.m2
  unfold maxLen at m1 m2
  have hb0 := box_below w (.cells #[.int .u8 kx, .int .i64 Mx, .slice b1 n1 p1, .slice b2 n2 p2, .int .i64 ix, .int .i64 gx, .int .u64 fx, .int .i64 Kx, .int .i64 Tx, .int .u8 Cx] 37)
  have hop : Op14 (w.alloc (.cells #[.int .u8 kx, .int .i64 Mx, .slice b1 n1 p1, .slice b2 n2 p2, .int .i64 ix, .int .i64 gx, .int .u64 fx, .int .i64 Kx, .int .i64 Tx, .int .u8 Cx] 37)) w.heap.size kx Mx (.slice b1 n1 p1) (.slice b2 n2 p2) ix gx fx Kx Tx Cx := ⟨by simp [go_sem], by simp [go_sem], by simp [go_sem], by simp [go_sem], by simp [go_sem], by simp [go_sem], by simp [go_sem], by simp [go_sem], by simp [go_sem], by simp [go_sem]⟩
  have hlt : w.heap.size < (w.alloc (.cells #[.int .u8 kx, .int .i64 Mx, .slice b1 n1 p1, .slice b2 n2 p2, .int .i64 ix, .int .i64 gx, .int .u64 fx, .int .i64 Kx, .int .i64 Tx, .int .u8 Cx] 37)).heap.size := by simp
  have hds1 := hds.stay hb0
  obtain ⟨W1, hW1⟩ : ∃ W1, w.alloc (.cells #[.int .u8 kx, .int .i64 Mx, .slice b1 n1 p1, .slice b2 n2 p2, .int .i64 ix, .int .i64 gx, .int .u64 fx, .int .i64 Kx, .int .i64 Tx, .int .u8 Cx] 37) = W1 := ⟨_, rfl⟩
  obtain ⟨bx, hbx⟩ : ∃ bx, w.heap.size = bx := ⟨_, rfl⟩
  rw [hW1] at hb0 hop hlt hds1
  have HB0 := Lib.hid hb0
  rw [hbx] at hop hlt
  have HBX := Lib.hid (show ∀ W : World, Below W1.heap.size W1 W → Op14 W bx kx Mx (.slice b1 n1 p1) (.slice b2 n2 p2) ix gx fx Kx Tx Cx from fun W hb => hop.kept (hb.block bx hlt))
  have HA := Lib.hid ac
  have HD := Lib.hid hds1
  clear ac hds hb0 hop hlt hds1 hx
  obtain ⟨ml, hml⟩ : ∃ b, mayL ds = b := ⟨_, rfl⟩
  have HM := Lib.hid hml
  rw [hml] at h
  clear hml
  go_enter Try.func4, Try.ntmps4
  go_upto_region 1 with fail
  clear hW1 hbx
  by_cases h1 : 60 < ds.length
  · clear h
    as_aux_lemma =>
    go_wp2_with (first
      | (go_at_call 5; refine (alive14 HA.out _).mono ?_; rintro e w1 ⟨rfl, hb1⟩; have HB1 := Lib.hid hb1; have y2 := (HBX.out _ HB1.out).c2; have y3 := (HBX.out _ HB1.out).c3; clear hb1))
    go_ret
    exact ⟨rfl, HB0.out.trans (HB1.out.mono HB0.out.size)⟩
  · have h2 : ds.length ≤ 60 := by omega
    clear h1
    cases ml with
    | false =>
      clear h
      as_aux_lemma =>
      go_wp2_with (first
        | (go_at_call 5; refine (alive14 HA.out _).mono ?_; rintro e w1 ⟨rfl, hb1⟩; have HB1 := Lib.hid hb1; have HD1 := Lib.hid (HD.out.stay hb1); clear hb1)
        | (go_at_call 6; refine (ow_may ds a0 cp0 _ HD1.out (by omega)).mono ?_; rintro e w3 ⟨he, hb3⟩; rw [HM.out] at he; subst he; have HB3 := Lib.hid (HB1.out.trans (hb3.mono HB1.out.size)); have y2 := (HBX.out _ HB3.out).c2; have y3 := (HBX.out _ HB3.out).c3; clear hb3))
      go_ret
      exact ⟨rfl, HB0.out.trans (HB3.out.mono HB0.out.size)⟩
    | true =>
      have h3 : 100 < n1 ∨ (n1 ≤ 100 ∧ 100 < n2) := by
        rcases Nat.lt_or_ge 100 n1 with h4 | h4
        · exact .inl h4
        · rcases Nat.lt_or_ge 100 n2 with h5 | h5
          · exact .inr ⟨h4, h5⟩
          · exact absurd ⟨h2, rfl, h4, h5⟩ h
      clear h
      rcases h3 with h4 | ⟨h4, h5⟩
      all_goals
        as_aux_lemma =>
        go_wp2_with (first
          | (go_at_call 5; refine (alive14 HA.out _).mono ?_; rintro e w1 ⟨rfl, hb1⟩; have HB1 := Lib.hid hb1; have HD1 := Lib.hid (HD.out.stay hb1); clear hb1)
          | (go_at_call 6; refine (ow_may ds a0 cp0 _ HD1.out (by omega)).mono ?_; rintro e w3 ⟨he, hb3⟩; rw [HM.out] at he; subst he; have HB3 := Lib.hid (HB1.out.trans (hb3.mono HB1.out.size)); have y2 := (HBX.out _ HB3.out).c2; have y3 := (HBX.out _ HB3.out).c3; clear hb3))
        go_ret
        exact ⟨rfl, HB0.out.trans (HB3.out.mono HB0.out.size)⟩
theorem apart_walk {PS : OwMem} (ac : Acts14 PS) (v0 v1 v2 : Value) (w : World) (h0 : IsRows [.i64, .i64, .i64, .i64] w v0) (h1 : FitV Try.prog w 5 23 v1) (h2 : FitV Try.prog w 4 37 v2) :
    Calls Try.prog 4 #[v0, v1, v2] w fun e w' => e = .returned (.bool true) ∧ Below w.heap.size w w' := by
  obtain ⟨a0, c0, ds, rfl, hds, -⟩ := dfs_in h0
  obtain ⟨A, len, cap, rfl, hl, ho⟩ := rows_ops h1
  obtain ⟨kd, M, a1, l1, c1, a2, l2, c2, kz, vz, id, gn, fl, K, T, C, rfl, hx⟩ := op_val h2
  by_cases h : ds.length ≤ 60 ∧ mayL ds = true ∧ l1 ≤ 100 ∧ l2 ≤ 100
  · exact law_apart w a0 c0 ds A len cap kd M a1 a2 l1 c1 l2 c2 kz vz id gn fl K T C ac (alive14 ac) hds h.1 h.2.1 hl ho hx h.2.2.1 h.2.2.2
  · exact apart_not ac w a0 c0 ds A len cap kd M a1 a2 l1 c1 l2 c2 kz vz id gn fl K T C hds hx h
end Go.Proofs.Ytenjdgoammaiiaa
