/-
  Proved here: the law TnumMeets returns true, of every two patterns and a number. Conditions: none.
-/
import Derived.Test.YtkobnlkcfmolpaaRefMeet
namespace Go.Proofs.Ytkobnlkcfmolpaa
open Go.RowKit
attribute [local go_sem ↓] eql_tn neq_tn tnEq_same

theorem blk_keep {W W' : World} {B : Nat} {o : Obj} (h : W.heap[B]? = some o) (hb : Below W.heap.size W W') : W'.heap[B]? = some o :=
  (hb.block _ (Array.getElem?_eq_some_iff.1 h).1).trans h
theorem pair_lt {w0 W : World} {a b c d : B64} (h : Pair w0 a b c d W) : w0.heap.size < W.heap.size ∧ w0.heap.size + 1 < W.heap.size := ⟨(blk_facts h.1).2.2.2.2, (blk_facts h.2.1).2.2.2.2⟩
set_option maxHeartbeats 4000000 in
theorem meets_yes (va ma vb mb x : B64) (w : World) (hok : mtOk va ma vb mb = true) : Calls Try.prog 6 #[tnV va ma, tnV vb mb, .int .u64 (u x)] w (Gives (.bool true) w) := by
  have hh := mt_has va ma vb mb x hok
  have hv : mtV va ma vb mb = .tuple #[tnV (pv (pv va ma ||| pv vb mb) (ma &&& mb)) (ma &&& mb), .bool true] := by unfold mtV; rw [if_pos hok]
  obtain ⟨A, hA⟩ : ∃ A, pv (pv va ma ||| pv vb mb) (ma &&& mb) = A := ⟨_, rfl⟩
  obtain ⟨B, hB⟩ : ∃ B, ma &&& mb = B := ⟨_, rfl⟩
  have F0 := Lib.hid (fun W => (hB ▸ hA ▸ meet_yes va ma vb mb W hok : Calls Try.prog 28 #[tnV va ma, tnV vb mb] W (Gives (.tuple #[tnV A B, .bool true]) W)))
  have G0 := Lib.hid (fun W => (hB ▸ hA ▸ hv ▸ meet_ref va ma vb mb W : Calls Try.prog 29 #[tnV va ma, tnV vb mb] W (Gives (.tuple #[tnV A B, .bool true]) W)))
  rw [hA, hB] at hh
  obtain ⟨r1, h1⟩ : ∃ r, hasB va ma x = r := ⟨_, rfl⟩
  obtain ⟨r2, h2⟩ : ∃ r, hasB vb mb x = r := ⟨_, rfl⟩
  rw [h1, h2] at hh
  have H1 := Lib.hid h1
  have H2 := Lib.hid h2
  have HH := Lib.hid hh
  clear h1 h2 hh hA hB hv hok
  have HP := Lib.hid (pair_new w va ma vb mb)
  cases r1 <;> cases r2
  all_goals
    unfold Gives tnV
    go_enter Try.func6, Try.ntmps6
    go_wp2_with (first
      | (go_at_call 8; refine (alive _).mono ?_; rintro e w1 ⟨rfl, hb⟩; replace HP := Lib.hid (pair_keep HP.out hb); obtain ⟨c0, c1, c2, c3⟩ := pair_cells HP.out; clear hb)
      | (go_at_call 28; refine (F0.out _).mono ?_; rintro e w2 ⟨rfl, hb⟩; unfold tnV; have HP2 := Lib.hid (pair_keep HP.out hb); clear c0 c1 c2 c3; obtain ⟨c0, c1, c2, c3⟩ := pair_cells HP2.out; obtain ⟨y0, y1⟩ := pair_lt HP2.out; clear hb)
      | (go_at_call 29; refine (G0.out _).mono ?_; rintro e w3 ⟨rfl, hb⟩; unfold tnV; have HT3 := Lib.hid (blk_keep (MapKept.heap_alloc w2 _).1 hb); obtain ⟨t0, t1, -, -, t4⟩ := blk_facts HT3.out; have HP3 := Lib.hid (pair_keep (pair_keep HP2.out (below_box _ _)) hb); clear c0 c1 c2 c3; obtain ⟨c0, c1, c2, c3⟩ := pair_cells HP3.out; obtain ⟨y2, y3⟩ := pair_lt HP3.out; clear hb)
      | (go_at_call_of 11 (Value.agg #[Value.int .u64 (u va), Value.int .u64 (u ma)]); refine (has_ref va ma x _).mono ?_; rw [H1.out]; rintro e w4 ⟨rfl, hb⟩; have HT4 := Lib.hid (blk_keep (blk_keep HT3.out (below_box _ _)) hb); clear t0 t1; obtain ⟨t0, t1, -⟩ := blk_facts HT4.out; have HP4 := Lib.hid (pair_keep (pair_keep HP3.out (below_box _ _)) hb); clear c0 c1 c2 c3; obtain ⟨c0, c1, c2, c3⟩ := pair_cells HP4.out; clear hb)
      | (go_at_call_of 11 (Value.agg #[Value.int .u64 (u vb), Value.int .u64 (u mb)]); refine (has_ref vb mb x _).mono ?_; rw [H2.out]; rintro e w5 ⟨rfl, hb⟩; have HT5 := Lib.hid (blk_keep HT4.out hb); clear t0 t1; obtain ⟨t0, t1, -⟩ := blk_facts HT5.out; have HP5 := Lib.hid (pair_keep HP4.out hb); clear c0 c1 c2 c3; obtain ⟨c0, c1, c2, c3⟩ := pair_cells HP5.out; clear hb)
      | (go_at_call 10; refine (has_tnum A B x _).mono ?_; rw [HH.out]; rintro e w6 ⟨rfl, hb⟩; (first | (have HB6 := Lib.hid (pair_keep HP5.out hb).2.2) | (have HB6 := Lib.hid (pair_keep HP4.out hb).2.2)); clear hb))
    go_ret
    exact ⟨rfl, HB6.out⟩
set_option maxHeartbeats 4000000 in
theorem meets_no (va ma vb mb x : B64) (w : World) (hok : mtOk va ma vb mb = false) : Calls Try.prog 6 #[tnV va ma, tnV vb mb, .int .u64 (u x)] w (Gives (.bool true) w) := by
  have hh := mt_none va ma vb mb x hok
  have hv : mtV va ma vb mb = .tuple #[tnV 0#64 (~~~0#64), .bool false] := by unfold mtV; rw [if_neg (by rw [hok]; decide)]
  obtain ⟨A, hA⟩ : ∃ A, 0#64 = A := ⟨_, rfl⟩
  obtain ⟨B, hB⟩ : ∃ B, ~~~0#64 = B := ⟨_, rfl⟩
  have f0 := fun W => meet_no va ma vb mb W hok
  have g0 := fun W => meet_ref va ma vb mb W
  rw [hv] at g0
  rw [hB, hA] at f0 g0
  have F0 := Lib.hid f0
  have G0 := Lib.hid g0
  obtain ⟨r1, h1⟩ : ∃ r, hasB va ma x = r := ⟨_, rfl⟩
  obtain ⟨r2, h2⟩ : ∃ r, hasB vb mb x = r := ⟨_, rfl⟩
  rw [h1, h2] at hh
  have H1 := Lib.hid h1
  have H2 := Lib.hid h2
  clear h1 h2 hA hB hv hok f0 g0
  have HP := Lib.hid (pair_new w va ma vb mb)
  cases r1 <;> cases r2
  all_goals first
    | (exact absurd hh (by decide))
    | (clear hh
       unfold Gives tnV
       go_enter Try.func6, Try.ntmps6
       go_wp2_with (first
         | (go_at_call 8; refine (alive _).mono ?_; rintro e w1 ⟨rfl, hb⟩; replace HP := Lib.hid (pair_keep HP.out hb); obtain ⟨c0, c1, c2, c3⟩ := pair_cells HP.out; clear hb)
         | (go_at_call 28; refine (F0.out _).mono ?_; rintro e w2 ⟨rfl, hb⟩; unfold tnV; have HP2 := Lib.hid (pair_keep HP.out hb); clear c0 c1 c2 c3; obtain ⟨c0, c1, c2, c3⟩ := pair_cells HP2.out; obtain ⟨y0, y1⟩ := pair_lt HP2.out; clear hb)
         | (go_at_call 29; refine (G0.out _).mono ?_; rintro e w3 ⟨rfl, hb⟩; unfold tnV; have HT3 := Lib.hid (blk_keep (MapKept.heap_alloc w2 _).1 hb); obtain ⟨t0, t1, -, -, t4⟩ := blk_facts HT3.out; have HP3 := Lib.hid (pair_keep (pair_keep HP2.out (below_box _ _)) hb); clear c0 c1 c2 c3; obtain ⟨c0, c1, c2, c3⟩ := pair_cells HP3.out; obtain ⟨y2, y3⟩ := pair_lt HP3.out; clear hb)
         | (go_at_call_of 11 (Value.agg #[Value.int .u64 (u va), Value.int .u64 (u ma)]); refine (has_ref va ma x _).mono ?_; rw [H1.out]; rintro e w4 ⟨rfl, hb⟩; have HP4 := Lib.hid (pair_keep (pair_keep HP3.out (below_box _ _)) hb); clear c0 c1 c2 c3; obtain ⟨c0, c1, c2, c3⟩ := pair_cells HP4.out; clear hb)
         | (go_at_call_of 11 (Value.agg #[Value.int .u64 (u vb), Value.int .u64 (u mb)]); refine (has_ref vb mb x _).mono ?_; rw [H2.out]; rintro e w5 ⟨rfl, hb⟩; have HP5 := Lib.hid (pair_keep HP4.out hb); clear hb))
       go_ret
       first
         | exact ⟨rfl, HP5.out.2.2⟩
         | exact ⟨rfl, HP4.out.2.2⟩)
theorem tnumMeets.walk (v0 v1 v2 : Value) (w : World) (h0 : IsInts [.u64, .u64] v0) (h1 : IsInts [.u64, .u64] v1) (h2 : IsInt .u64 v2) :
    Calls Try.prog 6 #[v0, v1, v2] w fun e w' => e = .returned (.bool true) ∧ Below w.heap.size w w' := by
  obtain ⟨va, ma, rfl⟩ := tn_in h0
  obtain ⟨vb, mb, rfl⟩ := tn_in h1
  obtain ⟨x, rfl⟩ := u_in h2
  cases hok : mtOk va ma vb mb
  · exact meets_no va ma vb mb x w hok
  · exact meets_yes va ma vb mb x w hok
end Go.Proofs.Ytkobnlkcfmolpaa
