import Derived.Test.YtogadmlnmcojpaaG7
/-
  Proved here: the law XferNear returns true, of every operation and numbers. Conditions: an operation's number is a uint8.
-/
namespace Go.Proofs.Ytogadmlnmcojpaa
open Go.RowKit

theorem eql_num (a b c d e f : B64) (w : World) : (binOp .eql 26 (.agg #[.int .u64 (u a), .int .u64 (u b), .int .u64 (u c), .int .u64 (u d), .int .i64 (s e), .int .i64 (s f)]) (.agg #[.int .u64 (u a), .int .u64 (u b), .int .u64 (u c), .int .u64 (u d), .int .i64 (s e), .int .i64 (s f)])).run Try.prog w = .ok (.bool true) w := by
  simp [go_sem]
theorem kAll_ones {op : Int} (wide : Bool) (x y : B64) (ho : isOp op = true) : kAll op wide (oneK x) (oneK y) = oneK (doB op wide x y) := by
  unfold kAll
  rw [if_pos ho, kDo_yes op wide (by unfold oneB oneK; simp)]
  rfl
attribute [local go_sem ↓] eql_num
attribute [local irreducible] s u
set_option maxHeartbeats 4000000 in
theorem law_near (op : Int) (wide : Bool) (x y : B64) (w : World) (h0 : 0 ≤ op) (h1 : op ≤ 255) : Calls Try.prog 5 #[.int .u8 op, .bool wide, .int .u64 (u x), .int .u64 (u y)] w (Gives (.bool true) w) := by
  have hal := fun W => alive_x W
  have hcx := fun W => refconst_num x W
  have hcy := fun W => refconst_num y W
  have hx := fun W => xdo op wide (oneK x) (oneK y) W h0 h1
  have hd := fun W => do_refB op wide x y W
  have hz := fun W => refconst_num (doB op wide x y) W
  have hk := kAll_ones (op := op) wide x y
  obtain ⟨R, hR⟩ : ∃ R, kAll op wide (oneK x) (oneK y) = R := ⟨_, rfl⟩
  obtain ⟨z, hz'⟩ : ∃ z, doB op wide x y = z := ⟨_, rfl⟩
  rw [hR] at hx hk
  rw [hz'] at hd hz hk
  clear hR hz'
  obtain ⟨X, hX⟩ : ∃ X, oneK x = X := ⟨_, rfl⟩
  obtain ⟨Y, hY⟩ : ∃ Y, oneK y = Y := ⟨_, rfl⟩
  rw [hX] at hcx hx
  rw [hY] at hcy hx
  clear hX hY h0 h1
  cases ho : isOp op
  · rw [ho] at hx hd
    clear hk hz ho
    unfold numV at hcx hcy hx
    unfold Gives
    go_enter Try.func5, Try.ntmps5
    go_upto_region 4 with (first
      | (go_at_call 6; refine (hal _).mono ?_; rintro e w1 ⟨rfl, hb⟩; have H1 := Lib.hid hb; clear hb)
      | (go_at_call_of 11 (Value.int .u64 (u x)); refine (hcx _).mono ?_; rintro e w2 ⟨rfl, hb⟩; replace H1 := Lib.hid (H1.out.trans (hb.mono H1.out.size)); clear hb)
      | (go_at_call_of 11 (Value.int .u64 (u y)); refine (hcy _).mono ?_; rintro e w3 ⟨rfl, hb⟩; replace H1 := Lib.hid (H1.out.trans (hb.mono H1.out.size)); clear hb)
      | (go_at_call 7; refine (hx _).mono ?_; rintro e w4 ⟨rfl, hb⟩; have H2 := Lib.hid (eb_new (H1.out.trans (hb.mono H1.out.size)) R); clear hb))
    generalize w4.alloc _ = W at H2 ⊢
    generalize w4.heap.size = g at H2 ⊢
    go_upto_region 5 with (go_at_call 10; refine (hd _).mono ?_; rintro e w5 ⟨rfl, rfl⟩)
    go_quiet (fail)
    go_wp2
    go_ret
    exact ⟨by simp, below_drews H2.out.2.2 _⟩
  · rw [ho] at hx hd
    rw [hk ho] at hx
    clear hk ho R
    obtain ⟨R, hR⟩ : ∃ R, oneK z = R := ⟨_, rfl⟩
    rw [hR] at hx hz
    clear hR
    unfold numV at hcx hcy hx hz
    unfold Gives
    go_enter Try.func5, Try.ntmps5
    go_upto_region 4 with (first
      | (go_at_call 6; refine (hal _).mono ?_; rintro e w1 ⟨rfl, hb⟩; have H1 := Lib.hid hb; clear hb)
      | (go_at_call_of 11 (Value.int .u64 (u x)); refine (hcx _).mono ?_; rintro e w2 ⟨rfl, hb⟩; replace H1 := Lib.hid (H1.out.trans (hb.mono H1.out.size)); clear hb)
      | (go_at_call_of 11 (Value.int .u64 (u y)); refine (hcy _).mono ?_; rintro e w3 ⟨rfl, hb⟩; replace H1 := Lib.hid (H1.out.trans (hb.mono H1.out.size)); clear hb)
      | (go_at_call 7; refine (hx _).mono ?_; rintro e w4 ⟨rfl, hb⟩; have H2 := Lib.hid (eb_new (H1.out.trans (hb.mono H1.out.size)) R); clear hb))
    generalize w4.alloc _ = W at H2 ⊢
    generalize w4.heap.size = g at H2 ⊢
    go_upto_region 5 with (go_at_call 10; refine (hd _).mono ?_; rintro e w5 ⟨rfl, rfl⟩)
    have H3 := Lib.hid (eb_keep H2.out ((Below.refl W.heap.size W).drew))
    obtain ⟨c0, c1, c2, c3, c4, c5⟩ := num_cells H2.out.1
    clear H2
    go_region_with (go_at_call 11; refine (hz _).mono ?_; rintro e w6 ⟨rfl, hb⟩; replace H3 := Lib.hid (eb_keep H3.out hb); clear hb c0 c1 c2 c3 c4 c5; obtain ⟨c0, c1, c2, c3, c4, c5⟩ := num_cells H3.out.1)
    all_goals
      go_wp2
      go_ret
      exact ⟨by first | rfl | simp | exact ret_bool (by simp), H3.out.2.2⟩
theorem xferNear.walk (v0 v1 v2 v3 : Value) (w : World) (h0 : IsInt .u8 v0) (h1 : ∃ b : Bool, v1 = .bool b) (h2 : IsInt .u64 v2) (h3 : IsInt .u64 v3) :
    Calls Try.prog 5 #[v0, v1, v2, v3] w fun e w' => e = .returned (.bool true) ∧ Below w.heap.size w w' := by
  obtain ⟨op, rfl, ho⟩ := h0
  obtain ⟨wide, rfl⟩ := h1
  obtain ⟨x, rfl⟩ := u_in h2
  obtain ⟨y, rfl⟩ := u_in h3
  have b0 := bounds_u8 ho
  exact law_near op wide x y w b0.1 b0.2
end Go.Proofs.Ytogadmlnmcojpaa
