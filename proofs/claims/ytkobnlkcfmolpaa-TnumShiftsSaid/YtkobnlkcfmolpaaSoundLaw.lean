/-
  Proved here: the law TnumSound returns true, of every two patterns and numbers. Conditions: none.
-/
import Derived.Test.YtkobnlkcfmolpaaAlive
import Derived.Test.YtkobnlkcfmolpaaOpen
namespace Go.Proofs.Ytkobnlkcfmolpaa
open Go.RowKit
attribute [local go_sem ↓] eql_tn neq_tn
attribute [local go_sem] u_and u_or u_xor u_andNot u_add u_sub u_shl u_shr u_sar u_mod64

/-- Two boxes of patterns. -/
def Pair (w0 : World) (a b c d : B64) (W : World) : Prop :=
  W.heap[w0.heap.size]? = some (.cells #[.int .u64 (u a), .int .u64 (u b)] 24) ∧ W.heap[w0.heap.size + 1]? = some (.cells #[.int .u64 (u c), .int .u64 (u d)] 24) ∧ Below w0.heap.size w0 W
theorem pair_keep {w0 W W' : World} {a b c d : B64} (h : Pair w0 a b c d W) (hb : Below W.heap.size W W') : Pair w0 a b c d W' := by
  obtain ⟨h1, h2, hB⟩ := h
  have s1 := (blk_facts h1).2.2.2.2
  have s2 := (blk_facts h2).2.2.2.2
  exact ⟨(hb.block _ s1).trans h1, (hb.block _ s2).trans h2, hB.trans (hb.mono (by omega))⟩
theorem pair_new (w : World) (a b c d : B64) : Pair w a b c d ((w.alloc (Obj.cells #[.int .u64 (u a), .int .u64 (u b)] 24)).alloc (Obj.cells #[.int .u64 (u c), .int .u64 (u d)] 24)) := by
  have e1 : (w.alloc (Obj.cells #[Value.int .u64 (u a), .int .u64 (u b)] 24)).heap.size = w.heap.size + 1 := by simp
  have h1 := (MapKept.heap_alloc w (Obj.cells #[.int .u64 (u a), .int .u64 (u b)] 24)).1
  have h2 := MapKept.heap_alloc (w.alloc (Obj.cells #[.int .u64 (u a), .int .u64 (u b)] 24)) (Obj.cells #[.int .u64 (u c), .int .u64 (u d)] 24)
  rw [e1] at h2
  exact ⟨(h2.2 _ (by omega)).trans h1, h2.1, ((Below.refl _ _).alloc (Nat.le_refl _) _).alloc (by simp) _⟩
theorem pair_cells {w0 W : World} {a b c d : B64} (h : Pair w0 a b c d W) : W.cell? ⟨w0.heap.size, 0, none⟩ = some (.int .u64 (u a)) ∧ W.cell? ⟨w0.heap.size, 1, none⟩ = some (.int .u64 (u b)) ∧
    W.cell? ⟨w0.heap.size + 1, 0, none⟩ = some (.int .u64 (u c)) ∧ W.cell? ⟨w0.heap.size + 1, 1, none⟩ = some (.int .u64 (u d)) :=
  ⟨(blk_facts h.1).1, (blk_facts h.1).2.1, (blk_facts h.2.1).1, (blk_facts h.2.1).2.1⟩
theorem u_mod32 (x : B64) : u x % 4294967296 = u (lowB x 32) := by rw [u_lowB]; rfl
attribute [local go_sem] u_mod32
set_option maxRecDepth 100000 in
set_option maxHeartbeats 4000000 in
theorem law_sound (va ma vb mb x y n : B64) (w : World) : Calls Try.prog 7 #[tnV va ma, tnV vb mb, .int .u64 (u x), .int .u64 (u y), .int .u64 (u n)] w (Gives (.bool true) w) := by
  obtain ⟨X, hX⟩ : ∃ X, inP va ma x = X := ⟨_, rfl⟩
  obtain ⟨Y, hY⟩ : ∃ Y, inP vb mb y = Y := ⟨_, rfl⟩
  obtain ⟨k, hk⟩ : ∃ k, n.toNat % 64 = k := ⟨_, rfl⟩
  have h0 := inP_has va ma x
  have h1 := inP_has vb mb y
  have h2 := sound_add va ma vb mb x y
  have h3 := sound_sub va ma vb mb x y
  have h4 := sound_and va ma vb mb x y
  have h5 := sound_or va ma vb mb x y
  have h6 := sound_xor va ma vb mb x y
  have h7 := sound_shift va ma x 0 k
  have h8 := sound_shift va ma x 1 k
  have h9 := sound_shift va ma x 2 k
  have h10 := sound_cut va ma x 32
  rw [hX] at h0 h2 h3 h4 h5 h6 h7 h8 h9 h10
  rw [hY] at h1 h2 h3 h4 h5 h6
  rw [shX_0 X] at h7
  rw [shX_1 X] at h8
  rw [shX_2 X] at h9
  unfold inP at hX hY
  have hn := u_bd n
  have hXb := u_bd X
  have HP := Lib.hid (pair_new w va ma vb mb)
  unfold Gives tnV
  go_enter Try.func7, Try.ntmps7
  go_wp2_with (first
    | (go_at_call 8; refine (alive _).mono ?_; rintro e w1 ⟨rfl, hb⟩; replace HP := Lib.hid (pair_keep HP.out hb); obtain ⟨c0, c1, c2, c3⟩ := pair_cells HP.out; clear hb)
    | (go_at_call 10; refine (has_tnum _ _ _ _).mono ?_; rintro e w1 ⟨rfl, hb⟩; replace HP := Lib.hid (pair_keep HP.out hb); clear c0 c1 c2 c3; obtain ⟨c0, c1, c2, c3⟩ := pair_cells HP.out; clear hb)
    | (go_at_call 16; refine (add_tnum _ _ _ _ _).mono ?_; rintro e w1 ⟨rfl, hb⟩; replace HP := Lib.hid (pair_keep HP.out hb); clear c0 c1 c2 c3; obtain ⟨c0, c1, c2, c3⟩ := pair_cells HP.out; clear hb; unfold tnV)
    | (go_at_call 18; refine (sub_tnum _ _ _ _ _).mono ?_; rintro e w1 ⟨rfl, hb⟩; replace HP := Lib.hid (pair_keep HP.out hb); clear c0 c1 c2 c3; obtain ⟨c0, c1, c2, c3⟩ := pair_cells HP.out; clear hb; unfold tnV)
    | (go_at_call 19; refine (and_tnum _ _ _ _ _).mono ?_; rintro e w1 ⟨rfl, hb⟩; replace HP := Lib.hid (pair_keep HP.out hb); clear c0 c1 c2 c3; obtain ⟨c0, c1, c2, c3⟩ := pair_cells HP.out; clear hb; unfold tnV)
    | (go_at_call 20; refine (or_tnum _ _ _ _ _).mono ?_; rintro e w1 ⟨rfl, hb⟩; replace HP := Lib.hid (pair_keep HP.out hb); clear c0 c1 c2 c3; obtain ⟨c0, c1, c2, c3⟩ := pair_cells HP.out; clear hb; unfold tnV)
    | (go_at_call 21; refine (xor_tnum _ _ _ _ _).mono ?_; rintro e w1 ⟨rfl, hb⟩; replace HP := Lib.hid (pair_keep HP.out hb); clear c0 c1 c2 c3; obtain ⟨c0, c1, c2, c3⟩ := pair_cells HP.out; clear hb; unfold tnV)
    | (go_at_call 22; refine (lsh_tnum _ _ _ _).mono ?_; rintro e w1 ⟨rfl, hb⟩; replace HP := Lib.hid (pair_keep HP.out hb); clear c0 c1 c2 c3; obtain ⟨c0, c1, c2, c3⟩ := pair_cells HP.out; clear hb; unfold tnV)
    | (go_at_call 24; refine (rsh_tnum _ _ _ _).mono ?_; rintro e w1 ⟨rfl, hb⟩; replace HP := Lib.hid (pair_keep HP.out hb); clear c0 c1 c2 c3; obtain ⟨c0, c1, c2, c3⟩ := pair_cells HP.out; clear hb; unfold tnV)
    | (go_at_call 25; refine (arsh_tnum _ _ _ _).mono ?_; rintro e w1 ⟨rfl, hb⟩; replace HP := Lib.hid (pair_keep HP.out hb); clear c0 c1 c2 c3; obtain ⟨c0, c1, c2, c3⟩ := pair_cells HP.out; clear hb; unfold tnV)
    | (go_at_call 26; refine (cut_tnum _ _ 4 _).mono ?_; rw [show bN 4 = 32 from rfl]; rintro e w1 ⟨rfl, hb⟩; replace HP := Lib.hid (pair_keep HP.out hb); clear c0 c1 c2 c3; obtain ⟨c0, c1, c2, c3⟩ := pair_cells HP.out; clear hb; unfold tnV))
  go_ret
  exact ⟨rfl, HP.out.2.2⟩

/-- A pattern that came in. -/
theorem tn_in {v : Value} (h : IsInts [.u64, .u64] v) : ∃ a b : B64, v = tnV a b := by
  obtain ⟨cs, rfl, hl, hk⟩ := h
  obtain ⟨a, ha, wa⟩ := hk 0 .u64 rfl
  obtain ⟨b, hb, wb⟩ := hk 1 .u64 rfl
  have ba := bounds_u64 wa
  have bb := bounds_u64 wb
  obtain ⟨x, rfl⟩ := u_of ba.1 ba.2
  obtain ⟨y, rfl⟩ := u_of bb.1 bb.2
  refine ⟨x, y, ?_⟩
  match cs, hl with
  | [c0, c1], _ =>
    simp only [List.getElem?_cons_zero, List.getElem?_cons_succ, Option.some.injEq] at ha hb
    subst ha hb
    rfl
/-- A number that came in. -/
theorem u_in {v : Value} (h : IsInt .u64 v) : ∃ x : B64, v = .int .u64 (u x) := by
  obtain ⟨n, rfl, hw⟩ := h
  have b := bounds_u64 hw
  obtain ⟨x, rfl⟩ := u_of b.1 b.2
  exact ⟨x, rfl⟩
theorem tnumSound.walk (v0 v1 v2 v3 v4 : Value) (w : World) (h0 : IsInts [.u64, .u64] v0) (h1 : IsInts [.u64, .u64] v1) (h2 : IsInt .u64 v2) (h3 : IsInt .u64 v3) (h4 : IsInt .u64 v4) :
    Calls Try.prog 7 #[v0, v1, v2, v3, v4] w fun e w' => e = .returned (.bool true) ∧ Below w.heap.size w w' := by
  obtain ⟨va, ma, rfl⟩ := tn_in h0
  obtain ⟨vb, mb, rfl⟩ := tn_in h1
  obtain ⟨x, rfl⟩ := u_in h2
  obtain ⟨y, rfl⟩ := u_in h3
  obtain ⟨n, rfl⟩ := u_in h4
  exact law_sound va ma vb mb x y n w
end Go.Proofs.Ytkobnlkcfmolpaa
