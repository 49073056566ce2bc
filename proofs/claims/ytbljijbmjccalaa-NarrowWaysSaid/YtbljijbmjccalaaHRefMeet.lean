/-
  Proved here: what Meet of the document's answers returns. Conditions: none.
-/
import Derived.Test.YtbljijbmjccalaaHRefRows
namespace Go.Proofs.Ytbljijbmjccalaa
open Go.RowKit
attribute [local go_sem] make64

/-- Two rows behind three boxes. -/
def Rows3 (w0 : World) (va ma vb mb : B64) (g q : Nat) (f h : Nat → Bool) (W : World) : Prop :=
  w0.heap.size + 2 < g ∧ w0.heap.size + 2 < q ∧ g ≠ q ∧ Three w0 (.int .u64 (u va)) (.int .u64 (u ma)) (.int .u64 (u vb)) (.int .u64 (u mb)) (.int .u64 0) (.int .u64 0) W ∧ RowIs W g f ∧ RowIs W q h
variable {w0 W W' : World} {va ma vb mb : B64} {g q : Nat} {f h f' h' : Nat → Bool}
theorem rows3_keep (hr : Rows3 w0 va ma vb mb g q f h W) (hb : Below W.heap.size W W') : Rows3 w0 va ma vb mb g q f h W' := by
  obtain ⟨h1, h2, h3, hT, hf, hh⟩ := hr
  exact ⟨h1, h2, h3, three_keep hT hb, row_keep hf hb, row_keep hh hb⟩
theorem rows3_z (hr : Rows3 w0 va ma vb mb g q f h W) {k : Nat} (hk : k < 64) (b : Bool) : Rows3 w0 va ma vb mb g q (fun i => if i = k then b else f i) h (W.setCell ⟨g, k, none⟩ (.bool b)) := by
  obtain ⟨h1, h2, h3, hT, hf, hh⟩ := hr
  exact ⟨h1, h2, h3, three_far hT h1 _, row_put hf hk b, row_other hh h3 _⟩
theorem rows3_o (hr : Rows3 w0 va ma vb mb g q f h W) {k : Nat} (hk : k < 64) (b : Bool) : Rows3 w0 va ma vb mb g q f (fun i => if i = k then b else h i) (W.setCell ⟨q, k, none⟩ (.bool b)) := by
  obtain ⟨h1, h2, h3, hT, hf, hh⟩ := hr
  exact ⟨h1, h2, h3, three_far hT h2 _, row_other hf (Ne.symm h3) _, row_put hh hk b⟩
theorem rows3_congr (hr : Rows3 w0 va ma vb mb g q f h W) (e1 : ∀ i, i < 64 → f i = f' i) (e2 : ∀ i, i < 64 → h i = h' i) : Rows3 w0 va ma vb mb g q f' h' W := by
  obtain ⟨h1, h2, h3, hT, hf, hh⟩ := hr
  exact ⟨h1, h2, h3, hT, row_congr hf e1, row_congr hh e2⟩
/-- All that the walk asks of the memory. -/
theorem rows3_facts (hr : Rows3 w0 va ma vb mb g q f h W) {k : Nat} (hk : k < 64) :
    (W.cell? ⟨w0.heap.size, 0, none⟩ = some (.int .u64 (u va)) ∧ W.cell? ⟨w0.heap.size, 1, none⟩ = some (.int .u64 (u ma)) ∧ W.cell? ⟨w0.heap.size + 1, 0, none⟩ = some (.int .u64 (u vb)) ∧ W.cell? ⟨w0.heap.size + 1, 1, none⟩ = some (.int .u64 (u mb))) ∧
    (W.cell? ⟨g, k, none⟩ = some (.bool (f k)) ∧ W.frozen? ⟨g, k, none⟩ = false) ∧ (W.cell? ⟨q, k, none⟩ = some (.bool (h k)) ∧ W.frozen? ⟨q, k, none⟩ = false) ∧
    (¬ g = q ∧ ¬ q = g ∧ ¬ g = w0.heap.size ∧ ¬ w0.heap.size = g ∧ ¬ q = w0.heap.size ∧ ¬ w0.heap.size = q) ∧ (¬ g = w0.heap.size + 1 ∧ ¬ w0.heap.size + 1 = g ∧ ¬ q = w0.heap.size + 1 ∧ ¬ w0.heap.size + 1 = q) := by
  obtain ⟨h1, h2, h3, hT, hf, hh⟩ := hr
  have t := three_cells hT
  exact ⟨⟨t.1, t.2.1, t.2.2.1, t.2.2.2.1⟩, row_at hf hk, row_at hh hk, ⟨h3, Ne.symm h3, by omega, by omega, by omega, by omega⟩, by omega, by omega, by omega, by omega⟩
theorem three_new0 (w : World) (a b c d x y : Value) : Three w a b c d x y (((w.alloc (Obj.cells #[a, b] 24)).alloc (Obj.cells #[c, d] 24)).alloc (Obj.cells #[x, y] 24)) := by
  have h := three_new w a b c d x y
  exact ⟨h.1, h.2.1, h.2.2.1, (((Below.refl _ _).alloc (Nat.le_refl _) _).alloc (by simp) _).alloc (by simp; omega) _⟩
theorem rows3_new (w : World) (va ma vb mb : B64) (swap : Bool) : Rows3 w va ma vb mb (w.heap.size + 3 + if swap = true then 1 else 0) (w.heap.size + 3 + if swap = true then 0 else 1) (fun _ => false) (fun _ => false)
    (((((w.alloc (Obj.cells #[.int .u64 (u va), .int .u64 (u ma)] 24)).alloc (Obj.cells #[.int .u64 (u vb), .int .u64 (u mb)] 24)).alloc (Obj.cells #[.int .u64 0, .int .u64 0] 24)).alloc (.cells zeros64 4)).alloc (.cells zeros64 4)).drew := by
  have hT := three_new0 w (.int .u64 (u va)) (.int .u64 (u ma)) (.int .u64 (u vb)) (.int .u64 (u mb)) (.int .u64 0) (.int .u64 0)
  have h2 := row_two (((w.alloc (Obj.cells #[.int .u64 (u va), .int .u64 (u ma)] 24)).alloc (Obj.cells #[.int .u64 (u vb), .int .u64 (u mb)] 24)).alloc (Obj.cells #[.int .u64 0, .int .u64 0] 24))
  have e : (((w.alloc (Obj.cells #[.int .u64 (u va), .int .u64 (u ma)] 24)).alloc (Obj.cells #[.int .u64 (u vb), .int .u64 (u mb)] 24)).alloc (Obj.cells #[.int .u64 0, .int .u64 0] 24)).heap.size = w.heap.size + 3 := by simp
  rw [e] at h2
  have hT' := three_keep (three_keep hT (below_box _ (.cells zeros64 4))) (below_box _ (.cells zeros64 4))
  cases swap
  · exact ⟨by simp, by simp, by simp, ⟨hT'.1, hT'.2.1, hT'.2.2.1, hT'.2.2.2.drew⟩, h2.1, h2.2⟩
  · exact ⟨by simp, by simp, by simp, ⟨hT'.1, hT'.2.1, hT'.2.2.1, hT'.2.2.2.drew⟩, h2.2, h2.1⟩
/-- What Meet's loop keeps: so far there is a number that both have. -/
def MtRel (w0 : World) (va ma vb mb : B64) (g q : Nat) (c : Value) (W : World) : Prop := ∃ k : Nat, k ≤ 64 ∧ c = .int .i64 k ∧ (∀ i, i < k → (mtZ va ma vb mb i || mtO va ma vb mb i) = true) ∧ Rows3 w0 va ma vb mb g q (rowF (mtZ va ma vb mb) k) (rowF (mtO va ma vb mb) k) W
/-- What Meet tells. -/
def mtV (va ma vb mb : B64) : Value := if mtOk va ma vb mb = true then .tuple #[tnV (pv (pv va ma ||| pv vb mb) (ma &&& mb)) (ma &&& mb), .bool true] else .tuple #[tnV 0#64 (~~~0#64), .bool false]
theorem three_put {w0 W : World} {a b c d x y x' y' : Value} (h : Three w0 a b c d x y W) : Below w0.heap.size w0 ((W.setCell ⟨w0.heap.size + 2, 0, none⟩ x').setCell ⟨w0.heap.size + 2, 1, none⟩ y') := (h.2.2.2.setCell (by simp) _).setCell (by simp) _
set_option maxHeartbeats 4000000 in
theorem meet_ref (va ma vb mb : B64) (w : World) : Calls Try.prog 32 #[tnV va ma, tnV vb mb] w (Gives (mtV va ma vb mb) w) := by
  unfold Gives tnV
  go_enter Try.func32, Try.ntmps32
  go_wp2
  go_cut [6, 7] (fun a b W => ∃ g q : Nat, a = .slice (some ⟨g, 0, none⟩) 64 64 ∧ b = .slice (some ⟨q, 0, none⟩) 64 64 ∧ Rows3 w va ma vb mb g q (fun _ => false) (fun _ => false) W)
  case first =>
    go_region
    all_goals
      go_wp2
      go_meet
      first | exact ⟨_, _, rfl, rfl, rows3_new w va ma vb mb false⟩ | exact ⟨_, _, rfl, rfl, rows3_new w va ma vb mb true⟩
  case rest =>
    obtain ⟨g, q, rfl, rfl, hR0⟩ := hcut
    have HR := Lib.hid (rows3_congr hR0 (fun i _ => rowF_zero (mtZ va ma vb mb) i) (fun i _ => rowF_zero (mtO va ma vb mb) i))
    clear hR0
    go_wp2
    go_loopw [8] (fun c W => MtRel w va ma vb mb g q c W) (fun c _ => 64 - (intOf c).toNat)
    case atStart => exact ⟨0, by omega, rfl, by omega, HR.out⟩
    case round =>
    obtain ⟨k, hk, rfl, hall, hR⟩ := hrel
    have HR' := Lib.hid hR
    have HA := Lib.hid hall
    clear hR HR hall
    by_cases hlt : k < 64
    · obtain ⟨⟨c0, c1, c2, c3⟩, ⟨cg, fg⟩, ⟨cq, fq⟩, ⟨n1, n2, n3, n4, n5, n6⟩, n7, n8, n9, n10⟩ := rows3_facts HR'.out hlt
      have n11 : ¬ g = w.heap.size + 2 := Nat.ne_of_gt HR'.out.1
      have n12 : ¬ w.heap.size + 2 = g := fun e => n11 e.symm
      have n13 : ¬ q = w.heap.size + 2 := Nat.ne_of_gt HR'.out.2.1
      have n14 : ¬ w.heap.size + 2 = q := fun e => n13 e.symm
      obtain ⟨az, haz⟩ : ∃ b, bz va ma k = b := ⟨_, rfl⟩
      obtain ⟨ao, hao⟩ : ∃ b, bo va ma k = b := ⟨_, rfl⟩
      obtain ⟨ez, hez⟩ : ∃ b, bz vb mb k = b := ⟨_, rfl⟩
      obtain ⟨eo, heo⟩ : ∃ b, bo vb mb k = b := ⟨_, rfl⟩
      have HZ := Lib.hid (show mtZ va ma vb mb k = (az && ez) by unfold mtZ; rw [haz, hez])
      have HO := Lib.hid (show mtO va ma vb mb k = (ao && eo) by unfold mtO; rw [hao, heo])
      have H1 := Lib.hid haz
      have H2 := Lib.hid hao
      have H3 := Lib.hid hez
      have H4 := Lib.hid heo
      clear haz hao hez heo
      cases az <;> cases ao <;> cases ez <;> cases eo
      all_goals
        go_wp2_with (first
          | (go_at_call_of 37 (Value.agg #[Value.int .u64 (u va), Value.int .u64 (u ma)]); refine (bit_ref va ma k (by omega) _).mono ?_; rw [H1.out, H2.out]; rintro e w1 ⟨rfl, hb⟩; have HR1 := Lib.hid (rows3_keep HR'.out hb); obtain ⟨⟨x0, x1, x2, x3⟩, -⟩ := rows3_facts HR1.out hlt; clear hb)
          | (go_at_call_of 37 (Value.agg #[Value.int .u64 (u vb), Value.int .u64 (u mb)]); refine (bit_ref vb mb k (by omega) _).mono ?_; rw [H3.out, H4.out]; rintro e w2 ⟨rfl, hb⟩; have HR2 := Lib.hid (rows3_keep HR1.out hb); obtain ⟨-, ⟨yg, yf⟩, ⟨yq, yr⟩, -⟩ := rows3_facts HR2.out hlt; obtain ⟨d4, d5, e4, e5, m4⟩ := blk_facts HR2.out.2.2.2.1.2.2.1; clear hb))
        first
          | (go_roundw
             case rel =>
               refine ⟨k + 1, by omega, by go_num, ?_, rows3_congr (rows3_o (rows3_z HR2.out hlt _) hlt _) (fun i hi => rowF_put _ k _ HZ.out i) (fun i hi => rowF_put _ k _ HO.out i)⟩
               intro i hi
               by_cases e : i = k
               · subst e; rw [HZ.out, HO.out]; rfl
               · exact HA.out i (by omega)
             case measure => simp [intOf]; omega)
          | (have HN := mt_not va ma vb mb k hlt (by rw [HZ.out, HO.out]; rfl)
             refine bodyPost_ret (v := .tuple #[.agg #[.int .u64 0, .int .u64 18446744073709551615], .bool false]) (by simp [results, Try.results32, go_sem, d4, d5]) rfl ⟨by unfold mtV; rw [HN]; rfl, ?_⟩
             exact three_put (three_far (three_far HR2.out.2.2.2.1 HR2.out.1 _) HR2.out.2.1 _))
    · obtain rfl : k = 64 := by omega
      have HY := Lib.hid ((mt_ok va ma vb mb).2 HA.out)
      have HR2 := Lib.hid (rows3_congr HR'.out (fun i hi => rowF_all _ i hi) (fun i hi => rowF_all _ i hi))
      go_wp2_with (go_at_call 47; refine (of_ref g q _ _ _ (row_bools HR2.out.2.2.2.2.1) (row_bools HR2.out.2.2.2.2.2) (row_lt HR2.out.2.2.2.2.1) (row_lt HR2.out.2.2.2.2.2)).mono ?_; rintro e w1 ⟨rfl, hb⟩; unfold tnV; have HT1 := Lib.hid (three_keep HR2.out.2.2.2.1 hb); obtain ⟨d0, d1, e0, e1, _⟩ := blk_facts HT1.out.2.2.1; clear hb)
      refine bodyPost_ret (v := .tuple #[.agg #[.int .u64 (u (valB (mtZ va ma vb mb) (mtO va ma vb mb))), .int .u64 (u (maskB (mtZ va ma vb mb) (mtO va ma vb mb)))], .bool true]) (by simp [results, Try.results32, go_sem, d0, d1]) rfl ⟨by unfold mtV; rw [if_pos HY.out, mt_val _ _ _ _ HY.out, mt_mask _ _ _ _ HY.out]; rfl, ?_⟩
      exact three_put HT1.out
end Go.Proofs.Ytbljijbmjccalaa
