/-
  Proved here: the law WordsSigns returns true for every uint64 and every int, and its arguments read behind the call as before (P1.1). Conditions: none but the row's own (printed in its sentence).
-/
import Derived.Test.YtobfofbffjcioaaRows
import Derived.Test.YtobfofbffjcioaaAlive
import Derived.WalkKit
import Derived.ProofKit
import Derived.OpenShut
namespace Go.Proofs.Ytobfofbffjcioaa.wordsSigns
open Go.ChangeShapes Go.WideShapes Go.ChangeAt Go.RowKit
set_option linter.unusedVariables false      -- a walk need not use every 'w<i>' (that an integer argument fits its kind)

theorem own : ownKnob Try.prog.godebug = none := by kernel_rfl

/-! ### STEP 1: THE WALK: the Go text returns true. 'Grown w w'': the world has at most new blocks (Derived/RowKit3.lean). Part the cases AHEAD of 'go_enter' where a test parts the walk; take each callee by a contract of your own. -/
theorem walk (a0 : Int) (a1 : Int) (w0 : (Lit.int .u64 a0).wf = true) (w1 : (Lit.int .i64 a1).wf = true) (w : World) :
    Calls Try.prog 5 #[.int .u64 a0, .int .i64 a1] w fun e w' => e = .returned (.bool true) ∧ Grown w w' := by
  obtain ⟨x0, x1⟩ := bounds_u64 w0
  clear w0
  by_cases n1 : a1 = 1
  · subst n1
    have hz := sizeB_1
    obtain ⟨y, hy⟩ : ∃ y, sx a0 1 = y := ⟨_, rfl⟩
    have hyb : 0 ≤ y ∧ y ≤ 18446744073709551615 := by
      rw [← hy, sx, if_pos rfl]; split <;> omega
    have hzz : zx y 1 = zx a0 1 := by
      have ez : ∀ t, zx t 1 = t % 256 := fun t => by rw [zx, if_pos rfl]
      rw [ez, ez, ← hy, sx, if_pos rfl]; split <;> omega
    have hsg : -128 ≤ wrap64 y ∧ wrap64 y < 128 := by
      rw [← hy, sx, if_pos rfl, wrap64]; split <;> omega
    go_enter Try.func5, Try.ntmps5
    go_wp2_with (first
      | (go_at_call 6; refine (alive _).mono ?_; rintro e w' ⟨rfl, hbel, hg⟩; have HG := Lib.hid hg; clear hbel hg)
      | (go_at_call 8; refine (size_ref _ _).mono ?_; rintro e w' ⟨rfl, rfl⟩)
      | (go_at_call 9; refine (zext_words _ _ _ (by omega) (by omega)).mono ?_; rintro e w' ⟨rfl, rfl⟩)
      | (go_at_call 11; refine (sext_words _ _ _ x0 x1).mono ?_; rintro e w' ⟨rfl, rfl⟩)
      | (go_at_call 20; refine (power _ _ (by omega) (by omega)).mono ?_; rintro e w' ⟨rfl, rfl⟩))
    go_ret
    exact ⟨rfl, HG.out⟩
  by_cases n2 : a1 = 2
  · subst n2
    have hz := sizeB_2
    obtain ⟨y, hy⟩ : ∃ y, sx a0 2 = y := ⟨_, rfl⟩
    have hyb : 0 ≤ y ∧ y ≤ 18446744073709551615 := by
      rw [← hy, sx, if_neg (by decide), if_pos rfl]; split <;> omega
    have hzz : zx y 2 = zx a0 2 := by
      have ez : ∀ t, zx t 2 = t % 65536 := fun t => by rw [zx, if_neg (by decide), if_pos rfl]
      rw [ez, ez, ← hy, sx, if_neg (by decide), if_pos rfl]; split <;> omega
    have hsg : -32768 ≤ wrap64 y ∧ wrap64 y < 32768 := by
      rw [← hy, sx, if_neg (by decide), if_pos rfl, wrap64]; split <;> omega
    go_enter Try.func5, Try.ntmps5
    go_wp2_with (first
      | (go_at_call 6; refine (alive _).mono ?_; rintro e w' ⟨rfl, hbel, hg⟩; have HG := Lib.hid hg; clear hbel hg)
      | (go_at_call 8; refine (size_ref _ _).mono ?_; rintro e w' ⟨rfl, rfl⟩)
      | (go_at_call 9; refine (zext_words _ _ _ (by omega) (by omega)).mono ?_; rintro e w' ⟨rfl, rfl⟩)
      | (go_at_call 11; refine (sext_words _ _ _ x0 x1).mono ?_; rintro e w' ⟨rfl, rfl⟩)
      | (go_at_call 20; refine (power _ _ (by omega) (by omega)).mono ?_; rintro e w' ⟨rfl, rfl⟩))
    go_ret
    exact ⟨rfl, HG.out⟩
  by_cases n4 : a1 = 4
  · subst n4
    have hz := sizeB_4
    obtain ⟨y, hy⟩ : ∃ y, sx a0 4 = y := ⟨_, rfl⟩
    have hyb : 0 ≤ y ∧ y ≤ 18446744073709551615 := by
      rw [← hy, sx, if_neg (by decide), if_neg (by decide), if_pos rfl]; split <;> omega
    have hzz : zx y 4 = zx a0 4 := by
      have ez : ∀ t, zx t 4 = t % 4294967296 := fun t => by rw [zx, if_neg (by decide), if_neg (by decide), if_pos rfl]
      rw [ez, ez, ← hy, sx, if_neg (by decide), if_neg (by decide), if_pos rfl]; split <;> omega
    have hsg : -2147483648 ≤ wrap64 y ∧ wrap64 y < 2147483648 := by
      rw [← hy, sx, if_neg (by decide), if_neg (by decide), if_pos rfl, wrap64]; split <;> omega
    go_enter Try.func5, Try.ntmps5
    go_wp2_with (first
      | (go_at_call 6; refine (alive _).mono ?_; rintro e w' ⟨rfl, hbel, hg⟩; have HG := Lib.hid hg; clear hbel hg)
      | (go_at_call 8; refine (size_ref _ _).mono ?_; rintro e w' ⟨rfl, rfl⟩)
      | (go_at_call 9; refine (zext_words _ _ _ (by omega) (by omega)).mono ?_; rintro e w' ⟨rfl, rfl⟩)
      | (go_at_call 11; refine (sext_words _ _ _ x0 x1).mono ?_; rintro e w' ⟨rfl, rfl⟩)
      | (go_at_call 20; refine (power _ _ (by omega) (by omega)).mono ?_; rintro e w' ⟨rfl, rfl⟩))
    go_ret
    exact ⟨rfl, HG.out⟩
  by_cases n8 : a1 = 8
  · subst n8
    have hz := sizeB_8
    have hy : sx a0 8 = a0 := by rw [sx, if_neg (by decide), if_neg (by decide), if_neg (by decide)]
    go_enter Try.func5, Try.ntmps5
    go_wp2_with (first
      | (go_at_call 6; refine (alive _).mono ?_; rintro e w' ⟨rfl, hbel, hg⟩; have HG := Lib.hid hg; clear hbel hg)
      | (go_at_call 8; refine (size_ref _ _).mono ?_; rintro e w' ⟨rfl, rfl⟩)
      | (go_at_call 9; refine (zext_words _ _ _ (by omega) (by omega)).mono ?_; rintro e w' ⟨rfl, rfl⟩)
      | (go_at_call 11; refine (sext_words _ _ _ x0 x1).mono ?_; rintro e w' ⟨rfl, rfl⟩)
      | (go_at_call 20; refine (power _ _ (by omega) (by omega)).mono ?_; rintro e w' ⟨rfl, rfl⟩))
    go_ret
    exact ⟨rfl, HG.out⟩
  have hz := sizeB_not n1 n2 n4 n8
  go_enter Try.func5, Try.ntmps5
  go_wp2_with (first
      | (go_at_call 6; refine (alive _).mono ?_; rintro e w' ⟨rfl, hbel, hg⟩; have HG := Lib.hid hg; clear hbel hg)
      | (go_at_call 8; refine (size_ref _ _).mono ?_; rintro e w' ⟨rfl, rfl⟩)
      | (go_at_call 9; refine (zext_words _ _ _ (by omega) (by omega)).mono ?_; rintro e w' ⟨rfl, rfl⟩)
      | (go_at_call 11; refine (sext_words _ _ _ x0 x1).mono ?_; rintro e w' ⟨rfl, rfl⟩)
      | (go_at_call 20; refine (power _ _ (by omega) (by omega)).mono ?_; rintro e w' ⟨rfl, rfl⟩))
  go_ret
  exact ⟨rfl, HG.out⟩

/-! ### THE ROW's STEP: WRITTEN OUT: LEAVE IT -/
set_option maxRecDepth 100000 in
theorem lifted (os : Os) (started : os.Started) (H : Type) (enc : TypeId × Value → H) :
    ReturnsInHanded {} Try.checked os 5 .any (Rows.wordsSignsSpec.pre6 enc Try.prog Try.f5 Rows.wordsSignsRow.domain false) (Rows.wordsSignsSpec.post enc Try.prog Try.f5 false true false false) := by
  refine returnsInHanded_of_change (C := Try.checked) own started (by kernel_rfl) Try.func5
    (ChangeSpec.witness6 (enc := enc) (C := Try.checked) false ⟨#[], #[.int .u64 0, .int .i64 0], []⟩ 8 (by kernel_rfl) (by kernel_rfl) (by kernel_rfl) (by kernel_rfl)) ?_
  intro W base args ds gs before hval0 hW hcnd _
  have hval : ∀ (j : Nat) t v, Try.f5.params[j]? = some t → args[j]? = some v → Value.okWide Try.prog W .any base t v := hval0
  have hW' := hW
  obtain ⟨p, q, hA0, hV, rfl, hfz, hnd⟩ := hW
  have hA : DataW.TrodAll enc Try.prog W 0 (fun _ => true) true Try.f5.params.toList args.toList ds p := hA0
  rw [Try.params5] at hA hval
  obtain ⟨v0, vs0, d0, ds0, p0, q0, hargs, rfl, rfl, h0, r0⟩ := trodAll_cons hA
  obtain ⟨v1, vs1, d1, ds1, p1, q1, rfl, rfl, rfl, h1, r1⟩ := trodAll_cons r0
  obtain ⟨rfl, rfl, rfl⟩ := trodAll_nil r1
  obtain rfl : args = #[v0, v1] := by cases args; simp_all
  obtain ⟨rfl, rfl⟩ := trodVars_none hV
  obtain ⟨a0, rfl, rfl, rfl, w0⟩ := open_int Try.underlying22 (hval 0 22 v0 rfl rfl) h0
  obtain ⟨a1, rfl, rfl, rfl, w1⟩ := open_int Try.underlying3 (hval 1 3 v1 rfl rfl) h1
  clear hA0 hval0
  simp only [List.append_nil] at hW'
  refine (walk a0 a1 w0 w1 W).mono fun e W' ⟨he, hg⟩ => ?_
  subst he
  exact ⟨_, rfl, post_of_same (pa := []) (pv := []) hW' (fun _ _ _ => (trodAll_cons_mk (shut_bool Try.underlying4 _) trodAll_mk0)) (fun sp _ => (trodAll_cons_mk (shut_int Try.underlying22 w0) (trodAll_cons_mk (shut_int Try.underlying3 w1) trodAll_mk0))) (fun _ _ => rfl) rfl
    (hg.frame _) hg.2.1 (ok_one (by kernel_rfl) rfl (okWide_bool_mk Try.underlying4 _))⟩

theorem over : Rows.wordsSignsRow.holds Try.pinned (OpenSpec.ofChange Rows.wordsSignsSpec) :=
  OpenClaim.holds_of_wide 5 Try.f5 rfl rfl rfl rfl rfl rfl rfl ⟨rfl, rfl, rfl, rfl, rfl⟩ rfl rfl rfl rfl rfl (by kernel_rfl) Try.func5 (by kernel_rfl)
    (of_decide_eq_true (by kernel_rfl)) (by unfold Func.isWrapper; first | (rw [if_pos (by decide +kernel)]; kernel_rfl) | (rw [if_neg (by decide +kernel)]; exact ⟨rfl, rfl⟩))
    (fun os started H enc _ => lifted os started H enc)

/-- ████ THE STATEMENT ████ -/
theorem proved : Rows.WordsSignsSaid :=
  over
#print axioms proved
end Go.Proofs.Ytobfofbffjcioaa.wordsSigns
