/-
  Proved here: what Refine of package num returns: what is behind two rounds, or all, if it is empty. Conditions: none.
-/
import Derived.Test.YtbljijbmjccalaaHNumE
import Derived.Test.YtbljijbmjccalaaHNumF
namespace Go.Proofs.Ytbljijbmjccalaa
open Go.RowKit
attribute [local go_sem] u_and u_or u_xor u_andNot u_add u_sub s_conv u_conv max_u min_u max_s min_s

/-- The boxes under way: the result's, and what is known. -/
def Way (w0 : World) (q z : K) (W : World) : Prop := AtK (w0.heap.size + 2) q W ∧ NumAt (w0.heap.size + 1) z W ∧ Below w0.heap.size w0 W
def zeroK : K := ⟨0#64, 0#64, 0#64, 0#64, 0#64, 0#64⟩
theorem way_new (k : K) (w : World) (o : Obj) : Way w k zeroK (((w.alloc o).alloc (.cells #[.int .u64 0, .int .u64 0, .int .u64 0, .int .u64 0, .int .i64 0, .int .i64 0] 26)).alloc
    (.cells #[.int .u64 (u k.v), .int .u64 (u k.m), .int .u64 (u k.a), .int .u64 (u k.b), .int .i64 (s k.c), .int .i64 (s k.d)] 74)) := by
  have e1 : (w.alloc o).heap.size = w.heap.size + 1 := by simp
  have h2 := MapKept.heap_alloc (w.alloc o) (.cells #[.int .u64 0, .int .u64 0, .int .u64 0, .int .u64 0, .int .i64 0, .int .i64 0] 26)
  have e2 : ((w.alloc o).alloc (.cells #[.int .u64 0, .int .u64 0, .int .u64 0, .int .u64 0, .int .i64 0, .int .i64 0] 26)).heap.size = w.heap.size + 2 := by simp
  have h3 := MapKept.heap_alloc ((w.alloc o).alloc (.cells #[.int .u64 0, .int .u64 0, .int .u64 0, .int .u64 0, .int .i64 0, .int .i64 0] 26)) (.cells #[.int .u64 (u k.v), .int .u64 (u k.m), .int .u64 (u k.a), .int .u64 (u k.b), .int .i64 (s k.c), .int .i64 (s k.d)] 74)
  rw [e1] at h2
  rw [e2] at h3
  exact ⟨h3.1, (h3.2 _ (by omega)).trans h2.1, ((below_box _ _).alloc (by simp) _).alloc (by simp; omega) _⟩
theorem way_step {w0 W W' : World} {q z q' : K} (h : Way w0 q z W) (hq : AtK (w0.heap.size + 2) q' W') (hb : Below (w0.heap.size + 2) W W') : Way w0 q' z W' :=
  ⟨hq, (hb.block _ (by omega)).trans h.2.1, h.2.2.trans (hb.mono (by omega))⟩
/-- The result's box and what is below, behind a call that leaves the rest. -/
def Res (w0 : World) (z : K) (W : World) : Prop := NumAt (w0.heap.size + 1) z W ∧ Below w0.heap.size w0 W
theorem res_step {w0 W W' : World} {q z : K} (h : Way w0 q z W) (hb : Below (w0.heap.size + 2) W W') : Res w0 z W' :=
  ⟨(hb.block _ (by omega)).trans h.2.1, h.2.2.trans (hb.mono (by omega))⟩
theorem resn_keep {w0 W W' : World} {z : K} (h : Res w0 z W) (hb : Below W.heap.size W W') : Res w0 z W' :=
  ⟨num_keep h.1 hb, h.2.trans (hb.mono h.2.size)⟩
theorem below_sixn {g n : Nat} (hg : g ≤ n) {w W : World} (h : Below g w W) (a b c d e f : Value) : Below g w ((((((W.setCell ⟨n, 0, none⟩ a).setCell ⟨n, 1, none⟩ b).setCell ⟨n, 2, none⟩ c).setCell ⟨n, 3, none⟩ d).setCell ⟨n, 4, none⟩ e).setCell ⟨n, 5, none⟩ f) :=
  (((((h.setCell hg _).setCell hg _).setCell hg _).setCell hg _).setCell hg _).setCell hg _
/-- What the loop keeps: what is behind j rounds. -/
def RefineRel (w0 : World) (k : K) (a : Value) (W : World) : Prop := ∃ (j : Nat) (q z : K), a = .int .i64 j ∧ Way w0 q z W ∧
  (j = 0 ∧ q = k ∨ j = 1 ∧ k.okR = true ∧ q = k.nextR ∨ j = 2 ∧ k.okF = true ∧ q = k.nextR.nextR)
theorem fine_no {k : K} (h : k.okF = false) : k.fine = allK := by unfold K.fine; rw [h]; rfl
theorem okF_no1 {k : K} (h : k.okR = false) : k.okF = false := by unfold K.okF; rw [h]; rfl
theorem okF_no2 {k : K} (h : k.nextR.okR = false) : k.okF = false := by unfold K.okF; rw [h, Bool.and_false]
theorem okF_yes {k : K} (h : k.okR = true) (h2 : k.nextR.okR = true) : k.okF = true := by unfold K.okF; rw [h, h2]; rfl
set_option maxHeartbeats 4000000 in
theorem refine_num (k : K) (w : World) : Calls Try.prog 30 #[numV k] w (Gives (.tuple #[numV k.fine, .bool k.okF]) w) := by
  unfold Gives
  have HW := Lib.hid (way_new k w (.cells #[.int .u64 (u k.v), .int .u64 (u k.m), .int .u64 (u k.a), .int .u64 (u k.b), .int .i64 (s k.c), .int .i64 (s k.d)] 26))
  go_enter Try.func30, Try.ntmps30
  unfold numV
  go_wp2
  go_loopw [6] (fun a wr => RefineRel w k a wr) (fun a _ => 3 - (intOf a).toNat)
  case atStart => exact ⟨0, k, zeroK, rfl, HW.out, .inl ⟨rfl, rfl⟩⟩
  case round =>
    obtain ⟨j, q, z, rfl, hW, hj⟩ := hrel
    have HY := Lib.hid hW
    clear hW HW
    by_cases hlt : j < 2
    · have HJ := Lib.hid hj
      cases ho : q.okR
      · have HO := Lib.hid (show k.okF = false by
          rcases hj with ⟨h1, rfl⟩ | ⟨h1, h2, rfl⟩ | ⟨h1, h2, rfl⟩
          · exact okF_no1 ho
          · exact okF_no2 ho
          · omega)
        have hro := fun W h => round_num (w.heap.size + 2) q W h
        unfold Rounds at hro
        rw [ho] at hro
        clear hj ho
        go_wp2_with (first
          | (go_at_call 45; refine (hro _ HY.out.1).mono ?_; rintro e w1 ⟨rfl, -, hb⟩; have H1 := Lib.hid (res_step HY.out hb); clear hb)
          | (go_at_call 46; refine (all_num _).mono ?_; rw [numV_all]; rintro e w2 ⟨rfl, hb⟩; have H2 := Lib.hid (resn_keep H1.out hb); clear hb; obtain ⟨n0, n1, n2, n3, n4, n5⟩ := num_cells H2.out.1; obtain ⟨f0, f1, f2, f3, f4, f5⟩ := num_free H2.out.1))
        refine bodyPost_ret (v := .tuple #[numV allK, .bool false]) (by rw [numV_all]; simp [results, Try.results30, go_sem, n0, n1, n2, n3, n4, n5]) rfl ⟨by rw [HO.out, fine_no HO.out]; rfl, ?_⟩
        exact below_sixn (by omega) H2.out.2 _ _ _ _ _ _
      · have hro := fun W h => round_num (w.heap.size + 2) q W h
        unfold Rounds at hro
        rw [ho] at hro
        have HO := Lib.hid ho
        clear hj ho
        go_wp2_with (first
          | (go_at_call 45; refine (hro _ HY.out.1).mono ?_; rintro e w1 ⟨rfl, h1, hb⟩; have H1 := Lib.hid (way_step HY.out (h1 rfl) hb); clear hb h1))
        go_roundw
        case rel =>
          refine ⟨j + 1, q.nextR, z, by go_num, H1.out, ?_⟩
          rcases HJ.out with ⟨h1, rfl⟩ | ⟨h1, h2, rfl⟩ | ⟨h1, h2, rfl⟩
          · exact .inr (.inl ⟨by omega, HO.out, rfl⟩)
          · exact .inr (.inr ⟨by omega, okF_yes h2 HO.out, rfl⟩)
          · omega
        case measure => simp [intOf]; omega
    · have HO := Lib.hid (show k.okF = true ∧ j = 2 ∧ q = k.nextR.nextR by
        rcases hj with ⟨h1, rfl⟩ | ⟨h1, h2, rfl⟩ | ⟨h1, h2, rfl⟩
        · omega
        · omega
        · exact ⟨h2, h1, rfl⟩)
      obtain rfl : j = 2 := HO.out.2.1
      have HF := Lib.hid (show k.fine = q by unfold K.fine; rw [if_pos HO.out.1, HO.out.2.2])
      clear hj
      obtain ⟨c0, c1, c2, c3, c4, c5⟩ := at_cells HY.out.1
      obtain ⟨n0, n1, n2, n3, n4, n5⟩ := num_cells HY.out.2.1
      obtain ⟨f0, f1, f2, f3, f4, f5⟩ := num_free HY.out.2.1
      go_wp2
      refine bodyPost_ret (v := .tuple #[numV q, .bool true]) (by unfold numV; simp [results, Try.results30, go_sem, n0, n1, n2, n3, n4, n5]) rfl ⟨by rw [HO.out.1, HF.out]; rfl, ?_⟩
      exact below_sixn (by omega) HY.out.2.2 _ _ _ _ _ _
end Go.Proofs.Ytbljijbmjccalaa
