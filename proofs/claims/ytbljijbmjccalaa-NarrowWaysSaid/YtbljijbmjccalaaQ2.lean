/-
  Proved here: what boundByBits, boundByEachOther and crossed of package num make of what is known behind a pointer. Conditions: the pointer's block holds it.
-/
import Derived.Test.YtbljijbmjccalaaHNum
import Derived.Deep.QuietTactic
import Derived.BigQuiet
import Derived.StillTailTactics
import Derived.Test.YtbljijbmjccalaaHRefMeet
namespace Go.Proofs.Ytbljijbmjccalaa
open Go.RowKit
attribute [local go_sem] u_and u_or u_xor u_andNot u_add u_sub s_conv u_conv max_u min_u max_s min_s

/-- Bits with the highest one alone. -/
theorem u_low63 (x : B64) : bits .andNot .u64 (u x) 9223372036854775807 = u (x &&& half) := by
  have e : (9223372036854775807 : Int) = u most := u_most.symm
  rw [e, u_andNot]
  have : ~~~most = half := by decide
  rw [this]
theorem sideU_eq (k : K) : (decide (s k.a < 0) == decide (s k.b < 0)) = k.sideU := rfl
theorem sideS_eq (k : K) : (decide (s k.c < 0) == decide (s k.d < 0)) = k.sideS := rfl
attribute [local go_sem] u_low63
theorem at_drews {g : Nat} {k : K} {W : World} (h : AtK g k W) (n : Nat) : AtK g k (W.drewN n) := by
  induction n with
  | zero => exact h
  | succ n ih => exact ih
set_option maxHeartbeats 1000000 in
theorem byBits_num (g : Nat) (k : K) (w : World) (h : AtK g k w) : Calls Try.prog 55 #[.pointer (some ⟨g, 0, none⟩)] w (Turns (.tuple #[]) g k.byBits w) := by
  unfold Turns
  obtain ⟨c0, c1, c2, c3, c4, c5⟩ := at_cells h
  have HH := Lib.hid h
  clear h
  go_enter Try.func55, Try.ntmps55
  go_wp2
  go_quiet (fail)
  have HD := Lib.hid (at_drews HH.out nq)
  have BD := Lib.hid (below_drews (Below.refl g w) nq)
  obtain ⟨W, hW⟩ : ∃ W, w.drewN nq = W := ⟨_, rfl⟩
  rw [hW] at HD BD ⊢
  clear hW
  all_goals
    clear c0 c1 c2 c3 c4 c5
    go_wp2_with (first
      | (go_at_call 51; refine (within_num g k _ _ _ HD.out).mono ?_; rintro e w1 ⟨rfl, h1, b1⟩; obtain ⟨c0, c1, c2, c3, c4, c5⟩ := at_cells h1; have H1 := Lib.hid h1; have B1 := Lib.hid b1; clear h1 b1)
      | (go_at_call 52; refine (withinSigned_num g _ _ _ _ H1.out).mono ?_; rintro e w2 ⟨rfl, h2, b2⟩; have H2 := Lib.hid h2; have B2 := Lib.hid b2; clear h2 b2))
    go_end0
    exact ⟨rfl, H2.out, BD.out.trans (B1.out.trans B2.out)⟩
end Go.Proofs.Ytbljijbmjccalaa

/-
  Proved here: what boundByEachOther and crossed of package num make of what is known behind a pointer. Conditions: the pointer's block holds it.
-/
namespace Go.Proofs.Ytbljijbmjccalaa
open Go.RowKit
attribute [local go_sem] u_and u_or u_xor u_andNot u_add u_sub s_conv u_conv max_u min_u max_s min_s

theorem each1_yes {k : K} (h : (decide (s k.a < 0) == decide (s k.b < 0)) = true) : k.each1 = k.inS k.a k.b := if_pos h
theorem each1_no {k : K} (h : (decide (s k.a < 0) == decide (s k.b < 0)) = false) : k.each1 = k := by unfold K.each1 K.sideU; rw [h]; rfl
theorem each2_yes {k : K} (h : (decide (s k.c < 0) == decide (s k.d < 0)) = true) : k.each2 = k.inU k.c k.d := if_pos h
theorem each2_no {k : K} (h : (decide (s k.c < 0) == decide (s k.d < 0)) = false) : k.each2 = k := by unfold K.each2 K.sideS; rw [h]; rfl
set_option maxHeartbeats 1000000 in
theorem byEach_num (g : Nat) (k : K) (w : World) (h : AtK g k w) : Calls Try.prog 56 #[.pointer (some ⟨g, 0, none⟩)] w (Turns (.tuple #[]) g k.each1.each2 w) := by
  unfold Turns
  obtain ⟨c0, c1, c2, c3, c4, c5⟩ := at_cells h
  have HH := Lib.hid h
  clear h
  go_enter Try.func56, Try.ntmps56
  go_wp2
  go_quiet (fail)
  have HD := Lib.hid (at_drews HH.out nq)
  have BD := Lib.hid (below_drews (Below.refl g w) nq)
  obtain ⟨W, hW⟩ : ∃ W, w.drewN nq = W := ⟨_, rfl⟩
  rw [hW] at HD BD ⊢
  clear hW
  go_upto_if 18 with fail
  go_cut [] (fun wx => AtK g k.each1 wx ∧ Below g w wx)
  case first =>
    clear c0 c1 c2 c3 c4 c5
    go_wp2_with (go_at_call 52; refine (withinSigned_num g k _ _ _ HD.out).mono ?_; rintro e w1 ⟨rfl, h1, b1⟩; have H1 := Lib.hid h1; have B1 := Lib.hid b1; clear h1 b1)
    all_goals
      go_meet
      first
        | exact ⟨by rw [each1_yes (by assumption)]; exact H1.out, BD.out.trans B1.out⟩
        | exact ⟨by rw [each1_no (by assumption)]; exact HD.out, BD.out⟩
  case rest =>
    obtain ⟨h1, b1⟩ := hcut
    obtain ⟨k1, hk1⟩ : ∃ k1, k.each1 = k1 := ⟨_, rfl⟩
    rw [hk1] at h1
    have HK := Lib.hid hk1
    have H1 := Lib.hid h1
    have B1 := Lib.hid b1
    clear c0 c1 c2 c3 c4 c5 b1 HD BD W HH hk1
    obtain ⟨c0, c1, c2, c3, c4, c5⟩ := at_cells h1
    clear h1
    go_wp2
    go_quiet (fail)
    have H2 := Lib.hid (at_drews H1.out nq)
    have B2 := Lib.hid (below_drews B1.out nq)
    obtain ⟨W, hW⟩ : ∃ W, wc.drewN nq = W := ⟨_, rfl⟩
    rw [hW] at H2 B2 ⊢
    clear hW c0 c1 c2 c3 c4 c5 H1 B1
    obtain ⟨c0, c1, c2, c3, c4, c5⟩ := at_cells H2.out
    go_upto_region 4 with fail
    all_goals first
      | (go_still_tail 11, (by kernel_rfl)
         change wpList _ _ _ _ _ W.drew
         have HD := Lib.hid (at_drew H2.out)
         have BD := Lib.hid B2.out.drew
         clear c0 c1 c2 c3 c4 c5
         generalize W.drew = W2 at *
         go_wp2_with (go_at_call 51; refine (within_num g k1 _ _ _ HD.out).mono ?_; rintro e w3 ⟨rfl, h3, b3⟩; have H3 := Lib.hid h3; have B3 := Lib.hid b3; clear h3 b3)
         go_end0
         exact ⟨rfl, by rw [HK.out, each2_yes (by assumption)]; exact H3.out, BD.out.trans B3.out⟩)
      | (go_end0
         exact ⟨rfl, by rw [HK.out, each2_no (by assumption)]; exact H2.out, B2.out⟩)
theorem crossed_num (g : Nat) (k : K) (w : World) (h : AtK g k w) : Calls Try.prog 57 #[.pointer (some ⟨g, 0, none⟩)] w (Turns (.bool k.crossed) g k w) := by
  unfold Turns
  obtain ⟨c0, c1, c2, c3, c4, c5⟩ := at_cells h
  have HH := Lib.hid h
  clear h
  unfold K.crossed
  go_enter Try.func57, Try.ntmps57
  cases hd : decide (u k.b < u k.a)
  all_goals
    go_wp2
    go_quiet (fail)
    go_wp2
    go_ret
    exact ⟨by simp, at_drews HH.out _, below_drews (Below.refl _ _) _⟩
end Go.Proofs.Ytbljijbmjccalaa

/-
  Proved here: what meet of package num makes of what is known behind a pointer. Conditions: the pointer's block holds it.
-/
namespace Go.Proofs.Ytbljijbmjccalaa
open Go.RowKit
attribute [local go_sem] u_and u_or u_xor u_andNot u_add u_sub s_conv u_conv max_u min_u max_s min_s

/-- What Meet of two patterns tells. -/
def mV (va ma vb mb : B64) : B64 := if mtOk va ma vb mb = true then pv (pv va ma ||| pv vb mb) (ma &&& mb) else 0#64
def mM (va ma vb mb : B64) : B64 := if mtOk va ma vb mb = true then ma &&& mb else ~~~0#64
theorem meet_any (va ma vb mb : B64) (w : World) : Calls Try.prog 54 #[tnV va ma, tnV vb mb] w (Gives (.tuple #[tnV (mV va ma vb mb) (mM va ma vb mb), .bool (mtOk va ma vb mb)]) w) := by
  unfold mV mM
  cases h : mtOk va ma vb mb
  · exact meet_no va ma vb mb w h
  · exact meet_yes va ma vb mb w h
/-- k with another pattern. -/
def K.put (k : K) (v m : B64) : K := ⟨v, m, k.a, k.b, k.c, k.d⟩
/-- A box of a pattern stays. -/
theorem at_keep {g : Nat} {k : K} {W W' : World} (h : AtK g k W) (hb : Below W.heap.size W W') : AtK g k W' := (hb.block _ (at_lt h)).trans h
theorem at_alloc {g : Nat} {k : K} {W : World} (h : AtK g k W) (o : Obj) : AtK g k (W.alloc o) := at_keep h (below_box _ _)
/-- What the region has: the pattern behind the pointer, the other one's box. -/
def MeetAt (g : Nat) (k : K) (w0 : World) (v m : B64) (W : World) : Prop := AtK g k W ∧ W.heap[w0.heap.size]? = some (.cells #[.int .u64 (u v), .int .u64 (u m)] 24) ∧ Below g w0 W
theorem meet_at_new {g : Nat} {k : K} {w : World} (h : AtK g k w) (v m : B64) : MeetAt g k w v m (w.alloc (.cells #[.int .u64 (u v), .int .u64 (u m)] 24)).drew :=
  ⟨at_alloc h _, (MapKept.heap_alloc w _).1, ((Below.refl _ _).alloc (Nat.le_of_lt (at_lt h)) _).drew⟩
theorem meet_at_keep {g : Nat} {k : K} {w W W' : World} {v m : B64} (h : MeetAt g k w v m W) (hb : Below W.heap.size W W') : MeetAt g k w v m W' :=
  ⟨at_keep h.1 hb, (hb.block _ (blk_facts h.2.1).2.2.2.2).trans h.2.1, h.2.2.trans (hb.mono (Nat.le_of_lt (at_lt h.1)))⟩
set_option maxHeartbeats 2000000 in
theorem meet_num (g : Nat) (k : K) (v m : B64) (w : World) (h : AtK g k w) : Calls Try.prog 53 #[.pointer (some ⟨g, 0, none⟩), tnV v m] w
    (Turns (.bool (mtOk k.v k.m v m)) g (k.put (mV k.v k.m v m) (mM k.v k.m v m)) w) := by
  unfold Turns tnV
  have hM := meet_at_new h v m
  obtain ⟨W, hW⟩ : ∃ W, w.alloc (.cells #[.int .u64 (u v), .int .u64 (u m)] 24) = W := ⟨_, rfl⟩
  obtain ⟨A, hA⟩ : ∃ A, mV k.v k.m v m = A := ⟨_, rfl⟩
  obtain ⟨B, hB⟩ : ∃ B, mM k.v k.m v m = B := ⟨_, rfl⟩
  obtain ⟨o, ho⟩ : ∃ o, mtOk k.v k.m v m = o := ⟨_, rfl⟩
  have hcall := fun W => meet_any k.v k.m v m W
  rw [hA, hB, ho] at hcall ⊢
  clear hA hB ho h
  rw [hW] at hM
  go_enter Try.func53, Try.ntmps53
  go_wp2
  clear hW
  obtain ⟨c0, c1, c2, c3, c4, c5⟩ := at_cells hM.1
  obtain ⟨d0, d1, -, -, -⟩ := blk_facts hM.2.1
  have f0 := at_free hM.1 0 (by omega)
  have f1 := at_free hM.1 1 (by omega)
  have HM := Lib.hid hM
  clear hM
  go_region_with (go_at_call 54; refine (hcall _).mono ?_; rintro e w1 ⟨rfl, hb⟩; unfold tnV; have hM1 := meet_at_keep HM.out hb; clear c0 c1 c2 c3 c4 c5 d0 d1 f0 f1; obtain ⟨c0, c1, c2, c3, c4, c5⟩ := at_cells hM1.1; have f0 := at_free hM1.1 0 (by omega); have f1 := at_free hM1.1 1 (by omega); have HM1 := Lib.hid hM1; clear hb hM1)
  all_goals
    go_wp2
    go_ret
    exact ⟨rfl, at_m (at_v HM1.out.1 _) _, below_set (below_set HM1.out.2.2 _ _) _ _⟩
end Go.Proofs.Ytbljijbmjccalaa
