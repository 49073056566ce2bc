/-
  Proved here: what meet of package num makes of what is known behind a pointer. Conditions: the pointer's block holds it.
-/
import Derived.Test.YtbljijbmjccalaaNumC
import Derived.Test.YtbljijbmjccalaaRefMeet
namespace Go.Proofs.Ytbljijbmjccalaa
open Go.RowKit
attribute [local go_sem] u_and u_or u_xor u_andNot u_add u_sub s_conv u_conv max_u min_u max_s min_s

/-- What Meet of two patterns tells. -/
def mV (va ma vb mb : B64) : B64 := if mtOk va ma vb mb = true then pv (pv va ma ||| pv vb mb) (ma &&& mb) else 0#64
def mM (va ma vb mb : B64) : B64 := if mtOk va ma vb mb = true then ma &&& mb else ~~~0#64
theorem meet_any (va ma vb mb : B64) (w : World) : Calls Try.prog 54 #[tnV va ma, tnV vb mb] w (Gives (.tuple #[tnV (mV va ma vb mb) (mM va ma vb mb), .bool (mtOk va ma vb mb)]) w) := by
  unfold mV mM
  cases h : mtOk va ma vb mb
  · exact meet_no va ma vb mb w h
  · exact meet_yes va ma vb mb w h
/-- k with another pattern. -/
def K.put (k : K) (v m : B64) : K := ⟨v, m, k.a, k.b, k.c, k.d⟩
/-- A box of a pattern stays. -/
theorem at_keep {g : Nat} {k : K} {W W' : World} (h : AtK g k W) (hb : Below W.heap.size W W') : AtK g k W' := (hb.block _ (at_lt h)).trans h
theorem at_alloc {g : Nat} {k : K} {W : World} (h : AtK g k W) (o : Obj) : AtK g k (W.alloc o) := at_keep h (below_box _ _)
/-- What the region has: the pattern behind the pointer, the other one's box. -/
def MeetAt (g : Nat) (k : K) (w0 : World) (v m : B64) (W : World) : Prop := AtK g k W ∧ W.heap[w0.heap.size]? = some (.cells #[.int .u64 (u v), .int .u64 (u m)] 24) ∧ Below g w0 W
theorem meet_at_new {g : Nat} {k : K} {w : World} (h : AtK g k w) (v m : B64) : MeetAt g k w v m (w.alloc (.cells #[.int .u64 (u v), .int .u64 (u m)] 24)).drew :=
  ⟨at_alloc h _, (MapKept.heap_alloc w _).1, ((Below.refl _ _).alloc (Nat.le_of_lt (at_lt h)) _).drew⟩
theorem meet_at_keep {g : Nat} {k : K} {w W W' : World} {v m : B64} (h : MeetAt g k w v m W) (hb : Below W.heap.size W W') : MeetAt g k w v m W' :=
  ⟨at_keep h.1 hb, (hb.block _ (blk_facts h.2.1).2.2.2.2).trans h.2.1, h.2.2.trans (hb.mono (Nat.le_of_lt (at_lt h.1)))⟩
set_option maxHeartbeats 2000000 in
theorem meet_num (g : Nat) (k : K) (v m : B64) (w : World) (h : AtK g k w) : Calls Try.prog 53 #[.pointer (some ⟨g, 0, none⟩), tnV v m] w
    (Turns (.bool (mtOk k.v k.m v m)) g (k.put (mV k.v k.m v m) (mM k.v k.m v m)) w) := by
  unfold Turns tnV
  have hM := meet_at_new h v m
  obtain ⟨W, hW⟩ : ∃ W, w.alloc (.cells #[.int .u64 (u v), .int .u64 (u m)] 24) = W := ⟨_, rfl⟩
  obtain ⟨A, hA⟩ : ∃ A, mV k.v k.m v m = A := ⟨_, rfl⟩
  obtain ⟨B, hB⟩ : ∃ B, mM k.v k.m v m = B := ⟨_, rfl⟩
  obtain ⟨o, ho⟩ : ∃ o, mtOk k.v k.m v m = o := ⟨_, rfl⟩
  have hcall := fun W => meet_any k.v k.m v m W
  rw [hA, hB, ho] at hcall ⊢
  clear hA hB ho h
  rw [hW] at hM
  go_enter Try.func53, Try.ntmps53
  go_wp2
  clear hW
  obtain ⟨c0, c1, c2, c3, c4, c5⟩ := at_cells hM.1
  obtain ⟨d0, d1, -, -, -⟩ := blk_facts hM.2.1
  have f0 := at_free hM.1 0 (by omega)
  have f1 := at_free hM.1 1 (by omega)
  have HM := Lib.hid hM
  clear hM
  go_region_with (go_at_call 54; refine (hcall _).mono ?_; rintro e w1 ⟨rfl, hb⟩; unfold tnV; have hM1 := meet_at_keep HM.out hb; clear c0 c1 c2 c3 c4 c5 d0 d1 f0 f1; obtain ⟨c0, c1, c2, c3, c4, c5⟩ := at_cells hM1.1; have f0 := at_free hM1.1 0 (by omega); have f1 := at_free hM1.1 1 (by omega); have HM1 := Lib.hid hM1; clear hb hM1)
  all_goals
    go_wp2
    go_ret
    exact ⟨rfl, at_m (at_v HM1.out.1 _) _, below_set (below_set HM1.out.2.2 _ _) _ _⟩
end Go.Proofs.Ytbljijbmjccalaa
