/-
  Proved here: the document's examples of chapter num come out: alive returns true. Conditions: none.
-/
import Derived.Test.YtloeecmchedihaaNumK
namespace Go.Proofs.Ytloeecmchedihaa
open Go.RowKit
attribute [local go_sem] u_and u_or u_xor u_andNot u_add u_sub s_conv u_conv max_u min_u max_s min_s

def evenK : K := ⟨1#64, 18446744073709551614#64, 0#64, 7#64, half, most⟩
theorem even_ok : evenK.okF = true := by decide +kernel
theorem even_a : u evenK.fine.a = 1 := by decide +kernel
theorem even_b : u evenK.fine.b = 7 := by decide +kernel
theorem byte_b : u (allK.cutK 1).b = 255 := by decide +kernel
theorem two_ones : (oneK 1#64).okM (oneK 2#64) = false := by decide +kernel
theorem numV_even : numV evenK = .agg #[.int .u64 1, .int .u64 18446744073709551614, .int .u64 0, .int .u64 7, .int .i64 (-9223372036854775808), .int .i64 9223372036854775807] := by
  unfold numV evenK
  simp only [s_half, s_most]
  rfl
theorem field_num (a b c d e f : Value) (w : World) : (Instr.field 26 (.agg #[a, b, c, d, e, f]) 2).run Try.prog w = .ok d w := by kernel_rfl
attribute [local go_sem] field_num
theorem alive_num (w : World) : Calls Try.prog 7 #[] w (Gives (.bool true) w) := by
  have HB := Lib.hid (Below.refl w.heap.size w)
  unfold Gives
  have hall := fun W => all_num W
  rw [numV_all] at hall
  have hrf := fun W => refine_num evenK W
  rw [numV_even, even_ok] at hrf
  have hcut := fun W => cut_num allK 1 W
  rw [numV_all] at hcut
  have hc1 := fun W => const_num 1#64 W
  have hc2 := fun W => const_num 2#64 W
  have hm := fun W => meet_both (oneK 1#64) (oneK 2#64) W
  rw [two_ones] at hm
  rw [show u 1#64 = 1 from rfl] at hc1
  rw [show u 2#64 = 2 from rfl] at hc2
  obtain ⟨e1, he1⟩ : ∃ e, evenK.fine = e := ⟨_, rfl⟩
  have ha := even_a
  have hb := even_b
  rw [he1] at hrf ha hb
  obtain ⟨e2, he2⟩ : ∃ e, allK.cutK 1 = e := ⟨_, rfl⟩
  have hc := byte_b
  rw [he2] at hcut hc
  obtain ⟨o1, ho1⟩ : ∃ e, oneK 1#64 = e := ⟨_, rfl⟩
  obtain ⟨o2, ho2⟩ : ∃ e, oneK 2#64 = e := ⟨_, rfl⟩
  rw [ho1] at hc1 hm
  rw [ho2] at hc2 hm
  obtain ⟨o3, ho3⟩ : ∃ e, o1.both o2 = e := ⟨_, rfl⟩
  rw [ho3] at hm
  have HA := Lib.hid ha
  have HE := Lib.hid hb
  have HC := Lib.hid hc
  clear he1 he2 ho1 ho2 ho3 ha hb hc
  unfold numV at hrf hcut hc1 hc2 hm
  go_enter Try.func7, Try.ntmps7
  go_wp2_with (first
    | (go_at_call 15; refine (hrf _).mono ?_; rintro e w1 ⟨rfl, hb1⟩; replace HB := Lib.hid ((HB.out.alloc HB.out.size _).trans (hb1.mono (HB.out.alloc HB.out.size _).size)); have HY := Lib.hid (num_new e1 w1); clear hb1)
    | ((go_at_call_of 11 (Value.int .u64 1)); refine (hc1 _).mono ?_; rintro e w2 ⟨rfl, hb1⟩; replace HB := Lib.hid ((HB.out.alloc HB.out.size _).trans (hb1.mono (HB.out.alloc HB.out.size _).size)); replace HY := Lib.hid (num_keep HY.out hb1); clear hb1)
    | ((go_at_call_of 11 (Value.int .u64 2)); refine (hc2 _).mono ?_; rintro e w2 ⟨rfl, hb1⟩; replace HB := Lib.hid (HB.out.trans (hb1.mono HB.out.size)); replace HY := Lib.hid (num_keep HY.out hb1); clear hb1)
    | (go_at_call 19; refine (hm _).mono ?_; rintro e w2 ⟨rfl, hb1⟩; replace HB := Lib.hid (HB.out.trans (hb1.mono HB.out.size)); replace HY := Lib.hid (num_keep HY.out hb1); obtain ⟨n0, n1, n2, n3, n4, n5⟩ := num_cells HY.out; have hlt := num_lt HY.out; have ha := HA.out; have hb := HE.out; have hc := HC.out; clear hb1)
    | (go_at_call 20; refine (hcut _).mono ?_; rintro e w2 ⟨rfl, hb1⟩; replace HB := Lib.hid (HB.out.trans (hb1.mono HB.out.size)); clear hb1)
    | (go_at_call 13; refine (hall _).mono ?_; rintro e w2 ⟨rfl, hb1⟩; first | (replace HB := Lib.hid (HB.out.trans (hb1.mono HB.out.size))) | (replace HB := Lib.hid ((HB.out.alloc HB.out.size _).trans (hb1.mono (HB.out.alloc HB.out.size _).size))); clear hb1))
  go_ret
  exact ⟨by simp, HB.out⟩
end Go.Proofs.Ytloeecmchedihaa
