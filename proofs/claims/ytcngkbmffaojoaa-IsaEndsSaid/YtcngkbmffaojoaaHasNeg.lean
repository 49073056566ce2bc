/-
  Proved here: what hasMap of package isa returns of a number of maps below 0. Conditions: behind the instruction there is another one.
-/
import Derived.Test.YtcngkbmffaojoaaLands
namespace Go.Proofs.Ytcngkbmffaojoaa
open Go.RowKit
set_option maxHeartbeats 2000000 in
theorem has_neg (w : World) (g off len cap k : Nat) (d f m o' d' s' f' m' maps : Int) (hm : len ≤ maxLen) (hk : k + 1 < len) (hc : At5 w g (off + k * 5) ⟨24, d, 1, f, m⟩)
    (hc' : At5 w g (off + (k + 1) * 5) ⟨o', d', s', f', m'⟩) (_h0 : -9223372036854775808 ≤ maps) (h1 : maps < 0) :
    Calls Try.prog 25 #[.slice (some ⟨g, off, none⟩) len cap, .int .i64 k, .int .i64 maps] w fun e w' => e = .returned (.bool false) ∧ Below w.heap.size w w' := by
  unfold maxLen at hm
  have i0 : (0 : Int) ≤ (k : Int) := by omega
  have i1 : (k : Int) < (len : Int) := by omega
  have j0 : IntKind.i64.wrap ((k : Int) + 1) = (k : Int) + 1 := IntWalk.i64_in _ (by omega)
  have j1 : (0 : Int) ≤ (k : Int) + 1 := by omega
  have j2 : (k : Int) + 1 < (len : Int) := by omega
  have j3 : ((k : Int) + 1).toNat = k + 1 := by omega
  have hu : IntKind.u64.wrap 0 = 0 := rfl
  obtain ⟨x0, x1, x2, x3, x4⟩ := hc
  obtain ⟨y0, y1, y2, y3, y4⟩ := hc'
  go_enter Try.func25, Try.ntmps25
  go_wp2
  go_region_with (first
    | (go_at_call 30; refine (wide_inst 24 d 1 f m o' d' s' f' m' _).mono ?_; rintro e w1 ⟨rfl, hb1⟩; have HB1 := Lib.hid hb1; clear hb1))
  all_goals
    go_wp2
    go_ret
    exact ⟨ret_bool (by simp; try omega), ((Below.refl _ _).drew).trans HB1.out⟩
end Go.Proofs.Ytcngkbmffaojoaa
