/-
  Proved here: the law NumBounds returns true, of all bounds. Conditions: none.
-/
import Derived.Test.YtloeecmchedihaaRefinesNum
namespace Go.Proofs.Ytloeecmchedihaa
open Go.RowKit
attribute [local go_sem] u_and u_or u_xor u_andNot u_add u_sub s_conv u_conv max_u min_u max_s min_s
attribute [local go_sem ↓] eql_num

/-- All numbers within bounds. -/
def boundK (lo hi : B64) : K := ⟨0#64, full, lo, hi, half, most⟩
def signK (lo hi : B64) : K := ⟨0#64, full, 0#64, full, lo, hi⟩
theorem bound_in (lo hi : B64) : allK.inU lo hi = boundK lo hi := by
  have h1 := u_bd lo
  have h2 := u_bd hi
  have e1 : maxU 0#64 lo = lo := by
    apply u_inj
    rw [← max_u, u_0]
    omega
  have e2 : minU full hi = hi := by
    apply u_inj
    rw [← min_u, u_full]
    omega
  rw [K.inU]
  show (⟨0#64, full, maxU 0#64 lo, minU full hi, half, most⟩ : K) = _
  rw [e1, e2]
  rfl
theorem sign_in (lo hi : B64) : allK.inS lo hi = signK lo hi := by
  have h1 := s_bd lo
  have h2 := s_bd hi
  have e1 : maxS half lo = lo := by
    apply s_inj
    rw [← max_s, s_half]
    omega
  have e2 : minS most hi = hi := by
    apply s_inj
    rw [← min_s, s_most]
    omega
  rw [K.inS]
  show (⟨0#64, full, 0#64, full, maxS half lo, minS most hi⟩ : K) = _
  rw [e1, e2]
  rfl
theorem numV_bound (lo hi : B64) : numV (boundK lo hi) = .agg #[.int .u64 0, .int .u64 18446744073709551615, .int .u64 (u lo), .int .u64 (u hi), .int .i64 (-9223372036854775808), .int .i64 9223372036854775807] := by
  unfold numV boundK
  simp only [u_0, u_full, s_half, s_most]
theorem numV_sign (lo hi : B64) : numV (signK lo hi) = .agg #[.int .u64 0, .int .u64 18446744073709551615, .int .u64 0, .int .u64 18446744073709551615, .int .i64 (s lo), .int .i64 (s hi)] := by
  unfold numV signK
  simp only [u_0, u_full]
/-- A block of any cells stays. -/
theorem obj_keep {g : Nat} {o : Obj} {W W' : World} (h : W.heap[g]? = some o) (hb : Below W.heap.size W W') : W'.heap[g]? = some o := (hb.block _ (Array.getElem?_eq_some_iff.1 h).1).trans h
theorem obj_cells {g : Nat} {a b c d e f : Value} {W : World} (h : W.heap[g]? = some (.cells #[a, b, c, d, e, f] 26)) :
    W.cell? ⟨g, 0, none⟩ = some a ∧ W.cell? ⟨g, 1, none⟩ = some b ∧ W.cell? ⟨g, 2, none⟩ = some c ∧ W.cell? ⟨g, 3, none⟩ = some d ∧ W.cell? ⟨g, 4, none⟩ = some e ∧ W.cell? ⟨g, 5, none⟩ = some f := by
  refine ⟨?_, ?_, ?_, ?_, ?_, ?_⟩ <;> simp [World.cell?, h]
theorem obj_lt {g : Nat} {o : Obj} {W : World} (h : W.heap[g]? = some o) : g < W.heap.size := (Array.getElem?_eq_some_iff.1 h).1
/-- Two new blocks on top. -/
theorem two_new (w : World) (o p : Obj) : ((w.alloc o).alloc p).heap[w.heap.size + 1]? = some p ∧ ((w.alloc o).alloc p).heap[w.heap.size]? = some o ∧ Below w.heap.size w ((w.alloc o).alloc p) := by
  have e1 : (w.alloc o).heap.size = w.heap.size + 1 := by simp
  have h1 := (MapKept.heap_alloc w o).1
  have h2 := MapKept.heap_alloc (w.alloc o) p
  rw [e1] at h2
  exact ⟨h2.1, (h2.2 _ (by omega)).trans h1, (below_box _ _).alloc (by simp) _⟩
set_option maxHeartbeats 8000000 in
theorem law_bounds (lo hi slo shi : B64) (w : World) : Calls Try.prog 5 #[.int .u64 (u lo), .int .u64 (u hi), .int .i64 (s slo), .int .i64 (s shi)] w (Gives (.bool true) w) := by
  have hall := fun W => refall_num W
  rw [numV_all] at hall
  have hr1 := fun W => reffine_num (boundK lo hi) W
  rw [numV_bound] at hr1
  have hr2 := fun W => reffine_num (signK slo shi) W
  rw [numV_sign] at hr2
  have hb1 := fun W => bounds_num lo hi W
  rw [bound_in] at hb1
  have hb2 := fun W => signed_num slo shi W
  rw [sign_in] at hb2
  obtain ⟨p, hp⟩ : ∃ p, (boundK lo hi).fine = p := ⟨_, rfl⟩
  obtain ⟨q, hq⟩ : ∃ q, (signK slo shi).fine = q := ⟨_, rfl⟩
  rw [hp] at hr1 hb1
  rw [hq] at hr2 hb2
  obtain ⟨o1, ho1⟩ : ∃ p, (boundK lo hi).okF = p := ⟨_, rfl⟩
  obtain ⟨o2, ho2⟩ : ∃ q, (signK slo shi).okF = q := ⟨_, rfl⟩
  rw [ho1] at hr1
  rw [ho2] at hr2
  clear hp hq ho1 ho2
  unfold numV at hr1 hr2 hb1 hb2
  have HB := Lib.hid (Below.refl w.heap.size w)
  unfold Gives
  go_enter Try.func5, Try.ntmps5
  go_upto_region 10 with (first
    | (go_at_call 7; refine (alive_num _).mono ?_; rintro e w1 ⟨rfl, hb⟩; replace HB := Lib.hid (HB.out.trans (hb.mono HB.out.size)); clear hb)
    | (go_at_call 14; refine (hall _).mono ?_; rintro e w2 ⟨rfl, hb⟩; replace HB := Lib.hid (HB.out.trans (hb.mono HB.out.size)); have HT := Lib.hid (two_new w2 (.cells #[.int .u64 0, .int .u64 18446744073709551615, .int .u64 (u lo), .int .u64 (u hi), .int .i64 (-9223372036854775808), .int .i64 9223372036854775807] 26) (.cells #[.int .u64 0, .int .u64 18446744073709551615, .int .u64 0, .int .u64 18446744073709551615, .int .i64 (s slo), .int .i64 (s shi)] 26)); have HB2 := Lib.hid (HB.out.trans (HT.out.2.2.mono HB.out.size)); clear hb)
    | (go_at_call 16; refine (hr1 _).mono ?_; rintro e w3 ⟨rfl, hb⟩; have H3 := Lib.hid (HB2.out.trans (hb.mono HB2.out.size)); have HY := Lib.hid (obj_keep HT.out.1 hb); obtain ⟨n0, n1, n2, n3, n4, n5⟩ := obj_cells HY.out; have hz := obj_lt HY.out; have HA := Lib.hid (num_new p w3); have H4 := Lib.hid (H3.out.alloc H3.out.size (.cells #[.int .u64 (u p.v), .int .u64 (u p.m), .int .u64 (u p.a), .int .u64 (u p.b), .int .i64 (s p.c), .int .i64 (s p.d)] 26)); clear hb hr1)
    | (go_at_call 16; refine (hr2 _).mono ?_; rintro e w4 ⟨rfl, hb⟩; have H5 := Lib.hid (H4.out.trans (hb.mono H4.out.size)); have HA2 := Lib.hid (num_keep HA.out hb); have HB3 := Lib.hid (num_new q w4); have HA3 := Lib.hid (num_keep HA2.out (below_box _ (.cells #[.int .u64 (u q.v), .int .u64 (u q.m), .int .u64 (u q.a), .int .u64 (u q.b), .int .i64 (s q.c), .int .i64 (s q.d)] 26))); have H6 := Lib.hid (H5.out.alloc H5.out.size (.cells #[.int .u64 (u q.v), .int .u64 (u q.m), .int .u64 (u q.a), .int .u64 (u q.b), .int .i64 (s q.c), .int .i64 (s q.d)] 26)); clear hb hr2 n0 n1 n2 n3 n4 n5 hz))
  have K1 := Lib.hid (show NumAt w3.heap.size p _ ∧ NumAt w4.heap.size q _ ∧ Below w.heap.size w _ from ⟨HA3.out, HB3.out, H6.out⟩)
  obtain ⟨W, hW⟩ : ∃ W, w4.alloc (.cells #[.int .u64 (u q.v), .int .u64 (u q.m), .int .u64 (u q.a), .int .u64 (u q.b), .int .i64 (s q.c), .int .i64 (s q.d)] 26) = W := ⟨_, rfl⟩
  rw [hW] at K1 ⊢
  clear hW HA HA2 HA3 HB3 H3 H4 H5 H6 HY HT HB2 HB hall
  obtain ⟨n0, n1, n2, n3, n4, n5⟩ := num_cells K1.out.1
  obtain ⟨m0, m1, m2, m3, m4, m5⟩ := num_cells K1.out.2.1
  go_region_with (first
    | (go_at_call 17; refine (hb1 _).mono ?_; rintro e w7 ⟨rfl, hb⟩; have K2 := Lib.hid (show NumAt w3.heap.size p w7 ∧ NumAt w4.heap.size q w7 ∧ Below w.heap.size w w7 from ⟨num_keep (W := W.drew) K1.out.1 hb, num_keep (W := W.drew) K1.out.2.1 hb, K1.out.2.2.drew.trans (hb.mono K1.out.2.2.size)⟩); clear n0 n1 n2 n3 n4 n5 m0 m1 m2 m3 m4 m5 hb; obtain ⟨n0, n1, n2, n3, n4, n5⟩ := num_cells K2.out.1; obtain ⟨m0, m1, m2, m3, m4, m5⟩ := num_cells K2.out.2.1)
    | (go_at_call 18; refine (hb2 _).mono ?_; rintro e w8 ⟨rfl, hb⟩; have K3 := Lib.hid (show NumAt w3.heap.size p w8 ∧ NumAt w4.heap.size q w8 ∧ Below w.heap.size w w8 from ⟨num_keep K2.out.1 hb, num_keep K2.out.2.1 hb, K2.out.2.2.trans (hb.mono K2.out.2.2.size)⟩); clear n0 n1 n2 n3 n4 n5 m0 m1 m2 m3 m4 m5 hb; obtain ⟨n0, n1, n2, n3, n4, n5⟩ := num_cells K3.out.1; obtain ⟨m0, m1, m2, m3, m4, m5⟩ := num_cells K3.out.2.1))
  all_goals
    go_wp2
    go_ret
    exact ⟨rfl, K3.out.2.2⟩
theorem numBounds.walk (v0 v1 v2 v3 : Value) (w : World) (h0 : IsInt .u64 v0) (h1 : IsInt .u64 v1) (h2 : IsInt .i64 v2) (h3 : IsInt .i64 v3) :
    Calls Try.prog 5 #[v0, v1, v2, v3] w fun e w' => e = .returned (.bool true) ∧ Below w.heap.size w w' := by
  obtain ⟨lo, rfl⟩ := u_in h0
  obtain ⟨hi, rfl⟩ := u_in h1
  obtain ⟨slo, rfl⟩ := s_in h2
  obtain ⟨shi, rfl⟩ := s_in h3
  exact law_bounds lo hi slo shi w
end Go.Proofs.Ytloeecmchedihaa
