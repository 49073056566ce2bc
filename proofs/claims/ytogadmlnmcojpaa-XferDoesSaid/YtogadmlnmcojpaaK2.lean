/-
  Proved here: rows of the document's answer for package xfer: Lsh, Rsh, Arsh, Neg. Conditions: none.
-/
import Derived.Test.YtogadmlnmcojpaaK1
import Derived.Test.YtogadmlnmcojpaaG2
import Derived.Test.YtogadmlnmcojpaaM4
import Derived.Deep.RegionWith
import Derived.Deep.QuietTactic
import Derived.BigQuiet
import Derived.RegionTactic
import Derived.Test.YtogadmlnmcojpaaM7
namespace Go.Proofs.Ytogadmlnmcojpaa
open Go.RowKit
attribute [local go_sem] u_and u_or u_xor u_andNot u_add u_sub s_conv u_conv
theorem w64k {k : B64} (h : k.toNat < 64) : wrap64 (u k) = u k := by
  unfold wrap64 u
  omega
theorem i64k {k : B64} (h : k.toNat < 64) : IntKind.i64.wrap (u k) = u k := by
  rw [wrap_s]
  unfold u
  omega
theorem pow_k {k : B64} (h : k.toNat < 64) (W : World) : Calls Try.prog 42 #[.int .i64 (u k)] W (Ret (.int .u64 (2 ^ k.toNat)) W) := power (u k) W (u_bd k).1 (by unfold u; omega)
theorem pow_64 {k : B64} (h : k.toNat < 64) (h0 : ¬ u k = 0) (W : World) : Calls Try.prog 42 #[.int .i64 (64 - u k)] W (Ret (.int .u64 (2 ^ (64 - k.toNat))) W) := by
  have hb := u_bd k
  have e : (64 - u k).toNat = 64 - k.toNat := to_64 k
  have g := power (64 - u k) W (by unfold u; omega) (by omega)
  rw [e] at g
  exact g
theorem do_refC (op : Int) (wide : Bool) (x y : B64) (w : World) : Calls Try.prog 10 #[.int .u8 op, .bool wide, .int .u64 (u x), .int .u64 (u y)] w (Ret (.tuple #[.int .u64 (u (doB op wide x y)), .bool (isOp op)]) w) := by
  have h := do_ref op wide (u x) (u y) w (u_bd _).1 (u_bd _).2 (u_bd _).1 (u_bd _).2
  rw [show doI op wide (u x) (u y) = u (doB op wide x y) from doJ_doB op wide x y] at h
  exact h
theorem sar_doB {x k : B64} (h : k.toNat < 64) : doB 192 true x k = x.sshiftRight k.toNat := by
  unfold doB cutW opB
  rw [if_pos rfl]
  simp only [show ¬ (192 : Int) = 0 by decide, show ¬ (192 : Int) = 16 by decide, show ¬ (192 : Int) = 32 by decide, show ¬ (192 : Int) = 48 by decide, show ¬ (192 : Int) = 64 by decide, show ¬ (192 : Int) = 80 by decide, show ¬ (192 : Int) = 96 by decide, show ¬ (192 : Int) = 112 by decide, show ¬ (192 : Int) = 128 by decide, show ¬ (192 : Int) = 144 by decide, show ¬ (192 : Int) = 160 by decide, show ¬ (192 : Int) = 176 by decide, if_false, if_true]
  rw [sar_wide, show k.toNat % tn true = k.toNat from Nat.mod_eq_of_lt h]
end Go.Proofs.Ytogadmlnmcojpaa

/-
  Proved here: rows of the document's answer for package xfer: Lsh, Rsh, Arsh, Neg. Conditions: none.
-/
namespace Go.Proofs.Ytogadmlnmcojpaa
open Go.RowKit
attribute [local go_sem] u_and u_or u_xor u_andNot u_add u_sub s_conv u_conv
set_option maxRecDepth 100000 in
set_option maxHeartbeats 8000000 in
theorem rr_lsh_o (a b : K) (c t : B64) (w : World) (ht : ¬ u t = 0) : Calls Try.prog 22 #[.int .u8 96, numV a, numV b, .int .u64 (u c), .bool false, .int .u64 (u t)] w (Gives (numV (⟨0#64, full, 0#64, full, half, most⟩)) w) := by
  have HN := Lib.hid (box3_new a b w)
  have hall := fun W => refall_num W
  have e1 := tmod_u c t
  obtain ⟨k, hk⟩ : ∃ k, c % t = k := ⟨_, rfl⟩
  rw [hk] at e1
  have HK := Lib.hid hk
  clear hk
  obtain ⟨A, hA⟩ : ∃ A, allK = A := ⟨_, rfl⟩
  rw [hA] at hall
  have HA := Lib.hid hA
  clear hA
  unfold numV at hall
  unfold Gives numV
  go_enter Try.func22, Try.ntmps22
  go_upto_region 1 with fail
  generalize World.alloc _ _ = W0 at HN ⊢
  go_upto_region 2 with (go_at_call 13; refine (hall _).mono ?_; rintro e w1 ⟨rfl, hb⟩; have HB := Lib.hid (rr_new HN.out hb A); clear hb)
  generalize w1.alloc _ = W at HB ⊢
  generalize w1.heap.size = m at HB ⊢
  clear hall HN w1 W0
  obtain ⟨p0, p1, p2, p3, p4, p5⟩ := num_cells HB.out.1.1
  obtain ⟨q0, q1, q2, q3, q4, q5⟩ := num_cells HB.out.1.2.1
  go_upto_region 47 with fail
  clear p0 p1 p2 p3 p4 p5 q0 q1 q2 q3 q4 q5
  obtain ⟨r0, r1, r2, r3, r4, r5⟩ := num_cells HB.out.2.1
  obtain ⟨f0, f1, f2, f3, f4, f5⟩ := num_free HB.out.2.1
  obtain ⟨g0, g1, g2, g3, g4, g5⟩ := num_free HB.out.1.2.2.1
  obtain ⟨z0, z1, z2, z3, z4, z5⟩ := num_cells HB.out.1.2.2.1
  go_wp2
  have HZ := Lib.hid (rr_out HB.out A)
  generalize World.setCell _ _ _ = WZ at HZ ⊢
  clear z0 z1 z2 z3 z4 z5
  obtain ⟨z0, z1, z2, z3, z4, z5⟩ := num_cells HZ.out.1
  exact bodyPost_ret (v := numV A) (by unfold numV; simp [results, Try.results22, go_sem, z0, z1, z2, z3, z4, z5]) rfl ⟨by rw [← HA.out]; rfl, HZ.out.2⟩
set_option maxRecDepth 100000 in
set_option maxHeartbeats 8000000 in
theorem rr_lsh_z (a b : K) (c t : B64) (w : World) (ht : ¬ u t = 0) (hk0 : (c % t).toNat < 64) (h1 : u (c % t) = 0) : Calls Try.prog 22 #[.int .u8 96, numV a, numV b, .int .u64 (u c), .bool true, .int .u64 (u t)] w (Gives (numV (⟨pv (shX 0 a.v (c % t).toNat) (shX 0 a.m (c % t).toNat), shX 0 a.m (c % t).toNat, a.a <<< (c % t).toNat, a.b <<< (c % t).toNat, half, most⟩)) w) := by
  have HN := Lib.hid (box3_new a b w)
  have hall := fun W => refall_num W
  have e1 := tmod_u c t
  obtain ⟨k, hk⟩ : ∃ k, c % t = k := ⟨_, rfl⟩
  rw [hk] at e1 ⊢
  have HK := Lib.hid hk
  clear hk
  obtain ⟨A, hA⟩ : ∃ A, allK = A := ⟨_, rfl⟩
  rw [hA] at hall
  have HA := Lib.hid hA
  clear hA
  unfold numV at hall
  unfold Gives numV
  go_enter Try.func22, Try.ntmps22
  go_upto_region 1 with fail
  generalize World.alloc _ _ = W0 at HN ⊢
  go_upto_region 2 with (go_at_call 13; refine (hall _).mono ?_; rintro e w1 ⟨rfl, hb⟩; have HB := Lib.hid (rr_new HN.out hb A); clear hb)
  generalize w1.alloc _ = W at HB ⊢
  generalize w1.heap.size = m at HB ⊢
  clear hall HN w1 W0
  have hkk := hk0
  rw [HK.out] at hkk
  clear hk0
  have k1 := i64k hkk
  have k2 := w64k hkk
  have k3 := u_bd k
  rw [HK.out] at h1
  have HZ1 := Lib.hid h1
  clear h1
  have htw := fun W => shift_ref0 a.v a.m k W
  rw [Nat.mod_eq_of_lt hkk] at htw
  obtain ⟨tv, hv⟩ : ∃ t, pv (shX 0 a.v k.toNat) (shX 0 a.m k.toNat) = t := ⟨_, rfl⟩
  obtain ⟨tm, hm⟩ : ∃ t, shX 0 a.m k.toNat = t := ⟨_, rfl⟩
  rw [hv, hm] at htw
  have HT := Lib.hid hv
  have HM := Lib.hid hm
  clear hv hm
  unfold tnV at htw
  obtain ⟨p0, p1, p2, p3, p4, p5⟩ := num_cells HB.out.1.1
  obtain ⟨q0, q1, q2, q3, q4, q5⟩ := num_cells HB.out.1.2.1
  go_upto_region 49 with (go_at_call 45; refine (htw _).mono ?_; rintro e w2 ⟨rfl, hb⟩; have HC := Lib.hid (rr_keep HB.out hb); clear hb; clear p0 p1 p2 p3 p4 p5 q0 q1 q2 q3 q4 q5; obtain ⟨r0, r1, r2, r3, r4, r5⟩ := num_cells HC.out.2.1; obtain ⟨f0, f1, f2, f3, f4, f5⟩ := num_free HC.out.2.1)
  have HD := Lib.hid (rr_vm HC.out tv tm)
  generalize World.setCell _ _ _ = W2 at HD ⊢
  clear r0 r1 r2 r3 r4 r5 f0 f1 f2 f3 f4 f5
  clear htw HC w2
  obtain ⟨R1, hN1⟩ : ∃ q, (⟨tv, tm, A.a, A.b, A.c, A.d⟩ : K) = q := ⟨_, rfl⟩
  rw [hN1] at HD
  clear HB
  have HB := HD
  clear HD
  obtain ⟨p0, p1, p2, p3, p4, p5⟩ := num_cells HB.out.1.1
  obtain ⟨q0, q1, q2, q3, q4, q5⟩ := num_cells HB.out.1.2.1
  have g1 : (u k == 0) = true := by rw [HZ1.out]; rfl
  have g2 : decide (u k = 0) = true := decide_eq_true HZ1.out
  go_quiet (fail)
  have HD := Lib.hid (rr_drews HB.out nq)
  generalize World.drewN _ _ = W3 at HD ⊢
  clear p0 p1 p2 p3 p4 p5 q0 q1 q2 q3 q4 q5
  clear HB g1 g2
  have HB := HD
  clear HD
  have hpw := fun W => pow_k hkk W
  have e7 := u_shl a.a k.toNat
  have e8 := u_shl a.b k.toNat
  obtain ⟨P, hP⟩ : ∃ p : Int, 2 ^ k.toNat = p := ⟨_, rfl⟩
  rw [hP] at hpw e7 e8
  clear hP
  obtain ⟨r0, r1, r2, r3, r4, r5⟩ := num_cells HB.out.2.1
  obtain ⟨f0, f1, f2, f3, f4, f5⟩ := num_free HB.out.2.1
  obtain ⟨p0, p1, p2, p3, p4, p5⟩ := num_cells HB.out.1.1
  obtain ⟨q0, q1, q2, q3, q4, q5⟩ := num_cells HB.out.1.2.1
  go_upto_region 50 with fail
  obtain ⟨R2, hN2⟩ : ∃ q, (⟨R1.v, R1.m, a.a <<< k.toNat, R1.b, R1.c, R1.d⟩ : K) = q := ⟨_, rfl⟩
  have HU := Lib.hid hN2
  clear hN2
  go_cut [] (fun wx => RrB w a b m R2 wx)
  case first =>
    go_region_with (go_at_call 42; refine (hpw _).mono ?_; rintro e w9 ⟨rfl, rfl⟩)
    all_goals
      go_wp2_with fail
      go_meet
      rw [← HU.out]
      exact rr_drew (rr_a HB.out (a.a <<< k.toNat))
  have hN2 := HU.out
  clear HU HB
  have HB := Lib.hid hcut
  clear hcut
  clear p0 p1 p2 p3 p4 p5 q0 q1 q2 q3 q4 q5
  clear r0 r1 r2 r3 r4 r5 f0 f1 f2 f3 f4 f5
  obtain ⟨r0, r1, r2, r3, r4, r5⟩ := num_cells HB.out.2.1
  obtain ⟨f0, f1, f2, f3, f4, f5⟩ := num_free HB.out.2.1
  obtain ⟨p0, p1, p2, p3, p4, p5⟩ := num_cells HB.out.1.1
  obtain ⟨q0, q1, q2, q3, q4, q5⟩ := num_cells HB.out.1.2.1
  go_upto_region 51 with fail
  go_region_with (go_at_call 42; refine (hpw _).mono ?_; rintro e w9 ⟨rfl, rfl⟩)
  all_goals
    have HD := Lib.hid (rr_drew (rr_b HB.out (a.b <<< k.toNat)))
    generalize World.drew _ = W3 at HD ⊢
    clear p0 p1 p2 p3 p4 p5 q0 q1 q2 q3 q4 q5
    clear r0 r1 r2 r3 r4 r5 f0 f1 f2 f3 f4 f5
    obtain ⟨R3, hN3⟩ : ∃ q, (⟨R2.v, R2.m, R2.a, a.b <<< k.toNat, R2.c, R2.d⟩ : K) = q := ⟨_, rfl⟩
    rw [hN3] at HD
    clear HB
    have HB := HD
    clear HD
    obtain ⟨r0, r1, r2, r3, r4, r5⟩ := num_cells HB.out.2.1
    obtain ⟨f0, f1, f2, f3, f4, f5⟩ := num_free HB.out.2.1
    obtain ⟨g0, g1, g2, g3, g4, g5⟩ := num_free HB.out.1.2.2.1
    obtain ⟨z0, z1, z2, z3, z4, z5⟩ := num_cells HB.out.1.2.2.1
    go_wp2
    have HZ := Lib.hid (rr_out HB.out R3)
    generalize World.setCell _ _ _ = WZ at HZ ⊢
    clear z0 z1 z2 z3 z4 z5
    obtain ⟨z0, z1, z2, z3, z4, z5⟩ := num_cells HZ.out.1
    exact bodyPost_ret (v := numV R3) (by unfold numV; simp [results, Try.results22, go_sem, z0, z1, z2, z3, z4, z5]) rfl ⟨by subst hN1; subst hN2; subst hN3; rw [← HA.out, ← HT.out, ← HM.out]; rfl, HZ.out.2⟩
end Go.Proofs.Ytogadmlnmcojpaa

/-
  Proved here: rows of the document's answer for package xfer: Lsh, Rsh, Arsh, Neg. Conditions: none.
-/
namespace Go.Proofs.Ytogadmlnmcojpaa
open Go.RowKit
attribute [local go_sem] u_and u_or u_xor u_andNot u_add u_sub s_conv u_conv
set_option maxRecDepth 100000 in
set_option maxHeartbeats 8000000 in
theorem rr_lsh_y (a b : K) (c t : B64) (w : World) (ht : ¬ u t = 0) (hk0 : (c % t).toNat < 64) (h1 : ¬ u (c % t) = 0) (h2 : u a.b < 2 ^ (64 - (c % t).toNat)) : Calls Try.prog 22 #[.int .u8 96, numV a, numV b, .int .u64 (u c), .bool true, .int .u64 (u t)] w (Gives (numV (⟨pv (shX 0 a.v (c % t).toNat) (shX 0 a.m (c % t).toNat), shX 0 a.m (c % t).toNat, a.a <<< (c % t).toNat, a.b <<< (c % t).toNat, half, most⟩)) w) := by
  have HN := Lib.hid (box3_new a b w)
  have hall := fun W => refall_num W
  have e1 := tmod_u c t
  obtain ⟨k, hk⟩ : ∃ k, c % t = k := ⟨_, rfl⟩
  rw [hk] at e1 ⊢
  have HK := Lib.hid hk
  clear hk
  obtain ⟨A, hA⟩ : ∃ A, allK = A := ⟨_, rfl⟩
  rw [hA] at hall
  have HA := Lib.hid hA
  clear hA
  unfold numV at hall
  unfold Gives numV
  go_enter Try.func22, Try.ntmps22
  go_upto_region 1 with fail
  generalize World.alloc _ _ = W0 at HN ⊢
  go_upto_region 2 with (go_at_call 13; refine (hall _).mono ?_; rintro e w1 ⟨rfl, hb⟩; have HB := Lib.hid (rr_new HN.out hb A); clear hb)
  generalize w1.alloc _ = W at HB ⊢
  generalize w1.heap.size = m at HB ⊢
  clear hall HN w1 W0
  have hkk := hk0
  rw [HK.out] at hkk
  clear hk0
  have k1 := i64k hkk
  have k2 := w64k hkk
  have k3 := u_bd k
  rw [HK.out] at h1 h2
  have htw := fun W => shift_ref0 a.v a.m k W
  rw [Nat.mod_eq_of_lt hkk] at htw
  obtain ⟨tv, hv⟩ : ∃ t, pv (shX 0 a.v k.toNat) (shX 0 a.m k.toNat) = t := ⟨_, rfl⟩
  obtain ⟨tm, hm⟩ : ∃ t, shX 0 a.m k.toNat = t := ⟨_, rfl⟩
  rw [hv, hm] at htw
  have HT := Lib.hid hv
  have HM := Lib.hid hm
  clear hv hm
  unfold tnV at htw
  obtain ⟨p0, p1, p2, p3, p4, p5⟩ := num_cells HB.out.1.1
  obtain ⟨q0, q1, q2, q3, q4, q5⟩ := num_cells HB.out.1.2.1
  go_upto_region 49 with (go_at_call 45; refine (htw _).mono ?_; rintro e w2 ⟨rfl, hb⟩; have HC := Lib.hid (rr_keep HB.out hb); clear hb; clear p0 p1 p2 p3 p4 p5 q0 q1 q2 q3 q4 q5; obtain ⟨r0, r1, r2, r3, r4, r5⟩ := num_cells HC.out.2.1; obtain ⟨f0, f1, f2, f3, f4, f5⟩ := num_free HC.out.2.1)
  have HD := Lib.hid (rr_vm HC.out tv tm)
  generalize World.setCell _ _ _ = W2 at HD ⊢
  clear r0 r1 r2 r3 r4 r5 f0 f1 f2 f3 f4 f5
  clear htw HC w2
  obtain ⟨R1, hN1⟩ : ∃ q, (⟨tv, tm, A.a, A.b, A.c, A.d⟩ : K) = q := ⟨_, rfl⟩
  rw [hN1] at HD
  clear HB
  have HB := HD
  clear HD
  have hq := fun W => pow_64 hkk h1 W
  obtain ⟨P2, hP⟩ : ∃ p : Int, 2 ^ (64 - k.toNat) = p := ⟨_, rfl⟩
  rw [hP] at hq h2
  clear hP
  have e5 : IntKind.u64.wrap (64 - u k) = 64 - u k := wrap_64 hkk
  have e6 : wrap64 (64 - u k) = 64 - u k := w64 (by unfold u; omega) (by unfold u; omega)
  obtain ⟨p0, p1, p2, p3, p4, p5⟩ := num_cells HB.out.1.1
  obtain ⟨q0, q1, q2, q3, q4, q5⟩ := num_cells HB.out.1.2.1
  have g1 : (u k == 0) = false := by simpa using h1
  have g2 : decide (u k = 0) = false := decide_eq_false h1
  go_quiet ((go_at_call 42; exact Calls.quiet_of_same (ret_same (hq _))))
  have HD := Lib.hid (rr_drews HB.out nq)
  generalize World.drewN _ _ = W3 at HD ⊢
  clear p0 p1 p2 p3 p4 p5 q0 q1 q2 q3 q4 q5
  clear HB e5 e6 hq g1 g2
  have HB := HD
  clear HD
  have hpw := fun W => pow_k hkk W
  have e7 := u_shl a.a k.toNat
  have e8 := u_shl a.b k.toNat
  obtain ⟨P, hP⟩ : ∃ p : Int, 2 ^ k.toNat = p := ⟨_, rfl⟩
  rw [hP] at hpw e7 e8
  clear hP
  obtain ⟨r0, r1, r2, r3, r4, r5⟩ := num_cells HB.out.2.1
  obtain ⟨f0, f1, f2, f3, f4, f5⟩ := num_free HB.out.2.1
  obtain ⟨p0, p1, p2, p3, p4, p5⟩ := num_cells HB.out.1.1
  obtain ⟨q0, q1, q2, q3, q4, q5⟩ := num_cells HB.out.1.2.1
  go_upto_region 50 with fail
  obtain ⟨R2, hN2⟩ : ∃ q, (⟨R1.v, R1.m, a.a <<< k.toNat, R1.b, R1.c, R1.d⟩ : K) = q := ⟨_, rfl⟩
  have HU := Lib.hid hN2
  clear hN2
  go_cut [] (fun wx => RrB w a b m R2 wx)
  case first =>
    go_region_with (go_at_call 42; refine (hpw _).mono ?_; rintro e w9 ⟨rfl, rfl⟩)
    all_goals
      go_wp2_with fail
      go_meet
      rw [← HU.out]
      exact rr_drew (rr_a HB.out (a.a <<< k.toNat))
  have hN2 := HU.out
  clear HU HB
  have HB := Lib.hid hcut
  clear hcut
  clear p0 p1 p2 p3 p4 p5 q0 q1 q2 q3 q4 q5
  clear r0 r1 r2 r3 r4 r5 f0 f1 f2 f3 f4 f5
  obtain ⟨r0, r1, r2, r3, r4, r5⟩ := num_cells HB.out.2.1
  obtain ⟨f0, f1, f2, f3, f4, f5⟩ := num_free HB.out.2.1
  obtain ⟨p0, p1, p2, p3, p4, p5⟩ := num_cells HB.out.1.1
  obtain ⟨q0, q1, q2, q3, q4, q5⟩ := num_cells HB.out.1.2.1
  go_upto_region 51 with fail
  go_region_with (go_at_call 42; refine (hpw _).mono ?_; rintro e w9 ⟨rfl, rfl⟩)
  all_goals
    have HD := Lib.hid (rr_drew (rr_b HB.out (a.b <<< k.toNat)))
    generalize World.drew _ = W3 at HD ⊢
    clear p0 p1 p2 p3 p4 p5 q0 q1 q2 q3 q4 q5
    clear r0 r1 r2 r3 r4 r5 f0 f1 f2 f3 f4 f5
    obtain ⟨R3, hN3⟩ : ∃ q, (⟨R2.v, R2.m, R2.a, a.b <<< k.toNat, R2.c, R2.d⟩ : K) = q := ⟨_, rfl⟩
    rw [hN3] at HD
    clear HB
    have HB := HD
    clear HD
    obtain ⟨r0, r1, r2, r3, r4, r5⟩ := num_cells HB.out.2.1
    obtain ⟨f0, f1, f2, f3, f4, f5⟩ := num_free HB.out.2.1
    obtain ⟨g0, g1, g2, g3, g4, g5⟩ := num_free HB.out.1.2.2.1
    obtain ⟨z0, z1, z2, z3, z4, z5⟩ := num_cells HB.out.1.2.2.1
    go_wp2
    have HZ := Lib.hid (rr_out HB.out R3)
    generalize World.setCell _ _ _ = WZ at HZ ⊢
    clear z0 z1 z2 z3 z4 z5
    obtain ⟨z0, z1, z2, z3, z4, z5⟩ := num_cells HZ.out.1
    exact bodyPost_ret (v := numV R3) (by unfold numV; simp [results, Try.results22, go_sem, z0, z1, z2, z3, z4, z5]) rfl ⟨by subst hN1; subst hN2; subst hN3; rw [← HA.out, ← HT.out, ← HM.out]; rfl, HZ.out.2⟩
set_option maxRecDepth 100000 in
set_option maxHeartbeats 8000000 in
theorem rr_lsh_n (a b : K) (c t : B64) (w : World) (ht : ¬ u t = 0) (hk0 : (c % t).toNat < 64) (h1 : ¬ u (c % t) = 0) (h2 : ¬ u a.b < 2 ^ (64 - (c % t).toNat)) : Calls Try.prog 22 #[.int .u8 96, numV a, numV b, .int .u64 (u c), .bool true, .int .u64 (u t)] w (Gives (numV (⟨pv (shX 0 a.v (c % t).toNat) (shX 0 a.m (c % t).toNat), shX 0 a.m (c % t).toNat, 0#64, full, half, most⟩)) w) := by
  have HN := Lib.hid (box3_new a b w)
  have hall := fun W => refall_num W
  have e1 := tmod_u c t
  obtain ⟨k, hk⟩ : ∃ k, c % t = k := ⟨_, rfl⟩
  rw [hk] at e1 ⊢
  have HK := Lib.hid hk
  clear hk
  obtain ⟨A, hA⟩ : ∃ A, allK = A := ⟨_, rfl⟩
  rw [hA] at hall
  have HA := Lib.hid hA
  clear hA
  unfold numV at hall
  unfold Gives numV
  go_enter Try.func22, Try.ntmps22
  go_upto_region 1 with fail
  generalize World.alloc _ _ = W0 at HN ⊢
  go_upto_region 2 with (go_at_call 13; refine (hall _).mono ?_; rintro e w1 ⟨rfl, hb⟩; have HB := Lib.hid (rr_new HN.out hb A); clear hb)
  generalize w1.alloc _ = W at HB ⊢
  generalize w1.heap.size = m at HB ⊢
  clear hall HN w1 W0
  have hkk := hk0
  rw [HK.out] at hkk
  clear hk0
  have k1 := i64k hkk
  have k2 := w64k hkk
  have k3 := u_bd k
  rw [HK.out] at h1 h2
  have htw := fun W => shift_ref0 a.v a.m k W
  rw [Nat.mod_eq_of_lt hkk] at htw
  obtain ⟨tv, hv⟩ : ∃ t, pv (shX 0 a.v k.toNat) (shX 0 a.m k.toNat) = t := ⟨_, rfl⟩
  obtain ⟨tm, hm⟩ : ∃ t, shX 0 a.m k.toNat = t := ⟨_, rfl⟩
  rw [hv, hm] at htw
  have HT := Lib.hid hv
  have HM := Lib.hid hm
  clear hv hm
  unfold tnV at htw
  obtain ⟨p0, p1, p2, p3, p4, p5⟩ := num_cells HB.out.1.1
  obtain ⟨q0, q1, q2, q3, q4, q5⟩ := num_cells HB.out.1.2.1
  go_upto_region 49 with (go_at_call 45; refine (htw _).mono ?_; rintro e w2 ⟨rfl, hb⟩; have HC := Lib.hid (rr_keep HB.out hb); clear hb; clear p0 p1 p2 p3 p4 p5 q0 q1 q2 q3 q4 q5; obtain ⟨r0, r1, r2, r3, r4, r5⟩ := num_cells HC.out.2.1; obtain ⟨f0, f1, f2, f3, f4, f5⟩ := num_free HC.out.2.1)
  have HD := Lib.hid (rr_vm HC.out tv tm)
  generalize World.setCell _ _ _ = W2 at HD ⊢
  clear r0 r1 r2 r3 r4 r5 f0 f1 f2 f3 f4 f5
  clear htw HC w2
  obtain ⟨R1, hN1⟩ : ∃ q, (⟨tv, tm, A.a, A.b, A.c, A.d⟩ : K) = q := ⟨_, rfl⟩
  rw [hN1] at HD
  clear HB
  have HB := HD
  clear HD
  have hq := fun W => pow_64 hkk h1 W
  obtain ⟨P2, hP⟩ : ∃ p : Int, 2 ^ (64 - k.toNat) = p := ⟨_, rfl⟩
  rw [hP] at hq h2
  clear hP
  have e5 : IntKind.u64.wrap (64 - u k) = 64 - u k := wrap_64 hkk
  have e6 : wrap64 (64 - u k) = 64 - u k := w64 (by unfold u; omega) (by unfold u; omega)
  obtain ⟨p0, p1, p2, p3, p4, p5⟩ := num_cells HB.out.1.1
  obtain ⟨q0, q1, q2, q3, q4, q5⟩ := num_cells HB.out.1.2.1
  have g1 : (u k == 0) = false := by simpa using h1
  have g2 : decide (u k = 0) = false := decide_eq_false h1
  go_quiet ((go_at_call 42; exact Calls.quiet_of_same (ret_same (hq _))))
  have HD := Lib.hid (rr_drews HB.out nq)
  generalize World.drewN _ _ = W3 at HD ⊢
  clear p0 p1 p2 p3 p4 p5 q0 q1 q2 q3 q4 q5
  clear HB e5 e6 hq g1 g2
  have HB := HD
  clear HD
  obtain ⟨p0, p1, p2, p3, p4, p5⟩ := num_cells HB.out.1.1
  obtain ⟨q0, q1, q2, q3, q4, q5⟩ := num_cells HB.out.1.2.1
  go_upto_region 78 with fail
  clear p0 p1 p2 p3 p4 p5 q0 q1 q2 q3 q4 q5
  obtain ⟨r0, r1, r2, r3, r4, r5⟩ := num_cells HB.out.2.1
  obtain ⟨f0, f1, f2, f3, f4, f5⟩ := num_free HB.out.2.1
  obtain ⟨g0, g1, g2, g3, g4, g5⟩ := num_free HB.out.1.2.2.1
  obtain ⟨z0, z1, z2, z3, z4, z5⟩ := num_cells HB.out.1.2.2.1
  go_wp2
  have HZ := Lib.hid (rr_out HB.out R1)
  generalize World.setCell _ _ _ = WZ at HZ ⊢
  clear z0 z1 z2 z3 z4 z5
  obtain ⟨z0, z1, z2, z3, z4, z5⟩ := num_cells HZ.out.1
  exact bodyPost_ret (v := numV R1) (by unfold numV; simp [results, Try.results22, go_sem, z0, z1, z2, z3, z4, z5]) rfl ⟨by subst hN1; rw [← HA.out, ← HT.out, ← HM.out]; rfl, HZ.out.2⟩
end Go.Proofs.Ytogadmlnmcojpaa

/-
  Proved here: rows of the document's answer for package xfer: Lsh, Rsh, Arsh, Neg. Conditions: none.
-/
namespace Go.Proofs.Ytogadmlnmcojpaa
open Go.RowKit
attribute [local go_sem] u_and u_or u_xor u_andNot u_add u_sub s_conv u_conv
set_option maxRecDepth 100000 in
set_option maxHeartbeats 8000000 in
theorem rr_rsh_o (a b : K) (c t : B64) (w : World) (ht : ¬ u t = 0) : Calls Try.prog 22 #[.int .u8 112, numV a, numV b, .int .u64 (u c), .bool false, .int .u64 (u t)] w (Gives (numV (⟨0#64, full, 0#64, a.b, half, most⟩)) w) := by
  have HN := Lib.hid (box3_new a b w)
  have hall := fun W => refall_num W
  have e1 := tmod_u c t
  obtain ⟨k, hk⟩ : ∃ k, c % t = k := ⟨_, rfl⟩
  rw [hk] at e1
  have HK := Lib.hid hk
  clear hk
  obtain ⟨A, hA⟩ : ∃ A, allK = A := ⟨_, rfl⟩
  rw [hA] at hall
  have HA := Lib.hid hA
  clear hA
  unfold numV at hall
  unfold Gives numV
  go_enter Try.func22, Try.ntmps22
  go_upto_region 1 with fail
  generalize World.alloc _ _ = W0 at HN ⊢
  go_upto_region 2 with (go_at_call 13; refine (hall _).mono ?_; rintro e w1 ⟨rfl, hb⟩; have HB := Lib.hid (rr_new HN.out hb A); clear hb)
  generalize w1.alloc _ = W at HB ⊢
  generalize w1.heap.size = m at HB ⊢
  clear hall HN w1 W0
  obtain ⟨r0, r1, r2, r3, r4, r5⟩ := num_cells HB.out.2.1
  obtain ⟨f0, f1, f2, f3, f4, f5⟩ := num_free HB.out.2.1
  obtain ⟨p0, p1, p2, p3, p4, p5⟩ := num_cells HB.out.1.1
  obtain ⟨q0, q1, q2, q3, q4, q5⟩ := num_cells HB.out.1.2.1
  go_upto_region 54 with fail
  have HD := Lib.hid (rr_b HB.out (a.b))
  generalize World.setCell _ _ _ = W3 at HD ⊢
  clear p0 p1 p2 p3 p4 p5 q0 q1 q2 q3 q4 q5
  clear r0 r1 r2 r3 r4 r5 f0 f1 f2 f3 f4 f5
  obtain ⟨R1, hN1⟩ : ∃ q, (⟨A.v, A.m, A.a, a.b, A.c, A.d⟩ : K) = q := ⟨_, rfl⟩
  rw [hN1] at HD
  clear HB
  have HB := HD
  clear HD
  obtain ⟨p0, p1, p2, p3, p4, p5⟩ := num_cells HB.out.1.1
  obtain ⟨q0, q1, q2, q3, q4, q5⟩ := num_cells HB.out.1.2.1
  go_upto_region 78 with fail
  clear p0 p1 p2 p3 p4 p5 q0 q1 q2 q3 q4 q5
  obtain ⟨r0, r1, r2, r3, r4, r5⟩ := num_cells HB.out.2.1
  obtain ⟨f0, f1, f2, f3, f4, f5⟩ := num_free HB.out.2.1
  obtain ⟨g0, g1, g2, g3, g4, g5⟩ := num_free HB.out.1.2.2.1
  obtain ⟨z0, z1, z2, z3, z4, z5⟩ := num_cells HB.out.1.2.2.1
  go_wp2
  have HZ := Lib.hid (rr_out HB.out R1)
  generalize World.setCell _ _ _ = WZ at HZ ⊢
  clear z0 z1 z2 z3 z4 z5
  obtain ⟨z0, z1, z2, z3, z4, z5⟩ := num_cells HZ.out.1
  exact bodyPost_ret (v := numV R1) (by unfold numV; simp [results, Try.results22, go_sem, z0, z1, z2, z3, z4, z5]) rfl ⟨by subst hN1; rw [← HA.out]; rfl, HZ.out.2⟩
set_option maxRecDepth 100000 in
set_option maxHeartbeats 8000000 in
theorem rr_rsh_y (a b : K) (c t : B64) (w : World) (ht : ¬ u t = 0) (hk0 : (c % t).toNat < 64) : Calls Try.prog 22 #[.int .u8 112, numV a, numV b, .int .u64 (u c), .bool true, .int .u64 (u t)] w (Gives (numV (⟨pv (shX 1 a.v (c % t).toNat) (shX 1 a.m (c % t).toNat), shX 1 a.m (c % t).toNat, a.a >>> (c % t).toNat, a.b >>> (c % t).toNat, half, most⟩)) w) := by
  have HN := Lib.hid (box3_new a b w)
  have hall := fun W => refall_num W
  have e1 := tmod_u c t
  obtain ⟨k, hk⟩ : ∃ k, c % t = k := ⟨_, rfl⟩
  rw [hk] at e1 ⊢
  have HK := Lib.hid hk
  clear hk
  obtain ⟨A, hA⟩ : ∃ A, allK = A := ⟨_, rfl⟩
  rw [hA] at hall
  have HA := Lib.hid hA
  clear hA
  unfold numV at hall
  unfold Gives numV
  go_enter Try.func22, Try.ntmps22
  go_upto_region 1 with fail
  generalize World.alloc _ _ = W0 at HN ⊢
  go_upto_region 2 with (go_at_call 13; refine (hall _).mono ?_; rintro e w1 ⟨rfl, hb⟩; have HB := Lib.hid (rr_new HN.out hb A); clear hb)
  generalize w1.alloc _ = W at HB ⊢
  generalize w1.heap.size = m at HB ⊢
  clear hall HN w1 W0
  have hkk := hk0
  rw [HK.out] at hkk
  clear hk0
  have k1 := i64k hkk
  have k2 := w64k hkk
  have k3 := u_bd k
  obtain ⟨r0, r1, r2, r3, r4, r5⟩ := num_cells HB.out.2.1
  obtain ⟨f0, f1, f2, f3, f4, f5⟩ := num_free HB.out.2.1
  obtain ⟨p0, p1, p2, p3, p4, p5⟩ := num_cells HB.out.1.1
  obtain ⟨q0, q1, q2, q3, q4, q5⟩ := num_cells HB.out.1.2.1
  go_upto_region 54 with fail
  have HD := Lib.hid (rr_b HB.out (a.b))
  generalize World.setCell _ _ _ = W3 at HD ⊢
  clear p0 p1 p2 p3 p4 p5 q0 q1 q2 q3 q4 q5
  clear r0 r1 r2 r3 r4 r5 f0 f1 f2 f3 f4 f5
  obtain ⟨R1, hN1⟩ : ∃ q, (⟨A.v, A.m, A.a, a.b, A.c, A.d⟩ : K) = q := ⟨_, rfl⟩
  rw [hN1] at HD
  clear HB
  have HB := HD
  clear HD
  have htw := fun W => shift_ref1 a.v a.m k W
  rw [Nat.mod_eq_of_lt hkk] at htw
  obtain ⟨tv, hv⟩ : ∃ t, pv (shX 1 a.v k.toNat) (shX 1 a.m k.toNat) = t := ⟨_, rfl⟩
  obtain ⟨tm, hm⟩ : ∃ t, shX 1 a.m k.toNat = t := ⟨_, rfl⟩
  rw [hv, hm] at htw
  have HT := Lib.hid hv
  have HM := Lib.hid hm
  clear hv hm
  unfold tnV at htw
  obtain ⟨p0, p1, p2, p3, p4, p5⟩ := num_cells HB.out.1.1
  obtain ⟨q0, q1, q2, q3, q4, q5⟩ := num_cells HB.out.1.2.1
  go_upto_region 56 with (go_at_call 45; refine (htw _).mono ?_; rintro e w2 ⟨rfl, hb⟩; have HC := Lib.hid (rr_keep HB.out hb); clear hb; clear p0 p1 p2 p3 p4 p5 q0 q1 q2 q3 q4 q5; obtain ⟨r0, r1, r2, r3, r4, r5⟩ := num_cells HC.out.2.1; obtain ⟨f0, f1, f2, f3, f4, f5⟩ := num_free HC.out.2.1)
  have HD := Lib.hid (rr_vm HC.out tv tm)
  generalize World.setCell _ _ _ = W2 at HD ⊢
  clear r0 r1 r2 r3 r4 r5 f0 f1 f2 f3 f4 f5
  clear htw HC w2
  obtain ⟨R2, hN2⟩ : ∃ q, (⟨tv, tm, R1.a, R1.b, R1.c, R1.d⟩ : K) = q := ⟨_, rfl⟩
  rw [hN2] at HD
  clear HB
  have HB := HD
  clear HD
  have hpw := fun W => pow_k hkk W
  have hp0 : (0 : Int) < 2 ^ k.toNat := Int.pow_pos (by decide)
  have e7 : (u a.a).tdiv (2 ^ k.toNat) = u (a.a >>> k.toNat) := by rw [Int.tdiv_eq_ediv_of_nonneg (u_bd _).1, u_shr]
  have e8 : (u a.b).tdiv (2 ^ k.toNat) = u (a.b >>> k.toNat) := by rw [Int.tdiv_eq_ediv_of_nonneg (u_bd _).1, u_shr]
  have e9 := wrap_uu (a.a >>> k.toNat)
  have e10 := wrap_uu (a.b >>> k.toNat)
  obtain ⟨P, hP⟩ : ∃ p : Int, 2 ^ k.toNat = p := ⟨_, rfl⟩
  rw [hP] at hpw e7 e8 hp0
  have hp1 : ¬ P = 0 := by omega
  clear hP hp0
  obtain ⟨r0, r1, r2, r3, r4, r5⟩ := num_cells HB.out.2.1
  obtain ⟨f0, f1, f2, f3, f4, f5⟩ := num_free HB.out.2.1
  obtain ⟨p0, p1, p2, p3, p4, p5⟩ := num_cells HB.out.1.1
  obtain ⟨q0, q1, q2, q3, q4, q5⟩ := num_cells HB.out.1.2.1
  go_upto_region 56 with fail
  obtain ⟨R3, hN3⟩ : ∃ q, (⟨R2.v, R2.m, a.a >>> k.toNat, R2.b, R2.c, R2.d⟩ : K) = q := ⟨_, rfl⟩
  have HU := Lib.hid hN3
  clear hN3
  go_cut [] (fun wx => RrB w a b m R3 wx)
  case first =>
    go_region_with (go_at_call 42; refine (hpw _).mono ?_; rintro e w9 ⟨rfl, rfl⟩)
    all_goals
      go_wp2_with fail
      go_meet
      rw [← HU.out]
      exact rr_drew (rr_a HB.out (a.a >>> k.toNat))
  have hN3 := HU.out
  clear HU HB
  have HB := Lib.hid hcut
  clear hcut
  clear p0 p1 p2 p3 p4 p5 q0 q1 q2 q3 q4 q5
  clear r0 r1 r2 r3 r4 r5 f0 f1 f2 f3 f4 f5
  obtain ⟨r0, r1, r2, r3, r4, r5⟩ := num_cells HB.out.2.1
  obtain ⟨f0, f1, f2, f3, f4, f5⟩ := num_free HB.out.2.1
  obtain ⟨p0, p1, p2, p3, p4, p5⟩ := num_cells HB.out.1.1
  obtain ⟨q0, q1, q2, q3, q4, q5⟩ := num_cells HB.out.1.2.1
  go_upto_region 57 with fail
  go_region_with (go_at_call 42; refine (hpw _).mono ?_; rintro e w9 ⟨rfl, rfl⟩)
  all_goals
    have HD := Lib.hid (rr_drew (rr_b HB.out (a.b >>> k.toNat)))
    generalize World.drew _ = W3 at HD ⊢
    clear p0 p1 p2 p3 p4 p5 q0 q1 q2 q3 q4 q5
    clear r0 r1 r2 r3 r4 r5 f0 f1 f2 f3 f4 f5
    obtain ⟨R4, hN4⟩ : ∃ q, (⟨R3.v, R3.m, R3.a, a.b >>> k.toNat, R3.c, R3.d⟩ : K) = q := ⟨_, rfl⟩
    rw [hN4] at HD
    clear HB
    have HB := HD
    clear HD
    obtain ⟨r0, r1, r2, r3, r4, r5⟩ := num_cells HB.out.2.1
    obtain ⟨f0, f1, f2, f3, f4, f5⟩ := num_free HB.out.2.1
    obtain ⟨g0, g1, g2, g3, g4, g5⟩ := num_free HB.out.1.2.2.1
    obtain ⟨z0, z1, z2, z3, z4, z5⟩ := num_cells HB.out.1.2.2.1
    go_wp2
    have HZ := Lib.hid (rr_out HB.out R4)
    generalize World.setCell _ _ _ = WZ at HZ ⊢
    clear z0 z1 z2 z3 z4 z5
    obtain ⟨z0, z1, z2, z3, z4, z5⟩ := num_cells HZ.out.1
    exact bodyPost_ret (v := numV R4) (by unfold numV; simp [results, Try.results22, go_sem, z0, z1, z2, z3, z4, z5]) rfl ⟨by subst hN1; subst hN2; subst hN3; subst hN4; rw [← HA.out, ← HT.out, ← HM.out]; rfl, HZ.out.2⟩
end Go.Proofs.Ytogadmlnmcojpaa

/-
  Proved here: rows of the document's answer for package xfer: Lsh, Rsh, Arsh, Neg. Conditions: none.
-/
namespace Go.Proofs.Ytogadmlnmcojpaa
open Go.RowKit
attribute [local go_sem] u_and u_or u_xor u_andNot u_add u_sub s_conv u_conv
set_option maxRecDepth 100000 in
set_option maxHeartbeats 8000000 in
theorem rr_arsh_w (a b : K) (c t : B64) (one : Bool) (w : World) (ht : ¬ u t = 0) (h1 : u t < 64) : Calls Try.prog 22 #[.int .u8 192, numV a, numV b, .int .u64 (u c), .bool one, .int .u64 (u t)] w (Gives (numV (allK)) w) := by
  have HN := Lib.hid (box3_new a b w)
  have hall := fun W => refall_num W
  have e1 := tmod_u c t
  obtain ⟨k, hk⟩ : ∃ k, c % t = k := ⟨_, rfl⟩
  rw [hk] at e1
  have HK := Lib.hid hk
  clear hk
  obtain ⟨A, hA⟩ : ∃ A, allK = A := ⟨_, rfl⟩
  rw [hA] at hall
  have HA := Lib.hid hA
  clear hA
  unfold numV at hall
  unfold Gives numV
  go_enter Try.func22, Try.ntmps22
  go_upto_region 1 with fail
  generalize World.alloc _ _ = W0 at HN ⊢
  go_upto_region 2 with (go_at_call 13; refine (hall _).mono ?_; rintro e w1 ⟨rfl, hb⟩; have HB := Lib.hid (rr_new HN.out hb A); clear hb)
  generalize w1.alloc _ = W at HB ⊢
  generalize w1.heap.size = m at HB ⊢
  clear hall HN w1 W0
  obtain ⟨p0, p1, p2, p3, p4, p5⟩ := num_cells HB.out.1.1
  obtain ⟨q0, q1, q2, q3, q4, q5⟩ := num_cells HB.out.1.2.1
  go_upto_region 60 with fail
  clear p0 p1 p2 p3 p4 p5 q0 q1 q2 q3 q4 q5
  obtain ⟨r0, r1, r2, r3, r4, r5⟩ := num_cells HB.out.2.1
  obtain ⟨f0, f1, f2, f3, f4, f5⟩ := num_free HB.out.2.1
  obtain ⟨g0, g1, g2, g3, g4, g5⟩ := num_free HB.out.1.2.2.1
  obtain ⟨z0, z1, z2, z3, z4, z5⟩ := num_cells HB.out.1.2.2.1
  go_wp2
  have HZ := Lib.hid (rr_out HB.out A)
  generalize World.setCell _ _ _ = WZ at HZ ⊢
  clear z0 z1 z2 z3 z4 z5
  obtain ⟨z0, z1, z2, z3, z4, z5⟩ := num_cells HZ.out.1
  exact bodyPost_ret (v := numV A) (by unfold numV; simp [results, Try.results22, go_sem, z0, z1, z2, z3, z4, z5]) rfl ⟨by rw [← HA.out]; rfl, HZ.out.2⟩
set_option maxRecDepth 100000 in
set_option maxHeartbeats 8000000 in
theorem rr_arsh_o0 (a b : K) (c t : B64) (w : World) (ht : ¬ u t = 0) (h1 : ¬ u t < 64) (h2 : 0 < s a.c) (h3 : s a.d < -1) : Calls Try.prog 22 #[.int .u8 192, numV a, numV b, .int .u64 (u c), .bool false, .int .u64 (u t)] w (Gives (numV (⟨0#64, full, 0#64, full, 0#64, full⟩)) w) := by
  have HN := Lib.hid (box3_new a b w)
  have hall := fun W => refall_num W
  have e1 := tmod_u c t
  obtain ⟨k, hk⟩ : ∃ k, c % t = k := ⟨_, rfl⟩
  rw [hk] at e1
  have HK := Lib.hid hk
  clear hk
  obtain ⟨A, hA⟩ : ∃ A, allK = A := ⟨_, rfl⟩
  rw [hA] at hall
  have HA := Lib.hid hA
  clear hA
  unfold numV at hall
  unfold Gives numV
  go_enter Try.func22, Try.ntmps22
  go_upto_region 1 with fail
  generalize World.alloc _ _ = W0 at HN ⊢
  go_upto_region 2 with (go_at_call 13; refine (hall _).mono ?_; rintro e w1 ⟨rfl, hb⟩; have HB := Lib.hid (rr_new HN.out hb A); clear hb)
  generalize w1.alloc _ = W at HB ⊢
  generalize w1.heap.size = m at HB ⊢
  clear hall HN w1 W0
  obtain ⟨r0, r1, r2, r3, r4, r5⟩ := num_cells HB.out.2.1
  obtain ⟨f0, f1, f2, f3, f4, f5⟩ := num_free HB.out.2.1
  obtain ⟨p0, p1, p2, p3, p4, p5⟩ := num_cells HB.out.1.1
  obtain ⟨q0, q1, q2, q3, q4, q5⟩ := num_cells HB.out.1.2.1
  go_upto_region 69 with fail
  have HD := Lib.hid (rr_c HB.out (a.c))
  generalize World.setCell _ _ _ = W3 at HD ⊢
  clear p0 p1 p2 p3 p4 p5 q0 q1 q2 q3 q4 q5
  clear r0 r1 r2 r3 r4 r5 f0 f1 f2 f3 f4 f5
  obtain ⟨R1, hN1⟩ : ∃ q, (⟨A.v, A.m, A.a, A.b, a.c, A.d⟩ : K) = q := ⟨_, rfl⟩
  rw [hN1] at HD
  clear HB
  have HB := HD
  clear HD
  obtain ⟨r0, r1, r2, r3, r4, r5⟩ := num_cells HB.out.2.1
  obtain ⟨f0, f1, f2, f3, f4, f5⟩ := num_free HB.out.2.1
  rw [show R1.c = a.c by rw [← hN1]] at r4
  obtain ⟨p0, p1, p2, p3, p4, p5⟩ := num_cells HB.out.1.1
  obtain ⟨q0, q1, q2, q3, q4, q5⟩ := num_cells HB.out.1.2.1
  go_upto_region 70 with fail
  clear p0 p1 p2 p3 p4 p5 q0 q1 q2 q3 q4 q5
  clear r0 r1 r2 r3 r4 r5 f0 f1 f2 f3 f4 f5
  obtain ⟨r0, r1, r2, r3, r4, r5⟩ := num_cells HB.out.2.1
  obtain ⟨f0, f1, f2, f3, f4, f5⟩ := num_free HB.out.2.1
  obtain ⟨p0, p1, p2, p3, p4, p5⟩ := num_cells HB.out.1.1
  obtain ⟨q0, q1, q2, q3, q4, q5⟩ := num_cells HB.out.1.2.1
  go_upto_region 71 with fail
  have HD := rr_c HB.out (0#64)
  rw [s_00] at HD
  have HD := Lib.hid HD
  generalize World.setCell _ _ _ = W3 at HD ⊢
  clear p0 p1 p2 p3 p4 p5 q0 q1 q2 q3 q4 q5
  clear r0 r1 r2 r3 r4 r5 f0 f1 f2 f3 f4 f5
  obtain ⟨R2, hN2⟩ : ∃ q, (⟨R1.v, R1.m, R1.a, R1.b, 0#64, R1.d⟩ : K) = q := ⟨_, rfl⟩
  rw [hN2] at HD
  clear HB
  have HB := HD
  clear HD
  obtain ⟨r0, r1, r2, r3, r4, r5⟩ := num_cells HB.out.2.1
  obtain ⟨f0, f1, f2, f3, f4, f5⟩ := num_free HB.out.2.1
  obtain ⟨p0, p1, p2, p3, p4, p5⟩ := num_cells HB.out.1.1
  obtain ⟨q0, q1, q2, q3, q4, q5⟩ := num_cells HB.out.1.2.1
  go_upto_region 72 with fail
  have HD := Lib.hid (rr_d HB.out (a.d))
  generalize World.setCell _ _ _ = W3 at HD ⊢
  clear p0 p1 p2 p3 p4 p5 q0 q1 q2 q3 q4 q5
  clear r0 r1 r2 r3 r4 r5 f0 f1 f2 f3 f4 f5
  obtain ⟨R3, hN3⟩ : ∃ q, (⟨R2.v, R2.m, R2.a, R2.b, R2.c, a.d⟩ : K) = q := ⟨_, rfl⟩
  rw [hN3] at HD
  clear HB
  have HB := HD
  clear HD
  obtain ⟨r0, r1, r2, r3, r4, r5⟩ := num_cells HB.out.2.1
  obtain ⟨f0, f1, f2, f3, f4, f5⟩ := num_free HB.out.2.1
  rw [show R3.d = a.d by rw [← hN3]] at r5
  obtain ⟨p0, p1, p2, p3, p4, p5⟩ := num_cells HB.out.1.1
  obtain ⟨q0, q1, q2, q3, q4, q5⟩ := num_cells HB.out.1.2.1
  go_upto_region 73 with fail
  clear p0 p1 p2 p3 p4 p5 q0 q1 q2 q3 q4 q5
  clear r0 r1 r2 r3 r4 r5 f0 f1 f2 f3 f4 f5
  obtain ⟨r0, r1, r2, r3, r4, r5⟩ := num_cells HB.out.2.1
  obtain ⟨f0, f1, f2, f3, f4, f5⟩ := num_free HB.out.2.1
  obtain ⟨p0, p1, p2, p3, p4, p5⟩ := num_cells HB.out.1.1
  obtain ⟨q0, q1, q2, q3, q4, q5⟩ := num_cells HB.out.1.2.1
  go_upto_region 78 with fail
  have HD := rr_d HB.out (full)
  rw [s_m1] at HD
  have HD := Lib.hid HD
  generalize World.setCell _ _ _ = W3 at HD ⊢
  clear p0 p1 p2 p3 p4 p5 q0 q1 q2 q3 q4 q5
  clear r0 r1 r2 r3 r4 r5 f0 f1 f2 f3 f4 f5
  obtain ⟨R4, hN4⟩ : ∃ q, (⟨R3.v, R3.m, R3.a, R3.b, R3.c, full⟩ : K) = q := ⟨_, rfl⟩
  rw [hN4] at HD
  clear HB
  have HB := HD
  clear HD
  obtain ⟨r0, r1, r2, r3, r4, r5⟩ := num_cells HB.out.2.1
  obtain ⟨f0, f1, f2, f3, f4, f5⟩ := num_free HB.out.2.1
  obtain ⟨g0, g1, g2, g3, g4, g5⟩ := num_free HB.out.1.2.2.1
  obtain ⟨z0, z1, z2, z3, z4, z5⟩ := num_cells HB.out.1.2.2.1
  go_wp2
  have HZ := Lib.hid (rr_out HB.out R4)
  generalize World.setCell _ _ _ = WZ at HZ ⊢
  clear z0 z1 z2 z3 z4 z5
  obtain ⟨z0, z1, z2, z3, z4, z5⟩ := num_cells HZ.out.1
  exact bodyPost_ret (v := numV R4) (by unfold numV; simp [results, Try.results22, go_sem, z0, z1, z2, z3, z4, z5]) rfl ⟨by subst hN1; subst hN2; subst hN3; subst hN4; rw [← HA.out]; rfl, HZ.out.2⟩
set_option maxRecDepth 100000 in
set_option maxHeartbeats 8000000 in
theorem rr_arsh_o1 (a b : K) (c t : B64) (w : World) (ht : ¬ u t = 0) (h1 : ¬ u t < 64) (h2 : 0 < s a.c) (h3 : ¬ s a.d < -1) : Calls Try.prog 22 #[.int .u8 192, numV a, numV b, .int .u64 (u c), .bool false, .int .u64 (u t)] w (Gives (numV (⟨0#64, full, 0#64, full, 0#64, a.d⟩)) w) := by
  have HN := Lib.hid (box3_new a b w)
  have hall := fun W => refall_num W
  have e1 := tmod_u c t
  obtain ⟨k, hk⟩ : ∃ k, c % t = k := ⟨_, rfl⟩
  rw [hk] at e1
  have HK := Lib.hid hk
  clear hk
  obtain ⟨A, hA⟩ : ∃ A, allK = A := ⟨_, rfl⟩
  rw [hA] at hall
  have HA := Lib.hid hA
  clear hA
  unfold numV at hall
  unfold Gives numV
  go_enter Try.func22, Try.ntmps22
  go_upto_region 1 with fail
  generalize World.alloc _ _ = W0 at HN ⊢
  go_upto_region 2 with (go_at_call 13; refine (hall _).mono ?_; rintro e w1 ⟨rfl, hb⟩; have HB := Lib.hid (rr_new HN.out hb A); clear hb)
  generalize w1.alloc _ = W at HB ⊢
  generalize w1.heap.size = m at HB ⊢
  clear hall HN w1 W0
  obtain ⟨r0, r1, r2, r3, r4, r5⟩ := num_cells HB.out.2.1
  obtain ⟨f0, f1, f2, f3, f4, f5⟩ := num_free HB.out.2.1
  obtain ⟨p0, p1, p2, p3, p4, p5⟩ := num_cells HB.out.1.1
  obtain ⟨q0, q1, q2, q3, q4, q5⟩ := num_cells HB.out.1.2.1
  go_upto_region 69 with fail
  have HD := Lib.hid (rr_c HB.out (a.c))
  generalize World.setCell _ _ _ = W3 at HD ⊢
  clear p0 p1 p2 p3 p4 p5 q0 q1 q2 q3 q4 q5
  clear r0 r1 r2 r3 r4 r5 f0 f1 f2 f3 f4 f5
  obtain ⟨R1, hN1⟩ : ∃ q, (⟨A.v, A.m, A.a, A.b, a.c, A.d⟩ : K) = q := ⟨_, rfl⟩
  rw [hN1] at HD
  clear HB
  have HB := HD
  clear HD
  obtain ⟨r0, r1, r2, r3, r4, r5⟩ := num_cells HB.out.2.1
  obtain ⟨f0, f1, f2, f3, f4, f5⟩ := num_free HB.out.2.1
  rw [show R1.c = a.c by rw [← hN1]] at r4
  obtain ⟨p0, p1, p2, p3, p4, p5⟩ := num_cells HB.out.1.1
  obtain ⟨q0, q1, q2, q3, q4, q5⟩ := num_cells HB.out.1.2.1
  go_upto_region 70 with fail
  clear p0 p1 p2 p3 p4 p5 q0 q1 q2 q3 q4 q5
  clear r0 r1 r2 r3 r4 r5 f0 f1 f2 f3 f4 f5
  obtain ⟨r0, r1, r2, r3, r4, r5⟩ := num_cells HB.out.2.1
  obtain ⟨f0, f1, f2, f3, f4, f5⟩ := num_free HB.out.2.1
  obtain ⟨p0, p1, p2, p3, p4, p5⟩ := num_cells HB.out.1.1
  obtain ⟨q0, q1, q2, q3, q4, q5⟩ := num_cells HB.out.1.2.1
  go_upto_region 71 with fail
  have HD := rr_c HB.out (0#64)
  rw [s_00] at HD
  have HD := Lib.hid HD
  generalize World.setCell _ _ _ = W3 at HD ⊢
  clear p0 p1 p2 p3 p4 p5 q0 q1 q2 q3 q4 q5
  clear r0 r1 r2 r3 r4 r5 f0 f1 f2 f3 f4 f5
  obtain ⟨R2, hN2⟩ : ∃ q, (⟨R1.v, R1.m, R1.a, R1.b, 0#64, R1.d⟩ : K) = q := ⟨_, rfl⟩
  rw [hN2] at HD
  clear HB
  have HB := HD
  clear HD
  obtain ⟨r0, r1, r2, r3, r4, r5⟩ := num_cells HB.out.2.1
  obtain ⟨f0, f1, f2, f3, f4, f5⟩ := num_free HB.out.2.1
  obtain ⟨p0, p1, p2, p3, p4, p5⟩ := num_cells HB.out.1.1
  obtain ⟨q0, q1, q2, q3, q4, q5⟩ := num_cells HB.out.1.2.1
  go_upto_region 72 with fail
  have HD := Lib.hid (rr_d HB.out (a.d))
  generalize World.setCell _ _ _ = W3 at HD ⊢
  clear p0 p1 p2 p3 p4 p5 q0 q1 q2 q3 q4 q5
  clear r0 r1 r2 r3 r4 r5 f0 f1 f2 f3 f4 f5
  obtain ⟨R3, hN3⟩ : ∃ q, (⟨R2.v, R2.m, R2.a, R2.b, R2.c, a.d⟩ : K) = q := ⟨_, rfl⟩
  rw [hN3] at HD
  clear HB
  have HB := HD
  clear HD
  obtain ⟨r0, r1, r2, r3, r4, r5⟩ := num_cells HB.out.2.1
  obtain ⟨f0, f1, f2, f3, f4, f5⟩ := num_free HB.out.2.1
  rw [show R3.d = a.d by rw [← hN3]] at r5
  obtain ⟨p0, p1, p2, p3, p4, p5⟩ := num_cells HB.out.1.1
  obtain ⟨q0, q1, q2, q3, q4, q5⟩ := num_cells HB.out.1.2.1
  go_upto_region 78 with fail
  clear p0 p1 p2 p3 p4 p5 q0 q1 q2 q3 q4 q5
  clear r0 r1 r2 r3 r4 r5 f0 f1 f2 f3 f4 f5
  obtain ⟨r0, r1, r2, r3, r4, r5⟩ := num_cells HB.out.2.1
  obtain ⟨f0, f1, f2, f3, f4, f5⟩ := num_free HB.out.2.1
  obtain ⟨g0, g1, g2, g3, g4, g5⟩ := num_free HB.out.1.2.2.1
  obtain ⟨z0, z1, z2, z3, z4, z5⟩ := num_cells HB.out.1.2.2.1
  go_wp2
  have HZ := Lib.hid (rr_out HB.out R3)
  generalize World.setCell _ _ _ = WZ at HZ ⊢
  clear z0 z1 z2 z3 z4 z5
  obtain ⟨z0, z1, z2, z3, z4, z5⟩ := num_cells HZ.out.1
  exact bodyPost_ret (v := numV R3) (by unfold numV; simp [results, Try.results22, go_sem, z0, z1, z2, z3, z4, z5]) rfl ⟨by subst hN1; subst hN2; subst hN3; rw [← HA.out]; rfl, HZ.out.2⟩
set_option maxRecDepth 100000 in
set_option maxHeartbeats 8000000 in
theorem rr_arsh_o2 (a b : K) (c t : B64) (w : World) (ht : ¬ u t = 0) (h1 : ¬ u t < 64) (h2 : ¬ 0 < s a.c) (h3 : s a.d < -1) : Calls Try.prog 22 #[.int .u8 192, numV a, numV b, .int .u64 (u c), .bool false, .int .u64 (u t)] w (Gives (numV (⟨0#64, full, 0#64, full, a.c, full⟩)) w) := by
  have HN := Lib.hid (box3_new a b w)
  have hall := fun W => refall_num W
  have e1 := tmod_u c t
  obtain ⟨k, hk⟩ : ∃ k, c % t = k := ⟨_, rfl⟩
  rw [hk] at e1
  have HK := Lib.hid hk
  clear hk
  obtain ⟨A, hA⟩ : ∃ A, allK = A := ⟨_, rfl⟩
  rw [hA] at hall
  have HA := Lib.hid hA
  clear hA
  unfold numV at hall
  unfold Gives numV
  go_enter Try.func22, Try.ntmps22
  go_upto_region 1 with fail
  generalize World.alloc _ _ = W0 at HN ⊢
  go_upto_region 2 with (go_at_call 13; refine (hall _).mono ?_; rintro e w1 ⟨rfl, hb⟩; have HB := Lib.hid (rr_new HN.out hb A); clear hb)
  generalize w1.alloc _ = W at HB ⊢
  generalize w1.heap.size = m at HB ⊢
  clear hall HN w1 W0
  obtain ⟨r0, r1, r2, r3, r4, r5⟩ := num_cells HB.out.2.1
  obtain ⟨f0, f1, f2, f3, f4, f5⟩ := num_free HB.out.2.1
  obtain ⟨p0, p1, p2, p3, p4, p5⟩ := num_cells HB.out.1.1
  obtain ⟨q0, q1, q2, q3, q4, q5⟩ := num_cells HB.out.1.2.1
  go_upto_region 69 with fail
  have HD := Lib.hid (rr_c HB.out (a.c))
  generalize World.setCell _ _ _ = W3 at HD ⊢
  clear p0 p1 p2 p3 p4 p5 q0 q1 q2 q3 q4 q5
  clear r0 r1 r2 r3 r4 r5 f0 f1 f2 f3 f4 f5
  obtain ⟨R1, hN1⟩ : ∃ q, (⟨A.v, A.m, A.a, A.b, a.c, A.d⟩ : K) = q := ⟨_, rfl⟩
  rw [hN1] at HD
  clear HB
  have HB := HD
  clear HD
  obtain ⟨r0, r1, r2, r3, r4, r5⟩ := num_cells HB.out.2.1
  obtain ⟨f0, f1, f2, f3, f4, f5⟩ := num_free HB.out.2.1
  rw [show R1.c = a.c by rw [← hN1]] at r4
  obtain ⟨p0, p1, p2, p3, p4, p5⟩ := num_cells HB.out.1.1
  obtain ⟨q0, q1, q2, q3, q4, q5⟩ := num_cells HB.out.1.2.1
  go_upto_region 71 with fail
  clear p0 p1 p2 p3 p4 p5 q0 q1 q2 q3 q4 q5
  clear r0 r1 r2 r3 r4 r5 f0 f1 f2 f3 f4 f5
  obtain ⟨r0, r1, r2, r3, r4, r5⟩ := num_cells HB.out.2.1
  obtain ⟨f0, f1, f2, f3, f4, f5⟩ := num_free HB.out.2.1
  obtain ⟨p0, p1, p2, p3, p4, p5⟩ := num_cells HB.out.1.1
  obtain ⟨q0, q1, q2, q3, q4, q5⟩ := num_cells HB.out.1.2.1
  go_upto_region 72 with fail
  have HD := Lib.hid (rr_d HB.out (a.d))
  generalize World.setCell _ _ _ = W3 at HD ⊢
  clear p0 p1 p2 p3 p4 p5 q0 q1 q2 q3 q4 q5
  clear r0 r1 r2 r3 r4 r5 f0 f1 f2 f3 f4 f5
  obtain ⟨R2, hN2⟩ : ∃ q, (⟨R1.v, R1.m, R1.a, R1.b, R1.c, a.d⟩ : K) = q := ⟨_, rfl⟩
  rw [hN2] at HD
  clear HB
  have HB := HD
  clear HD
  obtain ⟨r0, r1, r2, r3, r4, r5⟩ := num_cells HB.out.2.1
  obtain ⟨f0, f1, f2, f3, f4, f5⟩ := num_free HB.out.2.1
  rw [show R2.d = a.d by rw [← hN2]] at r5
  obtain ⟨p0, p1, p2, p3, p4, p5⟩ := num_cells HB.out.1.1
  obtain ⟨q0, q1, q2, q3, q4, q5⟩ := num_cells HB.out.1.2.1
  go_upto_region 73 with fail
  clear p0 p1 p2 p3 p4 p5 q0 q1 q2 q3 q4 q5
  clear r0 r1 r2 r3 r4 r5 f0 f1 f2 f3 f4 f5
  obtain ⟨r0, r1, r2, r3, r4, r5⟩ := num_cells HB.out.2.1
  obtain ⟨f0, f1, f2, f3, f4, f5⟩ := num_free HB.out.2.1
  obtain ⟨p0, p1, p2, p3, p4, p5⟩ := num_cells HB.out.1.1
  obtain ⟨q0, q1, q2, q3, q4, q5⟩ := num_cells HB.out.1.2.1
  go_upto_region 78 with fail
  have HD := rr_d HB.out (full)
  rw [s_m1] at HD
  have HD := Lib.hid HD
  generalize World.setCell _ _ _ = W3 at HD ⊢
  clear p0 p1 p2 p3 p4 p5 q0 q1 q2 q3 q4 q5
  clear r0 r1 r2 r3 r4 r5 f0 f1 f2 f3 f4 f5
  obtain ⟨R3, hN3⟩ : ∃ q, (⟨R2.v, R2.m, R2.a, R2.b, R2.c, full⟩ : K) = q := ⟨_, rfl⟩
  rw [hN3] at HD
  clear HB
  have HB := HD
  clear HD
  obtain ⟨r0, r1, r2, r3, r4, r5⟩ := num_cells HB.out.2.1
  obtain ⟨f0, f1, f2, f3, f4, f5⟩ := num_free HB.out.2.1
  obtain ⟨g0, g1, g2, g3, g4, g5⟩ := num_free HB.out.1.2.2.1
  obtain ⟨z0, z1, z2, z3, z4, z5⟩ := num_cells HB.out.1.2.2.1
  go_wp2
  have HZ := Lib.hid (rr_out HB.out R3)
  generalize World.setCell _ _ _ = WZ at HZ ⊢
  clear z0 z1 z2 z3 z4 z5
  obtain ⟨z0, z1, z2, z3, z4, z5⟩ := num_cells HZ.out.1
  exact bodyPost_ret (v := numV R3) (by unfold numV; simp [results, Try.results22, go_sem, z0, z1, z2, z3, z4, z5]) rfl ⟨by subst hN1; subst hN2; subst hN3; rw [← HA.out]; rfl, HZ.out.2⟩
set_option maxRecDepth 100000 in
set_option maxHeartbeats 8000000 in
theorem rr_arsh_o3 (a b : K) (c t : B64) (w : World) (ht : ¬ u t = 0) (h1 : ¬ u t < 64) (h2 : ¬ 0 < s a.c) (h3 : ¬ s a.d < -1) : Calls Try.prog 22 #[.int .u8 192, numV a, numV b, .int .u64 (u c), .bool false, .int .u64 (u t)] w (Gives (numV (⟨0#64, full, 0#64, full, a.c, a.d⟩)) w) := by
  have HN := Lib.hid (box3_new a b w)
  have hall := fun W => refall_num W
  have e1 := tmod_u c t
  obtain ⟨k, hk⟩ : ∃ k, c % t = k := ⟨_, rfl⟩
  rw [hk] at e1
  have HK := Lib.hid hk
  clear hk
  obtain ⟨A, hA⟩ : ∃ A, allK = A := ⟨_, rfl⟩
  rw [hA] at hall
  have HA := Lib.hid hA
  clear hA
  unfold numV at hall
  unfold Gives numV
  go_enter Try.func22, Try.ntmps22
  go_upto_region 1 with fail
  generalize World.alloc _ _ = W0 at HN ⊢
  go_upto_region 2 with (go_at_call 13; refine (hall _).mono ?_; rintro e w1 ⟨rfl, hb⟩; have HB := Lib.hid (rr_new HN.out hb A); clear hb)
  generalize w1.alloc _ = W at HB ⊢
  generalize w1.heap.size = m at HB ⊢
  clear hall HN w1 W0
  obtain ⟨r0, r1, r2, r3, r4, r5⟩ := num_cells HB.out.2.1
  obtain ⟨f0, f1, f2, f3, f4, f5⟩ := num_free HB.out.2.1
  obtain ⟨p0, p1, p2, p3, p4, p5⟩ := num_cells HB.out.1.1
  obtain ⟨q0, q1, q2, q3, q4, q5⟩ := num_cells HB.out.1.2.1
  go_upto_region 69 with fail
  have HD := Lib.hid (rr_c HB.out (a.c))
  generalize World.setCell _ _ _ = W3 at HD ⊢
  clear p0 p1 p2 p3 p4 p5 q0 q1 q2 q3 q4 q5
  clear r0 r1 r2 r3 r4 r5 f0 f1 f2 f3 f4 f5
  obtain ⟨R1, hN1⟩ : ∃ q, (⟨A.v, A.m, A.a, A.b, a.c, A.d⟩ : K) = q := ⟨_, rfl⟩
  rw [hN1] at HD
  clear HB
  have HB := HD
  clear HD
  obtain ⟨r0, r1, r2, r3, r4, r5⟩ := num_cells HB.out.2.1
  obtain ⟨f0, f1, f2, f3, f4, f5⟩ := num_free HB.out.2.1
  rw [show R1.c = a.c by rw [← hN1]] at r4
  obtain ⟨p0, p1, p2, p3, p4, p5⟩ := num_cells HB.out.1.1
  obtain ⟨q0, q1, q2, q3, q4, q5⟩ := num_cells HB.out.1.2.1
  go_upto_region 71 with fail
  clear p0 p1 p2 p3 p4 p5 q0 q1 q2 q3 q4 q5
  clear r0 r1 r2 r3 r4 r5 f0 f1 f2 f3 f4 f5
  obtain ⟨r0, r1, r2, r3, r4, r5⟩ := num_cells HB.out.2.1
  obtain ⟨f0, f1, f2, f3, f4, f5⟩ := num_free HB.out.2.1
  obtain ⟨p0, p1, p2, p3, p4, p5⟩ := num_cells HB.out.1.1
  obtain ⟨q0, q1, q2, q3, q4, q5⟩ := num_cells HB.out.1.2.1
  go_upto_region 72 with fail
  have HD := Lib.hid (rr_d HB.out (a.d))
  generalize World.setCell _ _ _ = W3 at HD ⊢
  clear p0 p1 p2 p3 p4 p5 q0 q1 q2 q3 q4 q5
  clear r0 r1 r2 r3 r4 r5 f0 f1 f2 f3 f4 f5
  obtain ⟨R2, hN2⟩ : ∃ q, (⟨R1.v, R1.m, R1.a, R1.b, R1.c, a.d⟩ : K) = q := ⟨_, rfl⟩
  rw [hN2] at HD
  clear HB
  have HB := HD
  clear HD
  obtain ⟨r0, r1, r2, r3, r4, r5⟩ := num_cells HB.out.2.1
  obtain ⟨f0, f1, f2, f3, f4, f5⟩ := num_free HB.out.2.1
  rw [show R2.d = a.d by rw [← hN2]] at r5
  obtain ⟨p0, p1, p2, p3, p4, p5⟩ := num_cells HB.out.1.1
  obtain ⟨q0, q1, q2, q3, q4, q5⟩ := num_cells HB.out.1.2.1
  go_upto_region 78 with fail
  clear p0 p1 p2 p3 p4 p5 q0 q1 q2 q3 q4 q5
  clear r0 r1 r2 r3 r4 r5 f0 f1 f2 f3 f4 f5
  obtain ⟨r0, r1, r2, r3, r4, r5⟩ := num_cells HB.out.2.1
  obtain ⟨f0, f1, f2, f3, f4, f5⟩ := num_free HB.out.2.1
  obtain ⟨g0, g1, g2, g3, g4, g5⟩ := num_free HB.out.1.2.2.1
  obtain ⟨z0, z1, z2, z3, z4, z5⟩ := num_cells HB.out.1.2.2.1
  go_wp2
  have HZ := Lib.hid (rr_out HB.out R2)
  generalize World.setCell _ _ _ = WZ at HZ ⊢
  clear z0 z1 z2 z3 z4 z5
  obtain ⟨z0, z1, z2, z3, z4, z5⟩ := num_cells HZ.out.1
  exact bodyPost_ret (v := numV R2) (by unfold numV; simp [results, Try.results22, go_sem, z0, z1, z2, z3, z4, z5]) rfl ⟨by subst hN1; subst hN2; rw [← HA.out]; rfl, HZ.out.2⟩
end Go.Proofs.Ytogadmlnmcojpaa

/-
  Proved here: rows of the document's answer for package xfer: Lsh, Rsh, Arsh, Neg. Conditions: none.
-/
namespace Go.Proofs.Ytogadmlnmcojpaa
open Go.RowKit
attribute [local go_sem] u_and u_or u_xor u_andNot u_add u_sub s_conv u_conv
set_option maxRecDepth 100000 in
set_option maxHeartbeats 8000000 in
theorem rr_arsh_y (a b : K) (c t : B64) (w : World) (ht : ¬ u t = 0) (hk0 : (c % t).toNat < 64) (h1 : ¬ u t < 64) : Calls Try.prog 22 #[.int .u8 192, numV a, numV b, .int .u64 (u c), .bool true, .int .u64 (u t)] w (Gives (numV (⟨pv (shX 2 a.v (c % t).toNat) (shX 2 a.m (c % t).toNat), shX 2 a.m (c % t).toNat, 0#64, full, a.c.sshiftRight (c % t).toNat, a.d.sshiftRight (c % t).toNat⟩)) w) := by
  have HN := Lib.hid (box3_new a b w)
  have hall := fun W => refall_num W
  have e1 := tmod_u c t
  obtain ⟨k, hk⟩ : ∃ k, c % t = k := ⟨_, rfl⟩
  rw [hk] at e1 ⊢
  have HK := Lib.hid hk
  clear hk
  obtain ⟨A, hA⟩ : ∃ A, allK = A := ⟨_, rfl⟩
  rw [hA] at hall
  have HA := Lib.hid hA
  clear hA
  unfold numV at hall
  unfold Gives numV
  go_enter Try.func22, Try.ntmps22
  go_upto_region 1 with fail
  generalize World.alloc _ _ = W0 at HN ⊢
  go_upto_region 2 with (go_at_call 13; refine (hall _).mono ?_; rintro e w1 ⟨rfl, hb⟩; have HB := Lib.hid (rr_new HN.out hb A); clear hb)
  generalize w1.alloc _ = W at HB ⊢
  generalize w1.heap.size = m at HB ⊢
  clear hall HN w1 W0
  have hkk := hk0
  rw [HK.out] at hkk
  clear hk0
  have k1 := i64k hkk
  have k2 := w64k hkk
  have k3 := u_bd k
  have htw := fun W => shift_ref2 a.v a.m k W
  rw [Nat.mod_eq_of_lt hkk] at htw
  obtain ⟨tv, hv⟩ : ∃ t, pv (shX 2 a.v k.toNat) (shX 2 a.m k.toNat) = t := ⟨_, rfl⟩
  obtain ⟨tm, hm⟩ : ∃ t, shX 2 a.m k.toNat = t := ⟨_, rfl⟩
  rw [hv, hm] at htw
  have HT := Lib.hid hv
  have HM := Lib.hid hm
  clear hv hm
  unfold tnV at htw
  obtain ⟨p0, p1, p2, p3, p4, p5⟩ := num_cells HB.out.1.1
  obtain ⟨q0, q1, q2, q3, q4, q5⟩ := num_cells HB.out.1.2.1
  go_upto_region 63 with (go_at_call 45; refine (htw _).mono ?_; rintro e w2 ⟨rfl, hb⟩; have HC := Lib.hid (rr_keep HB.out hb); clear hb; clear p0 p1 p2 p3 p4 p5 q0 q1 q2 q3 q4 q5; obtain ⟨r0, r1, r2, r3, r4, r5⟩ := num_cells HC.out.2.1; obtain ⟨f0, f1, f2, f3, f4, f5⟩ := num_free HC.out.2.1)
  have HD := Lib.hid (rr_vm HC.out tv tm)
  generalize World.setCell _ _ _ = W2 at HD ⊢
  clear r0 r1 r2 r3 r4 r5 f0 f1 f2 f3 f4 f5
  clear htw HC w2
  obtain ⟨R1, hN1⟩ : ∃ q, (⟨tv, tm, A.a, A.b, A.c, A.d⟩ : K) = q := ⟨_, rfl⟩
  rw [hN1] at HD
  clear HB
  have HB := HD
  clear HD
  have hd1 := fun W => do_refC 192 true a.c k W
  have hd2 := fun W => do_refC 192 true a.d k W
  rw [sar_doB hkk, show isOp 192 = true from rfl] at hd1 hd2
  obtain ⟨X, hX⟩ : ∃ X, a.c.sshiftRight k.toNat = X := ⟨_, rfl⟩
  obtain ⟨Y, hY⟩ : ∃ Y, a.d.sshiftRight k.toNat = Y := ⟨_, rfl⟩
  rw [hX] at hd1
  rw [hY] at hd2
  have HX := Lib.hid hX
  have HY := Lib.hid hY
  clear hX hY
  obtain ⟨p0, p1, p2, p3, p4, p5⟩ := num_cells HB.out.1.1
  obtain ⟨q0, q1, q2, q3, q4, q5⟩ := num_cells HB.out.1.2.1
  go_upto_region 64 with (go_at_call 10; refine (hd1 _).mono ?_; rintro e w9 ⟨rfl, rfl⟩)
  go_upto_region 65 with (go_at_call 10; refine (hd2 _).mono ?_; rintro e w9 ⟨rfl, rfl⟩)
  clear p0 p1 p2 p3 p4 p5 q0 q1 q2 q3 q4 q5
  obtain ⟨r0, r1, r2, r3, r4, r5⟩ := num_cells HB.out.2.1
  obtain ⟨f0, f1, f2, f3, f4, f5⟩ := num_free HB.out.2.1
  obtain ⟨p0, p1, p2, p3, p4, p5⟩ := num_cells HB.out.1.1
  obtain ⟨q0, q1, q2, q3, q4, q5⟩ := num_cells HB.out.1.2.1
  go_upto_region 66 with fail
  have HD := Lib.hid (rr_c HB.out (X))
  generalize World.setCell _ _ _ = W3 at HD ⊢
  clear p0 p1 p2 p3 p4 p5 q0 q1 q2 q3 q4 q5
  clear r0 r1 r2 r3 r4 r5 f0 f1 f2 f3 f4 f5
  obtain ⟨R2, hN2⟩ : ∃ q, (⟨R1.v, R1.m, R1.a, R1.b, X, R1.d⟩ : K) = q := ⟨_, rfl⟩
  rw [hN2] at HD
  clear HB
  have HB := HD
  clear HD
  obtain ⟨r0, r1, r2, r3, r4, r5⟩ := num_cells HB.out.2.1
  obtain ⟨f0, f1, f2, f3, f4, f5⟩ := num_free HB.out.2.1
  obtain ⟨p0, p1, p2, p3, p4, p5⟩ := num_cells HB.out.1.1
  obtain ⟨q0, q1, q2, q3, q4, q5⟩ := num_cells HB.out.1.2.1
  go_upto_region 67 with fail
  have HD := Lib.hid (rr_d HB.out (Y))
  generalize World.setCell _ _ _ = W3 at HD ⊢
  clear p0 p1 p2 p3 p4 p5 q0 q1 q2 q3 q4 q5
  clear r0 r1 r2 r3 r4 r5 f0 f1 f2 f3 f4 f5
  obtain ⟨R3, hN3⟩ : ∃ q, (⟨R2.v, R2.m, R2.a, R2.b, R2.c, Y⟩ : K) = q := ⟨_, rfl⟩
  rw [hN3] at HD
  clear HB
  have HB := HD
  clear HD
  obtain ⟨r0, r1, r2, r3, r4, r5⟩ := num_cells HB.out.2.1
  obtain ⟨f0, f1, f2, f3, f4, f5⟩ := num_free HB.out.2.1
  obtain ⟨g0, g1, g2, g3, g4, g5⟩ := num_free HB.out.1.2.2.1
  obtain ⟨z0, z1, z2, z3, z4, z5⟩ := num_cells HB.out.1.2.2.1
  go_wp2
  have HZ := Lib.hid (rr_out HB.out R3)
  generalize World.setCell _ _ _ = WZ at HZ ⊢
  clear z0 z1 z2 z3 z4 z5
  obtain ⟨z0, z1, z2, z3, z4, z5⟩ := num_cells HZ.out.1
  exact bodyPost_ret (v := numV R3) (by unfold numV; simp [results, Try.results22, go_sem, z0, z1, z2, z3, z4, z5]) rfl ⟨by subst hN1; subst hN2; subst hN3; rw [← HA.out, ← HT.out, ← HM.out, ← HX.out, ← HY.out]; rfl, HZ.out.2⟩
end Go.Proofs.Ytogadmlnmcojpaa

/-
  Proved here: rows of the document's answer for package xfer: all. Conditions: none.
-/
namespace Go.Proofs.Ytogadmlnmcojpaa
open Go.RowKit
attribute [local go_sem] u_and u_or u_xor u_andNot u_add u_sub s_conv u_conv
theorem rr_lsh (a b : K) (c t : B64) (one : Bool) (w : World) (ht : ¬ u t = 0) (hk : (c % t).toNat < 64) : Calls Try.prog 22 #[.int .u8 96, numV a, numV b, .int .u64 (u c), .bool one, .int .u64 (u t)] w (Gives (numV (rowLsh a one (c % t).toNat)) w) := by
  unfold rowLsh
  cases one
  · rw [if_neg Bool.false_ne_true]; exact rr_lsh_o a b c t w ht
  · rw [if_pos rfl]
    unfold lshU
    by_cases h1 : u (c % t) = 0
    · have e : (c % t).toNat = 0 := by unfold u at h1; omega
      have h2 : u a.b < 2 ^ (64 - (c % t).toNat) := by
        have hb := u_bd a.b
        rw [e]
        have : (2 : Int) ^ (64 - 0) = 18446744073709551616 := by decide
        omega
      rw [decide_eq_true h2, if_pos rfl, if_pos rfl]
      exact rr_lsh_z a b c t w ht hk h1
    · by_cases h2 : u a.b < 2 ^ (64 - (c % t).toNat)
      · rw [decide_eq_true h2, if_pos rfl, if_pos rfl]; exact rr_lsh_y a b c t w ht hk h1 h2
      · rw [decide_eq_false h2, if_neg Bool.false_ne_true, if_neg Bool.false_ne_true]; exact rr_lsh_n a b c t w ht hk h1 h2
theorem rr_rsh (a b : K) (c t : B64) (one : Bool) (w : World) (ht : ¬ u t = 0) (hk : (c % t).toNat < 64) : Calls Try.prog 22 #[.int .u8 112, numV a, numV b, .int .u64 (u c), .bool one, .int .u64 (u t)] w (Gives (numV (rowRsh a one (c % t).toNat)) w) := by
  unfold rowRsh
  cases one
  · rw [if_neg Bool.false_ne_true]; exact rr_rsh_o a b c t w ht
  · rw [if_pos rfl]; exact rr_rsh_y a b c t w ht hk
theorem rr_arsh (a b : K) (c t : B64) (one : Bool) (w : World) (ht : ¬ u t = 0) (hk : (c % t).toNat < 64) (h1 : ¬ u t < 64) : Calls Try.prog 22 #[.int .u8 192, numV a, numV b, .int .u64 (u c), .bool one, .int .u64 (u t)] w (Gives (numV (rowArsh a one true (c % t).toNat)) w) := by
  unfold rowArsh
  rw [if_neg (by decide)]
  cases one
  · rw [if_neg Bool.false_ne_true]
    unfold minS maxS
    rw [s_00]
    rw [show (~~~0#64 : B64) = full from rfl, s_m1]
    by_cases h2 : 0 < s a.c
    · rw [if_pos h2]
      by_cases h3 : s a.d < -1
      · rw [if_pos h3]; exact rr_arsh_o0 a b c t w ht h1 h2 h3
      · rw [if_neg h3]; exact rr_arsh_o1 a b c t w ht h1 h2 h3
    · rw [if_neg h2]
      by_cases h3 : s a.d < -1
      · rw [if_pos h3]; exact rr_arsh_o2 a b c t w ht h1 h2 h3
      · rw [if_neg h3]; exact rr_arsh_o3 a b c t w ht h1 h2 h3
  · rw [if_pos rfl]; exact rr_arsh_y a b c t w ht hk h1
set_option maxRecDepth 100000 in
set_option maxHeartbeats 8000000 in
theorem rr_neg (a b : K) (c t : B64) (one : Bool) (w : World) (ht : ¬ u t = 0) : Calls Try.prog 22 #[.int .u8 128, numV a, numV b, .int .u64 (u c), .bool one, .int .u64 (u t)] w (Gives (numV (rowSub (oneK 0#64) a)) w) := by
  have HN := Lib.hid (box3_new a b w)
  have hall := fun W => refall_num W
  have e1 := tmod_u c t
  have hcz := fun W => refconst_num 0#64 W
  have hsu := fun W => rr_sub (oneK 0#64) a 0#64 t false W ht
  rw [u_0] at hcz hsu
  obtain ⟨O, hO⟩ : ∃ q, oneK 0#64 = q := ⟨_, rfl⟩
  rw [hO] at hcz hsu ⊢
  obtain ⟨r, hr⟩ : ∃ q, rowSub O a = q := ⟨_, rfl⟩
  rw [hr] at hsu ⊢
  clear hO hr
  unfold numV at hcz hsu
  obtain ⟨k, hk⟩ : ∃ k, c % t = k := ⟨_, rfl⟩
  rw [hk] at e1
  have HK := Lib.hid hk
  clear hk
  obtain ⟨A, hA⟩ : ∃ A, allK = A := ⟨_, rfl⟩
  rw [hA] at hall
  clear hA
  unfold numV at hall
  unfold Gives numV
  go_enter Try.func22, Try.ntmps22
  go_upto_region 1 with fail
  generalize World.alloc _ _ = W0 at HN ⊢
  go_upto_region 2 with (go_at_call 13; refine (hall _).mono ?_; rintro e w1 ⟨rfl, hb⟩; have HB := Lib.hid (rr_new HN.out hb A); clear hb)
  generalize w1.alloc _ = W at HB ⊢
  generalize w1.heap.size = m at HB ⊢
  clear hall HN w1 W0
  obtain ⟨p0, p1, p2, p3, p4, p5⟩ := num_cells HB.out.1.1
  obtain ⟨q0, q1, q2, q3, q4, q5⟩ := num_cells HB.out.1.2.1
  go_upto_region 75 with fail
  have H3 := Lib.hid (rr_drew HB.out)
  go_region_with (first
    | (go_at_call 11; refine (hcz _).mono ?_; rintro e w7 ⟨rfl, hb⟩; replace H3 := Lib.hid (rr_keep H3.out hb); clear hb p0 p1 p2 p3 p4 p5; obtain ⟨p0, p1, p2, p3, p4, p5⟩ := num_cells H3.out.1.1)
    | (go_at_call 22; refine (hsu _).mono ?_; rintro e w8 ⟨rfl, hb⟩; replace H3 := Lib.hid (rr_keep H3.out hb); clear hb; obtain ⟨f0, f1, f2, f3, f4, f5⟩ := num_free H3.out.1.2.2.1; obtain ⟨z0, z1, z2, z3, z4, z5⟩ := num_cells H3.out.1.2.2.1))
  all_goals
    have HZ := Lib.hid (rr_out H3.out r)
    generalize World.setCell _ _ _ = WZ at HZ ⊢
    clear z0 z1 z2 z3 z4 z5
    obtain ⟨z0, z1, z2, z3, z4, z5⟩ := num_cells HZ.out.1
    go_wp2
    exact bodyPost_ret (v := numV r) (by unfold numV; simp [results, Try.results22, go_sem, z0, z1, z2, z3, z4, z5]) rfl ⟨rfl, HZ.out.2⟩
theorem u_64' : u 64#64 = 64 := rfl
theorem u_32' : u 32#64 = 32 := rfl
theorem nz64 : ¬ u 64#64 = 0 := by decide
theorem nz32 : ¬ u 32#64 = 0 := by decide
theorem ge64 : ¬ u 64#64 < 64 := by decide
theorem lt32 : u 32#64 < 64 := by decide
theorem k_64 (c : B64) : (c % 64#64).toNat < 64 := by
  rw [BitVec.toNat_umod]
  exact Nat.mod_lt _ (by decide)
theorem k_32 (c : B64) : (c % 32#64).toNat < 64 := by
  rw [BitVec.toNat_umod]
  exact Nat.lt_of_lt_of_le (Nat.mod_lt _ (by decide)) (by decide)
theorem kt_64 (c : B64) : (c % 64#64).toNat = c.toNat % tn true := by rw [BitVec.toNat_umod]; rfl
theorem kt_32 (c : B64) : (c % 32#64).toNat = c.toNat % tn false := by rw [BitVec.toNat_umod]; rfl
theorem row_w (op : Int) (a b : K) (c : B64) (one : Bool) (w : World) (hop : isOp op = true) : Calls Try.prog 22 #[.int .u8 op, numV a, numV b, .int .u64 (u c), .bool one, .int .u64 64] w (Gives (numV (rowK op a b one true c)) w) := by
  rw [← u_64']
  simp only [isOp, Bool.or_eq_true, beq_iff_eq, or_assoc] at hop
  obtain rfl | rfl | rfl | rfl | rfl | rfl | rfl | rfl | rfl | rfl | rfl | rfl | rfl := hop
  · rw [show rowK 0 a b one true c = rowAdd a b from (by unfold rowK; rw [if_pos rfl])]; exact rr_add a b c 64#64 one w nz64
  · rw [show rowK 16 a b one true c = rowSub a b from (by unfold rowK; rw [if_neg (by decide), if_pos rfl])]; exact rr_sub a b c 64#64 one w nz64
  · rw [show rowK 32 a b one true c = rowMul a b from (by unfold rowK; rw [if_neg (by decide), if_neg (by decide), if_pos rfl])]; exact rr_mul a b c 64#64 one w nz64
  · rw [show rowK 48 a b one true c = rowDiv a one c from (by unfold rowK; rw [if_neg (by decide), if_neg (by decide), if_neg (by decide), if_pos rfl])]; exact rr_div a b c 64#64 one w nz64
  · rw [show rowK 64 a b one true c = rowOr a b from (by unfold rowK; rw [if_neg (by decide), if_neg (by decide), if_neg (by decide), if_neg (by decide), if_pos rfl])]; exact rr_or a b c 64#64 one w nz64
  · rw [show rowK 80 a b one true c = rowAnd a b from (by unfold rowK; rw [if_neg (by decide), if_neg (by decide), if_neg (by decide), if_neg (by decide), if_neg (by decide), if_pos rfl])]; exact rr_and a b c 64#64 one w nz64
  · rw [show rowK 96 a b one true c = rowLsh a one (c.toNat % tn true) from (by unfold rowK; rw [if_neg (by decide), if_neg (by decide), if_neg (by decide), if_neg (by decide), if_neg (by decide), if_neg (by decide), if_pos rfl]), ← kt_64]; exact rr_lsh a b c 64#64 one w nz64 (k_64 c)
  · rw [show rowK 112 a b one true c = rowRsh a one (c.toNat % tn true) from (by unfold rowK; rw [if_neg (by decide), if_neg (by decide), if_neg (by decide), if_neg (by decide), if_neg (by decide), if_neg (by decide), if_neg (by decide), if_pos rfl]), ← kt_64]; exact rr_rsh a b c 64#64 one w nz64 (k_64 c)
  · rw [show rowK 128 a b one true c = rowSub (oneK 0#64) a from (by unfold rowK; rw [if_neg (by decide), if_neg (by decide), if_neg (by decide), if_neg (by decide), if_neg (by decide), if_neg (by decide), if_neg (by decide), if_neg (by decide), if_pos rfl])]; exact rr_neg a b c 64#64 one w nz64
  · rw [show rowK 144 a b one true c = rowMod a one c from (by unfold rowK; rw [if_neg (by decide), if_neg (by decide), if_neg (by decide), if_neg (by decide), if_neg (by decide), if_neg (by decide), if_neg (by decide), if_neg (by decide), if_neg (by decide), if_pos rfl])]; exact rr_mod a b c 64#64 one w nz64
  · rw [show rowK 160 a b one true c = rowXor a b from (by unfold rowK; rw [if_neg (by decide), if_neg (by decide), if_neg (by decide), if_neg (by decide), if_neg (by decide), if_neg (by decide), if_neg (by decide), if_neg (by decide), if_neg (by decide), if_neg (by decide), if_pos rfl])]; exact rr_xor a b c 64#64 one w nz64
  · rw [show rowK 176 a b one true c = b from (by unfold rowK; rw [if_neg (by decide), if_neg (by decide), if_neg (by decide), if_neg (by decide), if_neg (by decide), if_neg (by decide), if_neg (by decide), if_neg (by decide), if_neg (by decide), if_neg (by decide), if_neg (by decide), if_pos rfl])]; exact rr_mov a b c 64#64 one w nz64
  · rw [show rowK 192 a b one true c = rowArsh a one true (c.toNat % tn true) from (by unfold rowK; rw [if_neg (by decide), if_neg (by decide), if_neg (by decide), if_neg (by decide), if_neg (by decide), if_neg (by decide), if_neg (by decide), if_neg (by decide), if_neg (by decide), if_neg (by decide), if_neg (by decide), if_neg (by decide), if_pos rfl]), ← kt_64]; exact rr_arsh a b c 64#64 one w nz64 (k_64 c) ge64
theorem row_l (op : Int) (a b : K) (c : B64) (one : Bool) (w : World) (hop : isOp op = true) : Calls Try.prog 22 #[.int .u8 op, numV a, numV b, .int .u64 (u c), .bool one, .int .u64 32] w (Gives (numV (rowK op a b one false c)) w) := by
  rw [← u_32']
  simp only [isOp, Bool.or_eq_true, beq_iff_eq, or_assoc] at hop
  obtain rfl | rfl | rfl | rfl | rfl | rfl | rfl | rfl | rfl | rfl | rfl | rfl | rfl := hop
  · rw [show rowK 0 a b one false c = rowAdd a b from (by unfold rowK; rw [if_pos rfl])]; exact rr_add a b c 32#64 one w nz32
  · rw [show rowK 16 a b one false c = rowSub a b from (by unfold rowK; rw [if_neg (by decide), if_pos rfl])]; exact rr_sub a b c 32#64 one w nz32
  · rw [show rowK 32 a b one false c = rowMul a b from (by unfold rowK; rw [if_neg (by decide), if_neg (by decide), if_pos rfl])]; exact rr_mul a b c 32#64 one w nz32
  · rw [show rowK 48 a b one false c = rowDiv a one c from (by unfold rowK; rw [if_neg (by decide), if_neg (by decide), if_neg (by decide), if_pos rfl])]; exact rr_div a b c 32#64 one w nz32
  · rw [show rowK 64 a b one false c = rowOr a b from (by unfold rowK; rw [if_neg (by decide), if_neg (by decide), if_neg (by decide), if_neg (by decide), if_pos rfl])]; exact rr_or a b c 32#64 one w nz32
  · rw [show rowK 80 a b one false c = rowAnd a b from (by unfold rowK; rw [if_neg (by decide), if_neg (by decide), if_neg (by decide), if_neg (by decide), if_neg (by decide), if_pos rfl])]; exact rr_and a b c 32#64 one w nz32
  · rw [show rowK 96 a b one false c = rowLsh a one (c.toNat % tn false) from (by unfold rowK; rw [if_neg (by decide), if_neg (by decide), if_neg (by decide), if_neg (by decide), if_neg (by decide), if_neg (by decide), if_pos rfl]), ← kt_32]; exact rr_lsh a b c 32#64 one w nz32 (k_32 c)
  · rw [show rowK 112 a b one false c = rowRsh a one (c.toNat % tn false) from (by unfold rowK; rw [if_neg (by decide), if_neg (by decide), if_neg (by decide), if_neg (by decide), if_neg (by decide), if_neg (by decide), if_neg (by decide), if_pos rfl]), ← kt_32]; exact rr_rsh a b c 32#64 one w nz32 (k_32 c)
  · rw [show rowK 128 a b one false c = rowSub (oneK 0#64) a from (by unfold rowK; rw [if_neg (by decide), if_neg (by decide), if_neg (by decide), if_neg (by decide), if_neg (by decide), if_neg (by decide), if_neg (by decide), if_neg (by decide), if_pos rfl])]; exact rr_neg a b c 32#64 one w nz32
  · rw [show rowK 144 a b one false c = rowMod a one c from (by unfold rowK; rw [if_neg (by decide), if_neg (by decide), if_neg (by decide), if_neg (by decide), if_neg (by decide), if_neg (by decide), if_neg (by decide), if_neg (by decide), if_neg (by decide), if_pos rfl])]; exact rr_mod a b c 32#64 one w nz32
  · rw [show rowK 160 a b one false c = rowXor a b from (by unfold rowK; rw [if_neg (by decide), if_neg (by decide), if_neg (by decide), if_neg (by decide), if_neg (by decide), if_neg (by decide), if_neg (by decide), if_neg (by decide), if_neg (by decide), if_neg (by decide), if_pos rfl])]; exact rr_xor a b c 32#64 one w nz32
  · rw [show rowK 176 a b one false c = b from (by unfold rowK; rw [if_neg (by decide), if_neg (by decide), if_neg (by decide), if_neg (by decide), if_neg (by decide), if_neg (by decide), if_neg (by decide), if_neg (by decide), if_neg (by decide), if_neg (by decide), if_neg (by decide), if_pos rfl])]; exact rr_mov a b c 32#64 one w nz32
  · rw [show rowK 192 a b one false c = allK from (by unfold rowK; rw [if_neg (by decide), if_neg (by decide), if_neg (by decide), if_neg (by decide), if_neg (by decide), if_neg (by decide), if_neg (by decide), if_neg (by decide), if_neg (by decide), if_neg (by decide), if_neg (by decide), if_neg (by decide), if_pos rfl]; rfl)]; exact rr_arsh_w a b c 32#64 one w nz32 lt32
end Go.Proofs.Ytogadmlnmcojpaa

/-
  Proved here: what Do of the document's answer for package xfer tells. Conditions: an operation's number is a uint8.
-/
namespace Go.Proofs.Ytogadmlnmcojpaa
open Go.RowKit

theorem nfar {g h o : Nat} {k : K} {W : World} (hn : NumAt g k W) (hg : g ≠ h) (x : Value) : NumAt g k (W.setCell ⟨h, o, none⟩ x) := by
  unfold NumAt at *
  simp [World.setCell, Array.getElem?_modify, hn, Ne.symm hg]
theorem nfar6 {g h : Nat} {k : K} {W : World} (hn : NumAt g k W) (hg : g ≠ h) (x0 x1 x2 x3 x4 x5 : Value) : NumAt g k ((((((W.setCell ⟨h, 0, none⟩ x0).setCell ⟨h, 1, none⟩ x1).setCell ⟨h, 2, none⟩ x2).setCell ⟨h, 3, none⟩ x3).setCell ⟨h, 4, none⟩ x4).setCell ⟨h, 5, none⟩ x5) :=
  nfar (nfar (nfar (nfar (nfar (nfar hn hg _) hg _) hg _) hg _) hg _) hg _
theorem box3_a {w0 W : World} {a b z : K} (h : Box3 w0 a b z W) (q : K) : Box3 w0 q b z ((((((W.setCell ⟨w0.heap.size, 0, none⟩ (.int .u64 (u q.v))).setCell ⟨w0.heap.size, 1, none⟩ (.int .u64 (u q.m))).setCell ⟨w0.heap.size, 2, none⟩ (.int .u64 (u q.a))).setCell ⟨w0.heap.size, 3, none⟩ (.int .u64 (u q.b))).setCell ⟨w0.heap.size, 4, none⟩ (.int .i64 (s q.c))).setCell ⟨w0.heap.size, 5, none⟩ (.int .i64 (s q.d))) :=
  ⟨num_six h.1 q, nfar6 h.2.1 (by omega) _ _ _ _ _ _, nfar6 h.2.2.1 (by omega) _ _ _ _ _ _, below_six h.2.2.2 _ _ _ _ _ _⟩
theorem box3_b {w0 W : World} {a b z : K} (h : Box3 w0 a b z W) (q : K) : Box3 w0 a q z ((((((W.setCell ⟨w0.heap.size + 1, 0, none⟩ (.int .u64 (u q.v))).setCell ⟨w0.heap.size + 1, 1, none⟩ (.int .u64 (u q.m))).setCell ⟨w0.heap.size + 1, 2, none⟩ (.int .u64 (u q.a))).setCell ⟨w0.heap.size + 1, 3, none⟩ (.int .u64 (u q.b))).setCell ⟨w0.heap.size + 1, 4, none⟩ (.int .i64 (s q.c))).setCell ⟨w0.heap.size + 1, 5, none⟩ (.int .i64 (s q.d))) :=
  ⟨nfar6 h.1 (by omega) _ _ _ _ _ _, num_six h.2.1 q, nfar6 h.2.2.1 (by omega) _ _ _ _ _ _, h.2.2.2.trans ((below_six (Below.refl (w0.heap.size + 1) W) _ _ _ _ _ _).mono (by omega))⟩
theorem box3_z {w0 W : World} {a b z : K} (h : Box3 w0 a b z W) (q : K) : NumAt (w0.heap.size + 2) q ((((((W.setCell ⟨w0.heap.size + 2, 0, none⟩ (.int .u64 (u q.v))).setCell ⟨w0.heap.size + 2, 1, none⟩ (.int .u64 (u q.m))).setCell ⟨w0.heap.size + 2, 2, none⟩ (.int .u64 (u q.a))).setCell ⟨w0.heap.size + 2, 3, none⟩ (.int .u64 (u q.b))).setCell ⟨w0.heap.size + 2, 4, none⟩ (.int .i64 (s q.c))).setCell ⟨w0.heap.size + 2, 5, none⟩ (.int .i64 (s q.d))) ∧ Below w0.heap.size w0 ((((((W.setCell ⟨w0.heap.size + 2, 0, none⟩ (.int .u64 (u q.v))).setCell ⟨w0.heap.size + 2, 1, none⟩ (.int .u64 (u q.m))).setCell ⟨w0.heap.size + 2, 2, none⟩ (.int .u64 (u q.a))).setCell ⟨w0.heap.size + 2, 3, none⟩ (.int .u64 (u q.b))).setCell ⟨w0.heap.size + 2, 4, none⟩ (.int .i64 (s q.c))).setCell ⟨w0.heap.size + 2, 5, none⟩ (.int .i64 (s q.d))) :=
  ⟨num_six h.2.2.1 q, h.2.2.2.trans ((below_six (Below.refl (w0.heap.size + 2) W) _ _ _ _ _ _).mono (by omega))⟩
theorem op_yes {op : Int} (h : isOp op = true) : op.tmod 16 = 0 ∧ ¬ 192 < op := by
  simp only [isOp, Bool.or_eq_true, beq_iff_eq, or_assoc] at h
  obtain rfl | rfl | rfl | rfl | rfl | rfl | rfl | rfl | rfl | rfl | rfl | rfl | rfl := h <;> decide
theorem op_no_table : ∀ n : Fin 256, (isOp (n.val : Int) || !((n.val : Int).tmod 16 == 0) || decide (192 < (n.val : Int))) = true := by decide +kernel
theorem op_no {op : Int} (h0 : 0 ≤ op) (h1 : op ≤ 255) (h : isOp op = false) : ¬ op.tmod 16 = 0 ∨ 192 < op := by
  obtain ⟨m, rfl⟩ := Int.eq_ofNat_of_zero_le h0
  have := op_no_table ⟨m, by omega⟩
  rw [h, Bool.false_or, Bool.or_eq_true, decide_eq_true_eq, Bool.not_eq_true', beq_eq_false_iff_ne] at this
  exact this
theorem ob_eq (b : K) : (u b.m == 0) = oneB b := by
  rw [← u_0, u_beq]
  unfold oneB
  by_cases h : b.m = 0#64
  · rw [h]; rfl
  · rw [decide_eq_false h]; simpa using h
theorem ob_dec (b : K) : decide (u b.m = 0) = oneB b := by
  unfold oneB
  rw [decide_eq_decide]
  exact m_zero b
theorem do8_no (op : Int) (wide : Bool) (a b : K) (w : World) (h : ¬ op.tmod 16 = 0 ∨ (op.tmod 16 = 0 ∧ 192 < op)) : Calls Try.prog 8 #[.int .u8 op, .bool wide, numV a, numV b] w (Gives (.tuple #[numV allK, .bool false]) w) := by
  have HN := Lib.hid (box3_new a b w)
  have hall := fun W => refall_num W
  obtain ⟨r, hr⟩ : ∃ r, allK = r := ⟨_, rfl⟩
  rw [hr] at hall ⊢
  clear hr
  obtain ⟨o, ho⟩ : ∃ o, op.tmod 16 = o := ⟨_, rfl⟩
  rw [ho] at h
  unfold numV at hall
  unfold Gives numV
  rcases h with h | ⟨rfl, h⟩
  all_goals
    go_enter Try.func8, Try.ntmps8
    go_upto_region 1 with fail
    generalize World.alloc _ _ = W0 at HN ⊢
    go_wp2_with (go_at_call 13; refine (hall _).mono ?_; rintro e w1 ⟨rfl, hb⟩; have H1 := Lib.hid (box3_far HN.out hb); clear hb; obtain ⟨f0, f1, f2, f3, f4, f5⟩ := num_free H1.out.2.2.1; obtain ⟨z0, z1, z2, z3, z4, z5⟩ := num_cells H1.out.2.2.1)
    have HZ := Lib.hid (box3_z H1.out r)
    generalize World.setCell _ _ _ = WZ at HZ ⊢
    clear z0 z1 z2 z3 z4 z5
    obtain ⟨z0, z1, z2, z3, z4, z5⟩ := num_cells HZ.out.1
    exact bodyPost_ret (v := .tuple #[numV r, .bool false]) (by unfold numV; simp [results, Try.results8, go_sem, z0, z1, z2, z3, z4, z5]) rfl ⟨rfl, HZ.out.2⟩
theorem do8_ones (op : Int) (wide : Bool) (a b : K) (w : World) (hop : isOp op = true) (ha : oneB a = true) (hb : oneB b = true) : Calls Try.prog 8 #[.int .u8 op, .bool wide, numV a, numV b] w (Gives (.tuple #[numV (oneK (doB op wide a.v b.v)), .bool true]) w) := by
  have HN := Lib.hid (box3_new a b w)
  have hd := fun W => do_refB op wide a.v b.v W
  have hc := fun W => refconst_num (doB op wide a.v b.v) W
  rw [hop] at hd
  obtain ⟨z, hz⟩ : ∃ r, doB op wide a.v b.v = r := ⟨_, rfl⟩
  rw [hz] at hd hc ⊢
  obtain ⟨r, hr⟩ : ∃ r, oneK z = r := ⟨_, rfl⟩
  rw [hr] at hc ⊢
  clear hr hz
  obtain ⟨o1, o2⟩ := op_yes hop
  have ea : u a.m = 0 := (m_zero a).2 (by unfold oneB at ha; exact of_decide_eq_true ha)
  have eb : u b.m = 0 := (m_zero b).2 (by unfold oneB at hb; exact of_decide_eq_true hb)
  have HEA := Lib.hid ea
  have HEB := Lib.hid eb
  clear hop ha hb ea eb
  unfold numV at hc
  unfold Gives numV
  go_enter Try.func8, Try.ntmps8
  go_upto_region 1 with fail
  generalize World.alloc _ _ = W0 at HN ⊢
  obtain ⟨a0, a1, a2, a3, a4, a5⟩ := num_cells HN.out.1
  obtain ⟨b0, b1, b2, b3, b4, b5⟩ := num_cells HN.out.2.1
  rw [HEA.out] at a1
  rw [HEB.out] at b1
  go_wp2_with (first
    | (go_at_call 10; refine (hd _).mono ?_; rintro e w1 ⟨rfl, rfl⟩)
    | (go_at_call 11; refine (hc _).mono ?_; rintro e w2 ⟨rfl, hb⟩; have H1 := Lib.hid (box3_far HN.out hb); clear hb; obtain ⟨f0, f1, f2, f3, f4, f5⟩ := num_free H1.out.2.2.1; obtain ⟨z0, z1, z2, z3, z4, z5⟩ := num_cells H1.out.2.2.1))
  have HZ := Lib.hid (box3_z H1.out r)
  generalize World.setCell _ _ _ = WZ at HZ ⊢
  clear z0 z1 z2 z3 z4 z5
  obtain ⟨z0, z1, z2, z3, z4, z5⟩ := num_cells HZ.out.1
  exact bodyPost_ret (v := .tuple #[numV r, .bool true]) (by unfold numV; simp [results, Try.results8, go_sem, z0, z1, z2, z3, z4, z5]) rfl ⟨rfl, HZ.out.2⟩
set_option maxHeartbeats 8000000 in
theorem do8_wide (op : Int) (R : K) (a b : K) (w : World) (hop : isOp op = true) (hn : (oneB a && oneB b) = false)
    (hrow : ∀ W, Calls Try.prog 22 #[.int .u8 op, numV a, numV b, .int .u64 (u b.v), .bool (oneB b), .int .u64 64] W (Gives (numV R) W)) :
    Calls Try.prog 8 #[.int .u8 op, .bool true, numV a, numV b] w (Gives (.tuple #[numV R.fine, .bool true]) w) := by
  have HN := Lib.hid (box3_new a b w)
  have hrf := fun W => reffine_num R W
  obtain ⟨r, hr⟩ : ∃ r, R.fine = r := ⟨_, rfl⟩
  obtain ⟨o, ho⟩ : ∃ r, R.okF = r := ⟨_, rfl⟩
  rw [hr, ho] at hrf
  rw [hr]
  clear hr ho
  obtain ⟨o1, o2⟩ := op_yes hop
  have ea1 := ob_eq a
  have ea2 := ob_dec a
  have eb1 := ob_eq b
  have eb2 := ob_dec b
  obtain ⟨oa, hoa⟩ : ∃ o, oneB a = o := ⟨_, rfl⟩
  obtain ⟨ob, hob⟩ : ∃ o, oneB b = o := ⟨_, rfl⟩
  rw [hoa] at ea1 ea2 hn
  rw [hob] at eb1 eb2 hn hrow
  clear hop hoa hob
  unfold numV at hrow hrf
  unfold Gives numV
  cases oa
  all_goals
    first | (rw [Bool.true_and] at hn; subst hn) | clear hn
    go_enter Try.func8, Try.ntmps8
    go_upto_region 1 with fail
    generalize World.alloc _ _ = W0 at HN ⊢
    obtain ⟨a0, a1, a2, a3, a4, a5⟩ := num_cells HN.out.1
    obtain ⟨b0, b1, b2, b3, b4, b5⟩ := num_cells HN.out.2.1
    go_upto_region 12 with (first
      | (go_at_call 22; refine (hrow _).mono ?_; rintro e w1 ⟨rfl, hb⟩; have H1 := Lib.hid (box3_far HN.out hb); clear hb)
      | (go_at_call 12; refine (hrf _).mono ?_; rintro e w2 ⟨rfl, hb⟩; have H2 := Lib.hid (show Box3 w a b zeroK _ ∧ NumAt w2.heap.size r _ from ⟨box3_far (box3_far H1.out hb) (below_box w2 (.cells #[.int .u64 (u r.v), .int .u64 (u r.m), .int .u64 (u r.a), .int .u64 (u r.b), .int .i64 (s r.c), .int .i64 (s r.d)] 26)), num_new r w2⟩); clear hb))
    generalize World.alloc _ _ = W3 at H2 ⊢
    generalize w2.heap.size = g at H2 ⊢
    obtain ⟨c0, c1, c2, c3, c4, c5⟩ := num_cells H2.out.2
    obtain ⟨f0, f1, f2, f3, f4, f5⟩ := num_free H2.out.1.2.2.1
    obtain ⟨z0, z1, z2, z3, z4, z5⟩ := num_cells H2.out.1.2.2.1
    go_wp2
    have HZ := Lib.hid (box3_z H2.out.1 r)
    generalize World.setCell _ _ _ = WZ at HZ ⊢
    clear z0 z1 z2 z3 z4 z5
    obtain ⟨z0, z1, z2, z3, z4, z5⟩ := num_cells HZ.out.1
    exact bodyPost_ret (v := .tuple #[numV r, .bool true]) (by unfold numV; simp [results, Try.results8, go_sem, z0, z1, z2, z3, z4, z5]) rfl ⟨rfl, HZ.out.2⟩
set_option maxHeartbeats 8000000 in
theorem do8_low (op : Int) (R : K) (a b : K) (w : World) (hop : isOp op = true) (hn : (oneB a && oneB b) = false)
    (hrow : ∀ W, Calls Try.prog 22 #[.int .u8 op, numV (a.cutK 4), numV (b.cutK 4), .int .u64 (u (b.cutK 4).v), .bool (oneB (b.cutK 4)), .int .u64 32] W (Gives (numV R) W)) :
    Calls Try.prog 8 #[.int .u8 op, .bool false, numV a, numV b] w (Gives (.tuple #[numV (R.fine.cutK 4), .bool true]) w) := by
  have HN := Lib.hid (box3_new a b w)
  have hrf := fun W => reffine_num R W
  obtain ⟨F, hF⟩ : ∃ r, R.fine = r := ⟨_, rfl⟩
  obtain ⟨o, ho⟩ : ∃ r, R.okF = r := ⟨_, rfl⟩
  rw [hF, ho] at hrf
  rw [hF]
  have hcF := fun W => cutK_ref F W
  obtain ⟨r, hr⟩ : ∃ r, F.cutK 4 = r := ⟨_, rfl⟩
  rw [hr] at hcF ⊢
  clear hF ho hr
  have hca := fun W => cutK_ref a W
  have hcb := fun W => cutK_ref b W
  obtain ⟨a4, h4⟩ : ∃ r, a.cutK 4 = r := ⟨_, rfl⟩
  obtain ⟨b4, h5⟩ : ∃ r, b.cutK 4 = r := ⟨_, rfl⟩
  rw [h4] at hca hrow
  rw [h5] at hcb hrow
  clear h4 h5
  obtain ⟨o1, o2⟩ := op_yes hop
  have ea1 := ob_eq a
  have ea2 := ob_dec a
  have eb1 := ob_eq b
  have eb2 := ob_dec b
  have ec1 := ob_eq b4
  have ec2 := ob_dec b4
  obtain ⟨oa, hoa⟩ : ∃ o, oneB a = o := ⟨_, rfl⟩
  obtain ⟨ob, hob⟩ : ∃ o, oneB b = o := ⟨_, rfl⟩
  obtain ⟨oc, hoc⟩ : ∃ o, oneB b4 = o := ⟨_, rfl⟩
  rw [hoa] at ea1 ea2 hn
  rw [hob] at eb1 eb2 hn
  rw [hoc] at ec1 ec2 hrow
  clear hop hoa hob hoc
  unfold numV at hrow hrf hca hcb hcF
  unfold Gives numV
  cases oa
  all_goals
    first | (rw [Bool.true_and] at hn; subst hn) | clear hn
    go_enter Try.func8, Try.ntmps8
    go_upto_region 1 with fail
    generalize World.alloc _ _ = W0 at HN ⊢
    obtain ⟨a0, a1, a2, a3, a4', a5⟩ := num_cells HN.out.1
    obtain ⟨b0, b1, b2, b3, b4', b5⟩ := num_cells HN.out.2.1
    go_upto_region 9 with (go_at_call 21; refine (hca _).mono ?_; rintro e w1 ⟨rfl, hb⟩; have H1 := Lib.hid (box3_far HN.out hb); clear hb a0 a1 a2 a3 a4' a5 b0 b1 b2 b3 b4' b5; obtain ⟨a0, a1, a2, a3, a4', a5⟩ := num_cells H1.out.1; obtain ⟨f0, f1, f2, f3, f4, f5⟩ := num_free H1.out.1)
    have H2 := Lib.hid (box3_a H1.out a4)
    generalize World.setCell _ _ _ = W2 at H2 ⊢
    clear H1 a0 a1 a2 a3 a4' a5 f0 f1 f2 f3 f4 f5 ea1 ea2 eb1 eb2
    obtain ⟨b0, b1, b2, b3, b4', b5⟩ := num_cells H2.out.2.1
    go_upto_region 10 with (go_at_call 21; refine (hcb _).mono ?_; rintro e w3 ⟨rfl, hb⟩; have H3 := Lib.hid (box3_far H2.out hb); clear hb b0 b1 b2 b3 b4' b5; obtain ⟨b0, b1, b2, b3, b4', b5⟩ := num_cells H3.out.2.1; obtain ⟨f0, f1, f2, f3, f4, f5⟩ := num_free H3.out.2.1)
    have H4 := Lib.hid (box3_b H3.out b4)
    generalize World.setCell _ _ _ = W4 at H4 ⊢
    clear H2 H3 b0 b1 b2 b3 b4' b5 f0 f1 f2 f3 f4 f5
    obtain ⟨a0, a1, a2, a3, a4', a5⟩ := num_cells H4.out.1
    obtain ⟨b0, b1, b2, b3, b4', b5⟩ := num_cells H4.out.2.1
    go_upto_region 12 with (first
      | (go_at_call 22; refine (hrow _).mono ?_; rintro e w5 ⟨rfl, hb⟩; have H5 := Lib.hid (box3_far H4.out hb); clear hb)
      | (go_at_call 12; refine (hrf _).mono ?_; rintro e w6 ⟨rfl, hb⟩; have H6 := Lib.hid (show Box3 w a4 b4 zeroK _ ∧ NumAt w6.heap.size F _ ∧ w.heap.size + 2 < w6.heap.size from ⟨box3_far (box3_far H5.out hb) (below_box w6 (.cells #[.int .u64 (u F.v), .int .u64 (u F.m), .int .u64 (u F.a), .int .u64 (u F.b), .int .i64 (s F.c), .int .i64 (s F.d)] 26)), num_new F w6, num_lt (box3_far H5.out hb).2.2.1⟩); clear hb))
    generalize World.alloc _ _ = W7 at H6 ⊢
    generalize w6.heap.size = g at H6 ⊢
    clear a0 a1 a2 a3 a4' a5 b0 b1 b2 b3 b4' b5
    obtain ⟨c0, c1, c2, c3, c4, c5⟩ := num_cells H6.out.2.1
    go_upto_region 14 with (go_at_call 21; refine (hcF _).mono ?_; rintro e w8 ⟨rfl, hb⟩; have H8 := Lib.hid (show Box3 w a4 b4 zeroK w8 ∧ NumAt g F w8 from ⟨box3_far H6.out.1 hb, num_keep H6.out.2.1 hb⟩); clear hb c0 c1 c2 c3 c4 c5; obtain ⟨c0, c1, c2, c3, c4, c5⟩ := num_cells H8.out.2; obtain ⟨f0, f1, f2, f3, f4, f5⟩ := num_free H8.out.2)
    have H9 := Lib.hid (show Box3 w a4 b4 zeroK _ ∧ NumAt g r _ from ⟨low_six H8.out.1 H6.out.2.2 (.int .u64 (u r.v)) (.int .u64 (u r.m)) (.int .u64 (u r.a)) (.int .u64 (u r.b)) (.int .i64 (s r.c)) (.int .i64 (s r.d)), num_six H8.out.2 r⟩)
    generalize World.setCell _ _ _ = W9 at H9 ⊢
    clear c0 c1 c2 c3 c4 c5 f0 f1 f2 f3 f4 f5 H8
    obtain ⟨c0, c1, c2, c3, c4, c5⟩ := num_cells H9.out.2
    obtain ⟨f0, f1, f2, f3, f4, f5⟩ := num_free H9.out.1.2.2.1
    obtain ⟨z0, z1, z2, z3, z4, z5⟩ := num_cells H9.out.1.2.2.1
    go_wp2
    have HZ := Lib.hid (box3_z H9.out.1 r)
    generalize World.setCell _ _ _ = WZ at HZ ⊢
    clear z0 z1 z2 z3 z4 z5
    obtain ⟨z0, z1, z2, z3, z4, z5⟩ := num_cells HZ.out.1
    exact bodyPost_ret (v := .tuple #[numV r, .bool true]) (by unfold numV; simp [results, Try.results8, go_sem, z0, z1, z2, z3, z4, z5]) rfl ⟨rfl, HZ.out.2⟩
end Go.Proofs.Ytogadmlnmcojpaa

/-
  Proved here: the law XferDoes returns true, of any two known and every operation. Conditions: an operation's number is a uint8.
-/
namespace Go.Proofs.Ytogadmlnmcojpaa
open Go.RowKit

theorem eql_num2 (a b c d e f : B64) (w : World) : (binOp .eql 26 (.agg #[.int .u64 (u a), .int .u64 (u b), .int .u64 (u c), .int .u64 (u d), .int .i64 (s e), .int .i64 (s f)]) (.agg #[.int .u64 (u a), .int .u64 (u b), .int .u64 (u c), .int .u64 (u d), .int .i64 (s e), .int .i64 (s f)])).run Try.prog w = .ok (.bool true) w := by
  simp [go_sem]
theorem refdo (op : Int) (wide : Bool) (a b : K) (w : World) (h0 : 0 ≤ op) (h1 : op ≤ 255) : Calls Try.prog 8 #[.int .u8 op, .bool wide, numV a, numV b] w (Gives (.tuple #[numV (kAll op wide a b), .bool (isOp op)]) w) := by
  unfold kAll
  cases hop : isOp op
  · rw [if_neg Bool.false_ne_true]
    refine do8_no op wide a b w ?_
    have := op_no h0 h1 hop
    by_cases h : op.tmod 16 = 0
    · right
      exact ⟨h, by rcases this with g | g; exact absurd h g; exact g⟩
    · left
      exact h
  · rw [if_pos rfl]
    cases hn : (oneB a && oneB b)
    · rw [kDo_no op wide hn]
      cases wide
      · simp only [inW_l]
        exact do8_low op _ a b w hop hn (fun W => row_l op _ _ _ _ W hop)
      · simp only [inW_w]
        exact do8_wide op _ a b w hop hn (fun W => row_w op _ _ _ _ W hop)
    · rw [kDo_yes op wide hn, cB_one (ones_both hn).1, cB_one (ones_both hn).2]
      exact do8_ones op wide a b w hop (ones_both hn).1 (ones_both hn).2
attribute [local go_sem ↓] eql_num2
attribute [local irreducible] s u
set_option maxHeartbeats 4000000 in
theorem law_doesx (op : Int) (wide : Bool) (a b : K) (w : World) (h0 : 0 ≤ op) (h1 : op ≤ 255) : Calls Try.prog 3 #[.int .u8 op, .bool wide, numV a, numV b] w (Gives (.bool true) w) := by
  have HP := Lib.hid (boxQ_new a b w)
  have hal := fun W => alive_x W
  have hx := fun W => xdo op wide a b W h0 h1
  have hy := fun W => refdo op wide a b W h0 h1
  obtain ⟨R, hR⟩ : ∃ R, kAll op wide a b = R := ⟨_, rfl⟩
  obtain ⟨o, ho⟩ : ∃ R, isOp op = R := ⟨_, rfl⟩
  rw [hR, ho] at hx hy
  clear hR ho h0 h1
  unfold numV at hx hy
  unfold Gives numV
  go_enter Try.func3, Try.ntmps3
  go_upto_region 3 with (go_at_call 6; refine (hal _).mono ?_; rintro e w1 ⟨rfl, hb⟩; have H1 := Lib.hid (boxQ_keep HP.out hb); clear hb)
  obtain ⟨a0, a1, a2, a3, a4, a5⟩ := num_cells H1.out.1
  obtain ⟨b0, b1, b2, b3, b4, b5⟩ := num_cells H1.out.2.1
  go_upto_region 4 with (go_at_call 7; refine (hx _).mono ?_; rintro e w2 ⟨rfl, hb⟩; have H2 := Lib.hid (show BoxQ w a b _ ∧ EB w w2.heap.size R _ from ⟨boxQ_keep (boxQ_keep H1.out hb) (below_box w2 (.cells #[.int .u64 (u R.v), .int .u64 (u R.m), .int .u64 (u R.a), .int .u64 (u R.b), .int .i64 (s R.c), .int .i64 (s R.d)] 26)), eb_new (boxQ_keep H1.out hb).2.2 R⟩); clear hb)
  generalize World.alloc _ _ = W2 at H2 ⊢
  generalize w2.heap.size = g at H2 ⊢
  clear H1 a0 a1 a2 a3 a4 a5 b0 b1 b2 b3 b4 b5
  obtain ⟨a0, a1, a2, a3, a4, a5⟩ := num_cells H2.out.1.1
  obtain ⟨b0, b1, b2, b3, b4, b5⟩ := num_cells H2.out.1.2.1
  go_upto_region 5 with (go_at_call 8; refine (hy _).mono ?_; rintro e w3 ⟨rfl, hb⟩; have H3 := Lib.hid (show EB w g R _ ∧ EB w w3.heap.size R _ from ⟨eb_keep (eb_keep H2.out.2 hb) (below_box w3 (.cells #[.int .u64 (u R.v), .int .u64 (u R.m), .int .u64 (u R.a), .int .u64 (u R.b), .int .i64 (s R.c), .int .i64 (s R.d)] 26)), eb_new (eb_keep H2.out.2 hb).2.2 R⟩); clear hb)
  generalize World.alloc _ _ = W3 at H3 ⊢
  generalize w3.heap.size = g2 at H3 ⊢
  clear H2 a0 a1 a2 a3 a4 a5 b0 b1 b2 b3 b4 b5
  obtain ⟨a0, a1, a2, a3, a4, a5⟩ := num_cells H3.out.1.1
  obtain ⟨b0, b1, b2, b3, b4, b5⟩ := num_cells H3.out.2.1
  go_wp2
  go_ret
  exact ⟨by first | rfl | simp | exact ret_bool (by simp), H3.out.1.2.2⟩
theorem xferDoes.walk (v0 v1 v2 v3 : Value) (w : World) (h0 : IsInt .u8 v0) (h1 : ∃ b : Bool, v1 = .bool b) (h2 : IsNum v2) (h3 : IsNum v3) :
    Calls Try.prog 3 #[v0, v1, v2, v3] w fun e w' => e = .returned (.bool true) ∧ Below w.heap.size w w' := by
  obtain ⟨op, rfl, ho⟩ := h0
  obtain ⟨wide, rfl⟩ := h1
  obtain ⟨a, rfl⟩ := h2
  obtain ⟨b, rfl⟩ := h3
  have b0 := bounds_u8 ho
  exact law_doesx op wide a b w b0.1 b0.2
end Go.Proofs.Ytogadmlnmcojpaa
