/-
  Proved here: what follows the call of holds in the document's Way of layer 9. Conditions: none.
-/
import Derived.Test.YtbljijbmjccalaaD1
import Derived.Test.YtbljijbmjccalaaD2
import Derived.Test.YtbljijbmjccalaaHRefHo5
import Derived.Test.YtbljijbmjccalaaD0
namespace Go.Proofs.Ytbljijbmjccalaa
open Go.RowKit Go.MapKept
attribute [local go_sem] u_and u_or u_xor u_andNot u_add u_sub s_conv u_conv max_u min_u max_s min_s u_inc u_less s_inc s_less s_inc64 s_less64
set_option linter.unusedSimpArgs false

set_option maxRecDepth 100000 in
set_option maxHeartbeats 8000000 in
theorem way_tail_true (x y c d : K) (o st : Int) (w W : World) (hc : ∀ W, Calls Try.prog 16 #[.int .u8 o, .int .i64 st, numV x, numV y] W (Gives (.tuple #[numV c, numV d, .bool true]) W)) (hx : HB4 w x y zeroK zeroK W) (next : Act → World → Prop) (hnext : ∀ a' w', (tl 7 (Try.f7.body.getD .skip)).wp Try.prog (bodyPost Try.prog Try.f7 fun e w' => e = .returned (.tuple #[numV c, numV d, .bool true]) ∧ Below w.heap.size w w') a' w' → next a' w') (u1 u2 u3 u4 u5 u6 u9 u12 u13 u15 u16 u17 u18 u19 u20 u21 u22 u23 u24 u25 u26 u27 u28 u29 u30 u31 u32 u33 u34 u35 u36 u37 u38 u39 u40 u41 u42 u43 u44 u45 u46 u47 u48 u49 u50 u51 u52 u53 u54 u55 u56 u57 u58 u59 u60 u61 u62 u63 u64 u65 u66 u67 u68 u69 u70 u71 u72 u73 u74 u75 u76 u77 u78 u79 u80 u81 u82 u83 u84 u85 u86 u87 u88 u89 u90 u91 u92 : Value) :
    (hdC (tl 6 (Try.f7.body.getD .skip))).wp Try.prog (Exit.then next (bodyPost Try.prog Try.f7 fun e w' => e = .returned (.tuple #[numV c, numV d, .bool true]) ∧ Below w.heap.size w w')) ⟨List.toArray (.int .u8 o :: u1 :: u2 :: u3 :: u4 :: u5 :: u6 :: .pointer (some ⟨w.heap.size, 0, none⟩) :: .pointer (some ⟨w.heap.size + 1, 0, none⟩) :: u9 :: .pointer (some ⟨w.heap.size + 1 + 1, 0, none⟩) :: .pointer (some ⟨w.heap.size + 1 + 1 + 1, 0, none⟩) :: u12 :: u13 :: .int .i64 st :: u15 :: u16 :: u17 :: u18 :: u19 :: u20 :: u21 :: u22 :: u23 :: u24 :: u25 :: u26 :: u27 :: u28 :: u29 :: u30 :: u31 :: u32 :: u33 :: u34 :: u35 :: u36 :: u37 :: u38 :: u39 :: u40 :: u41 :: u42 :: u43 :: u44 :: u45 :: u46 :: u47 :: u48 :: u49 :: u50 :: u51 :: u52 :: u53 :: u54 :: u55 :: u56 :: u57 :: u58 :: u59 :: u60 :: u61 :: u62 :: u63 :: u64 :: u65 :: u66 :: u67 :: u68 :: u69 :: u70 :: u71 :: u72 :: u73 :: u74 :: u75 :: u76 :: u77 :: u78 :: u79 :: u80 :: u81 :: u82 :: u83 :: u84 :: u85 :: u86 :: u87 :: u88 :: u89 :: u90 :: u91 :: u92 :: []), []⟩ W := by
  have HW := Lib.hid hx
  clear hx
  unfold numV at hc
  obtain ⟨rest, hrest⟩ : ∃ c, tl 7 (Try.f7.body.getD .skip) = c := ⟨_, rfl⟩
  rw [hrest] at hnext
  dsimp only [tl, Try.f7, Option.getD] at hrest
  subst hrest
  obtain ⟨code, hcode⟩ : ∃ c, hdC (tl 6 (Try.f7.body.getD .skip)) = c := ⟨_, rfl⟩
  rw [hcode]
  dsimp only [tl, hdC, Try.f7, Option.getD] at hcode
  subst hcode
  obtain ⟨a0, a1, a2, a3, a4, a5⟩ := num_cells HW.out.1.1
  obtain ⟨b0, b1, b2, b3, b4, b5⟩ := num_cells HW.out.1.2
  go_upto_region 14 with (go_at_call 16; refine (hc _).mono ?_; rintro e w1 ⟨rfl, hb⟩; have HV := Lib.hid (h4_keep HW.out hb); clear hb a0 a1 a2 a3 a4 a5 b0 b1 b2 b3 b4 b5)
  have HU := Lib.hid (h4_keep (h4_keep HV.out (below_box w1 (.cells #[.int .u64 (u c.v), .int .u64 (u c.m), .int .u64 (u c.a), .int .u64 (u c.b), .int .i64 (s c.c), .int .i64 (s c.d)] 26))) (below_box _ (.cells #[.int .u64 (u d.v), .int .u64 (u d.m), .int .u64 (u d.a), .int .u64 (u d.b), .int .i64 (s d.c), .int .i64 (s d.d)] 26)))
  have HC := Lib.hid (num_keep (num_new c w1) (below_box _ (.cells #[.int .u64 (u d.v), .int .u64 (u d.m), .int .u64 (u d.a), .int .u64 (u d.b), .int .i64 (s d.c), .int .i64 (s d.d)] 26)))
  have hD := num_new d (w1.alloc (.cells #[.int .u64 (u c.v), .int .u64 (u c.m), .int .u64 (u c.a), .int .u64 (u c.b), .int .i64 (s c.c), .int .i64 (s c.d)] 26))
  have e1 : (w1.alloc (.cells #[.int .u64 (u c.v), .int .u64 (u c.m), .int .u64 (u c.a), .int .u64 (u c.b), .int .i64 (s c.c), .int .i64 (s c.d)] 26)).heap.size = w1.heap.size + 1 := by simp
  rw [e1] at hD
  have HD := Lib.hid hD
  clear hD e1
  have HL := Lib.hid (num_lt HV.out.2.1.2)
  try simp only [World.size_alloc]
  obtain ⟨W2, hW2⟩ : ∃ W2, (w1.alloc (.cells #[.int .u64 (u c.v), .int .u64 (u c.m), .int .u64 (u c.a), .int .u64 (u c.b), .int .i64 (s c.c), .int .i64 (s c.d)] 26)).alloc (.cells #[.int .u64 (u d.v), .int .u64 (u d.m), .int .u64 (u d.a), .int .u64 (u d.b), .int .i64 (s d.c), .int .i64 (s d.d)] 26) = W2 := ⟨_, rfl⟩
  rw [hW2] at HU HC HD ⊢
  obtain ⟨nB, hn2⟩ : ∃ n, w1.heap.size + 1 = n := ⟨_, rfl⟩
  rw [hn2] at HD ⊢
  obtain ⟨n, hn⟩ : ∃ n, w1.heap.size = n := ⟨_, rfl⟩
  rw [hn] at HC HL hn2 ⊢
  clear hW2 hn HV HW
  have HW := HU
  clear HU
  obtain ⟨cc0, cc1, cc2, cc3, cc4, cc5⟩ := num_cells HC.out
  obtain ⟨dd0, dd1, dd2, dd3, dd4, dd5⟩ := num_cells HD.out
  obtain ⟨r0, r1, r2, r3, r4, r5⟩ := num_cells HW.out.2.1.1
  obtain ⟨t0, t1, t2, t3, t4, t5⟩ := num_cells HW.out.2.1.2
  obtain ⟨k0, k1, k2, k3, k4, k5⟩ := num_free HW.out.2.1.1
  obtain ⟨l0, l1, l2, l3, l4, l5⟩ := num_free HW.out.2.1.2
  have n1q2 : (n = w.heap.size + 1 + 1) = False := by have := HL.out; simp; omega
  have n1r2 : (w.heap.size + 1 + 1 = n) = False := by have := HL.out; simp; omega
  have n1q3 : (n = w.heap.size + 1 + 1 + 1) = False := by have := HL.out; simp; omega
  have n1r3 : (w.heap.size + 1 + 1 + 1 = n) = False := by have := HL.out; simp; omega
  have n2q2 : (nB = w.heap.size + 1 + 1) = False := by have := HL.out; simp; omega
  have n2r2 : (w.heap.size + 1 + 1 = nB) = False := by have := HL.out; simp; omega
  have n2q3 : (nB = w.heap.size + 1 + 1 + 1) = False := by have := HL.out; simp; omega
  have n2r3 : (w.heap.size + 1 + 1 + 1 = nB) = False := by have := HL.out; simp; omega
  clear hn2
  go_wp2_with fail
  go_region
  all_goals
    first
      | (have HF := Lib.hid (h4_told (HW.out) (c) (d)); generalize World.setCell _ _ _ = Wf at HF ⊢; obtain ⟨Wg, hWg⟩ : ∃ Wg, Wf = Wg := ⟨_, rfl⟩; rw [hWg] at HF ⊢; clear hWg; obtain ⟨z0, z1, z2, z3, z4, z5⟩ := num_cells HF.out.1; obtain ⟨e0, e1, e2, e3, e4, e5⟩ := num_cells HF.out.2.1; go_wp2_with fail; exact bodyPost_ret (v := .tuple #[numV (c), numV (d), .bool true]) (by unfold numV; simp [results, Try.results7, go_sem, z0, z1, z2, z3, z4, z5, e0, e1, e2, e3, e4, e5]) rfl ⟨rfl, HF.out.2.2.drew⟩)
      | (have HF := Lib.hid (h4_told2 (HW.out) (c) (d)); generalize World.setCell _ _ _ = Wf at HF ⊢; obtain ⟨Wg, hWg⟩ : ∃ Wg, Wf = Wg := ⟨_, rfl⟩; rw [hWg] at HF ⊢; clear hWg; obtain ⟨z0, z1, z2, z3, z4, z5⟩ := num_cells HF.out.1; obtain ⟨e0, e1, e2, e3, e4, e5⟩ := num_cells HF.out.2.1; go_wp2_with fail; exact bodyPost_ret (v := .tuple #[numV (c), numV (d), .bool true]) (by unfold numV; simp [results, Try.results7, go_sem, z0, z1, z2, z3, z4, z5, e0, e1, e2, e3, e4, e5]) rfl ⟨rfl, HF.out.2.2.drew⟩)
set_option maxRecDepth 100000 in
set_option maxHeartbeats 8000000 in
theorem way_tail_false (x y c d : K) (o st : Int) (w W : World) (hc : ∀ W, Calls Try.prog 16 #[.int .u8 o, .int .i64 st, numV x, numV y] W (Gives (.tuple #[numV c, numV d, .bool false]) W)) (hx : HB4 w x y zeroK zeroK W) (next : Act → World → Prop) (hnext : ∀ a' w', (tl 7 (Try.f7.body.getD .skip)).wp Try.prog (bodyPost Try.prog Try.f7 fun e w' => e = .returned (.tuple #[numV x, numV y, .bool false]) ∧ Below w.heap.size w w') a' w' → next a' w') (u1 u2 u3 u4 u5 u6 u9 u12 u13 u15 u16 u17 u18 u19 u20 u21 u22 u23 u24 u25 u26 u27 u28 u29 u30 u31 u32 u33 u34 u35 u36 u37 u38 u39 u40 u41 u42 u43 u44 u45 u46 u47 u48 u49 u50 u51 u52 u53 u54 u55 u56 u57 u58 u59 u60 u61 u62 u63 u64 u65 u66 u67 u68 u69 u70 u71 u72 u73 u74 u75 u76 u77 u78 u79 u80 u81 u82 u83 u84 u85 u86 u87 u88 u89 u90 u91 u92 : Value) :
    (hdC (tl 6 (Try.f7.body.getD .skip))).wp Try.prog (Exit.then next (bodyPost Try.prog Try.f7 fun e w' => e = .returned (.tuple #[numV x, numV y, .bool false]) ∧ Below w.heap.size w w')) ⟨List.toArray (.int .u8 o :: u1 :: u2 :: u3 :: u4 :: u5 :: u6 :: .pointer (some ⟨w.heap.size, 0, none⟩) :: .pointer (some ⟨w.heap.size + 1, 0, none⟩) :: u9 :: .pointer (some ⟨w.heap.size + 1 + 1, 0, none⟩) :: .pointer (some ⟨w.heap.size + 1 + 1 + 1, 0, none⟩) :: u12 :: u13 :: .int .i64 st :: u15 :: u16 :: u17 :: u18 :: u19 :: u20 :: u21 :: u22 :: u23 :: u24 :: u25 :: u26 :: u27 :: u28 :: u29 :: u30 :: u31 :: u32 :: u33 :: u34 :: u35 :: u36 :: u37 :: u38 :: u39 :: u40 :: u41 :: u42 :: u43 :: u44 :: u45 :: u46 :: u47 :: u48 :: u49 :: u50 :: u51 :: u52 :: u53 :: u54 :: u55 :: u56 :: u57 :: u58 :: u59 :: u60 :: u61 :: u62 :: u63 :: u64 :: u65 :: u66 :: u67 :: u68 :: u69 :: u70 :: u71 :: u72 :: u73 :: u74 :: u75 :: u76 :: u77 :: u78 :: u79 :: u80 :: u81 :: u82 :: u83 :: u84 :: u85 :: u86 :: u87 :: u88 :: u89 :: u90 :: u91 :: u92 :: []), []⟩ W := by
  have HW := Lib.hid hx
  clear hx
  unfold numV at hc
  obtain ⟨rest, hrest⟩ : ∃ c, tl 7 (Try.f7.body.getD .skip) = c := ⟨_, rfl⟩
  rw [hrest] at hnext
  dsimp only [tl, Try.f7, Option.getD] at hrest
  subst hrest
  obtain ⟨code, hcode⟩ : ∃ c, hdC (tl 6 (Try.f7.body.getD .skip)) = c := ⟨_, rfl⟩
  rw [hcode]
  dsimp only [tl, hdC, Try.f7, Option.getD] at hcode
  subst hcode
  obtain ⟨a0, a1, a2, a3, a4, a5⟩ := num_cells HW.out.1.1
  obtain ⟨b0, b1, b2, b3, b4, b5⟩ := num_cells HW.out.1.2
  go_upto_region 14 with (go_at_call 16; refine (hc _).mono ?_; rintro e w1 ⟨rfl, hb⟩; have HV := Lib.hid (h4_keep HW.out hb); clear hb a0 a1 a2 a3 a4 a5 b0 b1 b2 b3 b4 b5)
  have HU := Lib.hid (h4_keep (h4_keep HV.out (below_box w1 (.cells #[.int .u64 (u c.v), .int .u64 (u c.m), .int .u64 (u c.a), .int .u64 (u c.b), .int .i64 (s c.c), .int .i64 (s c.d)] 26))) (below_box _ (.cells #[.int .u64 (u d.v), .int .u64 (u d.m), .int .u64 (u d.a), .int .u64 (u d.b), .int .i64 (s d.c), .int .i64 (s d.d)] 26)))
  have HC := Lib.hid (num_keep (num_new c w1) (below_box _ (.cells #[.int .u64 (u d.v), .int .u64 (u d.m), .int .u64 (u d.a), .int .u64 (u d.b), .int .i64 (s d.c), .int .i64 (s d.d)] 26)))
  have hD := num_new d (w1.alloc (.cells #[.int .u64 (u c.v), .int .u64 (u c.m), .int .u64 (u c.a), .int .u64 (u c.b), .int .i64 (s c.c), .int .i64 (s c.d)] 26))
  have e1 : (w1.alloc (.cells #[.int .u64 (u c.v), .int .u64 (u c.m), .int .u64 (u c.a), .int .u64 (u c.b), .int .i64 (s c.c), .int .i64 (s c.d)] 26)).heap.size = w1.heap.size + 1 := by simp
  rw [e1] at hD
  have HD := Lib.hid hD
  clear hD e1
  have HL := Lib.hid (num_lt HV.out.2.1.2)
  try simp only [World.size_alloc]
  obtain ⟨W2, hW2⟩ : ∃ W2, (w1.alloc (.cells #[.int .u64 (u c.v), .int .u64 (u c.m), .int .u64 (u c.a), .int .u64 (u c.b), .int .i64 (s c.c), .int .i64 (s c.d)] 26)).alloc (.cells #[.int .u64 (u d.v), .int .u64 (u d.m), .int .u64 (u d.a), .int .u64 (u d.b), .int .i64 (s d.c), .int .i64 (s d.d)] 26) = W2 := ⟨_, rfl⟩
  rw [hW2] at HU HC HD ⊢
  obtain ⟨nB, hn2⟩ : ∃ n, w1.heap.size + 1 = n := ⟨_, rfl⟩
  rw [hn2] at HD ⊢
  obtain ⟨n, hn⟩ : ∃ n, w1.heap.size = n := ⟨_, rfl⟩
  rw [hn] at HC HL hn2 ⊢
  clear hW2 hn HV HW
  have HW := HU
  clear HU
  obtain ⟨cc0, cc1, cc2, cc3, cc4, cc5⟩ := num_cells HC.out
  obtain ⟨dd0, dd1, dd2, dd3, dd4, dd5⟩ := num_cells HD.out
  obtain ⟨a0, a1, a2, a3, a4, a5⟩ := num_cells HW.out.1.1
  obtain ⟨b0, b1, b2, b3, b4, b5⟩ := num_cells HW.out.1.2
  obtain ⟨r0, r1, r2, r3, r4, r5⟩ := num_cells HW.out.2.1.1
  obtain ⟨t0, t1, t2, t3, t4, t5⟩ := num_cells HW.out.2.1.2
  obtain ⟨k0, k1, k2, k3, k4, k5⟩ := num_free HW.out.2.1.1
  obtain ⟨l0, l1, l2, l3, l4, l5⟩ := num_free HW.out.2.1.2
  have n1q2 : (n = w.heap.size + 1 + 1) = False := by have := HL.out; simp; omega
  have n1r2 : (w.heap.size + 1 + 1 = n) = False := by have := HL.out; simp; omega
  have n1q3 : (n = w.heap.size + 1 + 1 + 1) = False := by have := HL.out; simp; omega
  have n1r3 : (w.heap.size + 1 + 1 + 1 = n) = False := by have := HL.out; simp; omega
  have n2q2 : (nB = w.heap.size + 1 + 1) = False := by have := HL.out; simp; omega
  have n2r2 : (w.heap.size + 1 + 1 = nB) = False := by have := HL.out; simp; omega
  have n2q3 : (nB = w.heap.size + 1 + 1 + 1) = False := by have := HL.out; simp; omega
  have n2r3 : (w.heap.size + 1 + 1 + 1 = nB) = False := by have := HL.out; simp; omega
  clear hn2
  go_wp2_with fail
  go_region
  all_goals
    first
      | (have HF := Lib.hid (h4_told (HW.out) (x) (y)); generalize World.setCell _ _ _ = Wf at HF ⊢; obtain ⟨Wg, hWg⟩ : ∃ Wg, Wf = Wg := ⟨_, rfl⟩; rw [hWg] at HF ⊢; clear hWg; obtain ⟨z0, z1, z2, z3, z4, z5⟩ := num_cells HF.out.1; obtain ⟨e0, e1, e2, e3, e4, e5⟩ := num_cells HF.out.2.1; go_wp2_with fail; exact bodyPost_ret (v := .tuple #[numV (x), numV (y), .bool false]) (by unfold numV; simp [results, Try.results7, go_sem, z0, z1, z2, z3, z4, z5, e0, e1, e2, e3, e4, e5]) rfl ⟨rfl, HF.out.2.2.drew⟩)
      | (have HF := Lib.hid (h4_told2 (HW.out) (x) (y)); generalize World.setCell _ _ _ = Wf at HF ⊢; obtain ⟨Wg, hWg⟩ : ∃ Wg, Wf = Wg := ⟨_, rfl⟩; rw [hWg] at HF ⊢; clear hWg; obtain ⟨z0, z1, z2, z3, z4, z5⟩ := num_cells HF.out.1; obtain ⟨e0, e1, e2, e3, e4, e5⟩ := num_cells HF.out.2.1; go_wp2_with fail; exact bodyPost_ret (v := .tuple #[numV (x), numV (y), .bool false]) (by unfold numV; simp [results, Try.results7, go_sem, z0, z1, z2, z3, z4, z5, e0, e1, e2, e3, e4, e5]) rfl ⟨rfl, HF.out.2.2.drew⟩)
end Go.Proofs.Ytbljijbmjccalaa

/-
  Proved here: what the document's Way of layer 9 returns, for some conditions. Conditions: none.
-/
namespace Go.Proofs.Ytbljijbmjccalaa
open Go.RowKit Go.MapKept
attribute [local go_sem] u_and u_or u_xor u_andNot u_add u_sub s_conv u_conv max_u min_u max_s min_s u_inc u_less s_inc s_less s_inc64 s_less64
set_option linter.unusedSimpArgs false

set_option maxRecDepth 100000 in
set_option maxHeartbeats 8000000 in
theorem wy16_t_w (x y c d : K) (ok : Bool) (w : World) (hc : ∀ W, Calls Try.prog 16 #[.int .u8 16, .int .i64 0, numV x, numV y] W (Gives (.tuple #[numV c, numV d, .bool ok]) W)) :
    Calls Try.prog 7 #[.int .u8 16, .bool true, numV x, numV y, .bool true] w (Gives (if ok = true then .tuple #[numV c, numV d, .bool true] else .tuple #[numV x, numV y, .bool false]) w) := by
  have HC := Lib.hid hc
  clear hc
  have HW := Lib.hid (h4_new x y w)
  unfold Gives numV
  obtain ⟨W0, hW0⟩ : ∃ W0, ((((w.alloc (.cells #[.int .u64 (u x.v), .int .u64 (u x.m), .int .u64 (u x.a), .int .u64 (u x.b), .int .i64 (s x.c), .int .i64 (s x.d)] 26)).alloc (.cells #[.int .u64 (u y.v), .int .u64 (u y.m), .int .u64 (u y.a), .int .u64 (u y.b), .int .i64 (s y.c), .int .i64 (s y.d)] 26)).alloc (.cells #[.int .u64 0, .int .u64 0, .int .u64 0, .int .u64 0, .int .i64 0, .int .i64 0] 26)).alloc (.cells #[.int .u64 0, .int .u64 0, .int .u64 0, .int .u64 0, .int .i64 0, .int .i64 0] 26)) = W0 := ⟨_, rfl⟩
  rw [hW0] at HW
  cases ok
  · rw [if_neg Bool.false_ne_true]
    go_enter Try.func7, Try.ntmps7
    go_upto_region 13 with fail
    refine wp_first (c' := hdC (tl 6 (Try.f7.body.getD .skip))) (by kernel_rfl) ?_
    have ht := fun nx hn => way_tail_false x y c d 16 0 w _ HC.out HW.out nx hn
    unfold numV at ht
    exact ht _ (by intro a' w' h'; apply_assumption; exact h') _ _ _ _ _ _ _ _ _ _ _ _ _ _ _ _ _ _ _ _ _ _ _ _ _ _ _ _ _ _ _ _ _ _ _ _ _ _ _ _ _ _ _ _ _ _ _ _ _ _ _ _ _ _ _ _ _ _ _ _ _ _ _ _ _ _ _ _ _ _ _ _ _ _ _ _ _ _ _ _ _ _ _ _ _ _ _
  · rw [if_pos rfl]
    go_enter Try.func7, Try.ntmps7
    go_upto_region 13 with fail
    refine wp_first (c' := hdC (tl 6 (Try.f7.body.getD .skip))) (by kernel_rfl) ?_
    have ht := fun nx hn => way_tail_true x y c d 16 0 w _ HC.out HW.out nx hn
    unfold numV at ht
    exact ht _ (by intro a' w' h'; apply_assumption; exact h') _ _ _ _ _ _ _ _ _ _ _ _ _ _ _ _ _ _ _ _ _ _ _ _ _ _ _ _ _ _ _ _ _ _ _ _ _ _ _ _ _ _ _ _ _ _ _ _ _ _ _ _ _ _ _ _ _ _ _ _ _ _ _ _ _ _ _ _ _ _ _ _ _ _ _ _ _ _ _ _ _ _ _ _ _ _ _
set_option maxRecDepth 100000 in
set_option maxHeartbeats 8000000 in
theorem wy16_t_l (x y c d : K) (ok : Bool) (w : World) (h1 : decide (4294967295 < u x.b) = false) (h2 : decide (4294967295 < u y.b) = false) (hc : ∀ W, Calls Try.prog 16 #[.int .u8 16, .int .i64 0, numV x, numV y] W (Gives (.tuple #[numV c, numV d, .bool ok]) W)) :
    Calls Try.prog 7 #[.int .u8 16, .bool false, numV x, numV y, .bool true] w (Gives (if ok = true then .tuple #[numV c, numV d, .bool true] else .tuple #[numV x, numV y, .bool false]) w) := by
  have HC := Lib.hid hc
  clear hc
  have HW := Lib.hid (h4_new x y w)
  unfold Gives numV
  obtain ⟨W0, hW0⟩ : ∃ W0, ((((w.alloc (.cells #[.int .u64 (u x.v), .int .u64 (u x.m), .int .u64 (u x.a), .int .u64 (u x.b), .int .i64 (s x.c), .int .i64 (s x.d)] 26)).alloc (.cells #[.int .u64 (u y.v), .int .u64 (u y.m), .int .u64 (u y.a), .int .u64 (u y.b), .int .i64 (s y.c), .int .i64 (s y.d)] 26)).alloc (.cells #[.int .u64 0, .int .u64 0, .int .u64 0, .int .u64 0, .int .i64 0, .int .i64 0] 26)).alloc (.cells #[.int .u64 0, .int .u64 0, .int .u64 0, .int .u64 0, .int .i64 0, .int .i64 0] 26)) = W0 := ⟨_, rfl⟩
  rw [hW0] at HW
  obtain ⟨a0, a1, a2, a3, a4, a5⟩ := num_cells HW.out.1.1
  obtain ⟨b0, b1, b2, b3, b4, b5⟩ := num_cells HW.out.1.2
  cases ok
  · rw [if_neg Bool.false_ne_true]
    go_enter Try.func7, Try.ntmps7
    go_upto_region 13 with fail
    refine wp_first (c' := hdC (tl 6 (Try.f7.body.getD .skip))) (by kernel_rfl) ?_
    have ht := fun nx hn => way_tail_false x y c d 16 0 w _ HC.out HW.out nx hn
    unfold numV at ht
    exact ht _ (by intro a' w' h'; apply_assumption; exact h') _ _ _ _ _ _ _ _ _ _ _ _ _ _ _ _ _ _ _ _ _ _ _ _ _ _ _ _ _ _ _ _ _ _ _ _ _ _ _ _ _ _ _ _ _ _ _ _ _ _ _ _ _ _ _ _ _ _ _ _ _ _ _ _ _ _ _ _ _ _ _ _ _ _ _ _ _ _ _ _ _ _ _ _ _ _ _
  · rw [if_pos rfl]
    go_enter Try.func7, Try.ntmps7
    go_upto_region 13 with fail
    refine wp_first (c' := hdC (tl 6 (Try.f7.body.getD .skip))) (by kernel_rfl) ?_
    have ht := fun nx hn => way_tail_true x y c d 16 0 w _ HC.out HW.out nx hn
    unfold numV at ht
    exact ht _ (by intro a' w' h'; apply_assumption; exact h') _ _ _ _ _ _ _ _ _ _ _ _ _ _ _ _ _ _ _ _ _ _ _ _ _ _ _ _ _ _ _ _ _ _ _ _ _ _ _ _ _ _ _ _ _ _ _ _ _ _ _ _ _ _ _ _ _ _ _ _ _ _ _ _ _ _ _ _ _ _ _ _ _ _ _ _ _ _ _ _ _ _ _ _ _ _ _
set_option maxRecDepth 100000 in
set_option maxHeartbeats 8000000 in
theorem wy16_f_w (x y c d : K) (ok : Bool) (w : World) (hc : ∀ W, Calls Try.prog 16 #[.int .u8 80, .int .i64 0, numV x, numV y] W (Gives (.tuple #[numV c, numV d, .bool ok]) W)) :
    Calls Try.prog 7 #[.int .u8 16, .bool true, numV x, numV y, .bool false] w (Gives (if ok = true then .tuple #[numV c, numV d, .bool true] else .tuple #[numV x, numV y, .bool false]) w) := by
  have hop := fun W => opp_ref 16 W
  rw [show oppI 16 = 80 from rfl] at hop
  have HC := Lib.hid hc
  clear hc
  have HW := Lib.hid (h4_new x y w)
  unfold Gives numV
  obtain ⟨W0, hW0⟩ : ∃ W0, ((((w.alloc (.cells #[.int .u64 (u x.v), .int .u64 (u x.m), .int .u64 (u x.a), .int .u64 (u x.b), .int .i64 (s x.c), .int .i64 (s x.d)] 26)).alloc (.cells #[.int .u64 (u y.v), .int .u64 (u y.m), .int .u64 (u y.a), .int .u64 (u y.b), .int .i64 (s y.c), .int .i64 (s y.d)] 26)).alloc (.cells #[.int .u64 0, .int .u64 0, .int .u64 0, .int .u64 0, .int .i64 0, .int .i64 0] 26)).alloc (.cells #[.int .u64 0, .int .u64 0, .int .u64 0, .int .u64 0, .int .i64 0, .int .i64 0] 26)) = W0 := ⟨_, rfl⟩
  rw [hW0] at HW
  cases ok
  · rw [if_neg Bool.false_ne_true]
    go_enter Try.func7, Try.ntmps7
    go_upto_region 13 with (go_at_call 15; refine (hop _).mono ?_; rintro e w1 ⟨rfl, hb⟩; have HV := Lib.hid (h4_keep HW.out hb); clear hb)
    refine wp_first (c' := hdC (tl 6 (Try.f7.body.getD .skip))) (by kernel_rfl) ?_
    have ht := fun nx hn => way_tail_false x y c d 80 0 w _ HC.out HV.out nx hn
    unfold numV at ht
    exact ht _ (by intro a' w' h'; apply_assumption; exact h') _ _ _ _ _ _ _ _ _ _ _ _ _ _ _ _ _ _ _ _ _ _ _ _ _ _ _ _ _ _ _ _ _ _ _ _ _ _ _ _ _ _ _ _ _ _ _ _ _ _ _ _ _ _ _ _ _ _ _ _ _ _ _ _ _ _ _ _ _ _ _ _ _ _ _ _ _ _ _ _ _ _ _ _ _ _ _
  · rw [if_pos rfl]
    go_enter Try.func7, Try.ntmps7
    go_upto_region 13 with (go_at_call 15; refine (hop _).mono ?_; rintro e w1 ⟨rfl, hb⟩; have HV := Lib.hid (h4_keep HW.out hb); clear hb)
    refine wp_first (c' := hdC (tl 6 (Try.f7.body.getD .skip))) (by kernel_rfl) ?_
    have ht := fun nx hn => way_tail_true x y c d 80 0 w _ HC.out HV.out nx hn
    unfold numV at ht
    exact ht _ (by intro a' w' h'; apply_assumption; exact h') _ _ _ _ _ _ _ _ _ _ _ _ _ _ _ _ _ _ _ _ _ _ _ _ _ _ _ _ _ _ _ _ _ _ _ _ _ _ _ _ _ _ _ _ _ _ _ _ _ _ _ _ _ _ _ _ _ _ _ _ _ _ _ _ _ _ _ _ _ _ _ _ _ _ _ _ _ _ _ _ _ _ _ _ _ _ _
set_option maxRecDepth 100000 in
set_option maxHeartbeats 8000000 in
theorem wy16_f_l (x y c d : K) (ok : Bool) (w : World) (h1 : decide (4294967295 < u x.b) = false) (h2 : decide (4294967295 < u y.b) = false) (hc : ∀ W, Calls Try.prog 16 #[.int .u8 80, .int .i64 0, numV x, numV y] W (Gives (.tuple #[numV c, numV d, .bool ok]) W)) :
    Calls Try.prog 7 #[.int .u8 16, .bool false, numV x, numV y, .bool false] w (Gives (if ok = true then .tuple #[numV c, numV d, .bool true] else .tuple #[numV x, numV y, .bool false]) w) := by
  have hop := fun W => opp_ref 16 W
  rw [show oppI 16 = 80 from rfl] at hop
  have HC := Lib.hid hc
  clear hc
  have HW := Lib.hid (h4_new x y w)
  unfold Gives numV
  obtain ⟨W0, hW0⟩ : ∃ W0, ((((w.alloc (.cells #[.int .u64 (u x.v), .int .u64 (u x.m), .int .u64 (u x.a), .int .u64 (u x.b), .int .i64 (s x.c), .int .i64 (s x.d)] 26)).alloc (.cells #[.int .u64 (u y.v), .int .u64 (u y.m), .int .u64 (u y.a), .int .u64 (u y.b), .int .i64 (s y.c), .int .i64 (s y.d)] 26)).alloc (.cells #[.int .u64 0, .int .u64 0, .int .u64 0, .int .u64 0, .int .i64 0, .int .i64 0] 26)).alloc (.cells #[.int .u64 0, .int .u64 0, .int .u64 0, .int .u64 0, .int .i64 0, .int .i64 0] 26)) = W0 := ⟨_, rfl⟩
  rw [hW0] at HW
  obtain ⟨a0, a1, a2, a3, a4, a5⟩ := num_cells HW.out.1.1
  obtain ⟨b0, b1, b2, b3, b4, b5⟩ := num_cells HW.out.1.2
  cases ok
  · rw [if_neg Bool.false_ne_true]
    go_enter Try.func7, Try.ntmps7
    go_upto_region 13 with (go_at_call 15; refine (hop _).mono ?_; rintro e w1 ⟨rfl, hb⟩; have HV := Lib.hid (h4_keep HW.out hb); clear hb)
    refine wp_first (c' := hdC (tl 6 (Try.f7.body.getD .skip))) (by kernel_rfl) ?_
    have ht := fun nx hn => way_tail_false x y c d 80 0 w _ HC.out HV.out nx hn
    unfold numV at ht
    exact ht _ (by intro a' w' h'; apply_assumption; exact h') _ _ _ _ _ _ _ _ _ _ _ _ _ _ _ _ _ _ _ _ _ _ _ _ _ _ _ _ _ _ _ _ _ _ _ _ _ _ _ _ _ _ _ _ _ _ _ _ _ _ _ _ _ _ _ _ _ _ _ _ _ _ _ _ _ _ _ _ _ _ _ _ _ _ _ _ _ _ _ _ _ _ _ _ _ _ _
  · rw [if_pos rfl]
    go_enter Try.func7, Try.ntmps7
    go_upto_region 13 with (go_at_call 15; refine (hop _).mono ?_; rintro e w1 ⟨rfl, hb⟩; have HV := Lib.hid (h4_keep HW.out hb); clear hb)
    refine wp_first (c' := hdC (tl 6 (Try.f7.body.getD .skip))) (by kernel_rfl) ?_
    have ht := fun nx hn => way_tail_true x y c d 80 0 w _ HC.out HV.out nx hn
    unfold numV at ht
    exact ht _ (by intro a' w' h'; apply_assumption; exact h') _ _ _ _ _ _ _ _ _ _ _ _ _ _ _ _ _ _ _ _ _ _ _ _ _ _ _ _ _ _ _ _ _ _ _ _ _ _ _ _ _ _ _ _ _ _ _ _ _ _ _ _ _ _ _ _ _ _ _ _ _ _ _ _ _ _ _ _ _ _ _ _ _ _ _ _ _ _ _ _ _ _ _ _ _ _ _
set_option maxRecDepth 100000 in
set_option maxHeartbeats 8000000 in
theorem wy80_t_w (x y c d : K) (ok : Bool) (w : World) (hc : ∀ W, Calls Try.prog 16 #[.int .u8 80, .int .i64 0, numV x, numV y] W (Gives (.tuple #[numV c, numV d, .bool ok]) W)) :
    Calls Try.prog 7 #[.int .u8 80, .bool true, numV x, numV y, .bool true] w (Gives (if ok = true then .tuple #[numV c, numV d, .bool true] else .tuple #[numV x, numV y, .bool false]) w) := by
  have HC := Lib.hid hc
  clear hc
  have HW := Lib.hid (h4_new x y w)
  unfold Gives numV
  obtain ⟨W0, hW0⟩ : ∃ W0, ((((w.alloc (.cells #[.int .u64 (u x.v), .int .u64 (u x.m), .int .u64 (u x.a), .int .u64 (u x.b), .int .i64 (s x.c), .int .i64 (s x.d)] 26)).alloc (.cells #[.int .u64 (u y.v), .int .u64 (u y.m), .int .u64 (u y.a), .int .u64 (u y.b), .int .i64 (s y.c), .int .i64 (s y.d)] 26)).alloc (.cells #[.int .u64 0, .int .u64 0, .int .u64 0, .int .u64 0, .int .i64 0, .int .i64 0] 26)).alloc (.cells #[.int .u64 0, .int .u64 0, .int .u64 0, .int .u64 0, .int .i64 0, .int .i64 0] 26)) = W0 := ⟨_, rfl⟩
  rw [hW0] at HW
  cases ok
  · rw [if_neg Bool.false_ne_true]
    go_enter Try.func7, Try.ntmps7
    go_upto_region 13 with fail
    refine wp_first (c' := hdC (tl 6 (Try.f7.body.getD .skip))) (by kernel_rfl) ?_
    have ht := fun nx hn => way_tail_false x y c d 80 0 w _ HC.out HW.out nx hn
    unfold numV at ht
    exact ht _ (by intro a' w' h'; apply_assumption; exact h') _ _ _ _ _ _ _ _ _ _ _ _ _ _ _ _ _ _ _ _ _ _ _ _ _ _ _ _ _ _ _ _ _ _ _ _ _ _ _ _ _ _ _ _ _ _ _ _ _ _ _ _ _ _ _ _ _ _ _ _ _ _ _ _ _ _ _ _ _ _ _ _ _ _ _ _ _ _ _ _ _ _ _ _ _ _ _
  · rw [if_pos rfl]
    go_enter Try.func7, Try.ntmps7
    go_upto_region 13 with fail
    refine wp_first (c' := hdC (tl 6 (Try.f7.body.getD .skip))) (by kernel_rfl) ?_
    have ht := fun nx hn => way_tail_true x y c d 80 0 w _ HC.out HW.out nx hn
    unfold numV at ht
    exact ht _ (by intro a' w' h'; apply_assumption; exact h') _ _ _ _ _ _ _ _ _ _ _ _ _ _ _ _ _ _ _ _ _ _ _ _ _ _ _ _ _ _ _ _ _ _ _ _ _ _ _ _ _ _ _ _ _ _ _ _ _ _ _ _ _ _ _ _ _ _ _ _ _ _ _ _ _ _ _ _ _ _ _ _ _ _ _ _ _ _ _ _ _ _ _ _ _ _ _
set_option maxRecDepth 100000 in
set_option maxHeartbeats 8000000 in
theorem wy80_t_l (x y c d : K) (ok : Bool) (w : World) (h1 : decide (4294967295 < u x.b) = false) (h2 : decide (4294967295 < u y.b) = false) (hc : ∀ W, Calls Try.prog 16 #[.int .u8 80, .int .i64 0, numV x, numV y] W (Gives (.tuple #[numV c, numV d, .bool ok]) W)) :
    Calls Try.prog 7 #[.int .u8 80, .bool false, numV x, numV y, .bool true] w (Gives (if ok = true then .tuple #[numV c, numV d, .bool true] else .tuple #[numV x, numV y, .bool false]) w) := by
  have HC := Lib.hid hc
  clear hc
  have HW := Lib.hid (h4_new x y w)
  unfold Gives numV
  obtain ⟨W0, hW0⟩ : ∃ W0, ((((w.alloc (.cells #[.int .u64 (u x.v), .int .u64 (u x.m), .int .u64 (u x.a), .int .u64 (u x.b), .int .i64 (s x.c), .int .i64 (s x.d)] 26)).alloc (.cells #[.int .u64 (u y.v), .int .u64 (u y.m), .int .u64 (u y.a), .int .u64 (u y.b), .int .i64 (s y.c), .int .i64 (s y.d)] 26)).alloc (.cells #[.int .u64 0, .int .u64 0, .int .u64 0, .int .u64 0, .int .i64 0, .int .i64 0] 26)).alloc (.cells #[.int .u64 0, .int .u64 0, .int .u64 0, .int .u64 0, .int .i64 0, .int .i64 0] 26)) = W0 := ⟨_, rfl⟩
  rw [hW0] at HW
  obtain ⟨a0, a1, a2, a3, a4, a5⟩ := num_cells HW.out.1.1
  obtain ⟨b0, b1, b2, b3, b4, b5⟩ := num_cells HW.out.1.2
  cases ok
  · rw [if_neg Bool.false_ne_true]
    go_enter Try.func7, Try.ntmps7
    go_upto_region 13 with fail
    refine wp_first (c' := hdC (tl 6 (Try.f7.body.getD .skip))) (by kernel_rfl) ?_
    have ht := fun nx hn => way_tail_false x y c d 80 0 w _ HC.out HW.out nx hn
    unfold numV at ht
    exact ht _ (by intro a' w' h'; apply_assumption; exact h') _ _ _ _ _ _ _ _ _ _ _ _ _ _ _ _ _ _ _ _ _ _ _ _ _ _ _ _ _ _ _ _ _ _ _ _ _ _ _ _ _ _ _ _ _ _ _ _ _ _ _ _ _ _ _ _ _ _ _ _ _ _ _ _ _ _ _ _ _ _ _ _ _ _ _ _ _ _ _ _ _ _ _ _ _ _ _
  · rw [if_pos rfl]
    go_enter Try.func7, Try.ntmps7
    go_upto_region 13 with fail
    refine wp_first (c' := hdC (tl 6 (Try.f7.body.getD .skip))) (by kernel_rfl) ?_
    have ht := fun nx hn => way_tail_true x y c d 80 0 w _ HC.out HW.out nx hn
    unfold numV at ht
    exact ht _ (by intro a' w' h'; apply_assumption; exact h') _ _ _ _ _ _ _ _ _ _ _ _ _ _ _ _ _ _ _ _ _ _ _ _ _ _ _ _ _ _ _ _ _ _ _ _ _ _ _ _ _ _ _ _ _ _ _ _ _ _ _ _ _ _ _ _ _ _ _ _ _ _ _ _ _ _ _ _ _ _ _ _ _ _ _ _ _ _ _ _ _ _ _ _ _ _ _
set_option maxRecDepth 100000 in
set_option maxHeartbeats 8000000 in
theorem wy80_f_w (x y c d : K) (ok : Bool) (w : World) (hc : ∀ W, Calls Try.prog 16 #[.int .u8 16, .int .i64 0, numV x, numV y] W (Gives (.tuple #[numV c, numV d, .bool ok]) W)) :
    Calls Try.prog 7 #[.int .u8 80, .bool true, numV x, numV y, .bool false] w (Gives (if ok = true then .tuple #[numV c, numV d, .bool true] else .tuple #[numV x, numV y, .bool false]) w) := by
  have hop := fun W => opp_ref 80 W
  rw [show oppI 80 = 16 from rfl] at hop
  have HC := Lib.hid hc
  clear hc
  have HW := Lib.hid (h4_new x y w)
  unfold Gives numV
  obtain ⟨W0, hW0⟩ : ∃ W0, ((((w.alloc (.cells #[.int .u64 (u x.v), .int .u64 (u x.m), .int .u64 (u x.a), .int .u64 (u x.b), .int .i64 (s x.c), .int .i64 (s x.d)] 26)).alloc (.cells #[.int .u64 (u y.v), .int .u64 (u y.m), .int .u64 (u y.a), .int .u64 (u y.b), .int .i64 (s y.c), .int .i64 (s y.d)] 26)).alloc (.cells #[.int .u64 0, .int .u64 0, .int .u64 0, .int .u64 0, .int .i64 0, .int .i64 0] 26)).alloc (.cells #[.int .u64 0, .int .u64 0, .int .u64 0, .int .u64 0, .int .i64 0, .int .i64 0] 26)) = W0 := ⟨_, rfl⟩
  rw [hW0] at HW
  cases ok
  · rw [if_neg Bool.false_ne_true]
    go_enter Try.func7, Try.ntmps7
    go_upto_region 13 with (go_at_call 15; refine (hop _).mono ?_; rintro e w1 ⟨rfl, hb⟩; have HV := Lib.hid (h4_keep HW.out hb); clear hb)
    refine wp_first (c' := hdC (tl 6 (Try.f7.body.getD .skip))) (by kernel_rfl) ?_
    have ht := fun nx hn => way_tail_false x y c d 16 0 w _ HC.out HV.out nx hn
    unfold numV at ht
    exact ht _ (by intro a' w' h'; apply_assumption; exact h') _ _ _ _ _ _ _ _ _ _ _ _ _ _ _ _ _ _ _ _ _ _ _ _ _ _ _ _ _ _ _ _ _ _ _ _ _ _ _ _ _ _ _ _ _ _ _ _ _ _ _ _ _ _ _ _ _ _ _ _ _ _ _ _ _ _ _ _ _ _ _ _ _ _ _ _ _ _ _ _ _ _ _ _ _ _ _
  · rw [if_pos rfl]
    go_enter Try.func7, Try.ntmps7
    go_upto_region 13 with (go_at_call 15; refine (hop _).mono ?_; rintro e w1 ⟨rfl, hb⟩; have HV := Lib.hid (h4_keep HW.out hb); clear hb)
    refine wp_first (c' := hdC (tl 6 (Try.f7.body.getD .skip))) (by kernel_rfl) ?_
    have ht := fun nx hn => way_tail_true x y c d 16 0 w _ HC.out HV.out nx hn
    unfold numV at ht
    exact ht _ (by intro a' w' h'; apply_assumption; exact h') _ _ _ _ _ _ _ _ _ _ _ _ _ _ _ _ _ _ _ _ _ _ _ _ _ _ _ _ _ _ _ _ _ _ _ _ _ _ _ _ _ _ _ _ _ _ _ _ _ _ _ _ _ _ _ _ _ _ _ _ _ _ _ _ _ _ _ _ _ _ _ _ _ _ _ _ _ _ _ _ _ _ _ _ _ _ _
set_option maxRecDepth 100000 in
set_option maxHeartbeats 8000000 in
theorem wy80_f_l (x y c d : K) (ok : Bool) (w : World) (h1 : decide (4294967295 < u x.b) = false) (h2 : decide (4294967295 < u y.b) = false) (hc : ∀ W, Calls Try.prog 16 #[.int .u8 16, .int .i64 0, numV x, numV y] W (Gives (.tuple #[numV c, numV d, .bool ok]) W)) :
    Calls Try.prog 7 #[.int .u8 80, .bool false, numV x, numV y, .bool false] w (Gives (if ok = true then .tuple #[numV c, numV d, .bool true] else .tuple #[numV x, numV y, .bool false]) w) := by
  have hop := fun W => opp_ref 80 W
  rw [show oppI 80 = 16 from rfl] at hop
  have HC := Lib.hid hc
  clear hc
  have HW := Lib.hid (h4_new x y w)
  unfold Gives numV
  obtain ⟨W0, hW0⟩ : ∃ W0, ((((w.alloc (.cells #[.int .u64 (u x.v), .int .u64 (u x.m), .int .u64 (u x.a), .int .u64 (u x.b), .int .i64 (s x.c), .int .i64 (s x.d)] 26)).alloc (.cells #[.int .u64 (u y.v), .int .u64 (u y.m), .int .u64 (u y.a), .int .u64 (u y.b), .int .i64 (s y.c), .int .i64 (s y.d)] 26)).alloc (.cells #[.int .u64 0, .int .u64 0, .int .u64 0, .int .u64 0, .int .i64 0, .int .i64 0] 26)).alloc (.cells #[.int .u64 0, .int .u64 0, .int .u64 0, .int .u64 0, .int .i64 0, .int .i64 0] 26)) = W0 := ⟨_, rfl⟩
  rw [hW0] at HW
  obtain ⟨a0, a1, a2, a3, a4, a5⟩ := num_cells HW.out.1.1
  obtain ⟨b0, b1, b2, b3, b4, b5⟩ := num_cells HW.out.1.2
  cases ok
  · rw [if_neg Bool.false_ne_true]
    go_enter Try.func7, Try.ntmps7
    go_upto_region 13 with (go_at_call 15; refine (hop _).mono ?_; rintro e w1 ⟨rfl, hb⟩; have HV := Lib.hid (h4_keep HW.out hb); clear hb)
    refine wp_first (c' := hdC (tl 6 (Try.f7.body.getD .skip))) (by kernel_rfl) ?_
    have ht := fun nx hn => way_tail_false x y c d 16 0 w _ HC.out HV.out nx hn
    unfold numV at ht
    exact ht _ (by intro a' w' h'; apply_assumption; exact h') _ _ _ _ _ _ _ _ _ _ _ _ _ _ _ _ _ _ _ _ _ _ _ _ _ _ _ _ _ _ _ _ _ _ _ _ _ _ _ _ _ _ _ _ _ _ _ _ _ _ _ _ _ _ _ _ _ _ _ _ _ _ _ _ _ _ _ _ _ _ _ _ _ _ _ _ _ _ _ _ _ _ _ _ _ _ _
  · rw [if_pos rfl]
    go_enter Try.func7, Try.ntmps7
    go_upto_region 13 with (go_at_call 15; refine (hop _).mono ?_; rintro e w1 ⟨rfl, hb⟩; have HV := Lib.hid (h4_keep HW.out hb); clear hb)
    refine wp_first (c' := hdC (tl 6 (Try.f7.body.getD .skip))) (by kernel_rfl) ?_
    have ht := fun nx hn => way_tail_true x y c d 16 0 w _ HC.out HV.out nx hn
    unfold numV at ht
    exact ht _ (by intro a' w' h'; apply_assumption; exact h') _ _ _ _ _ _ _ _ _ _ _ _ _ _ _ _ _ _ _ _ _ _ _ _ _ _ _ _ _ _ _ _ _ _ _ _ _ _ _ _ _ _ _ _ _ _ _ _ _ _ _ _ _ _ _ _ _ _ _ _ _ _ _ _ _ _ _ _ _ _ _ _ _ _ _ _ _ _ _ _ _ _ _ _ _ _ _
set_option maxRecDepth 100000 in
set_option maxHeartbeats 8000000 in
theorem wy32_t_w (x y c d : K) (ok : Bool) (w : World) (hc : ∀ W, Calls Try.prog 16 #[.int .u8 32, .int .i64 0, numV x, numV y] W (Gives (.tuple #[numV c, numV d, .bool ok]) W)) :
    Calls Try.prog 7 #[.int .u8 32, .bool true, numV x, numV y, .bool true] w (Gives (if ok = true then .tuple #[numV c, numV d, .bool true] else .tuple #[numV x, numV y, .bool false]) w) := by
  have HC := Lib.hid hc
  clear hc
  have HW := Lib.hid (h4_new x y w)
  unfold Gives numV
  obtain ⟨W0, hW0⟩ : ∃ W0, ((((w.alloc (.cells #[.int .u64 (u x.v), .int .u64 (u x.m), .int .u64 (u x.a), .int .u64 (u x.b), .int .i64 (s x.c), .int .i64 (s x.d)] 26)).alloc (.cells #[.int .u64 (u y.v), .int .u64 (u y.m), .int .u64 (u y.a), .int .u64 (u y.b), .int .i64 (s y.c), .int .i64 (s y.d)] 26)).alloc (.cells #[.int .u64 0, .int .u64 0, .int .u64 0, .int .u64 0, .int .i64 0, .int .i64 0] 26)).alloc (.cells #[.int .u64 0, .int .u64 0, .int .u64 0, .int .u64 0, .int .i64 0, .int .i64 0] 26)) = W0 := ⟨_, rfl⟩
  rw [hW0] at HW
  cases ok
  · rw [if_neg Bool.false_ne_true]
    go_enter Try.func7, Try.ntmps7
    go_upto_region 13 with fail
    refine wp_first (c' := hdC (tl 6 (Try.f7.body.getD .skip))) (by kernel_rfl) ?_
    have ht := fun nx hn => way_tail_false x y c d 32 0 w _ HC.out HW.out nx hn
    unfold numV at ht
    exact ht _ (by intro a' w' h'; apply_assumption; exact h') _ _ _ _ _ _ _ _ _ _ _ _ _ _ _ _ _ _ _ _ _ _ _ _ _ _ _ _ _ _ _ _ _ _ _ _ _ _ _ _ _ _ _ _ _ _ _ _ _ _ _ _ _ _ _ _ _ _ _ _ _ _ _ _ _ _ _ _ _ _ _ _ _ _ _ _ _ _ _ _ _ _ _ _ _ _ _
  · rw [if_pos rfl]
    go_enter Try.func7, Try.ntmps7
    go_upto_region 13 with fail
    refine wp_first (c' := hdC (tl 6 (Try.f7.body.getD .skip))) (by kernel_rfl) ?_
    have ht := fun nx hn => way_tail_true x y c d 32 0 w _ HC.out HW.out nx hn
    unfold numV at ht
    exact ht _ (by intro a' w' h'; apply_assumption; exact h') _ _ _ _ _ _ _ _ _ _ _ _ _ _ _ _ _ _ _ _ _ _ _ _ _ _ _ _ _ _ _ _ _ _ _ _ _ _ _ _ _ _ _ _ _ _ _ _ _ _ _ _ _ _ _ _ _ _ _ _ _ _ _ _ _ _ _ _ _ _ _ _ _ _ _ _ _ _ _ _ _ _ _ _ _ _ _
set_option maxRecDepth 100000 in
set_option maxHeartbeats 8000000 in
theorem wy32_t_l (x y c d : K) (ok : Bool) (w : World) (h1 : decide (4294967295 < u x.b) = false) (h2 : decide (4294967295 < u y.b) = false) (hc : ∀ W, Calls Try.prog 16 #[.int .u8 32, .int .i64 0, numV x, numV y] W (Gives (.tuple #[numV c, numV d, .bool ok]) W)) :
    Calls Try.prog 7 #[.int .u8 32, .bool false, numV x, numV y, .bool true] w (Gives (if ok = true then .tuple #[numV c, numV d, .bool true] else .tuple #[numV x, numV y, .bool false]) w) := by
  have HC := Lib.hid hc
  clear hc
  have HW := Lib.hid (h4_new x y w)
  unfold Gives numV
  obtain ⟨W0, hW0⟩ : ∃ W0, ((((w.alloc (.cells #[.int .u64 (u x.v), .int .u64 (u x.m), .int .u64 (u x.a), .int .u64 (u x.b), .int .i64 (s x.c), .int .i64 (s x.d)] 26)).alloc (.cells #[.int .u64 (u y.v), .int .u64 (u y.m), .int .u64 (u y.a), .int .u64 (u y.b), .int .i64 (s y.c), .int .i64 (s y.d)] 26)).alloc (.cells #[.int .u64 0, .int .u64 0, .int .u64 0, .int .u64 0, .int .i64 0, .int .i64 0] 26)).alloc (.cells #[.int .u64 0, .int .u64 0, .int .u64 0, .int .u64 0, .int .i64 0, .int .i64 0] 26)) = W0 := ⟨_, rfl⟩
  rw [hW0] at HW
  obtain ⟨a0, a1, a2, a3, a4, a5⟩ := num_cells HW.out.1.1
  obtain ⟨b0, b1, b2, b3, b4, b5⟩ := num_cells HW.out.1.2
  cases ok
  · rw [if_neg Bool.false_ne_true]
    go_enter Try.func7, Try.ntmps7
    go_upto_region 13 with fail
    refine wp_first (c' := hdC (tl 6 (Try.f7.body.getD .skip))) (by kernel_rfl) ?_
    have ht := fun nx hn => way_tail_false x y c d 32 0 w _ HC.out HW.out nx hn
    unfold numV at ht
    exact ht _ (by intro a' w' h'; apply_assumption; exact h') _ _ _ _ _ _ _ _ _ _ _ _ _ _ _ _ _ _ _ _ _ _ _ _ _ _ _ _ _ _ _ _ _ _ _ _ _ _ _ _ _ _ _ _ _ _ _ _ _ _ _ _ _ _ _ _ _ _ _ _ _ _ _ _ _ _ _ _ _ _ _ _ _ _ _ _ _ _ _ _ _ _ _ _ _ _ _
  · rw [if_pos rfl]
    go_enter Try.func7, Try.ntmps7
    go_upto_region 13 with fail
    refine wp_first (c' := hdC (tl 6 (Try.f7.body.getD .skip))) (by kernel_rfl) ?_
    have ht := fun nx hn => way_tail_true x y c d 32 0 w _ HC.out HW.out nx hn
    unfold numV at ht
    exact ht _ (by intro a' w' h'; apply_assumption; exact h') _ _ _ _ _ _ _ _ _ _ _ _ _ _ _ _ _ _ _ _ _ _ _ _ _ _ _ _ _ _ _ _ _ _ _ _ _ _ _ _ _ _ _ _ _ _ _ _ _ _ _ _ _ _ _ _ _ _ _ _ _ _ _ _ _ _ _ _ _ _ _ _ _ _ _ _ _ _ _ _ _ _ _ _ _ _ _
set_option maxRecDepth 100000 in
set_option maxHeartbeats 8000000 in
theorem wy32_f_w (x y c d : K) (ok : Bool) (w : World) (hc : ∀ W, Calls Try.prog 16 #[.int .u8 176, .int .i64 0, numV x, numV y] W (Gives (.tuple #[numV c, numV d, .bool ok]) W)) :
    Calls Try.prog 7 #[.int .u8 32, .bool true, numV x, numV y, .bool false] w (Gives (if ok = true then .tuple #[numV c, numV d, .bool true] else .tuple #[numV x, numV y, .bool false]) w) := by
  have hop := fun W => opp_ref 32 W
  rw [show oppI 32 = 176 from rfl] at hop
  have HC := Lib.hid hc
  clear hc
  have HW := Lib.hid (h4_new x y w)
  unfold Gives numV
  obtain ⟨W0, hW0⟩ : ∃ W0, ((((w.alloc (.cells #[.int .u64 (u x.v), .int .u64 (u x.m), .int .u64 (u x.a), .int .u64 (u x.b), .int .i64 (s x.c), .int .i64 (s x.d)] 26)).alloc (.cells #[.int .u64 (u y.v), .int .u64 (u y.m), .int .u64 (u y.a), .int .u64 (u y.b), .int .i64 (s y.c), .int .i64 (s y.d)] 26)).alloc (.cells #[.int .u64 0, .int .u64 0, .int .u64 0, .int .u64 0, .int .i64 0, .int .i64 0] 26)).alloc (.cells #[.int .u64 0, .int .u64 0, .int .u64 0, .int .u64 0, .int .i64 0, .int .i64 0] 26)) = W0 := ⟨_, rfl⟩
  rw [hW0] at HW
  cases ok
  · rw [if_neg Bool.false_ne_true]
    go_enter Try.func7, Try.ntmps7
    go_upto_region 13 with (go_at_call 15; refine (hop _).mono ?_; rintro e w1 ⟨rfl, hb⟩; have HV := Lib.hid (h4_keep HW.out hb); clear hb)
    refine wp_first (c' := hdC (tl 6 (Try.f7.body.getD .skip))) (by kernel_rfl) ?_
    have ht := fun nx hn => way_tail_false x y c d 176 0 w _ HC.out HV.out nx hn
    unfold numV at ht
    exact ht _ (by intro a' w' h'; apply_assumption; exact h') _ _ _ _ _ _ _ _ _ _ _ _ _ _ _ _ _ _ _ _ _ _ _ _ _ _ _ _ _ _ _ _ _ _ _ _ _ _ _ _ _ _ _ _ _ _ _ _ _ _ _ _ _ _ _ _ _ _ _ _ _ _ _ _ _ _ _ _ _ _ _ _ _ _ _ _ _ _ _ _ _ _ _ _ _ _ _
  · rw [if_pos rfl]
    go_enter Try.func7, Try.ntmps7
    go_upto_region 13 with (go_at_call 15; refine (hop _).mono ?_; rintro e w1 ⟨rfl, hb⟩; have HV := Lib.hid (h4_keep HW.out hb); clear hb)
    refine wp_first (c' := hdC (tl 6 (Try.f7.body.getD .skip))) (by kernel_rfl) ?_
    have ht := fun nx hn => way_tail_true x y c d 176 0 w _ HC.out HV.out nx hn
    unfold numV at ht
    exact ht _ (by intro a' w' h'; apply_assumption; exact h') _ _ _ _ _ _ _ _ _ _ _ _ _ _ _ _ _ _ _ _ _ _ _ _ _ _ _ _ _ _ _ _ _ _ _ _ _ _ _ _ _ _ _ _ _ _ _ _ _ _ _ _ _ _ _ _ _ _ _ _ _ _ _ _ _ _ _ _ _ _ _ _ _ _ _ _ _ _ _ _ _ _ _ _ _ _ _
set_option maxRecDepth 100000 in
set_option maxHeartbeats 8000000 in
theorem wy32_f_l (x y c d : K) (ok : Bool) (w : World) (h1 : decide (4294967295 < u x.b) = false) (h2 : decide (4294967295 < u y.b) = false) (hc : ∀ W, Calls Try.prog 16 #[.int .u8 176, .int .i64 0, numV x, numV y] W (Gives (.tuple #[numV c, numV d, .bool ok]) W)) :
    Calls Try.prog 7 #[.int .u8 32, .bool false, numV x, numV y, .bool false] w (Gives (if ok = true then .tuple #[numV c, numV d, .bool true] else .tuple #[numV x, numV y, .bool false]) w) := by
  have hop := fun W => opp_ref 32 W
  rw [show oppI 32 = 176 from rfl] at hop
  have HC := Lib.hid hc
  clear hc
  have HW := Lib.hid (h4_new x y w)
  unfold Gives numV
  obtain ⟨W0, hW0⟩ : ∃ W0, ((((w.alloc (.cells #[.int .u64 (u x.v), .int .u64 (u x.m), .int .u64 (u x.a), .int .u64 (u x.b), .int .i64 (s x.c), .int .i64 (s x.d)] 26)).alloc (.cells #[.int .u64 (u y.v), .int .u64 (u y.m), .int .u64 (u y.a), .int .u64 (u y.b), .int .i64 (s y.c), .int .i64 (s y.d)] 26)).alloc (.cells #[.int .u64 0, .int .u64 0, .int .u64 0, .int .u64 0, .int .i64 0, .int .i64 0] 26)).alloc (.cells #[.int .u64 0, .int .u64 0, .int .u64 0, .int .u64 0, .int .i64 0, .int .i64 0] 26)) = W0 := ⟨_, rfl⟩
  rw [hW0] at HW
  obtain ⟨a0, a1, a2, a3, a4, a5⟩ := num_cells HW.out.1.1
  obtain ⟨b0, b1, b2, b3, b4, b5⟩ := num_cells HW.out.1.2
  cases ok
  · rw [if_neg Bool.false_ne_true]
    go_enter Try.func7, Try.ntmps7
    go_upto_region 13 with (go_at_call 15; refine (hop _).mono ?_; rintro e w1 ⟨rfl, hb⟩; have HV := Lib.hid (h4_keep HW.out hb); clear hb)
    refine wp_first (c' := hdC (tl 6 (Try.f7.body.getD .skip))) (by kernel_rfl) ?_
    have ht := fun nx hn => way_tail_false x y c d 176 0 w _ HC.out HV.out nx hn
    unfold numV at ht
    exact ht _ (by intro a' w' h'; apply_assumption; exact h') _ _ _ _ _ _ _ _ _ _ _ _ _ _ _ _ _ _ _ _ _ _ _ _ _ _ _ _ _ _ _ _ _ _ _ _ _ _ _ _ _ _ _ _ _ _ _ _ _ _ _ _ _ _ _ _ _ _ _ _ _ _ _ _ _ _ _ _ _ _ _ _ _ _ _ _ _ _ _ _ _ _ _ _ _ _ _
  · rw [if_pos rfl]
    go_enter Try.func7, Try.ntmps7
    go_upto_region 13 with (go_at_call 15; refine (hop _).mono ?_; rintro e w1 ⟨rfl, hb⟩; have HV := Lib.hid (h4_keep HW.out hb); clear hb)
    refine wp_first (c' := hdC (tl 6 (Try.f7.body.getD .skip))) (by kernel_rfl) ?_
    have ht := fun nx hn => way_tail_true x y c d 176 0 w _ HC.out HV.out nx hn
    unfold numV at ht
    exact ht _ (by intro a' w' h'; apply_assumption; exact h') _ _ _ _ _ _ _ _ _ _ _ _ _ _ _ _ _ _ _ _ _ _ _ _ _ _ _ _ _ _ _ _ _ _ _ _ _ _ _ _ _ _ _ _ _ _ _ _ _ _ _ _ _ _ _ _ _ _ _ _ _ _ _ _ _ _ _ _ _ _ _ _ _ _ _ _ _ _ _ _ _ _ _ _ _ _ _
set_option maxRecDepth 100000 in
set_option maxHeartbeats 8000000 in
theorem wy48_t_w (x y c d : K) (ok : Bool) (w : World) (hc : ∀ W, Calls Try.prog 16 #[.int .u8 48, .int .i64 0, numV x, numV y] W (Gives (.tuple #[numV c, numV d, .bool ok]) W)) :
    Calls Try.prog 7 #[.int .u8 48, .bool true, numV x, numV y, .bool true] w (Gives (if ok = true then .tuple #[numV c, numV d, .bool true] else .tuple #[numV x, numV y, .bool false]) w) := by
  have HC := Lib.hid hc
  clear hc
  have HW := Lib.hid (h4_new x y w)
  unfold Gives numV
  obtain ⟨W0, hW0⟩ : ∃ W0, ((((w.alloc (.cells #[.int .u64 (u x.v), .int .u64 (u x.m), .int .u64 (u x.a), .int .u64 (u x.b), .int .i64 (s x.c), .int .i64 (s x.d)] 26)).alloc (.cells #[.int .u64 (u y.v), .int .u64 (u y.m), .int .u64 (u y.a), .int .u64 (u y.b), .int .i64 (s y.c), .int .i64 (s y.d)] 26)).alloc (.cells #[.int .u64 0, .int .u64 0, .int .u64 0, .int .u64 0, .int .i64 0, .int .i64 0] 26)).alloc (.cells #[.int .u64 0, .int .u64 0, .int .u64 0, .int .u64 0, .int .i64 0, .int .i64 0] 26)) = W0 := ⟨_, rfl⟩
  rw [hW0] at HW
  cases ok
  · rw [if_neg Bool.false_ne_true]
    go_enter Try.func7, Try.ntmps7
    go_upto_region 13 with fail
    refine wp_first (c' := hdC (tl 6 (Try.f7.body.getD .skip))) (by kernel_rfl) ?_
    have ht := fun nx hn => way_tail_false x y c d 48 0 w _ HC.out HW.out nx hn
    unfold numV at ht
    exact ht _ (by intro a' w' h'; apply_assumption; exact h') _ _ _ _ _ _ _ _ _ _ _ _ _ _ _ _ _ _ _ _ _ _ _ _ _ _ _ _ _ _ _ _ _ _ _ _ _ _ _ _ _ _ _ _ _ _ _ _ _ _ _ _ _ _ _ _ _ _ _ _ _ _ _ _ _ _ _ _ _ _ _ _ _ _ _ _ _ _ _ _ _ _ _ _ _ _ _
  · rw [if_pos rfl]
    go_enter Try.func7, Try.ntmps7
    go_upto_region 13 with fail
    refine wp_first (c' := hdC (tl 6 (Try.f7.body.getD .skip))) (by kernel_rfl) ?_
    have ht := fun nx hn => way_tail_true x y c d 48 0 w _ HC.out HW.out nx hn
    unfold numV at ht
    exact ht _ (by intro a' w' h'; apply_assumption; exact h') _ _ _ _ _ _ _ _ _ _ _ _ _ _ _ _ _ _ _ _ _ _ _ _ _ _ _ _ _ _ _ _ _ _ _ _ _ _ _ _ _ _ _ _ _ _ _ _ _ _ _ _ _ _ _ _ _ _ _ _ _ _ _ _ _ _ _ _ _ _ _ _ _ _ _ _ _ _ _ _ _ _ _ _ _ _ _
set_option maxRecDepth 100000 in
set_option maxHeartbeats 8000000 in
theorem wy48_t_l (x y c d : K) (ok : Bool) (w : World) (h1 : decide (4294967295 < u x.b) = false) (h2 : decide (4294967295 < u y.b) = false) (hc : ∀ W, Calls Try.prog 16 #[.int .u8 48, .int .i64 0, numV x, numV y] W (Gives (.tuple #[numV c, numV d, .bool ok]) W)) :
    Calls Try.prog 7 #[.int .u8 48, .bool false, numV x, numV y, .bool true] w (Gives (if ok = true then .tuple #[numV c, numV d, .bool true] else .tuple #[numV x, numV y, .bool false]) w) := by
  have HC := Lib.hid hc
  clear hc
  have HW := Lib.hid (h4_new x y w)
  unfold Gives numV
  obtain ⟨W0, hW0⟩ : ∃ W0, ((((w.alloc (.cells #[.int .u64 (u x.v), .int .u64 (u x.m), .int .u64 (u x.a), .int .u64 (u x.b), .int .i64 (s x.c), .int .i64 (s x.d)] 26)).alloc (.cells #[.int .u64 (u y.v), .int .u64 (u y.m), .int .u64 (u y.a), .int .u64 (u y.b), .int .i64 (s y.c), .int .i64 (s y.d)] 26)).alloc (.cells #[.int .u64 0, .int .u64 0, .int .u64 0, .int .u64 0, .int .i64 0, .int .i64 0] 26)).alloc (.cells #[.int .u64 0, .int .u64 0, .int .u64 0, .int .u64 0, .int .i64 0, .int .i64 0] 26)) = W0 := ⟨_, rfl⟩
  rw [hW0] at HW
  obtain ⟨a0, a1, a2, a3, a4, a5⟩ := num_cells HW.out.1.1
  obtain ⟨b0, b1, b2, b3, b4, b5⟩ := num_cells HW.out.1.2
  cases ok
  · rw [if_neg Bool.false_ne_true]
    go_enter Try.func7, Try.ntmps7
    go_upto_region 13 with fail
    refine wp_first (c' := hdC (tl 6 (Try.f7.body.getD .skip))) (by kernel_rfl) ?_
    have ht := fun nx hn => way_tail_false x y c d 48 0 w _ HC.out HW.out nx hn
    unfold numV at ht
    exact ht _ (by intro a' w' h'; apply_assumption; exact h') _ _ _ _ _ _ _ _ _ _ _ _ _ _ _ _ _ _ _ _ _ _ _ _ _ _ _ _ _ _ _ _ _ _ _ _ _ _ _ _ _ _ _ _ _ _ _ _ _ _ _ _ _ _ _ _ _ _ _ _ _ _ _ _ _ _ _ _ _ _ _ _ _ _ _ _ _ _ _ _ _ _ _ _ _ _ _
  · rw [if_pos rfl]
    go_enter Try.func7, Try.ntmps7
    go_upto_region 13 with fail
    refine wp_first (c' := hdC (tl 6 (Try.f7.body.getD .skip))) (by kernel_rfl) ?_
    have ht := fun nx hn => way_tail_true x y c d 48 0 w _ HC.out HW.out nx hn
    unfold numV at ht
    exact ht _ (by intro a' w' h'; apply_assumption; exact h') _ _ _ _ _ _ _ _ _ _ _ _ _ _ _ _ _ _ _ _ _ _ _ _ _ _ _ _ _ _ _ _ _ _ _ _ _ _ _ _ _ _ _ _ _ _ _ _ _ _ _ _ _ _ _ _ _ _ _ _ _ _ _ _ _ _ _ _ _ _ _ _ _ _ _ _ _ _ _ _ _ _ _ _ _ _ _
set_option maxRecDepth 100000 in
set_option maxHeartbeats 8000000 in
theorem wy48_f_w (x y c d : K) (ok : Bool) (w : World) (hc : ∀ W, Calls Try.prog 16 #[.int .u8 160, .int .i64 0, numV x, numV y] W (Gives (.tuple #[numV c, numV d, .bool ok]) W)) :
    Calls Try.prog 7 #[.int .u8 48, .bool true, numV x, numV y, .bool false] w (Gives (if ok = true then .tuple #[numV c, numV d, .bool true] else .tuple #[numV x, numV y, .bool false]) w) := by
  have hop := fun W => opp_ref 48 W
  rw [show oppI 48 = 160 from rfl] at hop
  have HC := Lib.hid hc
  clear hc
  have HW := Lib.hid (h4_new x y w)
  unfold Gives numV
  obtain ⟨W0, hW0⟩ : ∃ W0, ((((w.alloc (.cells #[.int .u64 (u x.v), .int .u64 (u x.m), .int .u64 (u x.a), .int .u64 (u x.b), .int .i64 (s x.c), .int .i64 (s x.d)] 26)).alloc (.cells #[.int .u64 (u y.v), .int .u64 (u y.m), .int .u64 (u y.a), .int .u64 (u y.b), .int .i64 (s y.c), .int .i64 (s y.d)] 26)).alloc (.cells #[.int .u64 0, .int .u64 0, .int .u64 0, .int .u64 0, .int .i64 0, .int .i64 0] 26)).alloc (.cells #[.int .u64 0, .int .u64 0, .int .u64 0, .int .u64 0, .int .i64 0, .int .i64 0] 26)) = W0 := ⟨_, rfl⟩
  rw [hW0] at HW
  cases ok
  · rw [if_neg Bool.false_ne_true]
    go_enter Try.func7, Try.ntmps7
    go_upto_region 13 with (go_at_call 15; refine (hop _).mono ?_; rintro e w1 ⟨rfl, hb⟩; have HV := Lib.hid (h4_keep HW.out hb); clear hb)
    refine wp_first (c' := hdC (tl 6 (Try.f7.body.getD .skip))) (by kernel_rfl) ?_
    have ht := fun nx hn => way_tail_false x y c d 160 0 w _ HC.out HV.out nx hn
    unfold numV at ht
    exact ht _ (by intro a' w' h'; apply_assumption; exact h') _ _ _ _ _ _ _ _ _ _ _ _ _ _ _ _ _ _ _ _ _ _ _ _ _ _ _ _ _ _ _ _ _ _ _ _ _ _ _ _ _ _ _ _ _ _ _ _ _ _ _ _ _ _ _ _ _ _ _ _ _ _ _ _ _ _ _ _ _ _ _ _ _ _ _ _ _ _ _ _ _ _ _ _ _ _ _
  · rw [if_pos rfl]
    go_enter Try.func7, Try.ntmps7
    go_upto_region 13 with (go_at_call 15; refine (hop _).mono ?_; rintro e w1 ⟨rfl, hb⟩; have HV := Lib.hid (h4_keep HW.out hb); clear hb)
    refine wp_first (c' := hdC (tl 6 (Try.f7.body.getD .skip))) (by kernel_rfl) ?_
    have ht := fun nx hn => way_tail_true x y c d 160 0 w _ HC.out HV.out nx hn
    unfold numV at ht
    exact ht _ (by intro a' w' h'; apply_assumption; exact h') _ _ _ _ _ _ _ _ _ _ _ _ _ _ _ _ _ _ _ _ _ _ _ _ _ _ _ _ _ _ _ _ _ _ _ _ _ _ _ _ _ _ _ _ _ _ _ _ _ _ _ _ _ _ _ _ _ _ _ _ _ _ _ _ _ _ _ _ _ _ _ _ _ _ _ _ _ _ _ _ _ _ _ _ _ _ _
set_option maxRecDepth 100000 in
set_option maxHeartbeats 8000000 in
theorem wy48_f_l (x y c d : K) (ok : Bool) (w : World) (h1 : decide (4294967295 < u x.b) = false) (h2 : decide (4294967295 < u y.b) = false) (hc : ∀ W, Calls Try.prog 16 #[.int .u8 160, .int .i64 0, numV x, numV y] W (Gives (.tuple #[numV c, numV d, .bool ok]) W)) :
    Calls Try.prog 7 #[.int .u8 48, .bool false, numV x, numV y, .bool false] w (Gives (if ok = true then .tuple #[numV c, numV d, .bool true] else .tuple #[numV x, numV y, .bool false]) w) := by
  have hop := fun W => opp_ref 48 W
  rw [show oppI 48 = 160 from rfl] at hop
  have HC := Lib.hid hc
  clear hc
  have HW := Lib.hid (h4_new x y w)
  unfold Gives numV
  obtain ⟨W0, hW0⟩ : ∃ W0, ((((w.alloc (.cells #[.int .u64 (u x.v), .int .u64 (u x.m), .int .u64 (u x.a), .int .u64 (u x.b), .int .i64 (s x.c), .int .i64 (s x.d)] 26)).alloc (.cells #[.int .u64 (u y.v), .int .u64 (u y.m), .int .u64 (u y.a), .int .u64 (u y.b), .int .i64 (s y.c), .int .i64 (s y.d)] 26)).alloc (.cells #[.int .u64 0, .int .u64 0, .int .u64 0, .int .u64 0, .int .i64 0, .int .i64 0] 26)).alloc (.cells #[.int .u64 0, .int .u64 0, .int .u64 0, .int .u64 0, .int .i64 0, .int .i64 0] 26)) = W0 := ⟨_, rfl⟩
  rw [hW0] at HW
  obtain ⟨a0, a1, a2, a3, a4, a5⟩ := num_cells HW.out.1.1
  obtain ⟨b0, b1, b2, b3, b4, b5⟩ := num_cells HW.out.1.2
  cases ok
  · rw [if_neg Bool.false_ne_true]
    go_enter Try.func7, Try.ntmps7
    go_upto_region 13 with (go_at_call 15; refine (hop _).mono ?_; rintro e w1 ⟨rfl, hb⟩; have HV := Lib.hid (h4_keep HW.out hb); clear hb)
    refine wp_first (c' := hdC (tl 6 (Try.f7.body.getD .skip))) (by kernel_rfl) ?_
    have ht := fun nx hn => way_tail_false x y c d 160 0 w _ HC.out HV.out nx hn
    unfold numV at ht
    exact ht _ (by intro a' w' h'; apply_assumption; exact h') _ _ _ _ _ _ _ _ _ _ _ _ _ _ _ _ _ _ _ _ _ _ _ _ _ _ _ _ _ _ _ _ _ _ _ _ _ _ _ _ _ _ _ _ _ _ _ _ _ _ _ _ _ _ _ _ _ _ _ _ _ _ _ _ _ _ _ _ _ _ _ _ _ _ _ _ _ _ _ _ _ _ _ _ _ _ _
  · rw [if_pos rfl]
    go_enter Try.func7, Try.ntmps7
    go_upto_region 13 with (go_at_call 15; refine (hop _).mono ?_; rintro e w1 ⟨rfl, hb⟩; have HV := Lib.hid (h4_keep HW.out hb); clear hb)
    refine wp_first (c' := hdC (tl 6 (Try.f7.body.getD .skip))) (by kernel_rfl) ?_
    have ht := fun nx hn => way_tail_true x y c d 160 0 w _ HC.out HV.out nx hn
    unfold numV at ht
    exact ht _ (by intro a' w' h'; apply_assumption; exact h') _ _ _ _ _ _ _ _ _ _ _ _ _ _ _ _ _ _ _ _ _ _ _ _ _ _ _ _ _ _ _ _ _ _ _ _ _ _ _ _ _ _ _ _ _ _ _ _ _ _ _ _ _ _ _ _ _ _ _ _ _ _ _ _ _ _ _ _ _ _ _ _ _ _ _ _ _ _ _ _ _ _ _ _ _ _ _
end Go.Proofs.Ytbljijbmjccalaa

/-
  Proved here: what the document's Way of layer 9 returns, for other conditions. Conditions: none.
-/
namespace Go.Proofs.Ytbljijbmjccalaa
open Go.RowKit Go.MapKept
attribute [local go_sem] u_and u_or u_xor u_andNot u_add u_sub s_conv u_conv max_u min_u max_s min_s u_inc u_less s_inc s_less s_inc64 s_less64
set_option linter.unusedSimpArgs false

set_option maxRecDepth 100000 in
set_option maxHeartbeats 8000000 in
theorem wy160_t_w (x y c d : K) (ok : Bool) (w : World) (hc : ∀ W, Calls Try.prog 16 #[.int .u8 160, .int .i64 0, numV x, numV y] W (Gives (.tuple #[numV c, numV d, .bool ok]) W)) :
    Calls Try.prog 7 #[.int .u8 160, .bool true, numV x, numV y, .bool true] w (Gives (if ok = true then .tuple #[numV c, numV d, .bool true] else .tuple #[numV x, numV y, .bool false]) w) := by
  have HC := Lib.hid hc
  clear hc
  have HW := Lib.hid (h4_new x y w)
  unfold Gives numV
  obtain ⟨W0, hW0⟩ : ∃ W0, ((((w.alloc (.cells #[.int .u64 (u x.v), .int .u64 (u x.m), .int .u64 (u x.a), .int .u64 (u x.b), .int .i64 (s x.c), .int .i64 (s x.d)] 26)).alloc (.cells #[.int .u64 (u y.v), .int .u64 (u y.m), .int .u64 (u y.a), .int .u64 (u y.b), .int .i64 (s y.c), .int .i64 (s y.d)] 26)).alloc (.cells #[.int .u64 0, .int .u64 0, .int .u64 0, .int .u64 0, .int .i64 0, .int .i64 0] 26)).alloc (.cells #[.int .u64 0, .int .u64 0, .int .u64 0, .int .u64 0, .int .i64 0, .int .i64 0] 26)) = W0 := ⟨_, rfl⟩
  rw [hW0] at HW
  cases ok
  · rw [if_neg Bool.false_ne_true]
    go_enter Try.func7, Try.ntmps7
    go_upto_region 13 with fail
    refine wp_first (c' := hdC (tl 6 (Try.f7.body.getD .skip))) (by kernel_rfl) ?_
    have ht := fun nx hn => way_tail_false x y c d 160 0 w _ HC.out HW.out nx hn
    unfold numV at ht
    exact ht _ (by intro a' w' h'; apply_assumption; exact h') _ _ _ _ _ _ _ _ _ _ _ _ _ _ _ _ _ _ _ _ _ _ _ _ _ _ _ _ _ _ _ _ _ _ _ _ _ _ _ _ _ _ _ _ _ _ _ _ _ _ _ _ _ _ _ _ _ _ _ _ _ _ _ _ _ _ _ _ _ _ _ _ _ _ _ _ _ _ _ _ _ _ _ _ _ _ _
  · rw [if_pos rfl]
    go_enter Try.func7, Try.ntmps7
    go_upto_region 13 with fail
    refine wp_first (c' := hdC (tl 6 (Try.f7.body.getD .skip))) (by kernel_rfl) ?_
    have ht := fun nx hn => way_tail_true x y c d 160 0 w _ HC.out HW.out nx hn
    unfold numV at ht
    exact ht _ (by intro a' w' h'; apply_assumption; exact h') _ _ _ _ _ _ _ _ _ _ _ _ _ _ _ _ _ _ _ _ _ _ _ _ _ _ _ _ _ _ _ _ _ _ _ _ _ _ _ _ _ _ _ _ _ _ _ _ _ _ _ _ _ _ _ _ _ _ _ _ _ _ _ _ _ _ _ _ _ _ _ _ _ _ _ _ _ _ _ _ _ _ _ _ _ _ _
set_option maxRecDepth 100000 in
set_option maxHeartbeats 8000000 in
theorem wy160_t_l (x y c d : K) (ok : Bool) (w : World) (h1 : decide (4294967295 < u x.b) = false) (h2 : decide (4294967295 < u y.b) = false) (hc : ∀ W, Calls Try.prog 16 #[.int .u8 160, .int .i64 0, numV x, numV y] W (Gives (.tuple #[numV c, numV d, .bool ok]) W)) :
    Calls Try.prog 7 #[.int .u8 160, .bool false, numV x, numV y, .bool true] w (Gives (if ok = true then .tuple #[numV c, numV d, .bool true] else .tuple #[numV x, numV y, .bool false]) w) := by
  have HC := Lib.hid hc
  clear hc
  have HW := Lib.hid (h4_new x y w)
  unfold Gives numV
  obtain ⟨W0, hW0⟩ : ∃ W0, ((((w.alloc (.cells #[.int .u64 (u x.v), .int .u64 (u x.m), .int .u64 (u x.a), .int .u64 (u x.b), .int .i64 (s x.c), .int .i64 (s x.d)] 26)).alloc (.cells #[.int .u64 (u y.v), .int .u64 (u y.m), .int .u64 (u y.a), .int .u64 (u y.b), .int .i64 (s y.c), .int .i64 (s y.d)] 26)).alloc (.cells #[.int .u64 0, .int .u64 0, .int .u64 0, .int .u64 0, .int .i64 0, .int .i64 0] 26)).alloc (.cells #[.int .u64 0, .int .u64 0, .int .u64 0, .int .u64 0, .int .i64 0, .int .i64 0] 26)) = W0 := ⟨_, rfl⟩
  rw [hW0] at HW
  obtain ⟨a0, a1, a2, a3, a4, a5⟩ := num_cells HW.out.1.1
  obtain ⟨b0, b1, b2, b3, b4, b5⟩ := num_cells HW.out.1.2
  cases ok
  · rw [if_neg Bool.false_ne_true]
    go_enter Try.func7, Try.ntmps7
    go_upto_region 13 with fail
    refine wp_first (c' := hdC (tl 6 (Try.f7.body.getD .skip))) (by kernel_rfl) ?_
    have ht := fun nx hn => way_tail_false x y c d 160 0 w _ HC.out HW.out nx hn
    unfold numV at ht
    exact ht _ (by intro a' w' h'; apply_assumption; exact h') _ _ _ _ _ _ _ _ _ _ _ _ _ _ _ _ _ _ _ _ _ _ _ _ _ _ _ _ _ _ _ _ _ _ _ _ _ _ _ _ _ _ _ _ _ _ _ _ _ _ _ _ _ _ _ _ _ _ _ _ _ _ _ _ _ _ _ _ _ _ _ _ _ _ _ _ _ _ _ _ _ _ _ _ _ _ _
  · rw [if_pos rfl]
    go_enter Try.func7, Try.ntmps7
    go_upto_region 13 with fail
    refine wp_first (c' := hdC (tl 6 (Try.f7.body.getD .skip))) (by kernel_rfl) ?_
    have ht := fun nx hn => way_tail_true x y c d 160 0 w _ HC.out HW.out nx hn
    unfold numV at ht
    exact ht _ (by intro a' w' h'; apply_assumption; exact h') _ _ _ _ _ _ _ _ _ _ _ _ _ _ _ _ _ _ _ _ _ _ _ _ _ _ _ _ _ _ _ _ _ _ _ _ _ _ _ _ _ _ _ _ _ _ _ _ _ _ _ _ _ _ _ _ _ _ _ _ _ _ _ _ _ _ _ _ _ _ _ _ _ _ _ _ _ _ _ _ _ _ _ _ _ _ _
set_option maxRecDepth 100000 in
set_option maxHeartbeats 8000000 in
theorem wy160_f_w (x y c d : K) (ok : Bool) (w : World) (hc : ∀ W, Calls Try.prog 16 #[.int .u8 48, .int .i64 0, numV x, numV y] W (Gives (.tuple #[numV c, numV d, .bool ok]) W)) :
    Calls Try.prog 7 #[.int .u8 160, .bool true, numV x, numV y, .bool false] w (Gives (if ok = true then .tuple #[numV c, numV d, .bool true] else .tuple #[numV x, numV y, .bool false]) w) := by
  have hop := fun W => opp_ref 160 W
  rw [show oppI 160 = 48 from rfl] at hop
  have HC := Lib.hid hc
  clear hc
  have HW := Lib.hid (h4_new x y w)
  unfold Gives numV
  obtain ⟨W0, hW0⟩ : ∃ W0, ((((w.alloc (.cells #[.int .u64 (u x.v), .int .u64 (u x.m), .int .u64 (u x.a), .int .u64 (u x.b), .int .i64 (s x.c), .int .i64 (s x.d)] 26)).alloc (.cells #[.int .u64 (u y.v), .int .u64 (u y.m), .int .u64 (u y.a), .int .u64 (u y.b), .int .i64 (s y.c), .int .i64 (s y.d)] 26)).alloc (.cells #[.int .u64 0, .int .u64 0, .int .u64 0, .int .u64 0, .int .i64 0, .int .i64 0] 26)).alloc (.cells #[.int .u64 0, .int .u64 0, .int .u64 0, .int .u64 0, .int .i64 0, .int .i64 0] 26)) = W0 := ⟨_, rfl⟩
  rw [hW0] at HW
  cases ok
  · rw [if_neg Bool.false_ne_true]
    go_enter Try.func7, Try.ntmps7
    go_upto_region 13 with (go_at_call 15; refine (hop _).mono ?_; rintro e w1 ⟨rfl, hb⟩; have HV := Lib.hid (h4_keep HW.out hb); clear hb)
    refine wp_first (c' := hdC (tl 6 (Try.f7.body.getD .skip))) (by kernel_rfl) ?_
    have ht := fun nx hn => way_tail_false x y c d 48 0 w _ HC.out HV.out nx hn
    unfold numV at ht
    exact ht _ (by intro a' w' h'; apply_assumption; exact h') _ _ _ _ _ _ _ _ _ _ _ _ _ _ _ _ _ _ _ _ _ _ _ _ _ _ _ _ _ _ _ _ _ _ _ _ _ _ _ _ _ _ _ _ _ _ _ _ _ _ _ _ _ _ _ _ _ _ _ _ _ _ _ _ _ _ _ _ _ _ _ _ _ _ _ _ _ _ _ _ _ _ _ _ _ _ _
  · rw [if_pos rfl]
    go_enter Try.func7, Try.ntmps7
    go_upto_region 13 with (go_at_call 15; refine (hop _).mono ?_; rintro e w1 ⟨rfl, hb⟩; have HV := Lib.hid (h4_keep HW.out hb); clear hb)
    refine wp_first (c' := hdC (tl 6 (Try.f7.body.getD .skip))) (by kernel_rfl) ?_
    have ht := fun nx hn => way_tail_true x y c d 48 0 w _ HC.out HV.out nx hn
    unfold numV at ht
    exact ht _ (by intro a' w' h'; apply_assumption; exact h') _ _ _ _ _ _ _ _ _ _ _ _ _ _ _ _ _ _ _ _ _ _ _ _ _ _ _ _ _ _ _ _ _ _ _ _ _ _ _ _ _ _ _ _ _ _ _ _ _ _ _ _ _ _ _ _ _ _ _ _ _ _ _ _ _ _ _ _ _ _ _ _ _ _ _ _ _ _ _ _ _ _ _ _ _ _ _
set_option maxRecDepth 100000 in
set_option maxHeartbeats 8000000 in
theorem wy160_f_l (x y c d : K) (ok : Bool) (w : World) (h1 : decide (4294967295 < u x.b) = false) (h2 : decide (4294967295 < u y.b) = false) (hc : ∀ W, Calls Try.prog 16 #[.int .u8 48, .int .i64 0, numV x, numV y] W (Gives (.tuple #[numV c, numV d, .bool ok]) W)) :
    Calls Try.prog 7 #[.int .u8 160, .bool false, numV x, numV y, .bool false] w (Gives (if ok = true then .tuple #[numV c, numV d, .bool true] else .tuple #[numV x, numV y, .bool false]) w) := by
  have hop := fun W => opp_ref 160 W
  rw [show oppI 160 = 48 from rfl] at hop
  have HC := Lib.hid hc
  clear hc
  have HW := Lib.hid (h4_new x y w)
  unfold Gives numV
  obtain ⟨W0, hW0⟩ : ∃ W0, ((((w.alloc (.cells #[.int .u64 (u x.v), .int .u64 (u x.m), .int .u64 (u x.a), .int .u64 (u x.b), .int .i64 (s x.c), .int .i64 (s x.d)] 26)).alloc (.cells #[.int .u64 (u y.v), .int .u64 (u y.m), .int .u64 (u y.a), .int .u64 (u y.b), .int .i64 (s y.c), .int .i64 (s y.d)] 26)).alloc (.cells #[.int .u64 0, .int .u64 0, .int .u64 0, .int .u64 0, .int .i64 0, .int .i64 0] 26)).alloc (.cells #[.int .u64 0, .int .u64 0, .int .u64 0, .int .u64 0, .int .i64 0, .int .i64 0] 26)) = W0 := ⟨_, rfl⟩
  rw [hW0] at HW
  obtain ⟨a0, a1, a2, a3, a4, a5⟩ := num_cells HW.out.1.1
  obtain ⟨b0, b1, b2, b3, b4, b5⟩ := num_cells HW.out.1.2
  cases ok
  · rw [if_neg Bool.false_ne_true]
    go_enter Try.func7, Try.ntmps7
    go_upto_region 13 with (go_at_call 15; refine (hop _).mono ?_; rintro e w1 ⟨rfl, hb⟩; have HV := Lib.hid (h4_keep HW.out hb); clear hb)
    refine wp_first (c' := hdC (tl 6 (Try.f7.body.getD .skip))) (by kernel_rfl) ?_
    have ht := fun nx hn => way_tail_false x y c d 48 0 w _ HC.out HV.out nx hn
    unfold numV at ht
    exact ht _ (by intro a' w' h'; apply_assumption; exact h') _ _ _ _ _ _ _ _ _ _ _ _ _ _ _ _ _ _ _ _ _ _ _ _ _ _ _ _ _ _ _ _ _ _ _ _ _ _ _ _ _ _ _ _ _ _ _ _ _ _ _ _ _ _ _ _ _ _ _ _ _ _ _ _ _ _ _ _ _ _ _ _ _ _ _ _ _ _ _ _ _ _ _ _ _ _ _
  · rw [if_pos rfl]
    go_enter Try.func7, Try.ntmps7
    go_upto_region 13 with (go_at_call 15; refine (hop _).mono ?_; rintro e w1 ⟨rfl, hb⟩; have HV := Lib.hid (h4_keep HW.out hb); clear hb)
    refine wp_first (c' := hdC (tl 6 (Try.f7.body.getD .skip))) (by kernel_rfl) ?_
    have ht := fun nx hn => way_tail_true x y c d 48 0 w _ HC.out HV.out nx hn
    unfold numV at ht
    exact ht _ (by intro a' w' h'; apply_assumption; exact h') _ _ _ _ _ _ _ _ _ _ _ _ _ _ _ _ _ _ _ _ _ _ _ _ _ _ _ _ _ _ _ _ _ _ _ _ _ _ _ _ _ _ _ _ _ _ _ _ _ _ _ _ _ _ _ _ _ _ _ _ _ _ _ _ _ _ _ _ _ _ _ _ _ _ _ _ _ _ _ _ _ _ _ _ _ _ _
set_option maxRecDepth 100000 in
set_option maxHeartbeats 8000000 in
theorem wy176_t_w (x y c d : K) (ok : Bool) (w : World) (hc : ∀ W, Calls Try.prog 16 #[.int .u8 176, .int .i64 0, numV x, numV y] W (Gives (.tuple #[numV c, numV d, .bool ok]) W)) :
    Calls Try.prog 7 #[.int .u8 176, .bool true, numV x, numV y, .bool true] w (Gives (if ok = true then .tuple #[numV c, numV d, .bool true] else .tuple #[numV x, numV y, .bool false]) w) := by
  have HC := Lib.hid hc
  clear hc
  have HW := Lib.hid (h4_new x y w)
  unfold Gives numV
  obtain ⟨W0, hW0⟩ : ∃ W0, ((((w.alloc (.cells #[.int .u64 (u x.v), .int .u64 (u x.m), .int .u64 (u x.a), .int .u64 (u x.b), .int .i64 (s x.c), .int .i64 (s x.d)] 26)).alloc (.cells #[.int .u64 (u y.v), .int .u64 (u y.m), .int .u64 (u y.a), .int .u64 (u y.b), .int .i64 (s y.c), .int .i64 (s y.d)] 26)).alloc (.cells #[.int .u64 0, .int .u64 0, .int .u64 0, .int .u64 0, .int .i64 0, .int .i64 0] 26)).alloc (.cells #[.int .u64 0, .int .u64 0, .int .u64 0, .int .u64 0, .int .i64 0, .int .i64 0] 26)) = W0 := ⟨_, rfl⟩
  rw [hW0] at HW
  cases ok
  · rw [if_neg Bool.false_ne_true]
    go_enter Try.func7, Try.ntmps7
    go_upto_region 13 with fail
    refine wp_first (c' := hdC (tl 6 (Try.f7.body.getD .skip))) (by kernel_rfl) ?_
    have ht := fun nx hn => way_tail_false x y c d 176 0 w _ HC.out HW.out nx hn
    unfold numV at ht
    exact ht _ (by intro a' w' h'; apply_assumption; exact h') _ _ _ _ _ _ _ _ _ _ _ _ _ _ _ _ _ _ _ _ _ _ _ _ _ _ _ _ _ _ _ _ _ _ _ _ _ _ _ _ _ _ _ _ _ _ _ _ _ _ _ _ _ _ _ _ _ _ _ _ _ _ _ _ _ _ _ _ _ _ _ _ _ _ _ _ _ _ _ _ _ _ _ _ _ _ _
  · rw [if_pos rfl]
    go_enter Try.func7, Try.ntmps7
    go_upto_region 13 with fail
    refine wp_first (c' := hdC (tl 6 (Try.f7.body.getD .skip))) (by kernel_rfl) ?_
    have ht := fun nx hn => way_tail_true x y c d 176 0 w _ HC.out HW.out nx hn
    unfold numV at ht
    exact ht _ (by intro a' w' h'; apply_assumption; exact h') _ _ _ _ _ _ _ _ _ _ _ _ _ _ _ _ _ _ _ _ _ _ _ _ _ _ _ _ _ _ _ _ _ _ _ _ _ _ _ _ _ _ _ _ _ _ _ _ _ _ _ _ _ _ _ _ _ _ _ _ _ _ _ _ _ _ _ _ _ _ _ _ _ _ _ _ _ _ _ _ _ _ _ _ _ _ _
set_option maxRecDepth 100000 in
set_option maxHeartbeats 8000000 in
theorem wy176_t_l (x y c d : K) (ok : Bool) (w : World) (h1 : decide (4294967295 < u x.b) = false) (h2 : decide (4294967295 < u y.b) = false) (hc : ∀ W, Calls Try.prog 16 #[.int .u8 176, .int .i64 0, numV x, numV y] W (Gives (.tuple #[numV c, numV d, .bool ok]) W)) :
    Calls Try.prog 7 #[.int .u8 176, .bool false, numV x, numV y, .bool true] w (Gives (if ok = true then .tuple #[numV c, numV d, .bool true] else .tuple #[numV x, numV y, .bool false]) w) := by
  have HC := Lib.hid hc
  clear hc
  have HW := Lib.hid (h4_new x y w)
  unfold Gives numV
  obtain ⟨W0, hW0⟩ : ∃ W0, ((((w.alloc (.cells #[.int .u64 (u x.v), .int .u64 (u x.m), .int .u64 (u x.a), .int .u64 (u x.b), .int .i64 (s x.c), .int .i64 (s x.d)] 26)).alloc (.cells #[.int .u64 (u y.v), .int .u64 (u y.m), .int .u64 (u y.a), .int .u64 (u y.b), .int .i64 (s y.c), .int .i64 (s y.d)] 26)).alloc (.cells #[.int .u64 0, .int .u64 0, .int .u64 0, .int .u64 0, .int .i64 0, .int .i64 0] 26)).alloc (.cells #[.int .u64 0, .int .u64 0, .int .u64 0, .int .u64 0, .int .i64 0, .int .i64 0] 26)) = W0 := ⟨_, rfl⟩
  rw [hW0] at HW
  obtain ⟨a0, a1, a2, a3, a4, a5⟩ := num_cells HW.out.1.1
  obtain ⟨b0, b1, b2, b3, b4, b5⟩ := num_cells HW.out.1.2
  cases ok
  · rw [if_neg Bool.false_ne_true]
    go_enter Try.func7, Try.ntmps7
    go_upto_region 13 with fail
    refine wp_first (c' := hdC (tl 6 (Try.f7.body.getD .skip))) (by kernel_rfl) ?_
    have ht := fun nx hn => way_tail_false x y c d 176 0 w _ HC.out HW.out nx hn
    unfold numV at ht
    exact ht _ (by intro a' w' h'; apply_assumption; exact h') _ _ _ _ _ _ _ _ _ _ _ _ _ _ _ _ _ _ _ _ _ _ _ _ _ _ _ _ _ _ _ _ _ _ _ _ _ _ _ _ _ _ _ _ _ _ _ _ _ _ _ _ _ _ _ _ _ _ _ _ _ _ _ _ _ _ _ _ _ _ _ _ _ _ _ _ _ _ _ _ _ _ _ _ _ _ _
  · rw [if_pos rfl]
    go_enter Try.func7, Try.ntmps7
    go_upto_region 13 with fail
    refine wp_first (c' := hdC (tl 6 (Try.f7.body.getD .skip))) (by kernel_rfl) ?_
    have ht := fun nx hn => way_tail_true x y c d 176 0 w _ HC.out HW.out nx hn
    unfold numV at ht
    exact ht _ (by intro a' w' h'; apply_assumption; exact h') _ _ _ _ _ _ _ _ _ _ _ _ _ _ _ _ _ _ _ _ _ _ _ _ _ _ _ _ _ _ _ _ _ _ _ _ _ _ _ _ _ _ _ _ _ _ _ _ _ _ _ _ _ _ _ _ _ _ _ _ _ _ _ _ _ _ _ _ _ _ _ _ _ _ _ _ _ _ _ _ _ _ _ _ _ _ _
set_option maxRecDepth 100000 in
set_option maxHeartbeats 8000000 in
theorem wy176_f_w (x y c d : K) (ok : Bool) (w : World) (hc : ∀ W, Calls Try.prog 16 #[.int .u8 32, .int .i64 0, numV x, numV y] W (Gives (.tuple #[numV c, numV d, .bool ok]) W)) :
    Calls Try.prog 7 #[.int .u8 176, .bool true, numV x, numV y, .bool false] w (Gives (if ok = true then .tuple #[numV c, numV d, .bool true] else .tuple #[numV x, numV y, .bool false]) w) := by
  have hop := fun W => opp_ref 176 W
  rw [show oppI 176 = 32 from rfl] at hop
  have HC := Lib.hid hc
  clear hc
  have HW := Lib.hid (h4_new x y w)
  unfold Gives numV
  obtain ⟨W0, hW0⟩ : ∃ W0, ((((w.alloc (.cells #[.int .u64 (u x.v), .int .u64 (u x.m), .int .u64 (u x.a), .int .u64 (u x.b), .int .i64 (s x.c), .int .i64 (s x.d)] 26)).alloc (.cells #[.int .u64 (u y.v), .int .u64 (u y.m), .int .u64 (u y.a), .int .u64 (u y.b), .int .i64 (s y.c), .int .i64 (s y.d)] 26)).alloc (.cells #[.int .u64 0, .int .u64 0, .int .u64 0, .int .u64 0, .int .i64 0, .int .i64 0] 26)).alloc (.cells #[.int .u64 0, .int .u64 0, .int .u64 0, .int .u64 0, .int .i64 0, .int .i64 0] 26)) = W0 := ⟨_, rfl⟩
  rw [hW0] at HW
  cases ok
  · rw [if_neg Bool.false_ne_true]
    go_enter Try.func7, Try.ntmps7
    go_upto_region 13 with (go_at_call 15; refine (hop _).mono ?_; rintro e w1 ⟨rfl, hb⟩; have HV := Lib.hid (h4_keep HW.out hb); clear hb)
    refine wp_first (c' := hdC (tl 6 (Try.f7.body.getD .skip))) (by kernel_rfl) ?_
    have ht := fun nx hn => way_tail_false x y c d 32 0 w _ HC.out HV.out nx hn
    unfold numV at ht
    exact ht _ (by intro a' w' h'; apply_assumption; exact h') _ _ _ _ _ _ _ _ _ _ _ _ _ _ _ _ _ _ _ _ _ _ _ _ _ _ _ _ _ _ _ _ _ _ _ _ _ _ _ _ _ _ _ _ _ _ _ _ _ _ _ _ _ _ _ _ _ _ _ _ _ _ _ _ _ _ _ _ _ _ _ _ _ _ _ _ _ _ _ _ _ _ _ _ _ _ _
  · rw [if_pos rfl]
    go_enter Try.func7, Try.ntmps7
    go_upto_region 13 with (go_at_call 15; refine (hop _).mono ?_; rintro e w1 ⟨rfl, hb⟩; have HV := Lib.hid (h4_keep HW.out hb); clear hb)
    refine wp_first (c' := hdC (tl 6 (Try.f7.body.getD .skip))) (by kernel_rfl) ?_
    have ht := fun nx hn => way_tail_true x y c d 32 0 w _ HC.out HV.out nx hn
    unfold numV at ht
    exact ht _ (by intro a' w' h'; apply_assumption; exact h') _ _ _ _ _ _ _ _ _ _ _ _ _ _ _ _ _ _ _ _ _ _ _ _ _ _ _ _ _ _ _ _ _ _ _ _ _ _ _ _ _ _ _ _ _ _ _ _ _ _ _ _ _ _ _ _ _ _ _ _ _ _ _ _ _ _ _ _ _ _ _ _ _ _ _ _ _ _ _ _ _ _ _ _ _ _ _
set_option maxRecDepth 100000 in
set_option maxHeartbeats 8000000 in
theorem wy176_f_l (x y c d : K) (ok : Bool) (w : World) (h1 : decide (4294967295 < u x.b) = false) (h2 : decide (4294967295 < u y.b) = false) (hc : ∀ W, Calls Try.prog 16 #[.int .u8 32, .int .i64 0, numV x, numV y] W (Gives (.tuple #[numV c, numV d, .bool ok]) W)) :
    Calls Try.prog 7 #[.int .u8 176, .bool false, numV x, numV y, .bool false] w (Gives (if ok = true then .tuple #[numV c, numV d, .bool true] else .tuple #[numV x, numV y, .bool false]) w) := by
  have hop := fun W => opp_ref 176 W
  rw [show oppI 176 = 32 from rfl] at hop
  have HC := Lib.hid hc
  clear hc
  have HW := Lib.hid (h4_new x y w)
  unfold Gives numV
  obtain ⟨W0, hW0⟩ : ∃ W0, ((((w.alloc (.cells #[.int .u64 (u x.v), .int .u64 (u x.m), .int .u64 (u x.a), .int .u64 (u x.b), .int .i64 (s x.c), .int .i64 (s x.d)] 26)).alloc (.cells #[.int .u64 (u y.v), .int .u64 (u y.m), .int .u64 (u y.a), .int .u64 (u y.b), .int .i64 (s y.c), .int .i64 (s y.d)] 26)).alloc (.cells #[.int .u64 0, .int .u64 0, .int .u64 0, .int .u64 0, .int .i64 0, .int .i64 0] 26)).alloc (.cells #[.int .u64 0, .int .u64 0, .int .u64 0, .int .u64 0, .int .i64 0, .int .i64 0] 26)) = W0 := ⟨_, rfl⟩
  rw [hW0] at HW
  obtain ⟨a0, a1, a2, a3, a4, a5⟩ := num_cells HW.out.1.1
  obtain ⟨b0, b1, b2, b3, b4, b5⟩ := num_cells HW.out.1.2
  cases ok
  · rw [if_neg Bool.false_ne_true]
    go_enter Try.func7, Try.ntmps7
    go_upto_region 13 with (go_at_call 15; refine (hop _).mono ?_; rintro e w1 ⟨rfl, hb⟩; have HV := Lib.hid (h4_keep HW.out hb); clear hb)
    refine wp_first (c' := hdC (tl 6 (Try.f7.body.getD .skip))) (by kernel_rfl) ?_
    have ht := fun nx hn => way_tail_false x y c d 32 0 w _ HC.out HV.out nx hn
    unfold numV at ht
    exact ht _ (by intro a' w' h'; apply_assumption; exact h') _ _ _ _ _ _ _ _ _ _ _ _ _ _ _ _ _ _ _ _ _ _ _ _ _ _ _ _ _ _ _ _ _ _ _ _ _ _ _ _ _ _ _ _ _ _ _ _ _ _ _ _ _ _ _ _ _ _ _ _ _ _ _ _ _ _ _ _ _ _ _ _ _ _ _ _ _ _ _ _ _ _ _ _ _ _ _
  · rw [if_pos rfl]
    go_enter Try.func7, Try.ntmps7
    go_upto_region 13 with (go_at_call 15; refine (hop _).mono ?_; rintro e w1 ⟨rfl, hb⟩; have HV := Lib.hid (h4_keep HW.out hb); clear hb)
    refine wp_first (c' := hdC (tl 6 (Try.f7.body.getD .skip))) (by kernel_rfl) ?_
    have ht := fun nx hn => way_tail_true x y c d 32 0 w _ HC.out HV.out nx hn
    unfold numV at ht
    exact ht _ (by intro a' w' h'; apply_assumption; exact h') _ _ _ _ _ _ _ _ _ _ _ _ _ _ _ _ _ _ _ _ _ _ _ _ _ _ _ _ _ _ _ _ _ _ _ _ _ _ _ _ _ _ _ _ _ _ _ _ _ _ _ _ _ _ _ _ _ _ _ _ _ _ _ _ _ _ _ _ _ _ _ _ _ _ _ _ _ _ _ _ _ _ _ _ _ _ _
set_option maxRecDepth 100000 in
set_option maxHeartbeats 8000000 in
theorem wy64_t_w (x y c d : K) (ok : Bool) (w : World) (hc : ∀ W, Calls Try.prog 16 #[.int .u8 64, .int .i64 1, numV x, numV y] W (Gives (.tuple #[numV c, numV d, .bool ok]) W)) :
    Calls Try.prog 7 #[.int .u8 64, .bool true, numV x, numV y, .bool true] w (Gives (if ok = true then .tuple #[numV c, numV d, .bool true] else .tuple #[numV x, numV y, .bool false]) w) := by
  have HC := Lib.hid hc
  clear hc
  have HW := Lib.hid (h4_new x y w)
  unfold Gives numV
  obtain ⟨W0, hW0⟩ : ∃ W0, ((((w.alloc (.cells #[.int .u64 (u x.v), .int .u64 (u x.m), .int .u64 (u x.a), .int .u64 (u x.b), .int .i64 (s x.c), .int .i64 (s x.d)] 26)).alloc (.cells #[.int .u64 (u y.v), .int .u64 (u y.m), .int .u64 (u y.a), .int .u64 (u y.b), .int .i64 (s y.c), .int .i64 (s y.d)] 26)).alloc (.cells #[.int .u64 0, .int .u64 0, .int .u64 0, .int .u64 0, .int .i64 0, .int .i64 0] 26)).alloc (.cells #[.int .u64 0, .int .u64 0, .int .u64 0, .int .u64 0, .int .i64 0, .int .i64 0] 26)) = W0 := ⟨_, rfl⟩
  rw [hW0] at HW
  cases ok
  · rw [if_neg Bool.false_ne_true]
    go_enter Try.func7, Try.ntmps7
    go_upto_region 13 with fail
    refine wp_first (c' := hdC (tl 6 (Try.f7.body.getD .skip))) (by kernel_rfl) ?_
    have ht := fun nx hn => way_tail_false x y c d 64 1 w _ HC.out HW.out nx hn
    unfold numV at ht
    exact ht _ (by intro a' w' h'; apply_assumption; exact h') _ _ _ _ _ _ _ _ _ _ _ _ _ _ _ _ _ _ _ _ _ _ _ _ _ _ _ _ _ _ _ _ _ _ _ _ _ _ _ _ _ _ _ _ _ _ _ _ _ _ _ _ _ _ _ _ _ _ _ _ _ _ _ _ _ _ _ _ _ _ _ _ _ _ _ _ _ _ _ _ _ _ _ _ _ _ _
  · rw [if_pos rfl]
    go_enter Try.func7, Try.ntmps7
    go_upto_region 13 with fail
    refine wp_first (c' := hdC (tl 6 (Try.f7.body.getD .skip))) (by kernel_rfl) ?_
    have ht := fun nx hn => way_tail_true x y c d 64 1 w _ HC.out HW.out nx hn
    unfold numV at ht
    exact ht _ (by intro a' w' h'; apply_assumption; exact h') _ _ _ _ _ _ _ _ _ _ _ _ _ _ _ _ _ _ _ _ _ _ _ _ _ _ _ _ _ _ _ _ _ _ _ _ _ _ _ _ _ _ _ _ _ _ _ _ _ _ _ _ _ _ _ _ _ _ _ _ _ _ _ _ _ _ _ _ _ _ _ _ _ _ _ _ _ _ _ _ _ _ _ _ _ _ _
set_option maxRecDepth 100000 in
set_option maxHeartbeats 8000000 in
theorem wy64_t_l (x y c d : K) (ok : Bool) (w : World) (h1 : decide (4294967295 < u x.b) = false) (h2 : decide (4294967295 < u y.b) = false) (hc : ∀ W, Calls Try.prog 16 #[.int .u8 64, .int .i64 1, numV x, numV y] W (Gives (.tuple #[numV c, numV d, .bool ok]) W)) :
    Calls Try.prog 7 #[.int .u8 64, .bool false, numV x, numV y, .bool true] w (Gives (if ok = true then .tuple #[numV c, numV d, .bool true] else .tuple #[numV x, numV y, .bool false]) w) := by
  have HC := Lib.hid hc
  clear hc
  have HW := Lib.hid (h4_new x y w)
  unfold Gives numV
  obtain ⟨W0, hW0⟩ : ∃ W0, ((((w.alloc (.cells #[.int .u64 (u x.v), .int .u64 (u x.m), .int .u64 (u x.a), .int .u64 (u x.b), .int .i64 (s x.c), .int .i64 (s x.d)] 26)).alloc (.cells #[.int .u64 (u y.v), .int .u64 (u y.m), .int .u64 (u y.a), .int .u64 (u y.b), .int .i64 (s y.c), .int .i64 (s y.d)] 26)).alloc (.cells #[.int .u64 0, .int .u64 0, .int .u64 0, .int .u64 0, .int .i64 0, .int .i64 0] 26)).alloc (.cells #[.int .u64 0, .int .u64 0, .int .u64 0, .int .u64 0, .int .i64 0, .int .i64 0] 26)) = W0 := ⟨_, rfl⟩
  rw [hW0] at HW
  obtain ⟨a0, a1, a2, a3, a4, a5⟩ := num_cells HW.out.1.1
  obtain ⟨b0, b1, b2, b3, b4, b5⟩ := num_cells HW.out.1.2
  cases ok
  · rw [if_neg Bool.false_ne_true]
    go_enter Try.func7, Try.ntmps7
    go_upto_region 13 with fail
    refine wp_first (c' := hdC (tl 6 (Try.f7.body.getD .skip))) (by kernel_rfl) ?_
    have ht := fun nx hn => way_tail_false x y c d 64 1 w _ HC.out HW.out nx hn
    unfold numV at ht
    exact ht _ (by intro a' w' h'; apply_assumption; exact h') _ _ _ _ _ _ _ _ _ _ _ _ _ _ _ _ _ _ _ _ _ _ _ _ _ _ _ _ _ _ _ _ _ _ _ _ _ _ _ _ _ _ _ _ _ _ _ _ _ _ _ _ _ _ _ _ _ _ _ _ _ _ _ _ _ _ _ _ _ _ _ _ _ _ _ _ _ _ _ _ _ _ _ _ _ _ _
  · rw [if_pos rfl]
    go_enter Try.func7, Try.ntmps7
    go_upto_region 13 with fail
    refine wp_first (c' := hdC (tl 6 (Try.f7.body.getD .skip))) (by kernel_rfl) ?_
    have ht := fun nx hn => way_tail_true x y c d 64 1 w _ HC.out HW.out nx hn
    unfold numV at ht
    exact ht _ (by intro a' w' h'; apply_assumption; exact h') _ _ _ _ _ _ _ _ _ _ _ _ _ _ _ _ _ _ _ _ _ _ _ _ _ _ _ _ _ _ _ _ _ _ _ _ _ _ _ _ _ _ _ _ _ _ _ _ _ _ _ _ _ _ _ _ _ _ _ _ _ _ _ _ _ _ _ _ _ _ _ _ _ _ _ _ _ _ _ _ _ _ _ _ _ _ _
set_option maxRecDepth 100000 in
set_option maxHeartbeats 8000000 in
theorem wy64_f_w (x y c d : K) (ok : Bool) (w : World) (hc : ∀ W, Calls Try.prog 16 #[.int .u8 64, .int .i64 2, numV x, numV y] W (Gives (.tuple #[numV c, numV d, .bool ok]) W)) :
    Calls Try.prog 7 #[.int .u8 64, .bool true, numV x, numV y, .bool false] w (Gives (if ok = true then .tuple #[numV c, numV d, .bool true] else .tuple #[numV x, numV y, .bool false]) w) := by
  have HC := Lib.hid hc
  clear hc
  have HW := Lib.hid (h4_new x y w)
  unfold Gives numV
  obtain ⟨W0, hW0⟩ : ∃ W0, ((((w.alloc (.cells #[.int .u64 (u x.v), .int .u64 (u x.m), .int .u64 (u x.a), .int .u64 (u x.b), .int .i64 (s x.c), .int .i64 (s x.d)] 26)).alloc (.cells #[.int .u64 (u y.v), .int .u64 (u y.m), .int .u64 (u y.a), .int .u64 (u y.b), .int .i64 (s y.c), .int .i64 (s y.d)] 26)).alloc (.cells #[.int .u64 0, .int .u64 0, .int .u64 0, .int .u64 0, .int .i64 0, .int .i64 0] 26)).alloc (.cells #[.int .u64 0, .int .u64 0, .int .u64 0, .int .u64 0, .int .i64 0, .int .i64 0] 26)) = W0 := ⟨_, rfl⟩
  rw [hW0] at HW
  cases ok
  · rw [if_neg Bool.false_ne_true]
    go_enter Try.func7, Try.ntmps7
    go_upto_region 13 with fail
    refine wp_first (c' := hdC (tl 6 (Try.f7.body.getD .skip))) (by kernel_rfl) ?_
    have ht := fun nx hn => way_tail_false x y c d 64 2 w _ HC.out HW.out nx hn
    unfold numV at ht
    exact ht _ (by intro a' w' h'; apply_assumption; exact h') _ _ _ _ _ _ _ _ _ _ _ _ _ _ _ _ _ _ _ _ _ _ _ _ _ _ _ _ _ _ _ _ _ _ _ _ _ _ _ _ _ _ _ _ _ _ _ _ _ _ _ _ _ _ _ _ _ _ _ _ _ _ _ _ _ _ _ _ _ _ _ _ _ _ _ _ _ _ _ _ _ _ _ _ _ _ _
  · rw [if_pos rfl]
    go_enter Try.func7, Try.ntmps7
    go_upto_region 13 with fail
    refine wp_first (c' := hdC (tl 6 (Try.f7.body.getD .skip))) (by kernel_rfl) ?_
    have ht := fun nx hn => way_tail_true x y c d 64 2 w _ HC.out HW.out nx hn
    unfold numV at ht
    exact ht _ (by intro a' w' h'; apply_assumption; exact h') _ _ _ _ _ _ _ _ _ _ _ _ _ _ _ _ _ _ _ _ _ _ _ _ _ _ _ _ _ _ _ _ _ _ _ _ _ _ _ _ _ _ _ _ _ _ _ _ _ _ _ _ _ _ _ _ _ _ _ _ _ _ _ _ _ _ _ _ _ _ _ _ _ _ _ _ _ _ _ _ _ _ _ _ _ _ _
set_option maxRecDepth 100000 in
set_option maxHeartbeats 8000000 in
theorem wy64_f_l (x y c d : K) (ok : Bool) (w : World) (h1 : decide (4294967295 < u x.b) = false) (h2 : decide (4294967295 < u y.b) = false) (hc : ∀ W, Calls Try.prog 16 #[.int .u8 64, .int .i64 2, numV x, numV y] W (Gives (.tuple #[numV c, numV d, .bool ok]) W)) :
    Calls Try.prog 7 #[.int .u8 64, .bool false, numV x, numV y, .bool false] w (Gives (if ok = true then .tuple #[numV c, numV d, .bool true] else .tuple #[numV x, numV y, .bool false]) w) := by
  have HC := Lib.hid hc
  clear hc
  have HW := Lib.hid (h4_new x y w)
  unfold Gives numV
  obtain ⟨W0, hW0⟩ : ∃ W0, ((((w.alloc (.cells #[.int .u64 (u x.v), .int .u64 (u x.m), .int .u64 (u x.a), .int .u64 (u x.b), .int .i64 (s x.c), .int .i64 (s x.d)] 26)).alloc (.cells #[.int .u64 (u y.v), .int .u64 (u y.m), .int .u64 (u y.a), .int .u64 (u y.b), .int .i64 (s y.c), .int .i64 (s y.d)] 26)).alloc (.cells #[.int .u64 0, .int .u64 0, .int .u64 0, .int .u64 0, .int .i64 0, .int .i64 0] 26)).alloc (.cells #[.int .u64 0, .int .u64 0, .int .u64 0, .int .u64 0, .int .i64 0, .int .i64 0] 26)) = W0 := ⟨_, rfl⟩
  rw [hW0] at HW
  obtain ⟨a0, a1, a2, a3, a4, a5⟩ := num_cells HW.out.1.1
  obtain ⟨b0, b1, b2, b3, b4, b5⟩ := num_cells HW.out.1.2
  cases ok
  · rw [if_neg Bool.false_ne_true]
    go_enter Try.func7, Try.ntmps7
    go_upto_region 13 with fail
    refine wp_first (c' := hdC (tl 6 (Try.f7.body.getD .skip))) (by kernel_rfl) ?_
    have ht := fun nx hn => way_tail_false x y c d 64 2 w _ HC.out HW.out nx hn
    unfold numV at ht
    exact ht _ (by intro a' w' h'; apply_assumption; exact h') _ _ _ _ _ _ _ _ _ _ _ _ _ _ _ _ _ _ _ _ _ _ _ _ _ _ _ _ _ _ _ _ _ _ _ _ _ _ _ _ _ _ _ _ _ _ _ _ _ _ _ _ _ _ _ _ _ _ _ _ _ _ _ _ _ _ _ _ _ _ _ _ _ _ _ _ _ _ _ _ _ _ _ _ _ _ _
  · rw [if_pos rfl]
    go_enter Try.func7, Try.ntmps7
    go_upto_region 13 with fail
    refine wp_first (c' := hdC (tl 6 (Try.f7.body.getD .skip))) (by kernel_rfl) ?_
    have ht := fun nx hn => way_tail_true x y c d 64 2 w _ HC.out HW.out nx hn
    unfold numV at ht
    exact ht _ (by intro a' w' h'; apply_assumption; exact h') _ _ _ _ _ _ _ _ _ _ _ _ _ _ _ _ _ _ _ _ _ _ _ _ _ _ _ _ _ _ _ _ _ _ _ _ _ _ _ _ _ _ _ _ _ _ _ _ _ _ _ _ _ _ _ _ _ _ _ _ _ _ _ _ _ _ _ _ _ _ _ _ _ _ _ _ _ _ _ _ _ _ _ _ _ _ _
set_option maxRecDepth 100000 in
set_option maxHeartbeats 8000000 in
theorem wy96_t_w (x y c d : K) (ok : Bool) (w : World) (hc : ∀ W, Calls Try.prog 16 #[.int .u8 96, .int .i64 0, numV x, numV y] W (Gives (.tuple #[numV c, numV d, .bool ok]) W)) :
    Calls Try.prog 7 #[.int .u8 96, .bool true, numV x, numV y, .bool true] w (Gives (if ok = true then .tuple #[numV c, numV d, .bool true] else .tuple #[numV x, numV y, .bool false]) w) := by
  have HC := Lib.hid hc
  clear hc
  have HW := Lib.hid (h4_new x y w)
  unfold Gives numV
  obtain ⟨W0, hW0⟩ : ∃ W0, ((((w.alloc (.cells #[.int .u64 (u x.v), .int .u64 (u x.m), .int .u64 (u x.a), .int .u64 (u x.b), .int .i64 (s x.c), .int .i64 (s x.d)] 26)).alloc (.cells #[.int .u64 (u y.v), .int .u64 (u y.m), .int .u64 (u y.a), .int .u64 (u y.b), .int .i64 (s y.c), .int .i64 (s y.d)] 26)).alloc (.cells #[.int .u64 0, .int .u64 0, .int .u64 0, .int .u64 0, .int .i64 0, .int .i64 0] 26)).alloc (.cells #[.int .u64 0, .int .u64 0, .int .u64 0, .int .u64 0, .int .i64 0, .int .i64 0] 26)) = W0 := ⟨_, rfl⟩
  rw [hW0] at HW
  cases ok
  · rw [if_neg Bool.false_ne_true]
    go_enter Try.func7, Try.ntmps7
    go_upto_region 13 with fail
    refine wp_first (c' := hdC (tl 6 (Try.f7.body.getD .skip))) (by kernel_rfl) ?_
    have ht := fun nx hn => way_tail_false x y c d 96 0 w _ HC.out HW.out nx hn
    unfold numV at ht
    exact ht _ (by intro a' w' h'; apply_assumption; exact h') _ _ _ _ _ _ _ _ _ _ _ _ _ _ _ _ _ _ _ _ _ _ _ _ _ _ _ _ _ _ _ _ _ _ _ _ _ _ _ _ _ _ _ _ _ _ _ _ _ _ _ _ _ _ _ _ _ _ _ _ _ _ _ _ _ _ _ _ _ _ _ _ _ _ _ _ _ _ _ _ _ _ _ _ _ _ _
  · rw [if_pos rfl]
    go_enter Try.func7, Try.ntmps7
    go_upto_region 13 with fail
    refine wp_first (c' := hdC (tl 6 (Try.f7.body.getD .skip))) (by kernel_rfl) ?_
    have ht := fun nx hn => way_tail_true x y c d 96 0 w _ HC.out HW.out nx hn
    unfold numV at ht
    exact ht _ (by intro a' w' h'; apply_assumption; exact h') _ _ _ _ _ _ _ _ _ _ _ _ _ _ _ _ _ _ _ _ _ _ _ _ _ _ _ _ _ _ _ _ _ _ _ _ _ _ _ _ _ _ _ _ _ _ _ _ _ _ _ _ _ _ _ _ _ _ _ _ _ _ _ _ _ _ _ _ _ _ _ _ _ _ _ _ _ _ _ _ _ _ _ _ _ _ _
set_option maxRecDepth 100000 in
set_option maxHeartbeats 8000000 in
theorem wy96_f_w (x y c d : K) (ok : Bool) (w : World) (hc : ∀ W, Calls Try.prog 16 #[.int .u8 208, .int .i64 0, numV x, numV y] W (Gives (.tuple #[numV c, numV d, .bool ok]) W)) :
    Calls Try.prog 7 #[.int .u8 96, .bool true, numV x, numV y, .bool false] w (Gives (if ok = true then .tuple #[numV c, numV d, .bool true] else .tuple #[numV x, numV y, .bool false]) w) := by
  have hop := fun W => opp_ref 96 W
  rw [show oppI 96 = 208 from rfl] at hop
  have HC := Lib.hid hc
  clear hc
  have HW := Lib.hid (h4_new x y w)
  unfold Gives numV
  obtain ⟨W0, hW0⟩ : ∃ W0, ((((w.alloc (.cells #[.int .u64 (u x.v), .int .u64 (u x.m), .int .u64 (u x.a), .int .u64 (u x.b), .int .i64 (s x.c), .int .i64 (s x.d)] 26)).alloc (.cells #[.int .u64 (u y.v), .int .u64 (u y.m), .int .u64 (u y.a), .int .u64 (u y.b), .int .i64 (s y.c), .int .i64 (s y.d)] 26)).alloc (.cells #[.int .u64 0, .int .u64 0, .int .u64 0, .int .u64 0, .int .i64 0, .int .i64 0] 26)).alloc (.cells #[.int .u64 0, .int .u64 0, .int .u64 0, .int .u64 0, .int .i64 0, .int .i64 0] 26)) = W0 := ⟨_, rfl⟩
  rw [hW0] at HW
  cases ok
  · rw [if_neg Bool.false_ne_true]
    go_enter Try.func7, Try.ntmps7
    go_upto_region 13 with (go_at_call 15; refine (hop _).mono ?_; rintro e w1 ⟨rfl, hb⟩; have HV := Lib.hid (h4_keep HW.out hb); clear hb)
    refine wp_first (c' := hdC (tl 6 (Try.f7.body.getD .skip))) (by kernel_rfl) ?_
    have ht := fun nx hn => way_tail_false x y c d 208 0 w _ HC.out HV.out nx hn
    unfold numV at ht
    exact ht _ (by intro a' w' h'; apply_assumption; exact h') _ _ _ _ _ _ _ _ _ _ _ _ _ _ _ _ _ _ _ _ _ _ _ _ _ _ _ _ _ _ _ _ _ _ _ _ _ _ _ _ _ _ _ _ _ _ _ _ _ _ _ _ _ _ _ _ _ _ _ _ _ _ _ _ _ _ _ _ _ _ _ _ _ _ _ _ _ _ _ _ _ _ _ _ _ _ _
  · rw [if_pos rfl]
    go_enter Try.func7, Try.ntmps7
    go_upto_region 13 with (go_at_call 15; refine (hop _).mono ?_; rintro e w1 ⟨rfl, hb⟩; have HV := Lib.hid (h4_keep HW.out hb); clear hb)
    refine wp_first (c' := hdC (tl 6 (Try.f7.body.getD .skip))) (by kernel_rfl) ?_
    have ht := fun nx hn => way_tail_true x y c d 208 0 w _ HC.out HV.out nx hn
    unfold numV at ht
    exact ht _ (by intro a' w' h'; apply_assumption; exact h') _ _ _ _ _ _ _ _ _ _ _ _ _ _ _ _ _ _ _ _ _ _ _ _ _ _ _ _ _ _ _ _ _ _ _ _ _ _ _ _ _ _ _ _ _ _ _ _ _ _ _ _ _ _ _ _ _ _ _ _ _ _ _ _ _ _ _ _ _ _ _ _ _ _ _ _ _ _ _ _ _ _ _ _ _ _ _
set_option maxRecDepth 100000 in
set_option maxHeartbeats 8000000 in
theorem wy112_t_w (x y c d : K) (ok : Bool) (w : World) (hc : ∀ W, Calls Try.prog 16 #[.int .u8 112, .int .i64 0, numV x, numV y] W (Gives (.tuple #[numV c, numV d, .bool ok]) W)) :
    Calls Try.prog 7 #[.int .u8 112, .bool true, numV x, numV y, .bool true] w (Gives (if ok = true then .tuple #[numV c, numV d, .bool true] else .tuple #[numV x, numV y, .bool false]) w) := by
  have HC := Lib.hid hc
  clear hc
  have HW := Lib.hid (h4_new x y w)
  unfold Gives numV
  obtain ⟨W0, hW0⟩ : ∃ W0, ((((w.alloc (.cells #[.int .u64 (u x.v), .int .u64 (u x.m), .int .u64 (u x.a), .int .u64 (u x.b), .int .i64 (s x.c), .int .i64 (s x.d)] 26)).alloc (.cells #[.int .u64 (u y.v), .int .u64 (u y.m), .int .u64 (u y.a), .int .u64 (u y.b), .int .i64 (s y.c), .int .i64 (s y.d)] 26)).alloc (.cells #[.int .u64 0, .int .u64 0, .int .u64 0, .int .u64 0, .int .i64 0, .int .i64 0] 26)).alloc (.cells #[.int .u64 0, .int .u64 0, .int .u64 0, .int .u64 0, .int .i64 0, .int .i64 0] 26)) = W0 := ⟨_, rfl⟩
  rw [hW0] at HW
  cases ok
  · rw [if_neg Bool.false_ne_true]
    go_enter Try.func7, Try.ntmps7
    go_upto_region 13 with fail
    refine wp_first (c' := hdC (tl 6 (Try.f7.body.getD .skip))) (by kernel_rfl) ?_
    have ht := fun nx hn => way_tail_false x y c d 112 0 w _ HC.out HW.out nx hn
    unfold numV at ht
    exact ht _ (by intro a' w' h'; apply_assumption; exact h') _ _ _ _ _ _ _ _ _ _ _ _ _ _ _ _ _ _ _ _ _ _ _ _ _ _ _ _ _ _ _ _ _ _ _ _ _ _ _ _ _ _ _ _ _ _ _ _ _ _ _ _ _ _ _ _ _ _ _ _ _ _ _ _ _ _ _ _ _ _ _ _ _ _ _ _ _ _ _ _ _ _ _ _ _ _ _
  · rw [if_pos rfl]
    go_enter Try.func7, Try.ntmps7
    go_upto_region 13 with fail
    refine wp_first (c' := hdC (tl 6 (Try.f7.body.getD .skip))) (by kernel_rfl) ?_
    have ht := fun nx hn => way_tail_true x y c d 112 0 w _ HC.out HW.out nx hn
    unfold numV at ht
    exact ht _ (by intro a' w' h'; apply_assumption; exact h') _ _ _ _ _ _ _ _ _ _ _ _ _ _ _ _ _ _ _ _ _ _ _ _ _ _ _ _ _ _ _ _ _ _ _ _ _ _ _ _ _ _ _ _ _ _ _ _ _ _ _ _ _ _ _ _ _ _ _ _ _ _ _ _ _ _ _ _ _ _ _ _ _ _ _ _ _ _ _ _ _ _ _ _ _ _ _
set_option maxRecDepth 100000 in
set_option maxHeartbeats 8000000 in
theorem wy112_f_w (x y c d : K) (ok : Bool) (w : World) (hc : ∀ W, Calls Try.prog 16 #[.int .u8 192, .int .i64 0, numV x, numV y] W (Gives (.tuple #[numV c, numV d, .bool ok]) W)) :
    Calls Try.prog 7 #[.int .u8 112, .bool true, numV x, numV y, .bool false] w (Gives (if ok = true then .tuple #[numV c, numV d, .bool true] else .tuple #[numV x, numV y, .bool false]) w) := by
  have hop := fun W => opp_ref 112 W
  rw [show oppI 112 = 192 from rfl] at hop
  have HC := Lib.hid hc
  clear hc
  have HW := Lib.hid (h4_new x y w)
  unfold Gives numV
  obtain ⟨W0, hW0⟩ : ∃ W0, ((((w.alloc (.cells #[.int .u64 (u x.v), .int .u64 (u x.m), .int .u64 (u x.a), .int .u64 (u x.b), .int .i64 (s x.c), .int .i64 (s x.d)] 26)).alloc (.cells #[.int .u64 (u y.v), .int .u64 (u y.m), .int .u64 (u y.a), .int .u64 (u y.b), .int .i64 (s y.c), .int .i64 (s y.d)] 26)).alloc (.cells #[.int .u64 0, .int .u64 0, .int .u64 0, .int .u64 0, .int .i64 0, .int .i64 0] 26)).alloc (.cells #[.int .u64 0, .int .u64 0, .int .u64 0, .int .u64 0, .int .i64 0, .int .i64 0] 26)) = W0 := ⟨_, rfl⟩
  rw [hW0] at HW
  cases ok
  · rw [if_neg Bool.false_ne_true]
    go_enter Try.func7, Try.ntmps7
    go_upto_region 13 with (go_at_call 15; refine (hop _).mono ?_; rintro e w1 ⟨rfl, hb⟩; have HV := Lib.hid (h4_keep HW.out hb); clear hb)
    refine wp_first (c' := hdC (tl 6 (Try.f7.body.getD .skip))) (by kernel_rfl) ?_
    have ht := fun nx hn => way_tail_false x y c d 192 0 w _ HC.out HV.out nx hn
    unfold numV at ht
    exact ht _ (by intro a' w' h'; apply_assumption; exact h') _ _ _ _ _ _ _ _ _ _ _ _ _ _ _ _ _ _ _ _ _ _ _ _ _ _ _ _ _ _ _ _ _ _ _ _ _ _ _ _ _ _ _ _ _ _ _ _ _ _ _ _ _ _ _ _ _ _ _ _ _ _ _ _ _ _ _ _ _ _ _ _ _ _ _ _ _ _ _ _ _ _ _ _ _ _ _
  · rw [if_pos rfl]
    go_enter Try.func7, Try.ntmps7
    go_upto_region 13 with (go_at_call 15; refine (hop _).mono ?_; rintro e w1 ⟨rfl, hb⟩; have HV := Lib.hid (h4_keep HW.out hb); clear hb)
    refine wp_first (c' := hdC (tl 6 (Try.f7.body.getD .skip))) (by kernel_rfl) ?_
    have ht := fun nx hn => way_tail_true x y c d 192 0 w _ HC.out HV.out nx hn
    unfold numV at ht
    exact ht _ (by intro a' w' h'; apply_assumption; exact h') _ _ _ _ _ _ _ _ _ _ _ _ _ _ _ _ _ _ _ _ _ _ _ _ _ _ _ _ _ _ _ _ _ _ _ _ _ _ _ _ _ _ _ _ _ _ _ _ _ _ _ _ _ _ _ _ _ _ _ _ _ _ _ _ _ _ _ _ _ _ _ _ _ _ _ _ _ _ _ _ _ _ _ _ _ _ _
set_option maxRecDepth 100000 in
set_option maxHeartbeats 8000000 in
theorem wy192_t_w (x y c d : K) (ok : Bool) (w : World) (hc : ∀ W, Calls Try.prog 16 #[.int .u8 192, .int .i64 0, numV x, numV y] W (Gives (.tuple #[numV c, numV d, .bool ok]) W)) :
    Calls Try.prog 7 #[.int .u8 192, .bool true, numV x, numV y, .bool true] w (Gives (if ok = true then .tuple #[numV c, numV d, .bool true] else .tuple #[numV x, numV y, .bool false]) w) := by
  have HC := Lib.hid hc
  clear hc
  have HW := Lib.hid (h4_new x y w)
  unfold Gives numV
  obtain ⟨W0, hW0⟩ : ∃ W0, ((((w.alloc (.cells #[.int .u64 (u x.v), .int .u64 (u x.m), .int .u64 (u x.a), .int .u64 (u x.b), .int .i64 (s x.c), .int .i64 (s x.d)] 26)).alloc (.cells #[.int .u64 (u y.v), .int .u64 (u y.m), .int .u64 (u y.a), .int .u64 (u y.b), .int .i64 (s y.c), .int .i64 (s y.d)] 26)).alloc (.cells #[.int .u64 0, .int .u64 0, .int .u64 0, .int .u64 0, .int .i64 0, .int .i64 0] 26)).alloc (.cells #[.int .u64 0, .int .u64 0, .int .u64 0, .int .u64 0, .int .i64 0, .int .i64 0] 26)) = W0 := ⟨_, rfl⟩
  rw [hW0] at HW
  cases ok
  · rw [if_neg Bool.false_ne_true]
    go_enter Try.func7, Try.ntmps7
    go_upto_region 13 with fail
    refine wp_first (c' := hdC (tl 6 (Try.f7.body.getD .skip))) (by kernel_rfl) ?_
    have ht := fun nx hn => way_tail_false x y c d 192 0 w _ HC.out HW.out nx hn
    unfold numV at ht
    exact ht _ (by intro a' w' h'; apply_assumption; exact h') _ _ _ _ _ _ _ _ _ _ _ _ _ _ _ _ _ _ _ _ _ _ _ _ _ _ _ _ _ _ _ _ _ _ _ _ _ _ _ _ _ _ _ _ _ _ _ _ _ _ _ _ _ _ _ _ _ _ _ _ _ _ _ _ _ _ _ _ _ _ _ _ _ _ _ _ _ _ _ _ _ _ _ _ _ _ _
  · rw [if_pos rfl]
    go_enter Try.func7, Try.ntmps7
    go_upto_region 13 with fail
    refine wp_first (c' := hdC (tl 6 (Try.f7.body.getD .skip))) (by kernel_rfl) ?_
    have ht := fun nx hn => way_tail_true x y c d 192 0 w _ HC.out HW.out nx hn
    unfold numV at ht
    exact ht _ (by intro a' w' h'; apply_assumption; exact h') _ _ _ _ _ _ _ _ _ _ _ _ _ _ _ _ _ _ _ _ _ _ _ _ _ _ _ _ _ _ _ _ _ _ _ _ _ _ _ _ _ _ _ _ _ _ _ _ _ _ _ _ _ _ _ _ _ _ _ _ _ _ _ _ _ _ _ _ _ _ _ _ _ _ _ _ _ _ _ _ _ _ _ _ _ _ _
set_option maxRecDepth 100000 in
set_option maxHeartbeats 8000000 in
theorem wy192_f_w (x y c d : K) (ok : Bool) (w : World) (hc : ∀ W, Calls Try.prog 16 #[.int .u8 112, .int .i64 0, numV x, numV y] W (Gives (.tuple #[numV c, numV d, .bool ok]) W)) :
    Calls Try.prog 7 #[.int .u8 192, .bool true, numV x, numV y, .bool false] w (Gives (if ok = true then .tuple #[numV c, numV d, .bool true] else .tuple #[numV x, numV y, .bool false]) w) := by
  have hop := fun W => opp_ref 192 W
  rw [show oppI 192 = 112 from rfl] at hop
  have HC := Lib.hid hc
  clear hc
  have HW := Lib.hid (h4_new x y w)
  unfold Gives numV
  obtain ⟨W0, hW0⟩ : ∃ W0, ((((w.alloc (.cells #[.int .u64 (u x.v), .int .u64 (u x.m), .int .u64 (u x.a), .int .u64 (u x.b), .int .i64 (s x.c), .int .i64 (s x.d)] 26)).alloc (.cells #[.int .u64 (u y.v), .int .u64 (u y.m), .int .u64 (u y.a), .int .u64 (u y.b), .int .i64 (s y.c), .int .i64 (s y.d)] 26)).alloc (.cells #[.int .u64 0, .int .u64 0, .int .u64 0, .int .u64 0, .int .i64 0, .int .i64 0] 26)).alloc (.cells #[.int .u64 0, .int .u64 0, .int .u64 0, .int .u64 0, .int .i64 0, .int .i64 0] 26)) = W0 := ⟨_, rfl⟩
  rw [hW0] at HW
  cases ok
  · rw [if_neg Bool.false_ne_true]
    go_enter Try.func7, Try.ntmps7
    go_upto_region 13 with (go_at_call 15; refine (hop _).mono ?_; rintro e w1 ⟨rfl, hb⟩; have HV := Lib.hid (h4_keep HW.out hb); clear hb)
    refine wp_first (c' := hdC (tl 6 (Try.f7.body.getD .skip))) (by kernel_rfl) ?_
    have ht := fun nx hn => way_tail_false x y c d 112 0 w _ HC.out HV.out nx hn
    unfold numV at ht
    exact ht _ (by intro a' w' h'; apply_assumption; exact h') _ _ _ _ _ _ _ _ _ _ _ _ _ _ _ _ _ _ _ _ _ _ _ _ _ _ _ _ _ _ _ _ _ _ _ _ _ _ _ _ _ _ _ _ _ _ _ _ _ _ _ _ _ _ _ _ _ _ _ _ _ _ _ _ _ _ _ _ _ _ _ _ _ _ _ _ _ _ _ _ _ _ _ _ _ _ _
  · rw [if_pos rfl]
    go_enter Try.func7, Try.ntmps7
    go_upto_region 13 with (go_at_call 15; refine (hop _).mono ?_; rintro e w1 ⟨rfl, hb⟩; have HV := Lib.hid (h4_keep HW.out hb); clear hb)
    refine wp_first (c' := hdC (tl 6 (Try.f7.body.getD .skip))) (by kernel_rfl) ?_
    have ht := fun nx hn => way_tail_true x y c d 112 0 w _ HC.out HV.out nx hn
    unfold numV at ht
    exact ht _ (by intro a' w' h'; apply_assumption; exact h') _ _ _ _ _ _ _ _ _ _ _ _ _ _ _ _ _ _ _ _ _ _ _ _ _ _ _ _ _ _ _ _ _ _ _ _ _ _ _ _ _ _ _ _ _ _ _ _ _ _ _ _ _ _ _ _ _ _ _ _ _ _ _ _ _ _ _ _ _ _ _ _ _ _ _ _ _ _ _ _ _ _ _ _ _ _ _
set_option maxRecDepth 100000 in
set_option maxHeartbeats 8000000 in
theorem wy208_t_w (x y c d : K) (ok : Bool) (w : World) (hc : ∀ W, Calls Try.prog 16 #[.int .u8 208, .int .i64 0, numV x, numV y] W (Gives (.tuple #[numV c, numV d, .bool ok]) W)) :
    Calls Try.prog 7 #[.int .u8 208, .bool true, numV x, numV y, .bool true] w (Gives (if ok = true then .tuple #[numV c, numV d, .bool true] else .tuple #[numV x, numV y, .bool false]) w) := by
  have HC := Lib.hid hc
  clear hc
  have HW := Lib.hid (h4_new x y w)
  unfold Gives numV
  obtain ⟨W0, hW0⟩ : ∃ W0, ((((w.alloc (.cells #[.int .u64 (u x.v), .int .u64 (u x.m), .int .u64 (u x.a), .int .u64 (u x.b), .int .i64 (s x.c), .int .i64 (s x.d)] 26)).alloc (.cells #[.int .u64 (u y.v), .int .u64 (u y.m), .int .u64 (u y.a), .int .u64 (u y.b), .int .i64 (s y.c), .int .i64 (s y.d)] 26)).alloc (.cells #[.int .u64 0, .int .u64 0, .int .u64 0, .int .u64 0, .int .i64 0, .int .i64 0] 26)).alloc (.cells #[.int .u64 0, .int .u64 0, .int .u64 0, .int .u64 0, .int .i64 0, .int .i64 0] 26)) = W0 := ⟨_, rfl⟩
  rw [hW0] at HW
  cases ok
  · rw [if_neg Bool.false_ne_true]
    go_enter Try.func7, Try.ntmps7
    go_upto_region 13 with fail
    refine wp_first (c' := hdC (tl 6 (Try.f7.body.getD .skip))) (by kernel_rfl) ?_
    have ht := fun nx hn => way_tail_false x y c d 208 0 w _ HC.out HW.out nx hn
    unfold numV at ht
    exact ht _ (by intro a' w' h'; apply_assumption; exact h') _ _ _ _ _ _ _ _ _ _ _ _ _ _ _ _ _ _ _ _ _ _ _ _ _ _ _ _ _ _ _ _ _ _ _ _ _ _ _ _ _ _ _ _ _ _ _ _ _ _ _ _ _ _ _ _ _ _ _ _ _ _ _ _ _ _ _ _ _ _ _ _ _ _ _ _ _ _ _ _ _ _ _ _ _ _ _
  · rw [if_pos rfl]
    go_enter Try.func7, Try.ntmps7
    go_upto_region 13 with fail
    refine wp_first (c' := hdC (tl 6 (Try.f7.body.getD .skip))) (by kernel_rfl) ?_
    have ht := fun nx hn => way_tail_true x y c d 208 0 w _ HC.out HW.out nx hn
    unfold numV at ht
    exact ht _ (by intro a' w' h'; apply_assumption; exact h') _ _ _ _ _ _ _ _ _ _ _ _ _ _ _ _ _ _ _ _ _ _ _ _ _ _ _ _ _ _ _ _ _ _ _ _ _ _ _ _ _ _ _ _ _ _ _ _ _ _ _ _ _ _ _ _ _ _ _ _ _ _ _ _ _ _ _ _ _ _ _ _ _ _ _ _ _ _ _ _ _ _ _ _ _ _ _
set_option maxRecDepth 100000 in
set_option maxHeartbeats 8000000 in
theorem wy208_f_w (x y c d : K) (ok : Bool) (w : World) (hc : ∀ W, Calls Try.prog 16 #[.int .u8 96, .int .i64 0, numV x, numV y] W (Gives (.tuple #[numV c, numV d, .bool ok]) W)) :
    Calls Try.prog 7 #[.int .u8 208, .bool true, numV x, numV y, .bool false] w (Gives (if ok = true then .tuple #[numV c, numV d, .bool true] else .tuple #[numV x, numV y, .bool false]) w) := by
  have hop := fun W => opp_ref 208 W
  rw [show oppI 208 = 96 from rfl] at hop
  have HC := Lib.hid hc
  clear hc
  have HW := Lib.hid (h4_new x y w)
  unfold Gives numV
  obtain ⟨W0, hW0⟩ : ∃ W0, ((((w.alloc (.cells #[.int .u64 (u x.v), .int .u64 (u x.m), .int .u64 (u x.a), .int .u64 (u x.b), .int .i64 (s x.c), .int .i64 (s x.d)] 26)).alloc (.cells #[.int .u64 (u y.v), .int .u64 (u y.m), .int .u64 (u y.a), .int .u64 (u y.b), .int .i64 (s y.c), .int .i64 (s y.d)] 26)).alloc (.cells #[.int .u64 0, .int .u64 0, .int .u64 0, .int .u64 0, .int .i64 0, .int .i64 0] 26)).alloc (.cells #[.int .u64 0, .int .u64 0, .int .u64 0, .int .u64 0, .int .i64 0, .int .i64 0] 26)) = W0 := ⟨_, rfl⟩
  rw [hW0] at HW
  cases ok
  · rw [if_neg Bool.false_ne_true]
    go_enter Try.func7, Try.ntmps7
    go_upto_region 13 with (go_at_call 15; refine (hop _).mono ?_; rintro e w1 ⟨rfl, hb⟩; have HV := Lib.hid (h4_keep HW.out hb); clear hb)
    refine wp_first (c' := hdC (tl 6 (Try.f7.body.getD .skip))) (by kernel_rfl) ?_
    have ht := fun nx hn => way_tail_false x y c d 96 0 w _ HC.out HV.out nx hn
    unfold numV at ht
    exact ht _ (by intro a' w' h'; apply_assumption; exact h') _ _ _ _ _ _ _ _ _ _ _ _ _ _ _ _ _ _ _ _ _ _ _ _ _ _ _ _ _ _ _ _ _ _ _ _ _ _ _ _ _ _ _ _ _ _ _ _ _ _ _ _ _ _ _ _ _ _ _ _ _ _ _ _ _ _ _ _ _ _ _ _ _ _ _ _ _ _ _ _ _ _ _ _ _ _ _
  · rw [if_pos rfl]
    go_enter Try.func7, Try.ntmps7
    go_upto_region 13 with (go_at_call 15; refine (hop _).mono ?_; rintro e w1 ⟨rfl, hb⟩; have HV := Lib.hid (h4_keep HW.out hb); clear hb)
    refine wp_first (c' := hdC (tl 6 (Try.f7.body.getD .skip))) (by kernel_rfl) ?_
    have ht := fun nx hn => way_tail_true x y c d 96 0 w _ HC.out HV.out nx hn
    unfold numV at ht
    exact ht _ (by intro a' w' h'; apply_assumption; exact h') _ _ _ _ _ _ _ _ _ _ _ _ _ _ _ _ _ _ _ _ _ _ _ _ _ _ _ _ _ _ _ _ _ _ _ _ _ _ _ _ _ _ _ _ _ _ _ _ _ _ _ _ _ _ _ _ _ _ _ _ _ _ _ _ _ _ _ _ _ _ _ _ _ _ _ _ _ _ _ _ _ _ _ _ _ _ _
end Go.Proofs.Ytbljijbmjccalaa
