/-
  Proved here: what Do of package xfer tells, where rowOf gives one of the rows' functions. Conditions: what that function returns.
-/
import Derived.Test.YtogadmlnmcojpaaG3
import Derived.Deep.RegionHeld3
import Derived.Deep.RegionWith
namespace Go.Proofs.Ytogadmlnmcojpaa
open Go.RowKit

/-- Do's boxes: both that are known, and the result's. -/
def DoB3 (w0 : World) (a b : K) (W : World) : Prop := Box3 w0 a b zeroK W
theorem doB3_facts {w0 W : World} {a b : K} (h : DoB3 w0 a b W) :
    (W.cell? ⟨w0.heap.size, 0, none⟩ = some (.int .u64 (u a.v)) ∧ W.cell? ⟨w0.heap.size, 1, none⟩ = some (.int .u64 (u a.m)) ∧ W.cell? ⟨w0.heap.size, 2, none⟩ = some (.int .u64 (u a.a)) ∧ W.cell? ⟨w0.heap.size, 3, none⟩ = some (.int .u64 (u a.b)) ∧
    W.cell? ⟨w0.heap.size, 4, none⟩ = some (.int .i64 (s a.c)) ∧ W.cell? ⟨w0.heap.size, 5, none⟩ = some (.int .i64 (s a.d))) ∧
    (W.cell? ⟨w0.heap.size + 1, 0, none⟩ = some (.int .u64 (u b.v)) ∧ W.cell? ⟨w0.heap.size + 1, 1, none⟩ = some (.int .u64 (u b.m)) ∧ W.cell? ⟨w0.heap.size + 1, 2, none⟩ = some (.int .u64 (u b.a)) ∧ W.cell? ⟨w0.heap.size + 1, 3, none⟩ = some (.int .u64 (u b.b)) ∧
    W.cell? ⟨w0.heap.size + 1, 4, none⟩ = some (.int .i64 (s b.c)) ∧ W.cell? ⟨w0.heap.size + 1, 5, none⟩ = some (.int .i64 (s b.d))) := ⟨num_cells h.1, num_cells h.2.1⟩
theorem doB3_out {w0 W : World} {a b : K} (h : DoB3 w0 a b W) (q : K) :
    NumAt (w0.heap.size + 2) q ((((((W.setCell ⟨w0.heap.size + 2, 0, none⟩ (.int .u64 (u q.v))).setCell ⟨w0.heap.size + 2, 1, none⟩ (.int .u64 (u q.m))).setCell ⟨w0.heap.size + 2, 2, none⟩ (.int .u64 (u q.a))).setCell ⟨w0.heap.size + 2, 3, none⟩ (.int .u64 (u q.b))).setCell ⟨w0.heap.size + 2, 4, none⟩ (.int .i64 (s q.c))).setCell ⟨w0.heap.size + 2, 5, none⟩ (.int .i64 (s q.d))) ∧
    Below w0.heap.size w0 ((((((W.setCell ⟨w0.heap.size + 2, 0, none⟩ (.int .u64 (u q.v))).setCell ⟨w0.heap.size + 2, 1, none⟩ (.int .u64 (u q.m))).setCell ⟨w0.heap.size + 2, 2, none⟩ (.int .u64 (u q.a))).setCell ⟨w0.heap.size + 2, 3, none⟩ (.int .u64 (u q.b))).setCell ⟨w0.heap.size + 2, 4, none⟩ (.int .i64 (s q.c))).setCell ⟨w0.heap.size + 2, 5, none⟩ (.int .i64 (s q.d))) :=
  ⟨num_six h.2.2.1 q, h.2.2.2.trans ((below_six (Below.refl (w0.heap.size + 2) W) _ _ _ _ _ _).mono (by omega))⟩
theorem do_no (op : Int) (wide : Bool) (a b : K) (w : World) (hr : ∀ W, Calls Try.prog 14 #[.int .u8 op, .bool wide] W (Gives (.tuple #[.nilFunc, .bool false]) W)) :
    Calls Try.prog 7 #[.int .u8 op, .bool wide, numV a, numV b] w (Gives (.tuple #[numV allK, .bool false]) w) := by
  have HN := Lib.hid (box3_new a b w)
  have hall := fun W => all_num W
  obtain ⟨r, hr'⟩ : ∃ r, allK = r := ⟨_, rfl⟩
  rw [hr'] at hall ⊢
  clear hr'
  unfold Gives at hr
  unfold numV at hall
  unfold Gives numV
  go_enter Try.func7, Try.ntmps7
  go_upto_region 1 with fail
  generalize World.alloc _ _ = W0 at HN ⊢
  go_wp2_with (first
    | (go_at_call 14; refine (hr _).mono ?_; rintro e w1 ⟨rfl, hb⟩; have H1 := Lib.hid (show DoB3 w a b w1 from box3_far HN.out hb); clear hb)
    | (go_at_call 15; refine (hall _).mono ?_; rintro e w2 ⟨rfl, hb⟩; have H2 := Lib.hid (show DoB3 w a b w2 from box3_far H1.out hb); clear hb; obtain ⟨f0, f1, f2, f3, f4, f5⟩ := num_free H2.out.2.2.1; obtain ⟨z0, z1, z2, z3, z4, z5⟩ := num_cells H2.out.2.2.1))
  have HD := Lib.hid (doB3_out H2.out r)
  generalize World.setCell _ _ _ = W3 at HD ⊢
  clear f0 f1 f2 f3 f4 f5 z0 z1 z2 z3 z4 z5
  obtain ⟨z0, z1, z2, z3, z4, z5⟩ := num_cells HD.out.1
  exact bodyPost_ret (v := .tuple #[numV r, .bool false]) (by unfold numV; simp [results, Try.results7, go_sem, z0, z1, z2, z3, z4, z5]) rfl ⟨rfl, HD.out.2⟩
set_option maxHeartbeats 1000000 in
theorem do_ones (op : Int) (wide : Bool) (F : Nat) (x : B64) (a b : K) (w : World) (hr : ∀ W, Calls Try.prog 14 #[.int .u8 op, .bool wide] W (Gives (.tuple #[fnV F, .bool true]) W))
    (ho : ∀ W, Calls Try.prog 16 #[.int .u8 op, .bool wide, numV a, numV b] W (Gives (.tuple #[.int .u64 (u x), .bool true]) W)) :
    Calls Try.prog 7 #[.int .u8 op, .bool wide, numV a, numV b] w (Gives (.tuple #[numV (oneK x), .bool true]) w) := by
  have HN := Lib.hid (box3_new a b w)
  have hc := fun W => const_num x W
  obtain ⟨r, hr'⟩ : ∃ r, oneK x = r := ⟨_, rfl⟩
  rw [hr'] at hc ⊢
  clear hr'
  unfold fnV at hr
  unfold numV at hc ho
  unfold Gives numV
  go_enter Try.func7, Try.ntmps7
  go_upto_region 1 with fail
  generalize World.alloc _ _ = W0 at HN ⊢
  go_upto_region 4 with (go_at_call 14; refine (hr _).mono ?_; rintro e w1 ⟨rfl, hb⟩; have H1 := Lib.hid (show DoB3 w a b w1 from box3_far HN.out hb); clear hb)
  obtain ⟨⟨a0, a1, a2, a3, a4, a5⟩, ⟨b0, b1, b2, b3, b4, b5⟩⟩ := doB3_facts H1.out
  go_wp2_with (first
    | (go_at_call 16; refine (ho _).mono ?_; rintro e w2 ⟨rfl, hb⟩; have H2 := Lib.hid (show DoB3 w a b w2 from box3_far H1.out hb); clear hb)
    | (go_at_call 17; refine (hc _).mono ?_; rintro e w3 ⟨rfl, hb⟩; have H3 := Lib.hid (show DoB3 w a b w3 from box3_far H2.out hb); clear hb; obtain ⟨f0, f1, f2, f3, f4, f5⟩ := num_free H3.out.2.2.1; obtain ⟨z0, z1, z2, z3, z4, z5⟩ := num_cells H3.out.2.2.1))
  have HD := Lib.hid (doB3_out H3.out r)
  generalize World.setCell _ _ _ = W3 at HD ⊢
  clear f0 f1 f2 f3 f4 f5 z0 z1 z2 z3 z4 z5
  obtain ⟨z0, z1, z2, z3, z4, z5⟩ := num_cells HD.out.1
  exact bodyPost_ret (v := .tuple #[numV r, .bool true]) (by unfold numV; simp [results, Try.results7, go_sem, z0, z1, z2, z3, z4, z5]) rfl ⟨rfl, HD.out.2⟩
end Go.Proofs.Ytogadmlnmcojpaa

/-
  Proved here: what Do of package xfer tells of 64 bits, where rowOf gives one of the rows' functions. Conditions: what that function returns.
-/
namespace Go.Proofs.Ytogadmlnmcojpaa
open Go.RowKit
set_option maxHeartbeats 1000000 in
theorem do_w50 (op : Int) (R : K) (a b : K) (w : World) (hr : ∀ W, Calls Try.prog 14 #[.int .u8 op, .bool true] W (Gives (.tuple #[fnV 50, .bool true]) W))
    (ho : ∀ W, Calls Try.prog 16 #[.int .u8 op, .bool true, numV a, numV b] W (Gives (.tuple #[.int .u64 0, .bool false]) W))
    (hf : ∀ W, Calls Try.prog 50 #[pairV a b (oneB b) (cB b) (cB b % 64#64)] W (Gives (numV R) W)) :
    Calls Try.prog 7 #[.int .u8 op, .bool true, numV a, numV b] w (Gives (.tuple #[numV R.fine, .bool true]) w) := by
  have HN := Lib.hid (box3_new a b w)
  have hp := fun W => pairOf_x a b 64#64 W (by decide)
  have hq := fun W => refined_x R W
  obtain ⟨r, hr'⟩ : ∃ r, R.fine = r := ⟨_, rfl⟩
  rw [hr'] at hq ⊢
  clear hr'
  obtain ⟨P, hP⟩ : ∃ P, pairV a b (oneB b) (cB b) (cB b % 64#64) = P := ⟨_, rfl⟩
  rw [hP] at hf hp
  clear hP
  unfold fnV at hr
  have e64 : u 64#64 = 64 := rfl
  rw [e64] at hp
  clear e64
  unfold numV at hp hq hf ho
  unfold Gives numV
  go_enter Try.func7, Try.ntmps7
  go_upto_region 1 with fail
  generalize World.alloc _ _ = W0 at HN ⊢
  go_upto_region 4 with (go_at_call 14; refine (hr _).mono ?_; rintro e w1 ⟨rfl, hb⟩; have H1 := Lib.hid (show DoB3 w a b w1 from box3_far HN.out hb); clear hb)
  obtain ⟨⟨a0, a1, a2, a3, a4, a5⟩, ⟨b0, b1, b2, b3, b4, b5⟩⟩ := doB3_facts H1.out
  go_wp2_with (first
    | (go_at_call 16; refine (ho _).mono ?_; rintro e w2 ⟨rfl, hb⟩; have H2 := Lib.hid (show DoB3 w a b w2 from box3_far H1.out hb); clear hb; clear a0 a1 a2 a3 a4 a5 b0 b1 b2 b3 b4 b5; obtain ⟨⟨a0, a1, a2, a3, a4, a5⟩, ⟨b0, b1, b2, b3, b4, b5⟩⟩ := doB3_facts H2.out)
    | (go_at_call 18; refine (hp _).mono ?_; rintro e w3 ⟨rfl, hb⟩; have H3 := Lib.hid (show DoB3 w a b w3 from box3_far H2.out hb); clear hb)
    | (go_at_call 50; refine (hf _).mono ?_; rintro e w4 ⟨rfl, hb⟩; have H4 := Lib.hid (show DoB3 w a b w4 from box3_far H3.out hb); clear hb)
    | (go_at_call 19; refine (hq _).mono ?_; rintro e w5 ⟨rfl, hb⟩; have H5 := Lib.hid (show DoB3 w a b w5 from box3_far H4.out hb); clear hb; obtain ⟨f0, f1, f2, f3, f4, f5⟩ := num_free H5.out.2.2.1; obtain ⟨z0, z1, z2, z3, z4, z5⟩ := num_cells H5.out.2.2.1))
  have HD := Lib.hid (doB3_out H5.out r)
  generalize World.setCell _ _ _ = W3 at HD ⊢
  clear f0 f1 f2 f3 f4 f5 z0 z1 z2 z3 z4 z5
  obtain ⟨z0, z1, z2, z3, z4, z5⟩ := num_cells HD.out.1
  exact bodyPost_ret (v := .tuple #[numV r, .bool true]) (by unfold numV; simp [results, Try.results7, go_sem, z0, z1, z2, z3, z4, z5]) rfl ⟨rfl, HD.out.2⟩
set_option maxHeartbeats 1000000 in
theorem do_w51 (op : Int) (R : K) (a b : K) (w : World) (hr : ∀ W, Calls Try.prog 14 #[.int .u8 op, .bool true] W (Gives (.tuple #[fnV 51, .bool true]) W))
    (ho : ∀ W, Calls Try.prog 16 #[.int .u8 op, .bool true, numV a, numV b] W (Gives (.tuple #[.int .u64 0, .bool false]) W))
    (hf : ∀ W, Calls Try.prog 51 #[pairV a b (oneB b) (cB b) (cB b % 64#64)] W (Gives (numV R) W)) :
    Calls Try.prog 7 #[.int .u8 op, .bool true, numV a, numV b] w (Gives (.tuple #[numV R.fine, .bool true]) w) := by
  have HN := Lib.hid (box3_new a b w)
  have hp := fun W => pairOf_x a b 64#64 W (by decide)
  have hq := fun W => refined_x R W
  obtain ⟨r, hr'⟩ : ∃ r, R.fine = r := ⟨_, rfl⟩
  rw [hr'] at hq ⊢
  clear hr'
  obtain ⟨P, hP⟩ : ∃ P, pairV a b (oneB b) (cB b) (cB b % 64#64) = P := ⟨_, rfl⟩
  rw [hP] at hf hp
  clear hP
  unfold fnV at hr
  have e64 : u 64#64 = 64 := rfl
  rw [e64] at hp
  clear e64
  unfold numV at hp hq hf ho
  unfold Gives numV
  go_enter Try.func7, Try.ntmps7
  go_upto_region 1 with fail
  generalize World.alloc _ _ = W0 at HN ⊢
  go_upto_region 4 with (go_at_call 14; refine (hr _).mono ?_; rintro e w1 ⟨rfl, hb⟩; have H1 := Lib.hid (show DoB3 w a b w1 from box3_far HN.out hb); clear hb)
  obtain ⟨⟨a0, a1, a2, a3, a4, a5⟩, ⟨b0, b1, b2, b3, b4, b5⟩⟩ := doB3_facts H1.out
  go_wp2_with (first
    | (go_at_call 16; refine (ho _).mono ?_; rintro e w2 ⟨rfl, hb⟩; have H2 := Lib.hid (show DoB3 w a b w2 from box3_far H1.out hb); clear hb; clear a0 a1 a2 a3 a4 a5 b0 b1 b2 b3 b4 b5; obtain ⟨⟨a0, a1, a2, a3, a4, a5⟩, ⟨b0, b1, b2, b3, b4, b5⟩⟩ := doB3_facts H2.out)
    | (go_at_call 18; refine (hp _).mono ?_; rintro e w3 ⟨rfl, hb⟩; have H3 := Lib.hid (show DoB3 w a b w3 from box3_far H2.out hb); clear hb)
    | (go_at_call 51; refine (hf _).mono ?_; rintro e w4 ⟨rfl, hb⟩; have H4 := Lib.hid (show DoB3 w a b w4 from box3_far H3.out hb); clear hb)
    | (go_at_call 19; refine (hq _).mono ?_; rintro e w5 ⟨rfl, hb⟩; have H5 := Lib.hid (show DoB3 w a b w5 from box3_far H4.out hb); clear hb; obtain ⟨f0, f1, f2, f3, f4, f5⟩ := num_free H5.out.2.2.1; obtain ⟨z0, z1, z2, z3, z4, z5⟩ := num_cells H5.out.2.2.1))
  have HD := Lib.hid (doB3_out H5.out r)
  generalize World.setCell _ _ _ = W3 at HD ⊢
  clear f0 f1 f2 f3 f4 f5 z0 z1 z2 z3 z4 z5
  obtain ⟨z0, z1, z2, z3, z4, z5⟩ := num_cells HD.out.1
  exact bodyPost_ret (v := .tuple #[numV r, .bool true]) (by unfold numV; simp [results, Try.results7, go_sem, z0, z1, z2, z3, z4, z5]) rfl ⟨rfl, HD.out.2⟩
set_option maxHeartbeats 1000000 in
theorem do_w52 (op : Int) (R : K) (a b : K) (w : World) (hr : ∀ W, Calls Try.prog 14 #[.int .u8 op, .bool true] W (Gives (.tuple #[fnV 52, .bool true]) W))
    (ho : ∀ W, Calls Try.prog 16 #[.int .u8 op, .bool true, numV a, numV b] W (Gives (.tuple #[.int .u64 0, .bool false]) W))
    (hf : ∀ W, Calls Try.prog 52 #[pairV a b (oneB b) (cB b) (cB b % 64#64)] W (Gives (numV R) W)) :
    Calls Try.prog 7 #[.int .u8 op, .bool true, numV a, numV b] w (Gives (.tuple #[numV R.fine, .bool true]) w) := by
  have HN := Lib.hid (box3_new a b w)
  have hp := fun W => pairOf_x a b 64#64 W (by decide)
  have hq := fun W => refined_x R W
  obtain ⟨r, hr'⟩ : ∃ r, R.fine = r := ⟨_, rfl⟩
  rw [hr'] at hq ⊢
  clear hr'
  obtain ⟨P, hP⟩ : ∃ P, pairV a b (oneB b) (cB b) (cB b % 64#64) = P := ⟨_, rfl⟩
  rw [hP] at hf hp
  clear hP
  unfold fnV at hr
  have e64 : u 64#64 = 64 := rfl
  rw [e64] at hp
  clear e64
  unfold numV at hp hq hf ho
  unfold Gives numV
  go_enter Try.func7, Try.ntmps7
  go_upto_region 1 with fail
  generalize World.alloc _ _ = W0 at HN ⊢
  go_upto_region 4 with (go_at_call 14; refine (hr _).mono ?_; rintro e w1 ⟨rfl, hb⟩; have H1 := Lib.hid (show DoB3 w a b w1 from box3_far HN.out hb); clear hb)
  obtain ⟨⟨a0, a1, a2, a3, a4, a5⟩, ⟨b0, b1, b2, b3, b4, b5⟩⟩ := doB3_facts H1.out
  go_wp2_with (first
    | (go_at_call 16; refine (ho _).mono ?_; rintro e w2 ⟨rfl, hb⟩; have H2 := Lib.hid (show DoB3 w a b w2 from box3_far H1.out hb); clear hb; clear a0 a1 a2 a3 a4 a5 b0 b1 b2 b3 b4 b5; obtain ⟨⟨a0, a1, a2, a3, a4, a5⟩, ⟨b0, b1, b2, b3, b4, b5⟩⟩ := doB3_facts H2.out)
    | (go_at_call 18; refine (hp _).mono ?_; rintro e w3 ⟨rfl, hb⟩; have H3 := Lib.hid (show DoB3 w a b w3 from box3_far H2.out hb); clear hb)
    | (go_at_call 52; refine (hf _).mono ?_; rintro e w4 ⟨rfl, hb⟩; have H4 := Lib.hid (show DoB3 w a b w4 from box3_far H3.out hb); clear hb)
    | (go_at_call 19; refine (hq _).mono ?_; rintro e w5 ⟨rfl, hb⟩; have H5 := Lib.hid (show DoB3 w a b w5 from box3_far H4.out hb); clear hb; obtain ⟨f0, f1, f2, f3, f4, f5⟩ := num_free H5.out.2.2.1; obtain ⟨z0, z1, z2, z3, z4, z5⟩ := num_cells H5.out.2.2.1))
  have HD := Lib.hid (doB3_out H5.out r)
  generalize World.setCell _ _ _ = W3 at HD ⊢
  clear f0 f1 f2 f3 f4 f5 z0 z1 z2 z3 z4 z5
  obtain ⟨z0, z1, z2, z3, z4, z5⟩ := num_cells HD.out.1
  exact bodyPost_ret (v := .tuple #[numV r, .bool true]) (by unfold numV; simp [results, Try.results7, go_sem, z0, z1, z2, z3, z4, z5]) rfl ⟨rfl, HD.out.2⟩
set_option maxHeartbeats 1000000 in
theorem do_w53 (op : Int) (R : K) (a b : K) (w : World) (hr : ∀ W, Calls Try.prog 14 #[.int .u8 op, .bool true] W (Gives (.tuple #[fnV 53, .bool true]) W))
    (ho : ∀ W, Calls Try.prog 16 #[.int .u8 op, .bool true, numV a, numV b] W (Gives (.tuple #[.int .u64 0, .bool false]) W))
    (hf : ∀ W, Calls Try.prog 53 #[pairV a b (oneB b) (cB b) (cB b % 64#64)] W (Gives (numV R) W)) :
    Calls Try.prog 7 #[.int .u8 op, .bool true, numV a, numV b] w (Gives (.tuple #[numV R.fine, .bool true]) w) := by
  have HN := Lib.hid (box3_new a b w)
  have hp := fun W => pairOf_x a b 64#64 W (by decide)
  have hq := fun W => refined_x R W
  obtain ⟨r, hr'⟩ : ∃ r, R.fine = r := ⟨_, rfl⟩
  rw [hr'] at hq ⊢
  clear hr'
  obtain ⟨P, hP⟩ : ∃ P, pairV a b (oneB b) (cB b) (cB b % 64#64) = P := ⟨_, rfl⟩
  rw [hP] at hf hp
  clear hP
  unfold fnV at hr
  have e64 : u 64#64 = 64 := rfl
  rw [e64] at hp
  clear e64
  unfold numV at hp hq hf ho
  unfold Gives numV
  go_enter Try.func7, Try.ntmps7
  go_upto_region 1 with fail
  generalize World.alloc _ _ = W0 at HN ⊢
  go_upto_region 4 with (go_at_call 14; refine (hr _).mono ?_; rintro e w1 ⟨rfl, hb⟩; have H1 := Lib.hid (show DoB3 w a b w1 from box3_far HN.out hb); clear hb)
  obtain ⟨⟨a0, a1, a2, a3, a4, a5⟩, ⟨b0, b1, b2, b3, b4, b5⟩⟩ := doB3_facts H1.out
  go_wp2_with (first
    | (go_at_call 16; refine (ho _).mono ?_; rintro e w2 ⟨rfl, hb⟩; have H2 := Lib.hid (show DoB3 w a b w2 from box3_far H1.out hb); clear hb; clear a0 a1 a2 a3 a4 a5 b0 b1 b2 b3 b4 b5; obtain ⟨⟨a0, a1, a2, a3, a4, a5⟩, ⟨b0, b1, b2, b3, b4, b5⟩⟩ := doB3_facts H2.out)
    | (go_at_call 18; refine (hp _).mono ?_; rintro e w3 ⟨rfl, hb⟩; have H3 := Lib.hid (show DoB3 w a b w3 from box3_far H2.out hb); clear hb)
    | (go_at_call 53; refine (hf _).mono ?_; rintro e w4 ⟨rfl, hb⟩; have H4 := Lib.hid (show DoB3 w a b w4 from box3_far H3.out hb); clear hb)
    | (go_at_call 19; refine (hq _).mono ?_; rintro e w5 ⟨rfl, hb⟩; have H5 := Lib.hid (show DoB3 w a b w5 from box3_far H4.out hb); clear hb; obtain ⟨f0, f1, f2, f3, f4, f5⟩ := num_free H5.out.2.2.1; obtain ⟨z0, z1, z2, z3, z4, z5⟩ := num_cells H5.out.2.2.1))
  have HD := Lib.hid (doB3_out H5.out r)
  generalize World.setCell _ _ _ = W3 at HD ⊢
  clear f0 f1 f2 f3 f4 f5 z0 z1 z2 z3 z4 z5
  obtain ⟨z0, z1, z2, z3, z4, z5⟩ := num_cells HD.out.1
  exact bodyPost_ret (v := .tuple #[numV r, .bool true]) (by unfold numV; simp [results, Try.results7, go_sem, z0, z1, z2, z3, z4, z5]) rfl ⟨rfl, HD.out.2⟩
set_option maxHeartbeats 1000000 in
theorem do_w54 (op : Int) (R : K) (a b : K) (w : World) (hr : ∀ W, Calls Try.prog 14 #[.int .u8 op, .bool true] W (Gives (.tuple #[fnV 54, .bool true]) W))
    (ho : ∀ W, Calls Try.prog 16 #[.int .u8 op, .bool true, numV a, numV b] W (Gives (.tuple #[.int .u64 0, .bool false]) W))
    (hf : ∀ W, Calls Try.prog 54 #[pairV a b (oneB b) (cB b) (cB b % 64#64)] W (Gives (numV R) W)) :
    Calls Try.prog 7 #[.int .u8 op, .bool true, numV a, numV b] w (Gives (.tuple #[numV R.fine, .bool true]) w) := by
  have HN := Lib.hid (box3_new a b w)
  have hp := fun W => pairOf_x a b 64#64 W (by decide)
  have hq := fun W => refined_x R W
  obtain ⟨r, hr'⟩ : ∃ r, R.fine = r := ⟨_, rfl⟩
  rw [hr'] at hq ⊢
  clear hr'
  obtain ⟨P, hP⟩ : ∃ P, pairV a b (oneB b) (cB b) (cB b % 64#64) = P := ⟨_, rfl⟩
  rw [hP] at hf hp
  clear hP
  unfold fnV at hr
  have e64 : u 64#64 = 64 := rfl
  rw [e64] at hp
  clear e64
  unfold numV at hp hq hf ho
  unfold Gives numV
  go_enter Try.func7, Try.ntmps7
  go_upto_region 1 with fail
  generalize World.alloc _ _ = W0 at HN ⊢
  go_upto_region 4 with (go_at_call 14; refine (hr _).mono ?_; rintro e w1 ⟨rfl, hb⟩; have H1 := Lib.hid (show DoB3 w a b w1 from box3_far HN.out hb); clear hb)
  obtain ⟨⟨a0, a1, a2, a3, a4, a5⟩, ⟨b0, b1, b2, b3, b4, b5⟩⟩ := doB3_facts H1.out
  go_wp2_with (first
    | (go_at_call 16; refine (ho _).mono ?_; rintro e w2 ⟨rfl, hb⟩; have H2 := Lib.hid (show DoB3 w a b w2 from box3_far H1.out hb); clear hb; clear a0 a1 a2 a3 a4 a5 b0 b1 b2 b3 b4 b5; obtain ⟨⟨a0, a1, a2, a3, a4, a5⟩, ⟨b0, b1, b2, b3, b4, b5⟩⟩ := doB3_facts H2.out)
    | (go_at_call 18; refine (hp _).mono ?_; rintro e w3 ⟨rfl, hb⟩; have H3 := Lib.hid (show DoB3 w a b w3 from box3_far H2.out hb); clear hb)
    | (go_at_call 54; refine (hf _).mono ?_; rintro e w4 ⟨rfl, hb⟩; have H4 := Lib.hid (show DoB3 w a b w4 from box3_far H3.out hb); clear hb)
    | (go_at_call 19; refine (hq _).mono ?_; rintro e w5 ⟨rfl, hb⟩; have H5 := Lib.hid (show DoB3 w a b w5 from box3_far H4.out hb); clear hb; obtain ⟨f0, f1, f2, f3, f4, f5⟩ := num_free H5.out.2.2.1; obtain ⟨z0, z1, z2, z3, z4, z5⟩ := num_cells H5.out.2.2.1))
  have HD := Lib.hid (doB3_out H5.out r)
  generalize World.setCell _ _ _ = W3 at HD ⊢
  clear f0 f1 f2 f3 f4 f5 z0 z1 z2 z3 z4 z5
  obtain ⟨z0, z1, z2, z3, z4, z5⟩ := num_cells HD.out.1
  exact bodyPost_ret (v := .tuple #[numV r, .bool true]) (by unfold numV; simp [results, Try.results7, go_sem, z0, z1, z2, z3, z4, z5]) rfl ⟨rfl, HD.out.2⟩
set_option maxHeartbeats 1000000 in
theorem do_w55 (op : Int) (R : K) (a b : K) (w : World) (hr : ∀ W, Calls Try.prog 14 #[.int .u8 op, .bool true] W (Gives (.tuple #[fnV 55, .bool true]) W))
    (ho : ∀ W, Calls Try.prog 16 #[.int .u8 op, .bool true, numV a, numV b] W (Gives (.tuple #[.int .u64 0, .bool false]) W))
    (hf : ∀ W, Calls Try.prog 55 #[pairV a b (oneB b) (cB b) (cB b % 64#64)] W (Gives (numV R) W)) :
    Calls Try.prog 7 #[.int .u8 op, .bool true, numV a, numV b] w (Gives (.tuple #[numV R.fine, .bool true]) w) := by
  have HN := Lib.hid (box3_new a b w)
  have hp := fun W => pairOf_x a b 64#64 W (by decide)
  have hq := fun W => refined_x R W
  obtain ⟨r, hr'⟩ : ∃ r, R.fine = r := ⟨_, rfl⟩
  rw [hr'] at hq ⊢
  clear hr'
  obtain ⟨P, hP⟩ : ∃ P, pairV a b (oneB b) (cB b) (cB b % 64#64) = P := ⟨_, rfl⟩
  rw [hP] at hf hp
  clear hP
  unfold fnV at hr
  have e64 : u 64#64 = 64 := rfl
  rw [e64] at hp
  clear e64
  unfold numV at hp hq hf ho
  unfold Gives numV
  go_enter Try.func7, Try.ntmps7
  go_upto_region 1 with fail
  generalize World.alloc _ _ = W0 at HN ⊢
  go_upto_region 4 with (go_at_call 14; refine (hr _).mono ?_; rintro e w1 ⟨rfl, hb⟩; have H1 := Lib.hid (show DoB3 w a b w1 from box3_far HN.out hb); clear hb)
  obtain ⟨⟨a0, a1, a2, a3, a4, a5⟩, ⟨b0, b1, b2, b3, b4, b5⟩⟩ := doB3_facts H1.out
  go_wp2_with (first
    | (go_at_call 16; refine (ho _).mono ?_; rintro e w2 ⟨rfl, hb⟩; have H2 := Lib.hid (show DoB3 w a b w2 from box3_far H1.out hb); clear hb; clear a0 a1 a2 a3 a4 a5 b0 b1 b2 b3 b4 b5; obtain ⟨⟨a0, a1, a2, a3, a4, a5⟩, ⟨b0, b1, b2, b3, b4, b5⟩⟩ := doB3_facts H2.out)
    | (go_at_call 18; refine (hp _).mono ?_; rintro e w3 ⟨rfl, hb⟩; have H3 := Lib.hid (show DoB3 w a b w3 from box3_far H2.out hb); clear hb)
    | (go_at_call 55; refine (hf _).mono ?_; rintro e w4 ⟨rfl, hb⟩; have H4 := Lib.hid (show DoB3 w a b w4 from box3_far H3.out hb); clear hb)
    | (go_at_call 19; refine (hq _).mono ?_; rintro e w5 ⟨rfl, hb⟩; have H5 := Lib.hid (show DoB3 w a b w5 from box3_far H4.out hb); clear hb; obtain ⟨f0, f1, f2, f3, f4, f5⟩ := num_free H5.out.2.2.1; obtain ⟨z0, z1, z2, z3, z4, z5⟩ := num_cells H5.out.2.2.1))
  have HD := Lib.hid (doB3_out H5.out r)
  generalize World.setCell _ _ _ = W3 at HD ⊢
  clear f0 f1 f2 f3 f4 f5 z0 z1 z2 z3 z4 z5
  obtain ⟨z0, z1, z2, z3, z4, z5⟩ := num_cells HD.out.1
  exact bodyPost_ret (v := .tuple #[numV r, .bool true]) (by unfold numV; simp [results, Try.results7, go_sem, z0, z1, z2, z3, z4, z5]) rfl ⟨rfl, HD.out.2⟩
set_option maxHeartbeats 1000000 in
theorem do_w56 (op : Int) (R : K) (a b : K) (w : World) (hr : ∀ W, Calls Try.prog 14 #[.int .u8 op, .bool true] W (Gives (.tuple #[fnV 56, .bool true]) W))
    (ho : ∀ W, Calls Try.prog 16 #[.int .u8 op, .bool true, numV a, numV b] W (Gives (.tuple #[.int .u64 0, .bool false]) W))
    (hf : ∀ W, Calls Try.prog 56 #[pairV a b (oneB b) (cB b) (cB b % 64#64)] W (Gives (numV R) W)) :
    Calls Try.prog 7 #[.int .u8 op, .bool true, numV a, numV b] w (Gives (.tuple #[numV R.fine, .bool true]) w) := by
  have HN := Lib.hid (box3_new a b w)
  have hp := fun W => pairOf_x a b 64#64 W (by decide)
  have hq := fun W => refined_x R W
  obtain ⟨r, hr'⟩ : ∃ r, R.fine = r := ⟨_, rfl⟩
  rw [hr'] at hq ⊢
  clear hr'
  obtain ⟨P, hP⟩ : ∃ P, pairV a b (oneB b) (cB b) (cB b % 64#64) = P := ⟨_, rfl⟩
  rw [hP] at hf hp
  clear hP
  unfold fnV at hr
  have e64 : u 64#64 = 64 := rfl
  rw [e64] at hp
  clear e64
  unfold numV at hp hq hf ho
  unfold Gives numV
  go_enter Try.func7, Try.ntmps7
  go_upto_region 1 with fail
  generalize World.alloc _ _ = W0 at HN ⊢
  go_upto_region 4 with (go_at_call 14; refine (hr _).mono ?_; rintro e w1 ⟨rfl, hb⟩; have H1 := Lib.hid (show DoB3 w a b w1 from box3_far HN.out hb); clear hb)
  obtain ⟨⟨a0, a1, a2, a3, a4, a5⟩, ⟨b0, b1, b2, b3, b4, b5⟩⟩ := doB3_facts H1.out
  go_wp2_with (first
    | (go_at_call 16; refine (ho _).mono ?_; rintro e w2 ⟨rfl, hb⟩; have H2 := Lib.hid (show DoB3 w a b w2 from box3_far H1.out hb); clear hb; clear a0 a1 a2 a3 a4 a5 b0 b1 b2 b3 b4 b5; obtain ⟨⟨a0, a1, a2, a3, a4, a5⟩, ⟨b0, b1, b2, b3, b4, b5⟩⟩ := doB3_facts H2.out)
    | (go_at_call 18; refine (hp _).mono ?_; rintro e w3 ⟨rfl, hb⟩; have H3 := Lib.hid (show DoB3 w a b w3 from box3_far H2.out hb); clear hb)
    | (go_at_call 56; refine (hf _).mono ?_; rintro e w4 ⟨rfl, hb⟩; have H4 := Lib.hid (show DoB3 w a b w4 from box3_far H3.out hb); clear hb)
    | (go_at_call 19; refine (hq _).mono ?_; rintro e w5 ⟨rfl, hb⟩; have H5 := Lib.hid (show DoB3 w a b w5 from box3_far H4.out hb); clear hb; obtain ⟨f0, f1, f2, f3, f4, f5⟩ := num_free H5.out.2.2.1; obtain ⟨z0, z1, z2, z3, z4, z5⟩ := num_cells H5.out.2.2.1))
  have HD := Lib.hid (doB3_out H5.out r)
  generalize World.setCell _ _ _ = W3 at HD ⊢
  clear f0 f1 f2 f3 f4 f5 z0 z1 z2 z3 z4 z5
  obtain ⟨z0, z1, z2, z3, z4, z5⟩ := num_cells HD.out.1
  exact bodyPost_ret (v := .tuple #[numV r, .bool true]) (by unfold numV; simp [results, Try.results7, go_sem, z0, z1, z2, z3, z4, z5]) rfl ⟨rfl, HD.out.2⟩
set_option maxHeartbeats 1000000 in
theorem do_w57 (op : Int) (R : K) (a b : K) (w : World) (hr : ∀ W, Calls Try.prog 14 #[.int .u8 op, .bool true] W (Gives (.tuple #[fnV 57, .bool true]) W))
    (ho : ∀ W, Calls Try.prog 16 #[.int .u8 op, .bool true, numV a, numV b] W (Gives (.tuple #[.int .u64 0, .bool false]) W))
    (hf : ∀ W, Calls Try.prog 57 #[pairV a b (oneB b) (cB b) (cB b % 64#64)] W (Gives (numV R) W)) :
    Calls Try.prog 7 #[.int .u8 op, .bool true, numV a, numV b] w (Gives (.tuple #[numV R.fine, .bool true]) w) := by
  have HN := Lib.hid (box3_new a b w)
  have hp := fun W => pairOf_x a b 64#64 W (by decide)
  have hq := fun W => refined_x R W
  obtain ⟨r, hr'⟩ : ∃ r, R.fine = r := ⟨_, rfl⟩
  rw [hr'] at hq ⊢
  clear hr'
  obtain ⟨P, hP⟩ : ∃ P, pairV a b (oneB b) (cB b) (cB b % 64#64) = P := ⟨_, rfl⟩
  rw [hP] at hf hp
  clear hP
  unfold fnV at hr
  have e64 : u 64#64 = 64 := rfl
  rw [e64] at hp
  clear e64
  unfold numV at hp hq hf ho
  unfold Gives numV
  go_enter Try.func7, Try.ntmps7
  go_upto_region 1 with fail
  generalize World.alloc _ _ = W0 at HN ⊢
  go_upto_region 4 with (go_at_call 14; refine (hr _).mono ?_; rintro e w1 ⟨rfl, hb⟩; have H1 := Lib.hid (show DoB3 w a b w1 from box3_far HN.out hb); clear hb)
  obtain ⟨⟨a0, a1, a2, a3, a4, a5⟩, ⟨b0, b1, b2, b3, b4, b5⟩⟩ := doB3_facts H1.out
  go_wp2_with (first
    | (go_at_call 16; refine (ho _).mono ?_; rintro e w2 ⟨rfl, hb⟩; have H2 := Lib.hid (show DoB3 w a b w2 from box3_far H1.out hb); clear hb; clear a0 a1 a2 a3 a4 a5 b0 b1 b2 b3 b4 b5; obtain ⟨⟨a0, a1, a2, a3, a4, a5⟩, ⟨b0, b1, b2, b3, b4, b5⟩⟩ := doB3_facts H2.out)
    | (go_at_call 18; refine (hp _).mono ?_; rintro e w3 ⟨rfl, hb⟩; have H3 := Lib.hid (show DoB3 w a b w3 from box3_far H2.out hb); clear hb)
    | (go_at_call 57; refine (hf _).mono ?_; rintro e w4 ⟨rfl, hb⟩; have H4 := Lib.hid (show DoB3 w a b w4 from box3_far H3.out hb); clear hb)
    | (go_at_call 19; refine (hq _).mono ?_; rintro e w5 ⟨rfl, hb⟩; have H5 := Lib.hid (show DoB3 w a b w5 from box3_far H4.out hb); clear hb; obtain ⟨f0, f1, f2, f3, f4, f5⟩ := num_free H5.out.2.2.1; obtain ⟨z0, z1, z2, z3, z4, z5⟩ := num_cells H5.out.2.2.1))
  have HD := Lib.hid (doB3_out H5.out r)
  generalize World.setCell _ _ _ = W3 at HD ⊢
  clear f0 f1 f2 f3 f4 f5 z0 z1 z2 z3 z4 z5
  obtain ⟨z0, z1, z2, z3, z4, z5⟩ := num_cells HD.out.1
  exact bodyPost_ret (v := .tuple #[numV r, .bool true]) (by unfold numV; simp [results, Try.results7, go_sem, z0, z1, z2, z3, z4, z5]) rfl ⟨rfl, HD.out.2⟩
set_option maxHeartbeats 1000000 in
theorem do_w59 (op : Int) (R : K) (a b : K) (w : World) (hr : ∀ W, Calls Try.prog 14 #[.int .u8 op, .bool true] W (Gives (.tuple #[fnV 59, .bool true]) W))
    (ho : ∀ W, Calls Try.prog 16 #[.int .u8 op, .bool true, numV a, numV b] W (Gives (.tuple #[.int .u64 0, .bool false]) W))
    (hf : ∀ W, Calls Try.prog 59 #[pairV a b (oneB b) (cB b) (cB b % 64#64)] W (Gives (numV R) W)) :
    Calls Try.prog 7 #[.int .u8 op, .bool true, numV a, numV b] w (Gives (.tuple #[numV R.fine, .bool true]) w) := by
  have HN := Lib.hid (box3_new a b w)
  have hp := fun W => pairOf_x a b 64#64 W (by decide)
  have hq := fun W => refined_x R W
  obtain ⟨r, hr'⟩ : ∃ r, R.fine = r := ⟨_, rfl⟩
  rw [hr'] at hq ⊢
  clear hr'
  obtain ⟨P, hP⟩ : ∃ P, pairV a b (oneB b) (cB b) (cB b % 64#64) = P := ⟨_, rfl⟩
  rw [hP] at hf hp
  clear hP
  unfold fnV at hr
  have e64 : u 64#64 = 64 := rfl
  rw [e64] at hp
  clear e64
  unfold numV at hp hq hf ho
  unfold Gives numV
  go_enter Try.func7, Try.ntmps7
  go_upto_region 1 with fail
  generalize World.alloc _ _ = W0 at HN ⊢
  go_upto_region 4 with (go_at_call 14; refine (hr _).mono ?_; rintro e w1 ⟨rfl, hb⟩; have H1 := Lib.hid (show DoB3 w a b w1 from box3_far HN.out hb); clear hb)
  obtain ⟨⟨a0, a1, a2, a3, a4, a5⟩, ⟨b0, b1, b2, b3, b4, b5⟩⟩ := doB3_facts H1.out
  go_wp2_with (first
    | (go_at_call 16; refine (ho _).mono ?_; rintro e w2 ⟨rfl, hb⟩; have H2 := Lib.hid (show DoB3 w a b w2 from box3_far H1.out hb); clear hb; clear a0 a1 a2 a3 a4 a5 b0 b1 b2 b3 b4 b5; obtain ⟨⟨a0, a1, a2, a3, a4, a5⟩, ⟨b0, b1, b2, b3, b4, b5⟩⟩ := doB3_facts H2.out)
    | (go_at_call 18; refine (hp _).mono ?_; rintro e w3 ⟨rfl, hb⟩; have H3 := Lib.hid (show DoB3 w a b w3 from box3_far H2.out hb); clear hb)
    | (go_at_call 59; refine (hf _).mono ?_; rintro e w4 ⟨rfl, hb⟩; have H4 := Lib.hid (show DoB3 w a b w4 from box3_far H3.out hb); clear hb)
    | (go_at_call 19; refine (hq _).mono ?_; rintro e w5 ⟨rfl, hb⟩; have H5 := Lib.hid (show DoB3 w a b w5 from box3_far H4.out hb); clear hb; obtain ⟨f0, f1, f2, f3, f4, f5⟩ := num_free H5.out.2.2.1; obtain ⟨z0, z1, z2, z3, z4, z5⟩ := num_cells H5.out.2.2.1))
  have HD := Lib.hid (doB3_out H5.out r)
  generalize World.setCell _ _ _ = W3 at HD ⊢
  clear f0 f1 f2 f3 f4 f5 z0 z1 z2 z3 z4 z5
  obtain ⟨z0, z1, z2, z3, z4, z5⟩ := num_cells HD.out.1
  exact bodyPost_ret (v := .tuple #[numV r, .bool true]) (by unfold numV; simp [results, Try.results7, go_sem, z0, z1, z2, z3, z4, z5]) rfl ⟨rfl, HD.out.2⟩
set_option maxHeartbeats 1000000 in
theorem do_w60 (op : Int) (R : K) (a b : K) (w : World) (hr : ∀ W, Calls Try.prog 14 #[.int .u8 op, .bool true] W (Gives (.tuple #[fnV 60, .bool true]) W))
    (ho : ∀ W, Calls Try.prog 16 #[.int .u8 op, .bool true, numV a, numV b] W (Gives (.tuple #[.int .u64 0, .bool false]) W))
    (hf : ∀ W, Calls Try.prog 60 #[pairV a b (oneB b) (cB b) (cB b % 64#64)] W (Gives (numV R) W)) :
    Calls Try.prog 7 #[.int .u8 op, .bool true, numV a, numV b] w (Gives (.tuple #[numV R.fine, .bool true]) w) := by
  have HN := Lib.hid (box3_new a b w)
  have hp := fun W => pairOf_x a b 64#64 W (by decide)
  have hq := fun W => refined_x R W
  obtain ⟨r, hr'⟩ : ∃ r, R.fine = r := ⟨_, rfl⟩
  rw [hr'] at hq ⊢
  clear hr'
  obtain ⟨P, hP⟩ : ∃ P, pairV a b (oneB b) (cB b) (cB b % 64#64) = P := ⟨_, rfl⟩
  rw [hP] at hf hp
  clear hP
  unfold fnV at hr
  have e64 : u 64#64 = 64 := rfl
  rw [e64] at hp
  clear e64
  unfold numV at hp hq hf ho
  unfold Gives numV
  go_enter Try.func7, Try.ntmps7
  go_upto_region 1 with fail
  generalize World.alloc _ _ = W0 at HN ⊢
  go_upto_region 4 with (go_at_call 14; refine (hr _).mono ?_; rintro e w1 ⟨rfl, hb⟩; have H1 := Lib.hid (show DoB3 w a b w1 from box3_far HN.out hb); clear hb)
  obtain ⟨⟨a0, a1, a2, a3, a4, a5⟩, ⟨b0, b1, b2, b3, b4, b5⟩⟩ := doB3_facts H1.out
  go_wp2_with (first
    | (go_at_call 16; refine (ho _).mono ?_; rintro e w2 ⟨rfl, hb⟩; have H2 := Lib.hid (show DoB3 w a b w2 from box3_far H1.out hb); clear hb; clear a0 a1 a2 a3 a4 a5 b0 b1 b2 b3 b4 b5; obtain ⟨⟨a0, a1, a2, a3, a4, a5⟩, ⟨b0, b1, b2, b3, b4, b5⟩⟩ := doB3_facts H2.out)
    | (go_at_call 18; refine (hp _).mono ?_; rintro e w3 ⟨rfl, hb⟩; have H3 := Lib.hid (show DoB3 w a b w3 from box3_far H2.out hb); clear hb)
    | (go_at_call 60; refine (hf _).mono ?_; rintro e w4 ⟨rfl, hb⟩; have H4 := Lib.hid (show DoB3 w a b w4 from box3_far H3.out hb); clear hb)
    | (go_at_call 19; refine (hq _).mono ?_; rintro e w5 ⟨rfl, hb⟩; have H5 := Lib.hid (show DoB3 w a b w5 from box3_far H4.out hb); clear hb; obtain ⟨f0, f1, f2, f3, f4, f5⟩ := num_free H5.out.2.2.1; obtain ⟨z0, z1, z2, z3, z4, z5⟩ := num_cells H5.out.2.2.1))
  have HD := Lib.hid (doB3_out H5.out r)
  generalize World.setCell _ _ _ = W3 at HD ⊢
  clear f0 f1 f2 f3 f4 f5 z0 z1 z2 z3 z4 z5
  obtain ⟨z0, z1, z2, z3, z4, z5⟩ := num_cells HD.out.1
  exact bodyPost_ret (v := .tuple #[numV r, .bool true]) (by unfold numV; simp [results, Try.results7, go_sem, z0, z1, z2, z3, z4, z5]) rfl ⟨rfl, HD.out.2⟩
set_option maxHeartbeats 1000000 in
theorem do_w62 (op : Int) (R : K) (a b : K) (w : World) (hr : ∀ W, Calls Try.prog 14 #[.int .u8 op, .bool true] W (Gives (.tuple #[fnV 62, .bool true]) W))
    (ho : ∀ W, Calls Try.prog 16 #[.int .u8 op, .bool true, numV a, numV b] W (Gives (.tuple #[.int .u64 0, .bool false]) W))
    (hf : ∀ W, Calls Try.prog 62 #[pairV a b (oneB b) (cB b) (cB b % 64#64)] W (Gives (numV R) W)) :
    Calls Try.prog 7 #[.int .u8 op, .bool true, numV a, numV b] w (Gives (.tuple #[numV R.fine, .bool true]) w) := by
  have HN := Lib.hid (box3_new a b w)
  have hp := fun W => pairOf_x a b 64#64 W (by decide)
  have hq := fun W => refined_x R W
  obtain ⟨r, hr'⟩ : ∃ r, R.fine = r := ⟨_, rfl⟩
  rw [hr'] at hq ⊢
  clear hr'
  obtain ⟨P, hP⟩ : ∃ P, pairV a b (oneB b) (cB b) (cB b % 64#64) = P := ⟨_, rfl⟩
  rw [hP] at hf hp
  clear hP
  unfold fnV at hr
  have e64 : u 64#64 = 64 := rfl
  rw [e64] at hp
  clear e64
  unfold numV at hp hq hf ho
  unfold Gives numV
  go_enter Try.func7, Try.ntmps7
  go_upto_region 1 with fail
  generalize World.alloc _ _ = W0 at HN ⊢
  go_upto_region 4 with (go_at_call 14; refine (hr _).mono ?_; rintro e w1 ⟨rfl, hb⟩; have H1 := Lib.hid (show DoB3 w a b w1 from box3_far HN.out hb); clear hb)
  obtain ⟨⟨a0, a1, a2, a3, a4, a5⟩, ⟨b0, b1, b2, b3, b4, b5⟩⟩ := doB3_facts H1.out
  go_wp2_with (first
    | (go_at_call 16; refine (ho _).mono ?_; rintro e w2 ⟨rfl, hb⟩; have H2 := Lib.hid (show DoB3 w a b w2 from box3_far H1.out hb); clear hb; clear a0 a1 a2 a3 a4 a5 b0 b1 b2 b3 b4 b5; obtain ⟨⟨a0, a1, a2, a3, a4, a5⟩, ⟨b0, b1, b2, b3, b4, b5⟩⟩ := doB3_facts H2.out)
    | (go_at_call 18; refine (hp _).mono ?_; rintro e w3 ⟨rfl, hb⟩; have H3 := Lib.hid (show DoB3 w a b w3 from box3_far H2.out hb); clear hb)
    | (go_at_call 62; refine (hf _).mono ?_; rintro e w4 ⟨rfl, hb⟩; have H4 := Lib.hid (show DoB3 w a b w4 from box3_far H3.out hb); clear hb)
    | (go_at_call 19; refine (hq _).mono ?_; rintro e w5 ⟨rfl, hb⟩; have H5 := Lib.hid (show DoB3 w a b w5 from box3_far H4.out hb); clear hb; obtain ⟨f0, f1, f2, f3, f4, f5⟩ := num_free H5.out.2.2.1; obtain ⟨z0, z1, z2, z3, z4, z5⟩ := num_cells H5.out.2.2.1))
  have HD := Lib.hid (doB3_out H5.out r)
  generalize World.setCell _ _ _ = W3 at HD ⊢
  clear f0 f1 f2 f3 f4 f5 z0 z1 z2 z3 z4 z5
  obtain ⟨z0, z1, z2, z3, z4, z5⟩ := num_cells HD.out.1
  exact bodyPost_ret (v := .tuple #[numV r, .bool true]) (by unfold numV; simp [results, Try.results7, go_sem, z0, z1, z2, z3, z4, z5]) rfl ⟨rfl, HD.out.2⟩
set_option maxHeartbeats 1000000 in
theorem do_w58 (op : Int) (R : K) (a b : K) (w : World) (hr : ∀ W, Calls Try.prog 14 #[.int .u8 op, .bool true] W (Gives (.tuple #[fnV 58, .bool true]) W))
    (ho : ∀ W, Calls Try.prog 16 #[.int .u8 op, .bool true, numV a, numV b] W (Gives (.tuple #[.int .u64 0, .bool false]) W))
    (hf : ∀ W, Calls Try.prog 58 #[pairV a b (oneB b) (cB b) (cB b % 64#64)] W (Gives (numV R) W)) :
    Calls Try.prog 7 #[.int .u8 op, .bool true, numV a, numV b] w (Gives (.tuple #[numV R.fine, .bool true]) w) := by
  have HN := Lib.hid (box3_new a b w)
  have hp := fun W => pairOf_x a b 64#64 W (by decide)
  have hq := fun W => refined_x R W
  obtain ⟨r, hr'⟩ : ∃ r, R.fine = r := ⟨_, rfl⟩
  rw [hr'] at hq ⊢
  clear hr'
  obtain ⟨P, hP⟩ : ∃ P, pairV a b (oneB b) (cB b) (cB b % 64#64) = P := ⟨_, rfl⟩
  rw [hP] at hf hp
  clear hP
  unfold fnV at hr
  have e64 : u 64#64 = 64 := rfl
  rw [e64] at hp
  clear e64
  unfold numV at hp hq hf ho
  unfold Gives numV
  go_enter Try.func7, Try.ntmps7
  go_upto_region 1 with fail
  generalize World.alloc _ _ = W0 at HN ⊢
  go_upto_region 4 with (go_at_call 14; refine (hr _).mono ?_; rintro e w1 ⟨rfl, hb⟩; have H1 := Lib.hid (show DoB3 w a b w1 from box3_far HN.out hb); clear hb)
  obtain ⟨⟨a0, a1, a2, a3, a4, a5⟩, ⟨b0, b1, b2, b3, b4, b5⟩⟩ := doB3_facts H1.out
  go_wp2_with (first
    | (go_at_call 16; refine (ho _).mono ?_; rintro e w2 ⟨rfl, hb⟩; have H2 := Lib.hid (show DoB3 w a b w2 from box3_far H1.out hb); clear hb; clear a0 a1 a2 a3 a4 a5 b0 b1 b2 b3 b4 b5; obtain ⟨⟨a0, a1, a2, a3, a4, a5⟩, ⟨b0, b1, b2, b3, b4, b5⟩⟩ := doB3_facts H2.out)
    | (go_at_call 18; refine (hp _).mono ?_; rintro e w3 ⟨rfl, hb⟩; have H3 := Lib.hid (show DoB3 w a b w3 from box3_far H2.out hb); clear hb)
    | (go_at_call 58; refine (hf _).mono ?_; rintro e w4 ⟨rfl, hb⟩; have H4 := Lib.hid (show DoB3 w a b w4 from box3_far H3.out hb); clear hb)
    | (go_at_call 19; refine (hq _).mono ?_; rintro e w5 ⟨rfl, hb⟩; have H5 := Lib.hid (show DoB3 w a b w5 from box3_far H4.out hb); clear hb; obtain ⟨f0, f1, f2, f3, f4, f5⟩ := num_free H5.out.2.2.1; obtain ⟨z0, z1, z2, z3, z4, z5⟩ := num_cells H5.out.2.2.1))
  have HD := Lib.hid (doB3_out H5.out r)
  generalize World.setCell _ _ _ = W3 at HD ⊢
  clear f0 f1 f2 f3 f4 f5 z0 z1 z2 z3 z4 z5
  obtain ⟨z0, z1, z2, z3, z4, z5⟩ := num_cells HD.out.1
  exact bodyPost_ret (v := .tuple #[numV r, .bool true]) (by unfold numV; simp [results, Try.results7, go_sem, z0, z1, z2, z3, z4, z5]) rfl ⟨rfl, HD.out.2⟩
set_option maxHeartbeats 1000000 in
theorem do_w61 (op : Int) (R : K) (a b : K) (w : World) (hr : ∀ W, Calls Try.prog 14 #[.int .u8 op, .bool true] W (Gives (.tuple #[fnV 61, .bool true]) W))
    (ho : ∀ W, Calls Try.prog 16 #[.int .u8 op, .bool true, numV a, numV b] W (Gives (.tuple #[.int .u64 0, .bool false]) W))
    (hf : ∀ W, Calls Try.prog 61 #[pairV a b (oneB b) (cB b) (cB b % 64#64)] W (Gives (numV R) W)) :
    Calls Try.prog 7 #[.int .u8 op, .bool true, numV a, numV b] w (Gives (.tuple #[numV R.fine, .bool true]) w) := by
  have HN := Lib.hid (box3_new a b w)
  have hp := fun W => pairOf_x a b 64#64 W (by decide)
  have hq := fun W => refined_x R W
  obtain ⟨r, hr'⟩ : ∃ r, R.fine = r := ⟨_, rfl⟩
  rw [hr'] at hq ⊢
  clear hr'
  obtain ⟨P, hP⟩ : ∃ P, pairV a b (oneB b) (cB b) (cB b % 64#64) = P := ⟨_, rfl⟩
  rw [hP] at hf hp
  clear hP
  unfold fnV at hr
  have e64 : u 64#64 = 64 := rfl
  rw [e64] at hp
  clear e64
  unfold numV at hp hq hf ho
  unfold Gives numV
  go_enter Try.func7, Try.ntmps7
  go_upto_region 1 with fail
  generalize World.alloc _ _ = W0 at HN ⊢
  go_upto_region 4 with (go_at_call 14; refine (hr _).mono ?_; rintro e w1 ⟨rfl, hb⟩; have H1 := Lib.hid (show DoB3 w a b w1 from box3_far HN.out hb); clear hb)
  obtain ⟨⟨a0, a1, a2, a3, a4, a5⟩, ⟨b0, b1, b2, b3, b4, b5⟩⟩ := doB3_facts H1.out
  go_wp2_with (first
    | (go_at_call 16; refine (ho _).mono ?_; rintro e w2 ⟨rfl, hb⟩; have H2 := Lib.hid (show DoB3 w a b w2 from box3_far H1.out hb); clear hb; clear a0 a1 a2 a3 a4 a5 b0 b1 b2 b3 b4 b5; obtain ⟨⟨a0, a1, a2, a3, a4, a5⟩, ⟨b0, b1, b2, b3, b4, b5⟩⟩ := doB3_facts H2.out)
    | (go_at_call 18; refine (hp _).mono ?_; rintro e w3 ⟨rfl, hb⟩; have H3 := Lib.hid (show DoB3 w a b w3 from box3_far H2.out hb); clear hb)
    | (go_at_call 61; refine (hf _).mono ?_; rintro e w4 ⟨rfl, hb⟩; have H4 := Lib.hid (show DoB3 w a b w4 from box3_far H3.out hb); clear hb)
    | (go_at_call 19; refine (hq _).mono ?_; rintro e w5 ⟨rfl, hb⟩; have H5 := Lib.hid (show DoB3 w a b w5 from box3_far H4.out hb); clear hb; obtain ⟨f0, f1, f2, f3, f4, f5⟩ := num_free H5.out.2.2.1; obtain ⟨z0, z1, z2, z3, z4, z5⟩ := num_cells H5.out.2.2.1))
  have HD := Lib.hid (doB3_out H5.out r)
  generalize World.setCell _ _ _ = W3 at HD ⊢
  clear f0 f1 f2 f3 f4 f5 z0 z1 z2 z3 z4 z5
  obtain ⟨z0, z1, z2, z3, z4, z5⟩ := num_cells HD.out.1
  exact bodyPost_ret (v := .tuple #[numV r, .bool true]) (by unfold numV; simp [results, Try.results7, go_sem, z0, z1, z2, z3, z4, z5]) rfl ⟨rfl, HD.out.2⟩
end Go.Proofs.Ytogadmlnmcojpaa

/-
  Proved here: what Do of package xfer tells of 32 bits, where rowOf gives one of the rows' functions. Conditions: what that function returns.
-/
namespace Go.Proofs.Ytogadmlnmcojpaa
open Go.RowKit
theorem u_32 : u 32#64 = 32 := rfl
theorem nz_32 : ¬ u 32#64 = 0 := by decide
theorem low_of {w0 W : World} {a b : K} (h : DoB3 w0 a b W) : W.cell? ⟨w0.heap.size, 0, none⟩ = some (.int .u64 (u a.v)) ∧ W.cell? ⟨w0.heap.size, 1, none⟩ = some (.int .u64 (u a.m)) ∧ W.cell? ⟨w0.heap.size, 2, none⟩ = some (.int .u64 (u a.a)) ∧ W.cell? ⟨w0.heap.size, 3, none⟩ = some (.int .u64 (u a.b)) ∧ W.cell? ⟨w0.heap.size, 4, none⟩ = some (.int .i64 (s a.c)) ∧ W.cell? ⟨w0.heap.size, 5, none⟩ = some (.int .i64 (s a.d)) ∧ W.cell? ⟨w0.heap.size + 1, 0, none⟩ = some (.int .u64 (u b.v)) ∧ W.cell? ⟨w0.heap.size + 1, 1, none⟩ = some (.int .u64 (u b.m)) ∧ W.cell? ⟨w0.heap.size + 1, 2, none⟩ = some (.int .u64 (u b.a)) ∧ W.cell? ⟨w0.heap.size + 1, 3, none⟩ = some (.int .u64 (u b.b)) ∧ W.cell? ⟨w0.heap.size + 1, 4, none⟩ = some (.int .i64 (s b.c)) ∧ W.cell? ⟨w0.heap.size + 1, 5, none⟩ = some (.int .i64 (s b.d)) ∧ DoB3 w0 a b W := by
  obtain ⟨⟨a0, a1, a2, a3, a4, a5⟩, ⟨b0, b1, b2, b3, b4, b5⟩⟩ := doB3_facts h
  exact ⟨a0, a1, a2, a3, a4, a5, b0, b1, b2, b3, b4, b5, h⟩
theorem low_keep {w0 W W' : World} {a b : K} (h : W.cell? ⟨w0.heap.size, 0, none⟩ = some (.int .u64 (u a.v)) ∧ W.cell? ⟨w0.heap.size, 1, none⟩ = some (.int .u64 (u a.m)) ∧ W.cell? ⟨w0.heap.size, 2, none⟩ = some (.int .u64 (u a.a)) ∧ W.cell? ⟨w0.heap.size, 3, none⟩ = some (.int .u64 (u a.b)) ∧ W.cell? ⟨w0.heap.size, 4, none⟩ = some (.int .i64 (s a.c)) ∧ W.cell? ⟨w0.heap.size, 5, none⟩ = some (.int .i64 (s a.d)) ∧ W.cell? ⟨w0.heap.size + 1, 0, none⟩ = some (.int .u64 (u b.v)) ∧ W.cell? ⟨w0.heap.size + 1, 1, none⟩ = some (.int .u64 (u b.m)) ∧ W.cell? ⟨w0.heap.size + 1, 2, none⟩ = some (.int .u64 (u b.a)) ∧ W.cell? ⟨w0.heap.size + 1, 3, none⟩ = some (.int .u64 (u b.b)) ∧ W.cell? ⟨w0.heap.size + 1, 4, none⟩ = some (.int .i64 (s b.c)) ∧ W.cell? ⟨w0.heap.size + 1, 5, none⟩ = some (.int .i64 (s b.d)) ∧ DoB3 w0 a b W) (hb : Below W.heap.size W W') : W'.cell? ⟨w0.heap.size, 0, none⟩ = some (.int .u64 (u a.v)) ∧ W'.cell? ⟨w0.heap.size, 1, none⟩ = some (.int .u64 (u a.m)) ∧ W'.cell? ⟨w0.heap.size, 2, none⟩ = some (.int .u64 (u a.a)) ∧ W'.cell? ⟨w0.heap.size, 3, none⟩ = some (.int .u64 (u a.b)) ∧ W'.cell? ⟨w0.heap.size, 4, none⟩ = some (.int .i64 (s a.c)) ∧ W'.cell? ⟨w0.heap.size, 5, none⟩ = some (.int .i64 (s a.d)) ∧ W'.cell? ⟨w0.heap.size + 1, 0, none⟩ = some (.int .u64 (u b.v)) ∧ W'.cell? ⟨w0.heap.size + 1, 1, none⟩ = some (.int .u64 (u b.m)) ∧ W'.cell? ⟨w0.heap.size + 1, 2, none⟩ = some (.int .u64 (u b.a)) ∧ W'.cell? ⟨w0.heap.size + 1, 3, none⟩ = some (.int .u64 (u b.b)) ∧ W'.cell? ⟨w0.heap.size + 1, 4, none⟩ = some (.int .i64 (s b.c)) ∧ W'.cell? ⟨w0.heap.size + 1, 5, none⟩ = some (.int .i64 (s b.d)) ∧ DoB3 w0 a b W' :=
  low_of (box3_far h.2.2.2.2.2.2.2.2.2.2.2.2 hb)
theorem low_gt {w0 W : World} {a b : K} (h : W.cell? ⟨w0.heap.size, 0, none⟩ = some (.int .u64 (u a.v)) ∧ W.cell? ⟨w0.heap.size, 1, none⟩ = some (.int .u64 (u a.m)) ∧ W.cell? ⟨w0.heap.size, 2, none⟩ = some (.int .u64 (u a.a)) ∧ W.cell? ⟨w0.heap.size, 3, none⟩ = some (.int .u64 (u a.b)) ∧ W.cell? ⟨w0.heap.size, 4, none⟩ = some (.int .i64 (s a.c)) ∧ W.cell? ⟨w0.heap.size, 5, none⟩ = some (.int .i64 (s a.d)) ∧ W.cell? ⟨w0.heap.size + 1, 0, none⟩ = some (.int .u64 (u b.v)) ∧ W.cell? ⟨w0.heap.size + 1, 1, none⟩ = some (.int .u64 (u b.m)) ∧ W.cell? ⟨w0.heap.size + 1, 2, none⟩ = some (.int .u64 (u b.a)) ∧ W.cell? ⟨w0.heap.size + 1, 3, none⟩ = some (.int .u64 (u b.b)) ∧ W.cell? ⟨w0.heap.size + 1, 4, none⟩ = some (.int .i64 (s b.c)) ∧ W.cell? ⟨w0.heap.size + 1, 5, none⟩ = some (.int .i64 (s b.d)) ∧ DoB3 w0 a b W) : w0.heap.size + 2 < W.heap.size := num_lt h.2.2.2.2.2.2.2.2.2.2.2.2.2.2.1
theorem low_b {w0 W : World} {a b : K} (h : W.cell? ⟨w0.heap.size, 0, none⟩ = some (.int .u64 (u a.v)) ∧ W.cell? ⟨w0.heap.size, 1, none⟩ = some (.int .u64 (u a.m)) ∧ W.cell? ⟨w0.heap.size, 2, none⟩ = some (.int .u64 (u a.a)) ∧ W.cell? ⟨w0.heap.size, 3, none⟩ = some (.int .u64 (u a.b)) ∧ W.cell? ⟨w0.heap.size, 4, none⟩ = some (.int .i64 (s a.c)) ∧ W.cell? ⟨w0.heap.size, 5, none⟩ = some (.int .i64 (s a.d)) ∧ W.cell? ⟨w0.heap.size + 1, 0, none⟩ = some (.int .u64 (u b.v)) ∧ W.cell? ⟨w0.heap.size + 1, 1, none⟩ = some (.int .u64 (u b.m)) ∧ W.cell? ⟨w0.heap.size + 1, 2, none⟩ = some (.int .u64 (u b.a)) ∧ W.cell? ⟨w0.heap.size + 1, 3, none⟩ = some (.int .u64 (u b.b)) ∧ W.cell? ⟨w0.heap.size + 1, 4, none⟩ = some (.int .i64 (s b.c)) ∧ W.cell? ⟨w0.heap.size + 1, 5, none⟩ = some (.int .i64 (s b.d)) ∧ DoB3 w0 a b W) : DoB3 w0 a b W := h.2.2.2.2.2.2.2.2.2.2.2.2
theorem low_box {w0 W W' : World} {a b : K} (hb : Below (W.alloc (.cells #[.int .u64 0, .int .u64 0, .int .u64 0, .int .u64 0, .int .i64 0, .int .i64 0] 26)).heap.size (W.alloc (.cells #[.int .u64 0, .int .u64 0, .int .u64 0, .int .u64 0, .int .i64 0, .int .i64 0] 26)) W') (h : W.cell? ⟨w0.heap.size, 0, none⟩ = some (.int .u64 (u a.v)) ∧ W.cell? ⟨w0.heap.size, 1, none⟩ = some (.int .u64 (u a.m)) ∧ W.cell? ⟨w0.heap.size, 2, none⟩ = some (.int .u64 (u a.a)) ∧ W.cell? ⟨w0.heap.size, 3, none⟩ = some (.int .u64 (u a.b)) ∧ W.cell? ⟨w0.heap.size, 4, none⟩ = some (.int .i64 (s a.c)) ∧ W.cell? ⟨w0.heap.size, 5, none⟩ = some (.int .i64 (s a.d)) ∧ W.cell? ⟨w0.heap.size + 1, 0, none⟩ = some (.int .u64 (u b.v)) ∧ W.cell? ⟨w0.heap.size + 1, 1, none⟩ = some (.int .u64 (u b.m)) ∧ W.cell? ⟨w0.heap.size + 1, 2, none⟩ = some (.int .u64 (u b.a)) ∧ W.cell? ⟨w0.heap.size + 1, 3, none⟩ = some (.int .u64 (u b.b)) ∧ W.cell? ⟨w0.heap.size + 1, 4, none⟩ = some (.int .i64 (s b.c)) ∧ W.cell? ⟨w0.heap.size + 1, 5, none⟩ = some (.int .i64 (s b.d)) ∧ DoB3 w0 a b W) : NumAt W.heap.size zeroK W' ∧ w0.heap.size + 2 < W.heap.size :=
  ⟨num_keep (zero_new W) hb, low_gt h⟩
theorem low_boxD {w0 W W' : World} {a b : K} (h : DoB3 w0 a b W) (hb : Below (W.alloc (.cells #[.int .u64 0, .int .u64 0, .int .u64 0, .int .u64 0, .int .i64 0, .int .i64 0] 26)).drew.heap.size (W.alloc (.cells #[.int .u64 0, .int .u64 0, .int .u64 0, .int .u64 0, .int .i64 0, .int .i64 0] 26)).drew W') : NumAt W.heap.size zeroK W' ∧ w0.heap.size + 2 < W.heap.size :=
  ⟨num_keep (show NumAt W.heap.size zeroK (W.alloc (.cells #[.int .u64 0, .int .u64 0, .int .u64 0, .int .u64 0, .int .i64 0, .int .i64 0] 26)).drew from zero_new W) hb, num_lt h.2.2.1⟩
theorem low_six {w0 W : World} {a b : K} {g : Nat} (h : DoB3 w0 a b W) (hg : w0.heap.size + 2 < g) (x0 x1 x2 x3 x4 x5 : Value) : DoB3 w0 a b ((((((W.setCell ⟨g, 0, none⟩ x0).setCell ⟨g, 1, none⟩ x1).setCell ⟨g, 2, none⟩ x2).setCell ⟨g, 3, none⟩ x3).setCell ⟨g, 4, none⟩ x4).setCell ⟨g, 5, none⟩ x5) :=
  box3_keep h ((below_six (Below.refl g W) x0 x1 x2 x3 x4 x5).mono (by omega))
end Go.Proofs.Ytogadmlnmcojpaa
