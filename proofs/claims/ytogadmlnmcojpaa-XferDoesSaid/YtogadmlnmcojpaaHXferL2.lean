/-
  Proved here: what Do of package xfer tells of 32 bits, where rowOf gives one of the rows' functions. Conditions: what that function returns.
-/
import Derived.Test.YtogadmlnmcojpaaG6
import Derived.Deep.RegionHeld3
import Derived.Deep.RegionWith
namespace Go.Proofs.Ytogadmlnmcojpaa
open Go.RowKit
attribute [local irreducible] s u
set_option maxHeartbeats 16000000 in
theorem do_l55 (op : Int) (R : K) (a b : K) (w : World) (hr : ∀ W, Calls Try.prog 14 #[.int .u8 op, .bool false] W (Gives (.tuple #[fnV 55, .bool true]) W))
    (ho : ∀ W, Calls Try.prog 16 #[.int .u8 op, .bool false, numV a, numV b] W (Gives (.tuple #[.int .u64 0, .bool false]) W))
    (hf : ∀ W, Calls Try.prog 55 #[pairV (a.cutK 4) (b.cutK 4) (oneB (b.cutK 4)) (cB (b.cutK 4)) (cB (b.cutK 4) % 32#64)] W (Gives (numV R) W)) :
    Calls Try.prog 7 #[.int .u8 op, .bool false, numV a, numV b] w (Gives (.tuple #[numV (R.fine.cutK 4), .bool true]) w) := by
  have HN := Lib.hid (box3_new a b w)
  have hp := fun W => pairOf_x (a.cutK 4) (b.cutK 4) 32#64 W nz_32
  have hca := fun W => cut_num a 4 W
  have hcb := fun W => cut_num b 4 W
  obtain ⟨A4, hA⟩ : ∃ x, a.cutK 4 = x := ⟨_, rfl⟩
  obtain ⟨B4, hB⟩ : ∃ x, b.cutK 4 = x := ⟨_, rfl⟩
  rw [hA] at hca
  rw [hB] at hcb
  rw [hA, hB] at hf hp
  clear hA hB
  have hq := fun W => refined_x R W
  obtain ⟨q, hq'⟩ : ∃ r, R.fine = r := ⟨_, rfl⟩
  rw [hq'] at hq ⊢
  clear hq'
  have hcq := fun W => cut_num q 4 W
  obtain ⟨r, hr'⟩ : ∃ r, q.cutK 4 = r := ⟨_, rfl⟩
  rw [hr'] at hcq ⊢
  clear hr'
  obtain ⟨P, hP⟩ : ∃ P, pairV A4 B4 (oneB B4) (cB B4) (cB B4 % 32#64) = P := ⟨_, rfl⟩
  rw [hP] at hf hp
  clear hP
  unfold fnV at hr
  have e32 := u_32
  rw [e32] at hp
  clear e32
  unfold numV at hp hq hf ho hca hcb hcq
  unfold Gives numV
  go_enter Try.func7, Try.ntmps7
  go_upto_region 1 with fail
  generalize World.alloc _ _ = W0 at HN ⊢
  go_upto_region 4 with (go_at_call 14; refine (hr _).mono ?_; rintro e w1 ⟨rfl, hb⟩; have H1 := Lib.hid (show DoB3 w a b w1 from box3_far HN.out hb); clear hb)
  obtain ⟨⟨a0, a1, a2, a3, a4, a5⟩, ⟨b0, b1, b2, b3, b4, b5⟩⟩ := doB3_facts H1.out
  go_upto_region 9 with (go_at_call 16; refine (ho _).mono ?_; rintro e w2 ⟨rfl, hb⟩; have H2 := Lib.hid (show DoB3 w a b w2 from box3_far H1.out hb); clear hb)
  clear a0 a1 a2 a3 a4 a5 b0 b1 b2 b3 b4 b5
  clear hr ho HN H1
  go_cut [14] (fun x wx => ∃ g, x = .pointer (some ⟨g, 0, none⟩) ∧ w.heap.size + 2 < g ∧ NumAt g q wx ∧ DoB3 w a b wx)
  case first =>
    have hS0 := low_of (box3_far H2.out ((Below.refl w2.heap.size w2).drew))
    go_region_held3 (fun W => W.cell? ⟨w.heap.size, 0, none⟩ = some (.int .u64 (u a.v)) ∧ W.cell? ⟨w.heap.size, 1, none⟩ = some (.int .u64 (u a.m)) ∧ W.cell? ⟨w.heap.size, 2, none⟩ = some (.int .u64 (u a.a)) ∧ W.cell? ⟨w.heap.size, 3, none⟩ = some (.int .u64 (u a.b)) ∧ W.cell? ⟨w.heap.size, 4, none⟩ = some (.int .i64 (s a.c)) ∧ W.cell? ⟨w.heap.size, 5, none⟩ = some (.int .i64 (s a.d)) ∧ W.cell? ⟨w.heap.size + 1, 0, none⟩ = some (.int .u64 (u b.v)) ∧ W.cell? ⟨w.heap.size + 1, 1, none⟩ = some (.int .u64 (u b.m)) ∧ W.cell? ⟨w.heap.size + 1, 2, none⟩ = some (.int .u64 (u b.a)) ∧ W.cell? ⟨w.heap.size + 1, 3, none⟩ = some (.int .u64 (u b.b)) ∧ W.cell? ⟨w.heap.size + 1, 4, none⟩ = some (.int .i64 (s b.c)) ∧ W.cell? ⟨w.heap.size + 1, 5, none⟩ = some (.int .i64 (s b.d)) ∧ DoB3 w a b W)
      (first | with_reducible exact hS5 | with_reducible exact hS4 | with_reducible exact hS3 | with_reducible exact hS2 | with_reducible exact hS1 | with_reducible exact hS0 | (have h0 := HT.out; exact low_of (low_six (low_b hS5) HG.out _ _ _ _ _ _)) | with_reducible exact low_keep hS5 (below_box _ _) | with_reducible exact low_keep hS4 (below_box _ _) | with_reducible exact low_keep hS3 (below_box _ _) | with_reducible exact low_keep hS2 (below_box _ _) | with_reducible exact low_keep hS1 (below_box _ _) | with_reducible exact low_keep hS0 (below_box _ _))
      (first
        | (go_at_call_of 20 (Value.agg #[.int .u64 (u a.v), .int .u64 (u a.m), .int .u64 (u a.a), .int .u64 (u a.b), .int .i64 (s a.c), .int .i64 (s a.d)]); refine (hca _).mono ?_; rintro e w7 ⟨rfl, hb⟩; have hS1 := low_keep (w0 := w) (a := a) (b := b) (by with_reducible assumption) hb; first
            | (replace HT := Lib.hid (num_keep HT.out hb); clear t0 t1 t2 t3 t4 t5 g0 g1 g2 g3 g4 g5; clear hb; obtain ⟨t0, t1, t2, t3, t4, t5⟩ := num_cells HT.out; obtain ⟨g0, g1, g2, g3, g4, g5⟩ := num_free HT.out)
            | (with_reducible have hX := low_box (w0 := w) (a := a) (b := b) hb (by with_reducible assumption)
               have HG := Lib.hid hX.2; have HT := Lib.hid hX.1; clear hX hb; obtain ⟨t0, t1, t2, t3, t4, t5⟩ := num_cells HT.out; obtain ⟨g0, g1, g2, g3, g4, g5⟩ := num_free HT.out)
            | (have hX := low_boxD H2.out hb
               have HG := Lib.hid hX.2; have HT := Lib.hid hX.1; clear hX hb; obtain ⟨t0, t1, t2, t3, t4, t5⟩ := num_cells HT.out; obtain ⟨g0, g1, g2, g3, g4, g5⟩ := num_free HT.out)
            | (clear hb))
        | (go_at_call_of 20 (Value.agg #[.int .u64 (u b.v), .int .u64 (u b.m), .int .u64 (u b.a), .int .u64 (u b.b), .int .i64 (s b.c), .int .i64 (s b.d)]); refine (hcb _).mono ?_; rintro e w8 ⟨rfl, hb⟩; have hS2 := low_keep (w0 := w) (a := a) (b := b) (by with_reducible assumption) hb; first
            | (replace HT := Lib.hid (num_keep HT.out hb); clear t0 t1 t2 t3 t4 t5 g0 g1 g2 g3 g4 g5; clear hb; obtain ⟨t0, t1, t2, t3, t4, t5⟩ := num_cells HT.out; obtain ⟨g0, g1, g2, g3, g4, g5⟩ := num_free HT.out)
            | (with_reducible have hX := low_box (w0 := w) (a := a) (b := b) hb (by with_reducible assumption)
               have HG := Lib.hid hX.2; have HT := Lib.hid hX.1; clear hX hb; obtain ⟨t0, t1, t2, t3, t4, t5⟩ := num_cells HT.out; obtain ⟨g0, g1, g2, g3, g4, g5⟩ := num_free HT.out)
            | (have hX := low_boxD H2.out hb
               have HG := Lib.hid hX.2; have HT := Lib.hid hX.1; clear hX hb; obtain ⟨t0, t1, t2, t3, t4, t5⟩ := num_cells HT.out; obtain ⟨g0, g1, g2, g3, g4, g5⟩ := num_free HT.out)
            | (clear hb))
        | (go_at_call 18; refine (hp _).mono ?_; rintro e w9 ⟨rfl, hb⟩; have hS3 := low_keep (w0 := w) (a := a) (b := b) (by with_reducible assumption) hb; first
            | (replace HT := Lib.hid (num_keep HT.out hb); clear t0 t1 t2 t3 t4 t5 g0 g1 g2 g3 g4 g5; clear hb; obtain ⟨t0, t1, t2, t3, t4, t5⟩ := num_cells HT.out; obtain ⟨g0, g1, g2, g3, g4, g5⟩ := num_free HT.out)
            | (with_reducible have hX := low_box (w0 := w) (a := a) (b := b) hb (by with_reducible assumption)
               have HG := Lib.hid hX.2; have HT := Lib.hid hX.1; clear hX hb; obtain ⟨t0, t1, t2, t3, t4, t5⟩ := num_cells HT.out; obtain ⟨g0, g1, g2, g3, g4, g5⟩ := num_free HT.out)
            | (have hX := low_boxD H2.out hb
               have HG := Lib.hid hX.2; have HT := Lib.hid hX.1; clear hX hb; obtain ⟨t0, t1, t2, t3, t4, t5⟩ := num_cells HT.out; obtain ⟨g0, g1, g2, g3, g4, g5⟩ := num_free HT.out)
            | (clear hb))
        | (go_at_call 55; refine (hf _).mono ?_; rintro e w10 ⟨rfl, hb⟩; have hS4 := low_keep (w0 := w) (a := a) (b := b) (by with_reducible assumption) hb; first
            | (replace HT := Lib.hid (num_keep HT.out hb); clear t0 t1 t2 t3 t4 t5 g0 g1 g2 g3 g4 g5; clear hb; obtain ⟨t0, t1, t2, t3, t4, t5⟩ := num_cells HT.out; obtain ⟨g0, g1, g2, g3, g4, g5⟩ := num_free HT.out)
            | (with_reducible have hX := low_box (w0 := w) (a := a) (b := b) hb (by with_reducible assumption)
               have HG := Lib.hid hX.2; have HT := Lib.hid hX.1; clear hX hb; obtain ⟨t0, t1, t2, t3, t4, t5⟩ := num_cells HT.out; obtain ⟨g0, g1, g2, g3, g4, g5⟩ := num_free HT.out)
            | (have hX := low_boxD H2.out hb
               have HG := Lib.hid hX.2; have HT := Lib.hid hX.1; clear hX hb; obtain ⟨t0, t1, t2, t3, t4, t5⟩ := num_cells HT.out; obtain ⟨g0, g1, g2, g3, g4, g5⟩ := num_free HT.out)
            | (clear hb))
        | (go_at_call 19; refine (hq _).mono ?_; rintro e w11 ⟨rfl, hb⟩; have hS5 := low_keep (w0 := w) (a := a) (b := b) (by with_reducible assumption) hb; first
            | (replace HT := Lib.hid (num_keep HT.out hb); clear t0 t1 t2 t3 t4 t5 g0 g1 g2 g3 g4 g5; clear hb; obtain ⟨t0, t1, t2, t3, t4, t5⟩ := num_cells HT.out; obtain ⟨g0, g1, g2, g3, g4, g5⟩ := num_free HT.out)
            | (with_reducible have hX := low_box (w0 := w) (a := a) (b := b) hb (by with_reducible assumption)
               have HG := Lib.hid hX.2; have HT := Lib.hid hX.1; clear hX hb; obtain ⟨t0, t1, t2, t3, t4, t5⟩ := num_cells HT.out; obtain ⟨g0, g1, g2, g3, g4, g5⟩ := num_free HT.out)
            | (have hX := low_boxD H2.out hb
               have HG := Lib.hid hX.2; have HT := Lib.hid hX.1; clear hX hb; obtain ⟨t0, t1, t2, t3, t4, t5⟩ := num_cells HT.out; obtain ⟨g0, g1, g2, g3, g4, g5⟩ := num_free HT.out)
            | (clear hb)))
    all_goals
      go_wp2_with fail
      go_meet
      first
        | exact ⟨_, rfl, low_gt hS5, (MapKept.heap_alloc _ _).1, box3_far (low_b hS5) (below_box _ _)⟩
        | exact ⟨_, rfl, HG.out, num_six HT.out q, low_six (low_b hS5) HG.out _ _ _ _ _ _⟩
  case rest =>
    obtain ⟨g, rfl, hg, hT, hR⟩ := hcut
    have H3 := Lib.hid hR
    obtain ⟨t0, t1, t2, t3, t4, t5⟩ := num_cells hT
    clear hT hR H2
    go_wp2_with (go_at_call 20; refine (hcq _).mono ?_; rintro e w12 ⟨rfl, hb⟩; have H5 := Lib.hid (show DoB3 w a b w12 from box3_far H3.out hb); clear hb; obtain ⟨f0, f1, f2, f3, f4, f5⟩ := num_free H5.out.2.2.1; obtain ⟨z0, z1, z2, z3, z4, z5⟩ := num_cells H5.out.2.2.1)
    have HD := Lib.hid (doB3_out H5.out r)
    generalize World.setCell _ _ _ = W3 at HD ⊢
    clear f0 f1 f2 f3 f4 f5 z0 z1 z2 z3 z4 z5
    obtain ⟨z0, z1, z2, z3, z4, z5⟩ := num_cells HD.out.1
    exact bodyPost_ret (v := .tuple #[numV r, .bool true]) (by unfold numV; simp [results, Try.results7, go_sem, z0, z1, z2, z3, z4, z5]) rfl ⟨rfl, HD.out.2⟩
set_option maxHeartbeats 16000000 in
theorem do_l56 (op : Int) (R : K) (a b : K) (w : World) (hr : ∀ W, Calls Try.prog 14 #[.int .u8 op, .bool false] W (Gives (.tuple #[fnV 56, .bool true]) W))
    (ho : ∀ W, Calls Try.prog 16 #[.int .u8 op, .bool false, numV a, numV b] W (Gives (.tuple #[.int .u64 0, .bool false]) W))
    (hf : ∀ W, Calls Try.prog 56 #[pairV (a.cutK 4) (b.cutK 4) (oneB (b.cutK 4)) (cB (b.cutK 4)) (cB (b.cutK 4) % 32#64)] W (Gives (numV R) W)) :
    Calls Try.prog 7 #[.int .u8 op, .bool false, numV a, numV b] w (Gives (.tuple #[numV (R.fine.cutK 4), .bool true]) w) := by
  have HN := Lib.hid (box3_new a b w)
  have hp := fun W => pairOf_x (a.cutK 4) (b.cutK 4) 32#64 W nz_32
  have hca := fun W => cut_num a 4 W
  have hcb := fun W => cut_num b 4 W
  obtain ⟨A4, hA⟩ : ∃ x, a.cutK 4 = x := ⟨_, rfl⟩
  obtain ⟨B4, hB⟩ : ∃ x, b.cutK 4 = x := ⟨_, rfl⟩
  rw [hA] at hca
  rw [hB] at hcb
  rw [hA, hB] at hf hp
  clear hA hB
  have hq := fun W => refined_x R W
  obtain ⟨q, hq'⟩ : ∃ r, R.fine = r := ⟨_, rfl⟩
  rw [hq'] at hq ⊢
  clear hq'
  have hcq := fun W => cut_num q 4 W
  obtain ⟨r, hr'⟩ : ∃ r, q.cutK 4 = r := ⟨_, rfl⟩
  rw [hr'] at hcq ⊢
  clear hr'
  obtain ⟨P, hP⟩ : ∃ P, pairV A4 B4 (oneB B4) (cB B4) (cB B4 % 32#64) = P := ⟨_, rfl⟩
  rw [hP] at hf hp
  clear hP
  unfold fnV at hr
  have e32 := u_32
  rw [e32] at hp
  clear e32
  unfold numV at hp hq hf ho hca hcb hcq
  unfold Gives numV
  go_enter Try.func7, Try.ntmps7
  go_upto_region 1 with fail
  generalize World.alloc _ _ = W0 at HN ⊢
  go_upto_region 4 with (go_at_call 14; refine (hr _).mono ?_; rintro e w1 ⟨rfl, hb⟩; have H1 := Lib.hid (show DoB3 w a b w1 from box3_far HN.out hb); clear hb)
  obtain ⟨⟨a0, a1, a2, a3, a4, a5⟩, ⟨b0, b1, b2, b3, b4, b5⟩⟩ := doB3_facts H1.out
  go_upto_region 9 with (go_at_call 16; refine (ho _).mono ?_; rintro e w2 ⟨rfl, hb⟩; have H2 := Lib.hid (show DoB3 w a b w2 from box3_far H1.out hb); clear hb)
  clear a0 a1 a2 a3 a4 a5 b0 b1 b2 b3 b4 b5
  clear hr ho HN H1
  go_cut [14] (fun x wx => ∃ g, x = .pointer (some ⟨g, 0, none⟩) ∧ w.heap.size + 2 < g ∧ NumAt g q wx ∧ DoB3 w a b wx)
  case first =>
    have hS0 := low_of (box3_far H2.out ((Below.refl w2.heap.size w2).drew))
    go_region_held3 (fun W => W.cell? ⟨w.heap.size, 0, none⟩ = some (.int .u64 (u a.v)) ∧ W.cell? ⟨w.heap.size, 1, none⟩ = some (.int .u64 (u a.m)) ∧ W.cell? ⟨w.heap.size, 2, none⟩ = some (.int .u64 (u a.a)) ∧ W.cell? ⟨w.heap.size, 3, none⟩ = some (.int .u64 (u a.b)) ∧ W.cell? ⟨w.heap.size, 4, none⟩ = some (.int .i64 (s a.c)) ∧ W.cell? ⟨w.heap.size, 5, none⟩ = some (.int .i64 (s a.d)) ∧ W.cell? ⟨w.heap.size + 1, 0, none⟩ = some (.int .u64 (u b.v)) ∧ W.cell? ⟨w.heap.size + 1, 1, none⟩ = some (.int .u64 (u b.m)) ∧ W.cell? ⟨w.heap.size + 1, 2, none⟩ = some (.int .u64 (u b.a)) ∧ W.cell? ⟨w.heap.size + 1, 3, none⟩ = some (.int .u64 (u b.b)) ∧ W.cell? ⟨w.heap.size + 1, 4, none⟩ = some (.int .i64 (s b.c)) ∧ W.cell? ⟨w.heap.size + 1, 5, none⟩ = some (.int .i64 (s b.d)) ∧ DoB3 w a b W)
      (first | with_reducible exact hS5 | with_reducible exact hS4 | with_reducible exact hS3 | with_reducible exact hS2 | with_reducible exact hS1 | with_reducible exact hS0 | (have h0 := HT.out; exact low_of (low_six (low_b hS5) HG.out _ _ _ _ _ _)) | with_reducible exact low_keep hS5 (below_box _ _) | with_reducible exact low_keep hS4 (below_box _ _) | with_reducible exact low_keep hS3 (below_box _ _) | with_reducible exact low_keep hS2 (below_box _ _) | with_reducible exact low_keep hS1 (below_box _ _) | with_reducible exact low_keep hS0 (below_box _ _))
      (first
        | (go_at_call_of 20 (Value.agg #[.int .u64 (u a.v), .int .u64 (u a.m), .int .u64 (u a.a), .int .u64 (u a.b), .int .i64 (s a.c), .int .i64 (s a.d)]); refine (hca _).mono ?_; rintro e w7 ⟨rfl, hb⟩; have hS1 := low_keep (w0 := w) (a := a) (b := b) (by with_reducible assumption) hb; first
            | (replace HT := Lib.hid (num_keep HT.out hb); clear t0 t1 t2 t3 t4 t5 g0 g1 g2 g3 g4 g5; clear hb; obtain ⟨t0, t1, t2, t3, t4, t5⟩ := num_cells HT.out; obtain ⟨g0, g1, g2, g3, g4, g5⟩ := num_free HT.out)
            | (with_reducible have hX := low_box (w0 := w) (a := a) (b := b) hb (by with_reducible assumption)
               have HG := Lib.hid hX.2; have HT := Lib.hid hX.1; clear hX hb; obtain ⟨t0, t1, t2, t3, t4, t5⟩ := num_cells HT.out; obtain ⟨g0, g1, g2, g3, g4, g5⟩ := num_free HT.out)
            | (have hX := low_boxD H2.out hb
               have HG := Lib.hid hX.2; have HT := Lib.hid hX.1; clear hX hb; obtain ⟨t0, t1, t2, t3, t4, t5⟩ := num_cells HT.out; obtain ⟨g0, g1, g2, g3, g4, g5⟩ := num_free HT.out)
            | (clear hb))
        | (go_at_call_of 20 (Value.agg #[.int .u64 (u b.v), .int .u64 (u b.m), .int .u64 (u b.a), .int .u64 (u b.b), .int .i64 (s b.c), .int .i64 (s b.d)]); refine (hcb _).mono ?_; rintro e w8 ⟨rfl, hb⟩; have hS2 := low_keep (w0 := w) (a := a) (b := b) (by with_reducible assumption) hb; first
            | (replace HT := Lib.hid (num_keep HT.out hb); clear t0 t1 t2 t3 t4 t5 g0 g1 g2 g3 g4 g5; clear hb; obtain ⟨t0, t1, t2, t3, t4, t5⟩ := num_cells HT.out; obtain ⟨g0, g1, g2, g3, g4, g5⟩ := num_free HT.out)
            | (with_reducible have hX := low_box (w0 := w) (a := a) (b := b) hb (by with_reducible assumption)
               have HG := Lib.hid hX.2; have HT := Lib.hid hX.1; clear hX hb; obtain ⟨t0, t1, t2, t3, t4, t5⟩ := num_cells HT.out; obtain ⟨g0, g1, g2, g3, g4, g5⟩ := num_free HT.out)
            | (have hX := low_boxD H2.out hb
               have HG := Lib.hid hX.2; have HT := Lib.hid hX.1; clear hX hb; obtain ⟨t0, t1, t2, t3, t4, t5⟩ := num_cells HT.out; obtain ⟨g0, g1, g2, g3, g4, g5⟩ := num_free HT.out)
            | (clear hb))
        | (go_at_call 18; refine (hp _).mono ?_; rintro e w9 ⟨rfl, hb⟩; have hS3 := low_keep (w0 := w) (a := a) (b := b) (by with_reducible assumption) hb; first
            | (replace HT := Lib.hid (num_keep HT.out hb); clear t0 t1 t2 t3 t4 t5 g0 g1 g2 g3 g4 g5; clear hb; obtain ⟨t0, t1, t2, t3, t4, t5⟩ := num_cells HT.out; obtain ⟨g0, g1, g2, g3, g4, g5⟩ := num_free HT.out)
            | (with_reducible have hX := low_box (w0 := w) (a := a) (b := b) hb (by with_reducible assumption)
               have HG := Lib.hid hX.2; have HT := Lib.hid hX.1; clear hX hb; obtain ⟨t0, t1, t2, t3, t4, t5⟩ := num_cells HT.out; obtain ⟨g0, g1, g2, g3, g4, g5⟩ := num_free HT.out)
            | (have hX := low_boxD H2.out hb
               have HG := Lib.hid hX.2; have HT := Lib.hid hX.1; clear hX hb; obtain ⟨t0, t1, t2, t3, t4, t5⟩ := num_cells HT.out; obtain ⟨g0, g1, g2, g3, g4, g5⟩ := num_free HT.out)
            | (clear hb))
        | (go_at_call 56; refine (hf _).mono ?_; rintro e w10 ⟨rfl, hb⟩; have hS4 := low_keep (w0 := w) (a := a) (b := b) (by with_reducible assumption) hb; first
            | (replace HT := Lib.hid (num_keep HT.out hb); clear t0 t1 t2 t3 t4 t5 g0 g1 g2 g3 g4 g5; clear hb; obtain ⟨t0, t1, t2, t3, t4, t5⟩ := num_cells HT.out; obtain ⟨g0, g1, g2, g3, g4, g5⟩ := num_free HT.out)
            | (with_reducible have hX := low_box (w0 := w) (a := a) (b := b) hb (by with_reducible assumption)
               have HG := Lib.hid hX.2; have HT := Lib.hid hX.1; clear hX hb; obtain ⟨t0, t1, t2, t3, t4, t5⟩ := num_cells HT.out; obtain ⟨g0, g1, g2, g3, g4, g5⟩ := num_free HT.out)
            | (have hX := low_boxD H2.out hb
               have HG := Lib.hid hX.2; have HT := Lib.hid hX.1; clear hX hb; obtain ⟨t0, t1, t2, t3, t4, t5⟩ := num_cells HT.out; obtain ⟨g0, g1, g2, g3, g4, g5⟩ := num_free HT.out)
            | (clear hb))
        | (go_at_call 19; refine (hq _).mono ?_; rintro e w11 ⟨rfl, hb⟩; have hS5 := low_keep (w0 := w) (a := a) (b := b) (by with_reducible assumption) hb; first
            | (replace HT := Lib.hid (num_keep HT.out hb); clear t0 t1 t2 t3 t4 t5 g0 g1 g2 g3 g4 g5; clear hb; obtain ⟨t0, t1, t2, t3, t4, t5⟩ := num_cells HT.out; obtain ⟨g0, g1, g2, g3, g4, g5⟩ := num_free HT.out)
            | (with_reducible have hX := low_box (w0 := w) (a := a) (b := b) hb (by with_reducible assumption)
               have HG := Lib.hid hX.2; have HT := Lib.hid hX.1; clear hX hb; obtain ⟨t0, t1, t2, t3, t4, t5⟩ := num_cells HT.out; obtain ⟨g0, g1, g2, g3, g4, g5⟩ := num_free HT.out)
            | (have hX := low_boxD H2.out hb
               have HG := Lib.hid hX.2; have HT := Lib.hid hX.1; clear hX hb; obtain ⟨t0, t1, t2, t3, t4, t5⟩ := num_cells HT.out; obtain ⟨g0, g1, g2, g3, g4, g5⟩ := num_free HT.out)
            | (clear hb)))
    all_goals
      go_wp2_with fail
      go_meet
      first
        | exact ⟨_, rfl, low_gt hS5, (MapKept.heap_alloc _ _).1, box3_far (low_b hS5) (below_box _ _)⟩
        | exact ⟨_, rfl, HG.out, num_six HT.out q, low_six (low_b hS5) HG.out _ _ _ _ _ _⟩
  case rest =>
    obtain ⟨g, rfl, hg, hT, hR⟩ := hcut
    have H3 := Lib.hid hR
    obtain ⟨t0, t1, t2, t3, t4, t5⟩ := num_cells hT
    clear hT hR H2
    go_wp2_with (go_at_call 20; refine (hcq _).mono ?_; rintro e w12 ⟨rfl, hb⟩; have H5 := Lib.hid (show DoB3 w a b w12 from box3_far H3.out hb); clear hb; obtain ⟨f0, f1, f2, f3, f4, f5⟩ := num_free H5.out.2.2.1; obtain ⟨z0, z1, z2, z3, z4, z5⟩ := num_cells H5.out.2.2.1)
    have HD := Lib.hid (doB3_out H5.out r)
    generalize World.setCell _ _ _ = W3 at HD ⊢
    clear f0 f1 f2 f3 f4 f5 z0 z1 z2 z3 z4 z5
    obtain ⟨z0, z1, z2, z3, z4, z5⟩ := num_cells HD.out.1
    exact bodyPost_ret (v := .tuple #[numV r, .bool true]) (by unfold numV; simp [results, Try.results7, go_sem, z0, z1, z2, z3, z4, z5]) rfl ⟨rfl, HD.out.2⟩
set_option maxHeartbeats 16000000 in
theorem do_l57 (op : Int) (R : K) (a b : K) (w : World) (hr : ∀ W, Calls Try.prog 14 #[.int .u8 op, .bool false] W (Gives (.tuple #[fnV 57, .bool true]) W))
    (ho : ∀ W, Calls Try.prog 16 #[.int .u8 op, .bool false, numV a, numV b] W (Gives (.tuple #[.int .u64 0, .bool false]) W))
    (hf : ∀ W, Calls Try.prog 57 #[pairV (a.cutK 4) (b.cutK 4) (oneB (b.cutK 4)) (cB (b.cutK 4)) (cB (b.cutK 4) % 32#64)] W (Gives (numV R) W)) :
    Calls Try.prog 7 #[.int .u8 op, .bool false, numV a, numV b] w (Gives (.tuple #[numV (R.fine.cutK 4), .bool true]) w) := by
  have HN := Lib.hid (box3_new a b w)
  have hp := fun W => pairOf_x (a.cutK 4) (b.cutK 4) 32#64 W nz_32
  have hca := fun W => cut_num a 4 W
  have hcb := fun W => cut_num b 4 W
  obtain ⟨A4, hA⟩ : ∃ x, a.cutK 4 = x := ⟨_, rfl⟩
  obtain ⟨B4, hB⟩ : ∃ x, b.cutK 4 = x := ⟨_, rfl⟩
  rw [hA] at hca
  rw [hB] at hcb
  rw [hA, hB] at hf hp
  clear hA hB
  have hq := fun W => refined_x R W
  obtain ⟨q, hq'⟩ : ∃ r, R.fine = r := ⟨_, rfl⟩
  rw [hq'] at hq ⊢
  clear hq'
  have hcq := fun W => cut_num q 4 W
  obtain ⟨r, hr'⟩ : ∃ r, q.cutK 4 = r := ⟨_, rfl⟩
  rw [hr'] at hcq ⊢
  clear hr'
  obtain ⟨P, hP⟩ : ∃ P, pairV A4 B4 (oneB B4) (cB B4) (cB B4 % 32#64) = P := ⟨_, rfl⟩
  rw [hP] at hf hp
  clear hP
  unfold fnV at hr
  have e32 := u_32
  rw [e32] at hp
  clear e32
  unfold numV at hp hq hf ho hca hcb hcq
  unfold Gives numV
  go_enter Try.func7, Try.ntmps7
  go_upto_region 1 with fail
  generalize World.alloc _ _ = W0 at HN ⊢
  go_upto_region 4 with (go_at_call 14; refine (hr _).mono ?_; rintro e w1 ⟨rfl, hb⟩; have H1 := Lib.hid (show DoB3 w a b w1 from box3_far HN.out hb); clear hb)
  obtain ⟨⟨a0, a1, a2, a3, a4, a5⟩, ⟨b0, b1, b2, b3, b4, b5⟩⟩ := doB3_facts H1.out
  go_upto_region 9 with (go_at_call 16; refine (ho _).mono ?_; rintro e w2 ⟨rfl, hb⟩; have H2 := Lib.hid (show DoB3 w a b w2 from box3_far H1.out hb); clear hb)
  clear a0 a1 a2 a3 a4 a5 b0 b1 b2 b3 b4 b5
  clear hr ho HN H1
  go_cut [14] (fun x wx => ∃ g, x = .pointer (some ⟨g, 0, none⟩) ∧ w.heap.size + 2 < g ∧ NumAt g q wx ∧ DoB3 w a b wx)
  case first =>
    have hS0 := low_of (box3_far H2.out ((Below.refl w2.heap.size w2).drew))
    go_region_held3 (fun W => W.cell? ⟨w.heap.size, 0, none⟩ = some (.int .u64 (u a.v)) ∧ W.cell? ⟨w.heap.size, 1, none⟩ = some (.int .u64 (u a.m)) ∧ W.cell? ⟨w.heap.size, 2, none⟩ = some (.int .u64 (u a.a)) ∧ W.cell? ⟨w.heap.size, 3, none⟩ = some (.int .u64 (u a.b)) ∧ W.cell? ⟨w.heap.size, 4, none⟩ = some (.int .i64 (s a.c)) ∧ W.cell? ⟨w.heap.size, 5, none⟩ = some (.int .i64 (s a.d)) ∧ W.cell? ⟨w.heap.size + 1, 0, none⟩ = some (.int .u64 (u b.v)) ∧ W.cell? ⟨w.heap.size + 1, 1, none⟩ = some (.int .u64 (u b.m)) ∧ W.cell? ⟨w.heap.size + 1, 2, none⟩ = some (.int .u64 (u b.a)) ∧ W.cell? ⟨w.heap.size + 1, 3, none⟩ = some (.int .u64 (u b.b)) ∧ W.cell? ⟨w.heap.size + 1, 4, none⟩ = some (.int .i64 (s b.c)) ∧ W.cell? ⟨w.heap.size + 1, 5, none⟩ = some (.int .i64 (s b.d)) ∧ DoB3 w a b W)
      (first | with_reducible exact hS5 | with_reducible exact hS4 | with_reducible exact hS3 | with_reducible exact hS2 | with_reducible exact hS1 | with_reducible exact hS0 | (have h0 := HT.out; exact low_of (low_six (low_b hS5) HG.out _ _ _ _ _ _)) | with_reducible exact low_keep hS5 (below_box _ _) | with_reducible exact low_keep hS4 (below_box _ _) | with_reducible exact low_keep hS3 (below_box _ _) | with_reducible exact low_keep hS2 (below_box _ _) | with_reducible exact low_keep hS1 (below_box _ _) | with_reducible exact low_keep hS0 (below_box _ _))
      (first
        | (go_at_call_of 20 (Value.agg #[.int .u64 (u a.v), .int .u64 (u a.m), .int .u64 (u a.a), .int .u64 (u a.b), .int .i64 (s a.c), .int .i64 (s a.d)]); refine (hca _).mono ?_; rintro e w7 ⟨rfl, hb⟩; have hS1 := low_keep (w0 := w) (a := a) (b := b) (by with_reducible assumption) hb; first
            | (replace HT := Lib.hid (num_keep HT.out hb); clear t0 t1 t2 t3 t4 t5 g0 g1 g2 g3 g4 g5; clear hb; obtain ⟨t0, t1, t2, t3, t4, t5⟩ := num_cells HT.out; obtain ⟨g0, g1, g2, g3, g4, g5⟩ := num_free HT.out)
            | (with_reducible have hX := low_box (w0 := w) (a := a) (b := b) hb (by with_reducible assumption)
               have HG := Lib.hid hX.2; have HT := Lib.hid hX.1; clear hX hb; obtain ⟨t0, t1, t2, t3, t4, t5⟩ := num_cells HT.out; obtain ⟨g0, g1, g2, g3, g4, g5⟩ := num_free HT.out)
            | (have hX := low_boxD H2.out hb
               have HG := Lib.hid hX.2; have HT := Lib.hid hX.1; clear hX hb; obtain ⟨t0, t1, t2, t3, t4, t5⟩ := num_cells HT.out; obtain ⟨g0, g1, g2, g3, g4, g5⟩ := num_free HT.out)
            | (clear hb))
        | (go_at_call_of 20 (Value.agg #[.int .u64 (u b.v), .int .u64 (u b.m), .int .u64 (u b.a), .int .u64 (u b.b), .int .i64 (s b.c), .int .i64 (s b.d)]); refine (hcb _).mono ?_; rintro e w8 ⟨rfl, hb⟩; have hS2 := low_keep (w0 := w) (a := a) (b := b) (by with_reducible assumption) hb; first
            | (replace HT := Lib.hid (num_keep HT.out hb); clear t0 t1 t2 t3 t4 t5 g0 g1 g2 g3 g4 g5; clear hb; obtain ⟨t0, t1, t2, t3, t4, t5⟩ := num_cells HT.out; obtain ⟨g0, g1, g2, g3, g4, g5⟩ := num_free HT.out)
            | (with_reducible have hX := low_box (w0 := w) (a := a) (b := b) hb (by with_reducible assumption)
               have HG := Lib.hid hX.2; have HT := Lib.hid hX.1; clear hX hb; obtain ⟨t0, t1, t2, t3, t4, t5⟩ := num_cells HT.out; obtain ⟨g0, g1, g2, g3, g4, g5⟩ := num_free HT.out)
            | (have hX := low_boxD H2.out hb
               have HG := Lib.hid hX.2; have HT := Lib.hid hX.1; clear hX hb; obtain ⟨t0, t1, t2, t3, t4, t5⟩ := num_cells HT.out; obtain ⟨g0, g1, g2, g3, g4, g5⟩ := num_free HT.out)
            | (clear hb))
        | (go_at_call 18; refine (hp _).mono ?_; rintro e w9 ⟨rfl, hb⟩; have hS3 := low_keep (w0 := w) (a := a) (b := b) (by with_reducible assumption) hb; first
            | (replace HT := Lib.hid (num_keep HT.out hb); clear t0 t1 t2 t3 t4 t5 g0 g1 g2 g3 g4 g5; clear hb; obtain ⟨t0, t1, t2, t3, t4, t5⟩ := num_cells HT.out; obtain ⟨g0, g1, g2, g3, g4, g5⟩ := num_free HT.out)
            | (with_reducible have hX := low_box (w0 := w) (a := a) (b := b) hb (by with_reducible assumption)
               have HG := Lib.hid hX.2; have HT := Lib.hid hX.1; clear hX hb; obtain ⟨t0, t1, t2, t3, t4, t5⟩ := num_cells HT.out; obtain ⟨g0, g1, g2, g3, g4, g5⟩ := num_free HT.out)
            | (have hX := low_boxD H2.out hb
               have HG := Lib.hid hX.2; have HT := Lib.hid hX.1; clear hX hb; obtain ⟨t0, t1, t2, t3, t4, t5⟩ := num_cells HT.out; obtain ⟨g0, g1, g2, g3, g4, g5⟩ := num_free HT.out)
            | (clear hb))
        | (go_at_call 57; refine (hf _).mono ?_; rintro e w10 ⟨rfl, hb⟩; have hS4 := low_keep (w0 := w) (a := a) (b := b) (by with_reducible assumption) hb; first
            | (replace HT := Lib.hid (num_keep HT.out hb); clear t0 t1 t2 t3 t4 t5 g0 g1 g2 g3 g4 g5; clear hb; obtain ⟨t0, t1, t2, t3, t4, t5⟩ := num_cells HT.out; obtain ⟨g0, g1, g2, g3, g4, g5⟩ := num_free HT.out)
            | (with_reducible have hX := low_box (w0 := w) (a := a) (b := b) hb (by with_reducible assumption)
               have HG := Lib.hid hX.2; have HT := Lib.hid hX.1; clear hX hb; obtain ⟨t0, t1, t2, t3, t4, t5⟩ := num_cells HT.out; obtain ⟨g0, g1, g2, g3, g4, g5⟩ := num_free HT.out)
            | (have hX := low_boxD H2.out hb
               have HG := Lib.hid hX.2; have HT := Lib.hid hX.1; clear hX hb; obtain ⟨t0, t1, t2, t3, t4, t5⟩ := num_cells HT.out; obtain ⟨g0, g1, g2, g3, g4, g5⟩ := num_free HT.out)
            | (clear hb))
        | (go_at_call 19; refine (hq _).mono ?_; rintro e w11 ⟨rfl, hb⟩; have hS5 := low_keep (w0 := w) (a := a) (b := b) (by with_reducible assumption) hb; first
            | (replace HT := Lib.hid (num_keep HT.out hb); clear t0 t1 t2 t3 t4 t5 g0 g1 g2 g3 g4 g5; clear hb; obtain ⟨t0, t1, t2, t3, t4, t5⟩ := num_cells HT.out; obtain ⟨g0, g1, g2, g3, g4, g5⟩ := num_free HT.out)
            | (with_reducible have hX := low_box (w0 := w) (a := a) (b := b) hb (by with_reducible assumption)
               have HG := Lib.hid hX.2; have HT := Lib.hid hX.1; clear hX hb; obtain ⟨t0, t1, t2, t3, t4, t5⟩ := num_cells HT.out; obtain ⟨g0, g1, g2, g3, g4, g5⟩ := num_free HT.out)
            | (have hX := low_boxD H2.out hb
               have HG := Lib.hid hX.2; have HT := Lib.hid hX.1; clear hX hb; obtain ⟨t0, t1, t2, t3, t4, t5⟩ := num_cells HT.out; obtain ⟨g0, g1, g2, g3, g4, g5⟩ := num_free HT.out)
            | (clear hb)))
    all_goals
      go_wp2_with fail
      go_meet
      first
        | exact ⟨_, rfl, low_gt hS5, (MapKept.heap_alloc _ _).1, box3_far (low_b hS5) (below_box _ _)⟩
        | exact ⟨_, rfl, HG.out, num_six HT.out q, low_six (low_b hS5) HG.out _ _ _ _ _ _⟩
  case rest =>
    obtain ⟨g, rfl, hg, hT, hR⟩ := hcut
    have H3 := Lib.hid hR
    obtain ⟨t0, t1, t2, t3, t4, t5⟩ := num_cells hT
    clear hT hR H2
    go_wp2_with (go_at_call 20; refine (hcq _).mono ?_; rintro e w12 ⟨rfl, hb⟩; have H5 := Lib.hid (show DoB3 w a b w12 from box3_far H3.out hb); clear hb; obtain ⟨f0, f1, f2, f3, f4, f5⟩ := num_free H5.out.2.2.1; obtain ⟨z0, z1, z2, z3, z4, z5⟩ := num_cells H5.out.2.2.1)
    have HD := Lib.hid (doB3_out H5.out r)
    generalize World.setCell _ _ _ = W3 at HD ⊢
    clear f0 f1 f2 f3 f4 f5 z0 z1 z2 z3 z4 z5
    obtain ⟨z0, z1, z2, z3, z4, z5⟩ := num_cells HD.out.1
    exact bodyPost_ret (v := .tuple #[numV r, .bool true]) (by unfold numV; simp [results, Try.results7, go_sem, z0, z1, z2, z3, z4, z5]) rfl ⟨rfl, HD.out.2⟩
set_option maxHeartbeats 16000000 in
theorem do_l59 (op : Int) (R : K) (a b : K) (w : World) (hr : ∀ W, Calls Try.prog 14 #[.int .u8 op, .bool false] W (Gives (.tuple #[fnV 59, .bool true]) W))
    (ho : ∀ W, Calls Try.prog 16 #[.int .u8 op, .bool false, numV a, numV b] W (Gives (.tuple #[.int .u64 0, .bool false]) W))
    (hf : ∀ W, Calls Try.prog 59 #[pairV (a.cutK 4) (b.cutK 4) (oneB (b.cutK 4)) (cB (b.cutK 4)) (cB (b.cutK 4) % 32#64)] W (Gives (numV R) W)) :
    Calls Try.prog 7 #[.int .u8 op, .bool false, numV a, numV b] w (Gives (.tuple #[numV (R.fine.cutK 4), .bool true]) w) := by
  have HN := Lib.hid (box3_new a b w)
  have hp := fun W => pairOf_x (a.cutK 4) (b.cutK 4) 32#64 W nz_32
  have hca := fun W => cut_num a 4 W
  have hcb := fun W => cut_num b 4 W
  obtain ⟨A4, hA⟩ : ∃ x, a.cutK 4 = x := ⟨_, rfl⟩
  obtain ⟨B4, hB⟩ : ∃ x, b.cutK 4 = x := ⟨_, rfl⟩
  rw [hA] at hca
  rw [hB] at hcb
  rw [hA, hB] at hf hp
  clear hA hB
  have hq := fun W => refined_x R W
  obtain ⟨q, hq'⟩ : ∃ r, R.fine = r := ⟨_, rfl⟩
  rw [hq'] at hq ⊢
  clear hq'
  have hcq := fun W => cut_num q 4 W
  obtain ⟨r, hr'⟩ : ∃ r, q.cutK 4 = r := ⟨_, rfl⟩
  rw [hr'] at hcq ⊢
  clear hr'
  obtain ⟨P, hP⟩ : ∃ P, pairV A4 B4 (oneB B4) (cB B4) (cB B4 % 32#64) = P := ⟨_, rfl⟩
  rw [hP] at hf hp
  clear hP
  unfold fnV at hr
  have e32 := u_32
  rw [e32] at hp
  clear e32
  unfold numV at hp hq hf ho hca hcb hcq
  unfold Gives numV
  go_enter Try.func7, Try.ntmps7
  go_upto_region 1 with fail
  generalize World.alloc _ _ = W0 at HN ⊢
  go_upto_region 4 with (go_at_call 14; refine (hr _).mono ?_; rintro e w1 ⟨rfl, hb⟩; have H1 := Lib.hid (show DoB3 w a b w1 from box3_far HN.out hb); clear hb)
  obtain ⟨⟨a0, a1, a2, a3, a4, a5⟩, ⟨b0, b1, b2, b3, b4, b5⟩⟩ := doB3_facts H1.out
  go_upto_region 9 with (go_at_call 16; refine (ho _).mono ?_; rintro e w2 ⟨rfl, hb⟩; have H2 := Lib.hid (show DoB3 w a b w2 from box3_far H1.out hb); clear hb)
  clear a0 a1 a2 a3 a4 a5 b0 b1 b2 b3 b4 b5
  clear hr ho HN H1
  go_cut [14] (fun x wx => ∃ g, x = .pointer (some ⟨g, 0, none⟩) ∧ w.heap.size + 2 < g ∧ NumAt g q wx ∧ DoB3 w a b wx)
  case first =>
    have hS0 := low_of (box3_far H2.out ((Below.refl w2.heap.size w2).drew))
    go_region_held3 (fun W => W.cell? ⟨w.heap.size, 0, none⟩ = some (.int .u64 (u a.v)) ∧ W.cell? ⟨w.heap.size, 1, none⟩ = some (.int .u64 (u a.m)) ∧ W.cell? ⟨w.heap.size, 2, none⟩ = some (.int .u64 (u a.a)) ∧ W.cell? ⟨w.heap.size, 3, none⟩ = some (.int .u64 (u a.b)) ∧ W.cell? ⟨w.heap.size, 4, none⟩ = some (.int .i64 (s a.c)) ∧ W.cell? ⟨w.heap.size, 5, none⟩ = some (.int .i64 (s a.d)) ∧ W.cell? ⟨w.heap.size + 1, 0, none⟩ = some (.int .u64 (u b.v)) ∧ W.cell? ⟨w.heap.size + 1, 1, none⟩ = some (.int .u64 (u b.m)) ∧ W.cell? ⟨w.heap.size + 1, 2, none⟩ = some (.int .u64 (u b.a)) ∧ W.cell? ⟨w.heap.size + 1, 3, none⟩ = some (.int .u64 (u b.b)) ∧ W.cell? ⟨w.heap.size + 1, 4, none⟩ = some (.int .i64 (s b.c)) ∧ W.cell? ⟨w.heap.size + 1, 5, none⟩ = some (.int .i64 (s b.d)) ∧ DoB3 w a b W)
      (first | with_reducible exact hS5 | with_reducible exact hS4 | with_reducible exact hS3 | with_reducible exact hS2 | with_reducible exact hS1 | with_reducible exact hS0 | (have h0 := HT.out; exact low_of (low_six (low_b hS5) HG.out _ _ _ _ _ _)) | with_reducible exact low_keep hS5 (below_box _ _) | with_reducible exact low_keep hS4 (below_box _ _) | with_reducible exact low_keep hS3 (below_box _ _) | with_reducible exact low_keep hS2 (below_box _ _) | with_reducible exact low_keep hS1 (below_box _ _) | with_reducible exact low_keep hS0 (below_box _ _))
      (first
        | (go_at_call_of 20 (Value.agg #[.int .u64 (u a.v), .int .u64 (u a.m), .int .u64 (u a.a), .int .u64 (u a.b), .int .i64 (s a.c), .int .i64 (s a.d)]); refine (hca _).mono ?_; rintro e w7 ⟨rfl, hb⟩; have hS1 := low_keep (w0 := w) (a := a) (b := b) (by with_reducible assumption) hb; first
            | (replace HT := Lib.hid (num_keep HT.out hb); clear t0 t1 t2 t3 t4 t5 g0 g1 g2 g3 g4 g5; clear hb; obtain ⟨t0, t1, t2, t3, t4, t5⟩ := num_cells HT.out; obtain ⟨g0, g1, g2, g3, g4, g5⟩ := num_free HT.out)
            | (with_reducible have hX := low_box (w0 := w) (a := a) (b := b) hb (by with_reducible assumption)
               have HG := Lib.hid hX.2; have HT := Lib.hid hX.1; clear hX hb; obtain ⟨t0, t1, t2, t3, t4, t5⟩ := num_cells HT.out; obtain ⟨g0, g1, g2, g3, g4, g5⟩ := num_free HT.out)
            | (have hX := low_boxD H2.out hb
               have HG := Lib.hid hX.2; have HT := Lib.hid hX.1; clear hX hb; obtain ⟨t0, t1, t2, t3, t4, t5⟩ := num_cells HT.out; obtain ⟨g0, g1, g2, g3, g4, g5⟩ := num_free HT.out)
            | (clear hb))
        | (go_at_call_of 20 (Value.agg #[.int .u64 (u b.v), .int .u64 (u b.m), .int .u64 (u b.a), .int .u64 (u b.b), .int .i64 (s b.c), .int .i64 (s b.d)]); refine (hcb _).mono ?_; rintro e w8 ⟨rfl, hb⟩; have hS2 := low_keep (w0 := w) (a := a) (b := b) (by with_reducible assumption) hb; first
            | (replace HT := Lib.hid (num_keep HT.out hb); clear t0 t1 t2 t3 t4 t5 g0 g1 g2 g3 g4 g5; clear hb; obtain ⟨t0, t1, t2, t3, t4, t5⟩ := num_cells HT.out; obtain ⟨g0, g1, g2, g3, g4, g5⟩ := num_free HT.out)
            | (with_reducible have hX := low_box (w0 := w) (a := a) (b := b) hb (by with_reducible assumption)
               have HG := Lib.hid hX.2; have HT := Lib.hid hX.1; clear hX hb; obtain ⟨t0, t1, t2, t3, t4, t5⟩ := num_cells HT.out; obtain ⟨g0, g1, g2, g3, g4, g5⟩ := num_free HT.out)
            | (have hX := low_boxD H2.out hb
               have HG := Lib.hid hX.2; have HT := Lib.hid hX.1; clear hX hb; obtain ⟨t0, t1, t2, t3, t4, t5⟩ := num_cells HT.out; obtain ⟨g0, g1, g2, g3, g4, g5⟩ := num_free HT.out)
            | (clear hb))
        | (go_at_call 18; refine (hp _).mono ?_; rintro e w9 ⟨rfl, hb⟩; have hS3 := low_keep (w0 := w) (a := a) (b := b) (by with_reducible assumption) hb; first
            | (replace HT := Lib.hid (num_keep HT.out hb); clear t0 t1 t2 t3 t4 t5 g0 g1 g2 g3 g4 g5; clear hb; obtain ⟨t0, t1, t2, t3, t4, t5⟩ := num_cells HT.out; obtain ⟨g0, g1, g2, g3, g4, g5⟩ := num_free HT.out)
            | (with_reducible have hX := low_box (w0 := w) (a := a) (b := b) hb (by with_reducible assumption)
               have HG := Lib.hid hX.2; have HT := Lib.hid hX.1; clear hX hb; obtain ⟨t0, t1, t2, t3, t4, t5⟩ := num_cells HT.out; obtain ⟨g0, g1, g2, g3, g4, g5⟩ := num_free HT.out)
            | (have hX := low_boxD H2.out hb
               have HG := Lib.hid hX.2; have HT := Lib.hid hX.1; clear hX hb; obtain ⟨t0, t1, t2, t3, t4, t5⟩ := num_cells HT.out; obtain ⟨g0, g1, g2, g3, g4, g5⟩ := num_free HT.out)
            | (clear hb))
        | (go_at_call 59; refine (hf _).mono ?_; rintro e w10 ⟨rfl, hb⟩; have hS4 := low_keep (w0 := w) (a := a) (b := b) (by with_reducible assumption) hb; first
            | (replace HT := Lib.hid (num_keep HT.out hb); clear t0 t1 t2 t3 t4 t5 g0 g1 g2 g3 g4 g5; clear hb; obtain ⟨t0, t1, t2, t3, t4, t5⟩ := num_cells HT.out; obtain ⟨g0, g1, g2, g3, g4, g5⟩ := num_free HT.out)
            | (with_reducible have hX := low_box (w0 := w) (a := a) (b := b) hb (by with_reducible assumption)
               have HG := Lib.hid hX.2; have HT := Lib.hid hX.1; clear hX hb; obtain ⟨t0, t1, t2, t3, t4, t5⟩ := num_cells HT.out; obtain ⟨g0, g1, g2, g3, g4, g5⟩ := num_free HT.out)
            | (have hX := low_boxD H2.out hb
               have HG := Lib.hid hX.2; have HT := Lib.hid hX.1; clear hX hb; obtain ⟨t0, t1, t2, t3, t4, t5⟩ := num_cells HT.out; obtain ⟨g0, g1, g2, g3, g4, g5⟩ := num_free HT.out)
            | (clear hb))
        | (go_at_call 19; refine (hq _).mono ?_; rintro e w11 ⟨rfl, hb⟩; have hS5 := low_keep (w0 := w) (a := a) (b := b) (by with_reducible assumption) hb; first
            | (replace HT := Lib.hid (num_keep HT.out hb); clear t0 t1 t2 t3 t4 t5 g0 g1 g2 g3 g4 g5; clear hb; obtain ⟨t0, t1, t2, t3, t4, t5⟩ := num_cells HT.out; obtain ⟨g0, g1, g2, g3, g4, g5⟩ := num_free HT.out)
            | (with_reducible have hX := low_box (w0 := w) (a := a) (b := b) hb (by with_reducible assumption)
               have HG := Lib.hid hX.2; have HT := Lib.hid hX.1; clear hX hb; obtain ⟨t0, t1, t2, t3, t4, t5⟩ := num_cells HT.out; obtain ⟨g0, g1, g2, g3, g4, g5⟩ := num_free HT.out)
            | (have hX := low_boxD H2.out hb
               have HG := Lib.hid hX.2; have HT := Lib.hid hX.1; clear hX hb; obtain ⟨t0, t1, t2, t3, t4, t5⟩ := num_cells HT.out; obtain ⟨g0, g1, g2, g3, g4, g5⟩ := num_free HT.out)
            | (clear hb)))
    all_goals
      go_wp2_with fail
      go_meet
      first
        | exact ⟨_, rfl, low_gt hS5, (MapKept.heap_alloc _ _).1, box3_far (low_b hS5) (below_box _ _)⟩
        | exact ⟨_, rfl, HG.out, num_six HT.out q, low_six (low_b hS5) HG.out _ _ _ _ _ _⟩
  case rest =>
    obtain ⟨g, rfl, hg, hT, hR⟩ := hcut
    have H3 := Lib.hid hR
    obtain ⟨t0, t1, t2, t3, t4, t5⟩ := num_cells hT
    clear hT hR H2
    go_wp2_with (go_at_call 20; refine (hcq _).mono ?_; rintro e w12 ⟨rfl, hb⟩; have H5 := Lib.hid (show DoB3 w a b w12 from box3_far H3.out hb); clear hb; obtain ⟨f0, f1, f2, f3, f4, f5⟩ := num_free H5.out.2.2.1; obtain ⟨z0, z1, z2, z3, z4, z5⟩ := num_cells H5.out.2.2.1)
    have HD := Lib.hid (doB3_out H5.out r)
    generalize World.setCell _ _ _ = W3 at HD ⊢
    clear f0 f1 f2 f3 f4 f5 z0 z1 z2 z3 z4 z5
    obtain ⟨z0, z1, z2, z3, z4, z5⟩ := num_cells HD.out.1
    exact bodyPost_ret (v := .tuple #[numV r, .bool true]) (by unfold numV; simp [results, Try.results7, go_sem, z0, z1, z2, z3, z4, z5]) rfl ⟨rfl, HD.out.2⟩
set_option maxHeartbeats 16000000 in
theorem do_l60 (op : Int) (R : K) (a b : K) (w : World) (hr : ∀ W, Calls Try.prog 14 #[.int .u8 op, .bool false] W (Gives (.tuple #[fnV 60, .bool true]) W))
    (ho : ∀ W, Calls Try.prog 16 #[.int .u8 op, .bool false, numV a, numV b] W (Gives (.tuple #[.int .u64 0, .bool false]) W))
    (hf : ∀ W, Calls Try.prog 60 #[pairV (a.cutK 4) (b.cutK 4) (oneB (b.cutK 4)) (cB (b.cutK 4)) (cB (b.cutK 4) % 32#64)] W (Gives (numV R) W)) :
    Calls Try.prog 7 #[.int .u8 op, .bool false, numV a, numV b] w (Gives (.tuple #[numV (R.fine.cutK 4), .bool true]) w) := by
  have HN := Lib.hid (box3_new a b w)
  have hp := fun W => pairOf_x (a.cutK 4) (b.cutK 4) 32#64 W nz_32
  have hca := fun W => cut_num a 4 W
  have hcb := fun W => cut_num b 4 W
  obtain ⟨A4, hA⟩ : ∃ x, a.cutK 4 = x := ⟨_, rfl⟩
  obtain ⟨B4, hB⟩ : ∃ x, b.cutK 4 = x := ⟨_, rfl⟩
  rw [hA] at hca
  rw [hB] at hcb
  rw [hA, hB] at hf hp
  clear hA hB
  have hq := fun W => refined_x R W
  obtain ⟨q, hq'⟩ : ∃ r, R.fine = r := ⟨_, rfl⟩
  rw [hq'] at hq ⊢
  clear hq'
  have hcq := fun W => cut_num q 4 W
  obtain ⟨r, hr'⟩ : ∃ r, q.cutK 4 = r := ⟨_, rfl⟩
  rw [hr'] at hcq ⊢
  clear hr'
  obtain ⟨P, hP⟩ : ∃ P, pairV A4 B4 (oneB B4) (cB B4) (cB B4 % 32#64) = P := ⟨_, rfl⟩
  rw [hP] at hf hp
  clear hP
  unfold fnV at hr
  have e32 := u_32
  rw [e32] at hp
  clear e32
  unfold numV at hp hq hf ho hca hcb hcq
  unfold Gives numV
  go_enter Try.func7, Try.ntmps7
  go_upto_region 1 with fail
  generalize World.alloc _ _ = W0 at HN ⊢
  go_upto_region 4 with (go_at_call 14; refine (hr _).mono ?_; rintro e w1 ⟨rfl, hb⟩; have H1 := Lib.hid (show DoB3 w a b w1 from box3_far HN.out hb); clear hb)
  obtain ⟨⟨a0, a1, a2, a3, a4, a5⟩, ⟨b0, b1, b2, b3, b4, b5⟩⟩ := doB3_facts H1.out
  go_upto_region 9 with (go_at_call 16; refine (ho _).mono ?_; rintro e w2 ⟨rfl, hb⟩; have H2 := Lib.hid (show DoB3 w a b w2 from box3_far H1.out hb); clear hb)
  clear a0 a1 a2 a3 a4 a5 b0 b1 b2 b3 b4 b5
  clear hr ho HN H1
  go_cut [14] (fun x wx => ∃ g, x = .pointer (some ⟨g, 0, none⟩) ∧ w.heap.size + 2 < g ∧ NumAt g q wx ∧ DoB3 w a b wx)
  case first =>
    have hS0 := low_of (box3_far H2.out ((Below.refl w2.heap.size w2).drew))
    go_region_held3 (fun W => W.cell? ⟨w.heap.size, 0, none⟩ = some (.int .u64 (u a.v)) ∧ W.cell? ⟨w.heap.size, 1, none⟩ = some (.int .u64 (u a.m)) ∧ W.cell? ⟨w.heap.size, 2, none⟩ = some (.int .u64 (u a.a)) ∧ W.cell? ⟨w.heap.size, 3, none⟩ = some (.int .u64 (u a.b)) ∧ W.cell? ⟨w.heap.size, 4, none⟩ = some (.int .i64 (s a.c)) ∧ W.cell? ⟨w.heap.size, 5, none⟩ = some (.int .i64 (s a.d)) ∧ W.cell? ⟨w.heap.size + 1, 0, none⟩ = some (.int .u64 (u b.v)) ∧ W.cell? ⟨w.heap.size + 1, 1, none⟩ = some (.int .u64 (u b.m)) ∧ W.cell? ⟨w.heap.size + 1, 2, none⟩ = some (.int .u64 (u b.a)) ∧ W.cell? ⟨w.heap.size + 1, 3, none⟩ = some (.int .u64 (u b.b)) ∧ W.cell? ⟨w.heap.size + 1, 4, none⟩ = some (.int .i64 (s b.c)) ∧ W.cell? ⟨w.heap.size + 1, 5, none⟩ = some (.int .i64 (s b.d)) ∧ DoB3 w a b W)
      (first | with_reducible exact hS5 | with_reducible exact hS4 | with_reducible exact hS3 | with_reducible exact hS2 | with_reducible exact hS1 | with_reducible exact hS0 | (have h0 := HT.out; exact low_of (low_six (low_b hS5) HG.out _ _ _ _ _ _)) | with_reducible exact low_keep hS5 (below_box _ _) | with_reducible exact low_keep hS4 (below_box _ _) | with_reducible exact low_keep hS3 (below_box _ _) | with_reducible exact low_keep hS2 (below_box _ _) | with_reducible exact low_keep hS1 (below_box _ _) | with_reducible exact low_keep hS0 (below_box _ _))
      (first
        | (go_at_call_of 20 (Value.agg #[.int .u64 (u a.v), .int .u64 (u a.m), .int .u64 (u a.a), .int .u64 (u a.b), .int .i64 (s a.c), .int .i64 (s a.d)]); refine (hca _).mono ?_; rintro e w7 ⟨rfl, hb⟩; have hS1 := low_keep (w0 := w) (a := a) (b := b) (by with_reducible assumption) hb; first
            | (replace HT := Lib.hid (num_keep HT.out hb); clear t0 t1 t2 t3 t4 t5 g0 g1 g2 g3 g4 g5; clear hb; obtain ⟨t0, t1, t2, t3, t4, t5⟩ := num_cells HT.out; obtain ⟨g0, g1, g2, g3, g4, g5⟩ := num_free HT.out)
            | (with_reducible have hX := low_box (w0 := w) (a := a) (b := b) hb (by with_reducible assumption)
               have HG := Lib.hid hX.2; have HT := Lib.hid hX.1; clear hX hb; obtain ⟨t0, t1, t2, t3, t4, t5⟩ := num_cells HT.out; obtain ⟨g0, g1, g2, g3, g4, g5⟩ := num_free HT.out)
            | (have hX := low_boxD H2.out hb
               have HG := Lib.hid hX.2; have HT := Lib.hid hX.1; clear hX hb; obtain ⟨t0, t1, t2, t3, t4, t5⟩ := num_cells HT.out; obtain ⟨g0, g1, g2, g3, g4, g5⟩ := num_free HT.out)
            | (clear hb))
        | (go_at_call_of 20 (Value.agg #[.int .u64 (u b.v), .int .u64 (u b.m), .int .u64 (u b.a), .int .u64 (u b.b), .int .i64 (s b.c), .int .i64 (s b.d)]); refine (hcb _).mono ?_; rintro e w8 ⟨rfl, hb⟩; have hS2 := low_keep (w0 := w) (a := a) (b := b) (by with_reducible assumption) hb; first
            | (replace HT := Lib.hid (num_keep HT.out hb); clear t0 t1 t2 t3 t4 t5 g0 g1 g2 g3 g4 g5; clear hb; obtain ⟨t0, t1, t2, t3, t4, t5⟩ := num_cells HT.out; obtain ⟨g0, g1, g2, g3, g4, g5⟩ := num_free HT.out)
            | (with_reducible have hX := low_box (w0 := w) (a := a) (b := b) hb (by with_reducible assumption)
               have HG := Lib.hid hX.2; have HT := Lib.hid hX.1; clear hX hb; obtain ⟨t0, t1, t2, t3, t4, t5⟩ := num_cells HT.out; obtain ⟨g0, g1, g2, g3, g4, g5⟩ := num_free HT.out)
            | (have hX := low_boxD H2.out hb
               have HG := Lib.hid hX.2; have HT := Lib.hid hX.1; clear hX hb; obtain ⟨t0, t1, t2, t3, t4, t5⟩ := num_cells HT.out; obtain ⟨g0, g1, g2, g3, g4, g5⟩ := num_free HT.out)
            | (clear hb))
        | (go_at_call 18; refine (hp _).mono ?_; rintro e w9 ⟨rfl, hb⟩; have hS3 := low_keep (w0 := w) (a := a) (b := b) (by with_reducible assumption) hb; first
            | (replace HT := Lib.hid (num_keep HT.out hb); clear t0 t1 t2 t3 t4 t5 g0 g1 g2 g3 g4 g5; clear hb; obtain ⟨t0, t1, t2, t3, t4, t5⟩ := num_cells HT.out; obtain ⟨g0, g1, g2, g3, g4, g5⟩ := num_free HT.out)
            | (with_reducible have hX := low_box (w0 := w) (a := a) (b := b) hb (by with_reducible assumption)
               have HG := Lib.hid hX.2; have HT := Lib.hid hX.1; clear hX hb; obtain ⟨t0, t1, t2, t3, t4, t5⟩ := num_cells HT.out; obtain ⟨g0, g1, g2, g3, g4, g5⟩ := num_free HT.out)
            | (have hX := low_boxD H2.out hb
               have HG := Lib.hid hX.2; have HT := Lib.hid hX.1; clear hX hb; obtain ⟨t0, t1, t2, t3, t4, t5⟩ := num_cells HT.out; obtain ⟨g0, g1, g2, g3, g4, g5⟩ := num_free HT.out)
            | (clear hb))
        | (go_at_call 60; refine (hf _).mono ?_; rintro e w10 ⟨rfl, hb⟩; have hS4 := low_keep (w0 := w) (a := a) (b := b) (by with_reducible assumption) hb; first
            | (replace HT := Lib.hid (num_keep HT.out hb); clear t0 t1 t2 t3 t4 t5 g0 g1 g2 g3 g4 g5; clear hb; obtain ⟨t0, t1, t2, t3, t4, t5⟩ := num_cells HT.out; obtain ⟨g0, g1, g2, g3, g4, g5⟩ := num_free HT.out)
            | (with_reducible have hX := low_box (w0 := w) (a := a) (b := b) hb (by with_reducible assumption)
               have HG := Lib.hid hX.2; have HT := Lib.hid hX.1; clear hX hb; obtain ⟨t0, t1, t2, t3, t4, t5⟩ := num_cells HT.out; obtain ⟨g0, g1, g2, g3, g4, g5⟩ := num_free HT.out)
            | (have hX := low_boxD H2.out hb
               have HG := Lib.hid hX.2; have HT := Lib.hid hX.1; clear hX hb; obtain ⟨t0, t1, t2, t3, t4, t5⟩ := num_cells HT.out; obtain ⟨g0, g1, g2, g3, g4, g5⟩ := num_free HT.out)
            | (clear hb))
        | (go_at_call 19; refine (hq _).mono ?_; rintro e w11 ⟨rfl, hb⟩; have hS5 := low_keep (w0 := w) (a := a) (b := b) (by with_reducible assumption) hb; first
            | (replace HT := Lib.hid (num_keep HT.out hb); clear t0 t1 t2 t3 t4 t5 g0 g1 g2 g3 g4 g5; clear hb; obtain ⟨t0, t1, t2, t3, t4, t5⟩ := num_cells HT.out; obtain ⟨g0, g1, g2, g3, g4, g5⟩ := num_free HT.out)
            | (with_reducible have hX := low_box (w0 := w) (a := a) (b := b) hb (by with_reducible assumption)
               have HG := Lib.hid hX.2; have HT := Lib.hid hX.1; clear hX hb; obtain ⟨t0, t1, t2, t3, t4, t5⟩ := num_cells HT.out; obtain ⟨g0, g1, g2, g3, g4, g5⟩ := num_free HT.out)
            | (have hX := low_boxD H2.out hb
               have HG := Lib.hid hX.2; have HT := Lib.hid hX.1; clear hX hb; obtain ⟨t0, t1, t2, t3, t4, t5⟩ := num_cells HT.out; obtain ⟨g0, g1, g2, g3, g4, g5⟩ := num_free HT.out)
            | (clear hb)))
    all_goals
      go_wp2_with fail
      go_meet
      first
        | exact ⟨_, rfl, low_gt hS5, (MapKept.heap_alloc _ _).1, box3_far (low_b hS5) (below_box _ _)⟩
        | exact ⟨_, rfl, HG.out, num_six HT.out q, low_six (low_b hS5) HG.out _ _ _ _ _ _⟩
  case rest =>
    obtain ⟨g, rfl, hg, hT, hR⟩ := hcut
    have H3 := Lib.hid hR
    obtain ⟨t0, t1, t2, t3, t4, t5⟩ := num_cells hT
    clear hT hR H2
    go_wp2_with (go_at_call 20; refine (hcq _).mono ?_; rintro e w12 ⟨rfl, hb⟩; have H5 := Lib.hid (show DoB3 w a b w12 from box3_far H3.out hb); clear hb; obtain ⟨f0, f1, f2, f3, f4, f5⟩ := num_free H5.out.2.2.1; obtain ⟨z0, z1, z2, z3, z4, z5⟩ := num_cells H5.out.2.2.1)
    have HD := Lib.hid (doB3_out H5.out r)
    generalize World.setCell _ _ _ = W3 at HD ⊢
    clear f0 f1 f2 f3 f4 f5 z0 z1 z2 z3 z4 z5
    obtain ⟨z0, z1, z2, z3, z4, z5⟩ := num_cells HD.out.1
    exact bodyPost_ret (v := .tuple #[numV r, .bool true]) (by unfold numV; simp [results, Try.results7, go_sem, z0, z1, z2, z3, z4, z5]) rfl ⟨rfl, HD.out.2⟩
end Go.Proofs.Ytogadmlnmcojpaa
