/-
  Proved here: Get of the document's storages, walked. Conditions: as each says.
-/
import Derived.Test.YtijhoiheieighaaLoG
namespace Go.Proofs.Ytijhoiheieighaa
open Go.RowKit

attribute [local go_sem ↓] append_veil
section
variable {H R B cap s n L : Nat} {kv : Value} {gs : Nat → Nat} {os : List Ob} {zs : List Int}
/-- A slot's bytes are a new row of zeros. -/
theorem Lf.zeroed {W : World} {k : Nat} (h : Lf W H R B cap s n L kv gs os zs) (hd : Dim s n L) (_hk : k < n) : Lf ((W.alloc (.cells (u8s (zeros s)).toArray 5)).setCell ⟨B, k, none⟩ (.slice (some ⟨W.heap.size, 0, none⟩) s s)) H R B cap s n L kv (fun j => if j = k then W.heap.size else gs j) os (zeroS zs s k) := by
  have hlt := h.lt hd
  have h2 := h.stay hd ((Below.refl W.heap.size W).alloc (Nat.le_refl _) (.cells (u8s (zeros s)).toArray 5))
  have hnew : (W.alloc (.cells (u8s (zeros s)).toArray 5)).heap[W.heap.size]? = some (.cells (u8s (zeros s)).toArray 5 (0, 0)) := heap_alloc_new W _
  generalize hW2 : W.alloc (.cells (u8s (zeros s)).toArray 5) = W2 at h2 hnew ⊢
  have hBl : B < W.heap.size := hlt B (.inr (.inr (.inl rfl)))
  have eb : ∀ b, b ≠ B → (W2.setCell ⟨B, k, none⟩ (.slice (some ⟨W.heap.size, 0, none⟩) s s)).heap[b]? = W2.heap[b]? := fun b hb => Below.heap_setCell _ _ _ _ hb
  have eH := eb H h.HB
  have eR := eb R h.RB
  have enew := (eb W.heap.size (by omega)).trans hnew
  have hgl : ∀ j, j < n → gs j < W.heap.size := fun j hj => hlt (gs j) (.inr (.inr (.inr (.inr ⟨j, hj, rfl⟩))))
  have hgB : ∀ j, j < n → gs j ≠ B := fun j hj e => h.rf.neB j hj e
  refine ⟨(World.cell?_of_block (w := W2) (a := ⟨H, 0, none⟩) eH).trans h2.h0, (World.cell?_of_block (w := W2) (a := ⟨H, 1, none⟩) eH).trans h2.h1, fun j => (World.frozen?_of_block (w := W2) (a := ⟨H, j, none⟩) eH).trans (h2.fH j), h2.ks.kept (fun b hb => eb b (fun e => h.kB (by rw [← e]; exact hb))), h.hk, h.kR, h.kB, fun j hj => ?_, h.le, ⟨(World.cell?_of_block (w := W2) (a := ⟨R, 0, none⟩) eR).trans h2.rf.r0, (World.cell?_of_block (w := W2) (a := ⟨R, 1, none⟩) eR).trans h2.rf.r1, fun j hj => ?_, fun i j hi hj => ?_, fun i j hi => ?_, by rw [zeroS_length]; exact h.rf.len, fun i j hi hj e => ?_, fun j hj => ?_, fun j hj => ?_⟩, h.HR, h.HB, fun j hj => ?_, h.RB, fun j => (World.frozen?_of_block (w := W2) (a := ⟨R, j, none⟩) eR).trans (h2.fR j), fun j => by rw [World.frozen?_setCell]; exact h2.fB j⟩
  · by_cases e : j = k
    · simp only [if_pos e]
      intro e2
      have := h.ks.lt _ e2
      omega
    · simp only [if_neg e]; exact h.kg j hj
  · rw [cell_set (h2.rf.rows j hj)]
    by_cases e : k = j
    · subst e; simp
    · rw [if_neg e, if_neg (fun e2 => e e2.symm)]
  · rw [zeroS_get hd h.rf.len hi hj]
    by_cases e : i = k
    · simp only [if_pos e]
      unfold World.cell?
      simp only [enew]
      simp [u8s, zeros, hj]
    · simp only [if_neg e]
      exact (World.cell?_of_block (w := W2) (a := ⟨gs i, j, none⟩) (eb _ (hgB i hi))).trans (h2.rf.row i j hi hj)
  · by_cases e : i = k
    · simp only [if_pos e]
      unfold World.frozen?
      simp only [enew]
      simp
    · simp only [if_neg e]
      exact (World.frozen?_of_block (w := W2) (a := ⟨gs i, j, none⟩) (eb _ (hgB i hi))).trans (h2.rf.free i j hi)
  · by_cases e1 : i = k <;> by_cases e2 : j = k
    · omega
    · simp only [if_pos e1, if_neg e2] at e
      have := hgl j hj; omega
    · simp only [if_neg e1, if_pos e2] at e
      have := hgl i hi; omega
    · simp only [if_neg e1, if_neg e2] at e
      exact h.rf.inj i j hi hj e
  · by_cases e : j = k
    · simp only [if_pos e]
      have := h.rf.ltR; omega
    · simp only [if_neg e]; exact h.rf.neR j hj
  · by_cases e : j = k
    · simp only [if_pos e]; omega
    · simp only [if_neg e]; exact h.rf.neB j hj
  · by_cases e : j = k
    · simp only [if_pos e]
      have := hlt H (.inl rfl); omega
    · simp only [if_neg e]; exact h.Hg j hj
/-- One object more. -/
theorem Lf.pushed {W W3 : World} {a2 : Option Addr} {c2 : Nat} {x y : Int} (h : Lf W H R B cap s n L kv gs os zs) (hd : Dim s n L) (hroom : os.length < n) (hH : W3.heap[H]? = W.heap[H]?) (ho : ObSl W3 (.slice a2 (os.length + 1) c2) (os ++ [(x, y)])) (hold : ∀ b, b < W.heap.size → some b ≠ kv.ownBlock → W3.heap[b]? = W.heap[b]?)
    (hv : ∀ b, some b = (Value.slice a2 (os.length + 1) c2).ownBlock → some b = kv.ownBlock ∨ W.heap.size ≤ b) : Lf (W3.setCell ⟨H, 0, none⟩ (.slice a2 (os.length + 1) c2)) H R B cap s n L (.slice a2 (os.length + 1) c2) gs (os ++ [(x, y)]) zs := by
  have hlt := h.lt hd
  have hvn : ∀ b, b < W.heap.size → some b ≠ kv.ownBlock → some b ≠ (Value.slice a2 (os.length + 1) c2).ownBlock := fun b hb hn e => by
    rcases hv b e with h1 | h1
    · exact hn h1
    · omega
  have eb : ∀ b, b < W.heap.size → b ≠ H → some b ≠ kv.ownBlock → (W3.setCell ⟨H, 0, none⟩ (.slice a2 (os.length + 1) c2)).heap[b]? = W.heap[b]? := fun b h1 h2 h3 => (Below.heap_setCell _ _ _ _ h2).trans (hold b h1 h3)
  have hHl := hlt H (.inl rfl)
  have eR := eb R (hlt R (.inr (.inl rfl))) (fun e => h.HR e.symm) h.kR
  have eB := eb B (hlt B (.inr (.inr (.inl rfl)))) (fun e => h.HB e.symm) h.kB
  have eg : ∀ k, k < n → (W3.setCell ⟨H, 0, none⟩ (.slice a2 (os.length + 1) c2)).heap[gs k]? = W.heap[gs k]? := fun k hk => eb _ (hlt _ (.inr (.inr (.inr (.inr ⟨k, hk, rfl⟩))))) (h.Hg k hk) (h.kg k hk)
  have hHo := hvn H hHl h.hk
  refine ⟨World.cell?_setCell_same _ _ _ ((World.cell?_of_block (w := W) (a := ⟨H, 0, none⟩) hH).trans h.h0), ?_, fun j => ?_, ho.kept (fun b hb => Below.heap_setCell _ _ _ _ (fun e => hHo (by simp only at e; rw [← e]; exact hb))), hHo, hvn R (hlt R (.inr (.inl rfl))) h.kR, hvn B (hlt B (.inr (.inr (.inl rfl)))) h.kB, fun k hk => hvn _ (hlt _ (.inr (.inr (.inr (.inr ⟨k, hk, rfl⟩))))) (h.kg k hk), by rw [List.length_append]; exact hroom,
    h.rf.kept eR eB eg, h.HR, h.HB, h.Hg, h.RB, fun j => (World.frozen?_of_block (w := W) (a := ⟨R, j, none⟩) eR).trans (h.fR j), fun j => (World.frozen?_of_block (w := W) (a := ⟨B, j, none⟩) eB).trans (h.fB j)⟩
  · rw [World.cell?_setCell_other _ _ _ _ (by intro e; injection e with _ e _; cases e)]
    exact (World.cell?_of_block (w := W) (a := ⟨H, 1, none⟩) hH).trans h.h1
  · rw [World.frozen?_setCell]
    exact (World.frozen?_of_block (w := W) (a := ⟨H, j, none⟩) hH).trans (h.fH j)
theorem get_same {w w' : World} {e : Ending} {S : Nat → Prop} {x : Int} {k : Int} (h : Lf w H R B cap s n L kv gs os zs) (hd : Dim s n L) (hS : ∀ b, S b ↔ LoS H R B n kv gs b) (he : e = .returned (.tuple #[.int .i64 k, .int .i64 x])) (hb : Below w.heap.size w w') : GetP (PD s n L) S H (k, x, os, zs) w e w' :=
  ⟨S, he, ⟨R, B, cap, kv, gs, h.stay hd hb, hS⟩, Turned.of hb, fun _ hb => .inl hb⟩
theorem findV_some {o : Ob} {i : Nat} (h : findO os o = some i) : findV os o = (i : Int) := by unfold findV; rw [h]
theorem findV_no {o : Ob} (h : findO os o = none) : findV os o = -1 := by unfold findV; rw [h]
theorem box_below (w : World) (o : Obj) : Below w.heap.size w (w.alloc o) := (Below.refl _ _).alloc (Nat.le_refl _) _
theorem lo_get_had {w : World} {x y : Int} {i : Nat} (c : Bool) (h : Lf w H R B cap s n L kv gs os zs) (hd : Dim s n L) (hf : findO os (x, y) = some i) :
    Calls Try.prog 18 #[.pointer (some ⟨H, 0, none⟩), .agg #[.int .i64 x, .int .i64 y], .bool c] w (fun e w' => e = .returned (.tuple #[.int .i64 i, .int .i64 0]) ∧ Below w.heap.size w w') := by
  have h1 := Lib.hid (h.stay hd (box_below w (.cells #[.int .i64 x, .int .i64 y] 32)))
  have HB := Lib.hid (box_below w (.cells #[.int .i64 x, .int .i64 y] 32))
  have hn1 := hd.n1
  have HF := Lib.hid (findV_some hf)
  clear h hf
  go_enter Try.func18, Try.ntmps18
  go_wp2_with (go_at_call 28; refine (lo_find h1.out (by omega) x y).mono ?_; rintro e w1 ⟨he, hb1⟩; rw [HF.out] at he; subst he; have HB1 := Lib.hid hb1; clear hb1)
  go_ret2
  exact ⟨rfl, HB.out.trans (HB1.out.mono HB.out.size)⟩
theorem lo_get_not {w : World} {x y : Int} (h : Lf w H R B cap s n L kv gs os zs) (hd : Dim s n L) (hf : findO os (x, y) = none) :
    Calls Try.prog 18 #[.pointer (some ⟨H, 0, none⟩), .agg #[.int .i64 x, .int .i64 y], .bool false] w (fun e w' => e = .returned (.tuple #[.int .i64 0, .int .i64 2]) ∧ Below w.heap.size w w') := by
  have h1 := Lib.hid (h.stay hd (box_below w (.cells #[.int .i64 x, .int .i64 y] 32)))
  have HB := Lib.hid (box_below w (.cells #[.int .i64 x, .int .i64 y] 32))
  have hn1 := hd.n1
  have HF := Lib.hid (findV_no hf)
  clear h hf
  go_enter Try.func18, Try.ntmps18
  go_wp2_with (go_at_call 28; refine (lo_find h1.out (by omega) x y).mono ?_; rintro e w1 ⟨he, hb1⟩; rw [HF.out] at he; subst he; have HB1 := Lib.hid hb1; clear hb1)
  go_ret2
  exact ⟨rfl, HB.out.trans (HB1.out.mono HB.out.size)⟩
theorem lo_get_full {w : World} {x y : Int} (h : Lf w H R B cap s n L kv gs os zs) (hd : Dim s n L) (hf : findO os (x, y) = none) (hfull : os.length = n) :
    Calls Try.prog 18 #[.pointer (some ⟨H, 0, none⟩), .agg #[.int .i64 x, .int .i64 y], .bool true] w (fun e w' => e = .returned (.tuple #[.int .i64 0, .int .i64 28]) ∧ Below w.heap.size w w') := by
  obtain ⟨a, c, rfl, -⟩ := h.ks.shape
  have h1 := Lib.hid (h.stay hd (box_below w (.cells #[.int .i64 x, .int .i64 y] 32)))
  have HB := Lib.hid (box_below w (.cells #[.int .i64 x, .int .i64 y] 32))
  have hn1 := hd.n1
  have HF := Lib.hid (findV_no hf)
  have HFU := Lib.hid hfull
  have HD := Lib.hid hd
  clear h hf hfull hd
  go_enter Try.func18, Try.ntmps18
  go_wp2_with (go_at_call 28; refine (lo_find h1.out (by omega) x y).mono ?_; rintro e w1 ⟨he, hb1⟩; rw [HF.out] at he; subst he; have HB1 := Lib.hid hb1; have H1 := Lib.hid (h1.out.stay HD.out hb1); have c0 := H1.out.h0; have c1 := H1.out.h1; have r1 := H1.out.rf.r1; rw [HFU.out] at c0; clear hb1)
  go_quiet (fail)
  go_wp2
  go_ret2
  exact ⟨rfl, bdrewN (HB.out.trans (HB1.out.mono HB.out.size)) _⟩
set_option maxHeartbeats 1000000 in
theorem lo_get_new {w : World} {x y : Int} {S : Nat → Prop} (h : Lf w H R B cap s n L kv gs os zs) (hd : Dim s n L) (hS : ∀ b, S b ↔ LoS H R B n kv gs b) (hf : findO os (x, y) = none) (hroom : os.length < n) :
    Calls Try.prog 18 #[.pointer (some ⟨H, 0, none⟩), .agg #[.int .i64 x, .int .i64 y], .bool true] w (GetP (PD s n L) S H (os.length, 0, os ++ [(x, y)], zeroS zs s os.length) w) := by
  obtain ⟨a, c, rfl, -⟩ := h.ks.shape
  have h1 := Lib.hid (h.stay hd (box_below w (.cells #[.int .i64 x, .int .i64 y] 32)))
  have HB := Lib.hid (box_below w (.cells #[.int .i64 x, .int .i64 y] 32))
  have hx : (w.alloc (.cells #[.int .i64 x, .int .i64 y] 32)).cell? ⟨w.heap.size, 0, none⟩ = some (.int .i64 x) := by simp [go_sem]
  have hy : (w.alloc (.cells #[.int .i64 x, .int .i64 y] 32)).cell? ⟨w.heap.size, 1, none⟩ = some (.int .i64 y) := by simp [go_sem]
  have hz0 : (w.alloc (.cells #[.int .i64 x, .int .i64 y] 32)).heap.size = w.heap.size + 1 := by simp
  have HXY := Lib.hid (And.intro hx (And.intro hy hz0))
  have hn1 := hd.n1
  have hs1 := hd.s1
  have HF := Lib.hid (findV_no hf)
  have HD := Lib.hid hd
  have hne : ((os.length : Int) == (n : Int)) = false := by simp; omega
  obtain ⟨k, hk⟩ : ∃ k, os.length = k := ⟨_, rfl⟩
  have HK := Lib.hid hk
  have HSS := Lib.hid hS
  have HLT := Lib.hid (h.lt hd)
  have hmk := make_any s (by omega)
  rw [hk] at h1 hroom hne ⊢
  clear h hf hd hx hy hk hz0 hS
  unfold GetP
  go_enter Try.func18, Try.ntmps18
  go_wp2_with (go_at_call 28; refine (lo_find h1.out (by omega) x y).mono ?_; rintro e w1 ⟨he, hb1⟩; rw [HF.out] at he; subst he; have HB1 := Lib.hid hb1; have H1 := Lib.hid (h1.out.stay HD.out hb1); have c0 := H1.out.h0; have c1 := H1.out.h1; have r1 := H1.out.rf.r1; clear hb1)
  go_quiet (fail)
  go_wp2
  obtain ⟨W, hW⟩ : ∃ W, w1.drewN nq = W := ⟨_, rfl⟩
  have hbW : Below w1.heap.size w1 W := by rw [← hW]; exact bdrewN (Below.refl _ _) _
  have HW := Lib.hid (H1.out.stay HD.out hbW)
  have HWA := Lib.hid (HW.out.stay HD.out (box_below W (.cells (u8s (zeros s)).toArray 5)))
  rw [hW]
  clear c0 c1 r1
  have q1 := HW.out.h1
  have q0 := HW.out.rf.r0
  have q2 := HW.out.rf.r1
  have p1 := HWA.out.h1
  have p0 := HWA.out.rf.r0
  have p2 := HWA.out.rf.r1
  have pB := HWA.out.rf.rows k hroom
  have pf := HWA.out.fB k
  have HBW := Lib.hid ((HB.out.trans (HB1.out.mono HB.out.size)).trans (hbW.mono (HB.out.trans (HB1.out.mono HB.out.size)).size))
  have hxy : W.cell? ⟨w.heap.size, 0, none⟩ = some (.int .i64 x) ∧ W.cell? ⟨w.heap.size, 1, none⟩ = some (.int .i64 y) := by
    obtain ⟨g1, g2, g3⟩ := HXY.out
    have hb2 := HB1.out.trans (hbW.mono HB1.out.size)
    rw [g3] at hb2
    exact ⟨(hb2.cell (p := ⟨w.heap.size, 0, none⟩) (by show w.heap.size < _; omega)).trans g1, (hb2.cell (p := ⟨w.heap.size, 1, none⟩) (by show w.heap.size < _; omega)).trans g2⟩
  have HXW := Lib.hid hxy
  clear hbW hxy
  go_region
  obtain ⟨W2, hW2⟩ : ∃ W2, ((W.alloc (.cells (u8s (zeros s)).toArray 5)).setCell ⟨B, k, none⟩ (.slice (some ⟨W.heap.size, 0, none⟩) s s)).drew = W2 := ⟨_, rfl⟩
  have hZ := (HW.out.zeroed HD.out hroom).stay HD.out (Below.refl _ _).drew
  rw [hW2] at hZ
  have hBl := HLT.out B (.inr (.inr (.inl rfl)))
  have hT2 : Turned S w W2 := by
    rw [← hW2]
    exact ((Turned.of HBW.out).trans (Turned.of (box_below W _))).set (a := ⟨B, k, none⟩) (.inl ((HSS.out B).2 (.inr (.inr (.inl rfl))))) _ |>.drew
  have hz2 : W.heap.size ≤ W2.heap.size := by rw [← hW2]; show W.heap.size ≤ ((W.alloc _).setCell _ _).heap.size; simp [World.setCell]
  have hwW := HBW.out.size
  have hx2 : W2.cell? ⟨w.heap.size, 0, none⟩ = some (.int .i64 x) ∧ W2.cell? ⟨w.heap.size, 1, none⟩ = some (.int .i64 y) := by
    have hwl : w.heap.size < W.heap.size := by
      have := HB1.out.size
      obtain ⟨_, _, g3⟩ := HXY.out
      have h3 : W.heap.size = w1.heap.size := by rw [← hW]; rfl
      omega
    have e : ∀ j, W2.cell? ⟨w.heap.size, j, none⟩ = W.cell? ⟨w.heap.size, j, none⟩ := fun j => by
      rw [← hW2]
      show ((W.alloc _).setCell _ _).cell? _ = _
      rw [World.cell?_setCell_other _ _ _ _ (by intro e; injection e with e _ _; omega)]
      exact World.cell?_alloc_lt _ _ _ hwl
    exact ⟨(e 0).trans HXW.out.1, (e 1).trans HXW.out.2⟩
  obtain ⟨x1, x2⟩ := hx2
  obtain ⟨a2, c2, W3, hrun, hH3, ho3, hold3, hos3, htp3, hou3, hsz3, hv3⟩ := obs_push x y hZ.h0 hZ.ks hZ.hk (by have := HK.out; omega)
  have hP := hZ.pushed HD.out (by rw [HK.out]; exact hroom) hH3 ho3 hold3 hv3
  have c2' := hZ.h0
  have c3' : (W2.alloc (.cells #[.int .i64 x, .int .i64 y] 32)).cell? ⟨H, 0, none⟩ = some (.slice a k c) := by rw [World.cell?_alloc_lt _ _ _ (cell_block_lt hZ.h0)]; exact hZ.h0
  have c4' : W3.cell? ⟨H, 0, none⟩ = some (.slice a k c) := (World.cell?_of_block (w := W2) (a := ⟨H, 0, none⟩) hH3).trans hZ.h0
  have f4' : W3.frozen? ⟨H, 0, none⟩ = false := (World.frozen?_of_block (w := W2) (a := ⟨H, 0, none⟩) hH3).trans (hZ.fH 0)
  rw [HK.out] at hrun hP hv3
  have hT3 : Turned S w (W3.setCell ⟨H, 0, none⟩ (.slice a2 (k + 1) c2)) := by
    refine (hT2.trans ⟨hos3, htp3, hou3, hsz3, fun b hb hn => hold3 b hb (fun e => hn ?_)⟩).set (a := ⟨H, 0, none⟩) (.inl ((HSS.out H).2 (.inl rfl))) _
    rw [HSS.out b]
    exact .inr (.inr (.inr (.inl (by rw [HK.out]; exact e))))
  have HP := Lib.hid hP
  have HT3 := Lib.hid hT3
  have HV3 := Lib.hid hv3
  have HZS := Lib.hid hz2
  rw [hW2]
  clear hZ hT2 hP hT3 hv3 hold3 ho3 hH3 hos3 htp3 hou3 hsz3 q0 q1 q2 p0 p1 p2 pB pf hW2 hW hmk
  go_wp2
  go_region
  go_wp2
  go_ret2
  refine ⟨LoS H R B n (.slice a2 (k + 1) c2) (fun j => if j = k then W.heap.size else gs j), rfl, ⟨R, B, cap, _, _, HP.out, fun b => Iff.rfl⟩, HT3.out, ?_⟩
  rintro b (h1 | h1 | h1 | h1 | ⟨i, hi, h1⟩)
  · exact .inl ((HSS.out b).2 (.inl h1))
  · exact .inl ((HSS.out b).2 (.inr (.inl h1)))
  · exact .inl ((HSS.out b).2 (.inr (.inr (.inl h1))))
  · rcases HV3.out b h1 with h2 | h2
    · exact .inl ((HSS.out b).2 (.inr (.inr (.inr (.inl (by rw [HK.out]; exact h2))))))
    · exact .inr (Nat.le_trans hwW (Nat.le_trans HZS.out h2))
  · by_cases e : i = k
    · simp only [if_pos e] at h1
      exact .inr (by omega)
    · simp only [if_neg e] at h1
      exact .inl ((HSS.out b).2 (.inr (.inr (.inr (.inr ⟨i, hi, h1⟩)))))
/-- Get, in one. -/
theorem lo_get {w : World} {S : Nat → Prop} {o : Ob} {c : Bool} (h : PD s n L w S H os zs) (hd : Dim s n L) :
    Calls Try.prog 18 #[.pointer (some ⟨H, 0, none⟩), obV o, .bool c] w (GetP (PD s n L) S H (getR os zs s n o c) w) := by
  obtain ⟨R, B, cap, kv, gs, h, hS⟩ := h
  obtain ⟨x, y⟩ := o
  unfold getR
  cases hf : findO os (x, y) with
  | some i => exact (lo_get_had c h hd hf).mono fun e w' ⟨he, hb⟩ => get_same h hd hS he hb
  | none =>
    simp only
    cases c with
    | false =>
      rw [if_pos rfl]
      exact (lo_get_not h hd hf).mono fun e w' ⟨he, hb⟩ => get_same h hd hS he hb
    | true =>
      rw [if_neg (by simp)]
      by_cases hl : os.length = n
      · rw [if_pos hl]
        exact (lo_get_full h hd hf hl).mono fun e w' ⟨he, hb⟩ => get_same h hd hS he hb
      · rw [if_neg hl]
        exact lo_get_new h hd hS hf (by have := h.le; omega)
end
end Go.Proofs.Ytijhoiheieighaa
