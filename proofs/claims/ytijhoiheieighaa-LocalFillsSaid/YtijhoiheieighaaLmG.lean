/-
  Proved here: what Get of the program's storage does. Conditions: as each lemma says.
-/
import Derived.Test.YtijhoiheieighaaLmF
import Derived.Test.YtijhoiheieighaaLoD
import Derived.RegionTactic
import Derived.BigRegion
namespace Go.Proofs.Ytijhoiheieighaa
open Go.RowKit

attribute [local go_sem ↓] append_veil
theorem setL_length : ∀ (vz zs : List Int) (p : Nat), (setL zs p vz).length = zs.length
  | [], _, _ => rfl
  | v :: r, zs, p => by
    show (setL (zs.set p v) (p + 1) r).length = _
    rw [setL_length r, List.length_set]
theorem setL_get : ∀ (vz zs : List Int) (p j : Nat), p + vz.length ≤ zs.length → (setL zs p vz).getD j 0 = if p ≤ j ∧ j < p + vz.length then vz.getD (j - p) 0 else zs.getD j 0
  | [], zs, p, j, _ => by rw [if_neg (by simp only [List.length_nil]; omega)]; rfl
  | v :: r, zs, p, j, h => by
    simp only [List.length_cons] at h ⊢
    show (setL (zs.set p v) (p + 1) r).getD j 0 = _
    rw [setL_get r _ _ _ (by rw [List.length_set]; omega), set_get (by omega)]
    by_cases e : p = j
    · subst e
      rw [if_neg (by omega), if_pos rfl, if_pos (by omega), Nat.sub_self]
      rfl
    · by_cases e2 : p + 1 ≤ j ∧ j < p + 1 + r.length
      · rw [if_pos e2, if_pos (by omega), show j - p = j - (p + 1) + 1 by omega]
        rfl
      · rw [if_neg e2, if_neg e, if_neg (by omega)]
theorem getD_ext {a b : List Int} (hl : a.length = b.length) (h : ∀ j, j < a.length → a.getD j 0 = b.getD j 0) : a = b := by
  refine List.ext_getElem hl fun j h1 h2 => ?_
  have := h j h1
  rw [List.getD_eq_getElem?_getD, List.getD_eq_getElem?_getD, List.getElem?_eq_getElem h1, List.getElem?_eq_getElem h2] at this
  simpa using this
theorem div_iff {s k j : Nat} (hs : 1 ≤ s) : j / s = k ↔ k * s ≤ j ∧ j < k * s + s := by
  constructor
  · rintro rfl
    have h1 := Nat.div_add_mod j s
    have h2 := Nat.mod_lt j (show 0 < s by omega)
    rw [Nat.mul_comm] at h1
    omega
  · rintro ⟨h1, h2⟩
    obtain ⟨t, rfl⟩ : ∃ t, j = k * s + t := ⟨j - k * s, by omega⟩
    exact place_div (by omega)
theorem setL_zeros {s n L k : Nat} {zs : List Int} (hd : Dim s n L) (hz : zs.length = L) (hk : k < n) : setL zs (k * s) (zeros s) = zeroS zs s k := by
  have hat := hd.at hk
  refine getD_ext (by rw [setL_length, zeroS_length]) fun j hj => ?_
  rw [setL_length] at hj
  rw [setL_get _ _ _ _ (by rw [zeros_length]; omega), zeros_length]
  unfold zeroS
  rw [range_get hj]
  by_cases e : k * s ≤ j ∧ j < k * s + s
  · rw [if_pos e, if_pos ((div_iff hd.s0).2 e), zeros_get]
  · rw [if_neg e, if_neg (fun e2 => e ((div_iff hd.s0).1 e2))]
theorem u8s_zeros (s : Nat) : u8s (zeros s) = List.replicate s (Value.int .u8 0) := by simp [u8s, zeros]
theorem zero_u8 (w : World) : (zeroValue 5).run Try.prog w = .ok (.int .u8 0) w := by kernel_rfl
theorem obs_add {w : World} {H : Nat} {v : Value} {os : List Ob} (x y : Int) (hH : H < w.heap.size) (hs : ObSl w v os) (hne : some H ≠ v.ownBlock) (hl : os.length ≤ 15) :
    ∃ a2 c2 W3, (appendV #[43, 43] 43 #[v, .slice (some ⟨w.heap.size, 0, none⟩) 1 1]).run Try.prog (w.alloc (.cells #[.int .i64 x, .int .i64 y] 32)).drew = .ok (.slice a2 (os.length + 1) c2) W3 ∧
      W3.heap[H]? = w.heap[H]? ∧ ObSl W3 (.slice a2 (os.length + 1) c2) (os ++ [(x, y)]) ∧ (∀ b, b < w.heap.size → some b ≠ v.ownBlock → W3.heap[b]? = w.heap[b]?) ∧ W3.os = w.os ∧ W3.tape = w.tape ∧ W3.output = w.output ∧ w.heap.size ≤ W3.heap.size ∧
      (∀ b, some b = (Value.slice a2 (os.length + 1) c2).ownBlock → some b = v.ownBlock ∨ w.heap.size ≤ b) := by
  obtain ⟨i0, hi0, hz0, hz1, hz2⟩ := info_parts key_info
  have hown : (w.alloc (.cells #[.int .i64 x, .int .i64 y] 32)).drew.ownsRow 0 32 2 v os.length (flatO os) := World.ownsRow.alloc hs _
  have hn : (w.alloc (.cells #[.int .i64 x, .int .i64 y] 32)).heap[w.heap.size]? = some (.cells #[.int .i64 x, .int .i64 y] 32 (0, 0)) := heap_alloc_new w _
  obtain ⟨v', W3, hrun, hown3, hgr, -, hat⟩ := run_append_own_at (P := Try.prog) (w.alloc (.cells #[.int .i64 x, .int .i64 y] 32)).drew 0 43 43 32 i0 _ 2 16 Try.underlying43 hi0 hz0 hz1 hz2 rfl (by omega) v os.length (flatO os) hown
    ⟨w.heap.size, 0, none⟩ 1 1 [.int .i64 x, .int .i64 y] rfl (fun j u hu => by
      rw [add_lit, Nat.zero_add]
      show (w.alloc (.cells #[.int .i64 x, .int .i64 y] 32)).cell? ⟨w.heap.size, j, none⟩ = some u
      unfold World.cell?
      simp only [hn]
      simpa using hu) (fun u hu => by simp at hu; rcases hu with rfl | rfl <;> rfl) (by unfold maxLen; omega) (by omega) (by omega)
  rw [show flatO os ++ [Value.int .i64 x, .int .i64 y] = flatO (os ++ [(x, y)]) from (flatO_snoc os (x, y)).symm] at hown3
  obtain ⟨a2, c2, rfl⟩ : ∃ a2 c2, v' = .slice a2 (os.length + 1) c2 := by
    rcases hown3.2 with ⟨_, h0⟩ | ⟨g, cap, cur, hv, -⟩
    · omega
    · exact ⟨_, cap, hv⟩
  have hold : ∀ b, b < w.heap.size → some b ≠ v.ownBlock → W3.heap[b]? = w.heap[b]? := fun b hb hn2 => by
    rw [hgr.block b (by simp; omega) hn2]
    exact Below.heap_alloc _ _ _ hb
  have hz : w.heap.size + 1 ≤ W3.heap.size := by have := hgr.size; simpa using this
  refine ⟨a2, c2, W3, hrun, hold H hH hne, ?_, hold, hgr.os, hgr.tape, hgr.output, by omega, fun b hb => ?_⟩
  · unfold ObSl
    rw [List.length_append]
    exact hown3
  · rcases hat with h1 | h1
    · exact .inl (by rw [← h1]; exact hb)
    · rw [h1] at hb
      simp at hb
      exact .inr (by omega)
section
variable {w w' : World} {h A G C : Nat} {v : Value} {s n L : Nat} {os : List Ob} {zs : List Int}
/-- A slot's bytes cleared. -/
theorem Lm.clears {W : World} {k : Nat} (H : Lm W h A G C v s n L os zs) (hd : Dim s n L) (hk : k < n) (ty : TypeId) :
    (Builtin.clear_ #[36] ty #[.slice (some ⟨G, k * s, none⟩) s s]).run Try.prog W = .ok (.tuple #[]) (W.setCells G (k * s) (List.replicate s (.int .u8 0))) := by
  have hat := hd.at hk
  refine Lib.run_clear_slice W _ _ ty _ Try.underlying36 zero_u8 rfl rfl G (k * s) s s hd.s0 (fun j hj => ?_) (fun j hj => H.ar.free _)
  have := H.ar.row (k * s + j) (by omega)
  rw [Nat.zero_add] at this
  rw [this]
  rfl
theorem Lm.cleared {W : World} {k : Nat} (H : Lm W h A G C v s n L os zs) (hd : Dim s n L) (hk : k < n) : Lm (W.setCells G (k * s) (List.replicate s (.int .u8 0))) h A G C v s n L os (zeroS zs s k) := by
  have hat := hd.at hk
  rw [← u8s_zeros, ← setL_zeros hd H.ar.len hk]
  exact H.puts hd (by rw [zeros_length]; exact hat)
/-- One object more. -/
theorem Lm.pushed {W W3 : World} {a2 : Option Addr} {c2 : Nat} {x y : Int} (H : Lm W h A G C v s n L os zs) (hd : Dim s n L) (hroom : os.length < n) (ho : ObSl W3 (.slice a2 (os.length + 1) c2) (os ++ [(x, y)])) (hold : ∀ b, b < W.heap.size → some b ≠ v.ownBlock → W3.heap[b]? = W.heap[b]?)
    (hv : ∀ b, some b = (Value.slice a2 (os.length + 1) c2).ownBlock → some b = v.ownBlock ∨ W.heap.size ≤ b) : Lm (W3.setCell ⟨h, 1, none⟩ (.slice a2 (os.length + 1) c2)) h A G C (.slice a2 (os.length + 1) c2) s n L (os ++ [(x, y)]) zs := by
  have hlt := H.lt
  have hvn : ∀ b, b < W.heap.size → some b ≠ v.ownBlock → some b ≠ (Value.slice a2 (os.length + 1) c2).ownBlock := fun b hb hn e => by
    rcases hv b e with h1 | h1
    · exact hn h1
    · omega
  have hhl := hlt h (.inl rfl)
  have hAl := hlt A (.inr (.inl rfl))
  have hGl := hlt G (.inr (.inr (.inl rfl)))
  have eh := hold h hhl H.vh
  have eb : ∀ b, b < W.heap.size → b ≠ h → some b ≠ v.ownBlock → (W3.setCell ⟨h, 1, none⟩ (.slice a2 (os.length + 1) c2)).heap[b]? = W.heap[b]? := fun b h1 h2 h3 => (Below.heap_setCell _ _ _ _ h2).trans (hold b h1 h3)
  have eA := eb A hAl (fun e => H.hA e.symm) H.vA
  have eG := eb G hGl (fun e => H.hG hd e.symm) H.vG
  have hho := hvn h hhl H.vh
  refine ⟨?_, World.cell?_setCell_same _ _ _ ((World.cell?_of_block (w := W) (a := ⟨h, 1, none⟩) eh).trans H.h1), fun j => ?_, ho.kept (fun b hb => Below.heap_setCell _ _ _ _ (fun e => hho (by simp only at e; rw [← e]; exact hb))), H.ar.kept eA eG (block_lt_of_eq hGl eG), H.c0, by rw [List.length_append]; exact hroom, hho, hvn A hAl H.vA, hvn G hGl H.vG⟩
  · rw [World.cell?_setCell_other _ _ _ _ (by intro e; injection e with _ e _; cases e)]
    exact (World.cell?_of_block (w := W) (a := ⟨h, 0, none⟩) eh).trans H.h0
  · rw [World.frozen?_setCell]
    exact (World.frozen?_of_block (w := W) (a := ⟨h, j, none⟩) eh).trans (H.fh j)
theorem boxL (w : World) (o : Obj) : Below w.heap.size w (w.alloc o) := (Below.refl _ _).alloc (Nat.le_refl _) _
theorem findL_some {o : Ob} {i : Nat} (h : findO os o = some i) : findV os o = (i : Int) := by unfold findV; rw [h]
theorem findL_no {o : Ob} (h : findO os o = none) : findV os o = -1 := by unfold findV; rw [h]
theorem lm_get_had {x y : Int} {i : Nat} (c : Bool) (H : Lm w h A G C v s n L os zs) (hd : Dim s n L) (hf : findO os (x, y) = some i) :
    Calls Try.prog 17 #[.pointer (some ⟨h, 0, none⟩), .agg #[.int .i64 x, .int .i64 y], .bool c] w (fun e w' => e = .returned (.tuple #[.int .i64 i, .int .i64 0]) ∧ Below w.heap.size w w') := by
  have H1 := Lib.hid (H.stay (boxL w (.cells #[.int .i64 x, .int .i64 y] 32)))
  have HB := Lib.hid (boxL w (.cells #[.int .i64 x, .int .i64 y] 32))
  have HD := Lib.hid hd
  have HF := Lib.hid (findL_some hf)
  have hx : (w.alloc (.cells #[.int .i64 x, .int .i64 y] 32)).cell? ⟨w.heap.size, 0, none⟩ = some (.int .i64 x) := by simp [go_sem]
  have hy : (w.alloc (.cells #[.int .i64 x, .int .i64 y] 32)).cell? ⟨w.heap.size, 1, none⟩ = some (.int .i64 y) := by simp [go_sem]
  clear H hf hd
  go_enter Try.func17, Try.ntmps17
  go_wp2_with (go_at_call 25; refine (lm_slotOf H1.out HD.out x y).mono ?_; rintro e w1 ⟨he, hb1⟩; rw [HF.out] at he; subst he; have HB1 := Lib.hid hb1; clear hb1)
  go_ret2
  exact ⟨rfl, HB.out.trans (HB1.out.mono HB.out.size)⟩
theorem lm_get_not {x y : Int} (H : Lm w h A G C v s n L os zs) (hd : Dim s n L) (hf : findO os (x, y) = none) :
    Calls Try.prog 17 #[.pointer (some ⟨h, 0, none⟩), .agg #[.int .i64 x, .int .i64 y], .bool false] w (fun e w' => e = .returned (.tuple #[.int .i64 0, .int .i64 2]) ∧ Below w.heap.size w w') := by
  obtain ⟨a, c, rfl, -⟩ := H.ks.shape
  have H1 := Lib.hid (H.stay (boxL w (.cells #[.int .i64 x, .int .i64 y] 32)))
  have HB := Lib.hid (boxL w (.cells #[.int .i64 x, .int .i64 y] 32))
  have HD := Lib.hid hd
  have HF := Lib.hid (findL_no hf)
  have hx : (w.alloc (.cells #[.int .i64 x, .int .i64 y] 32)).cell? ⟨w.heap.size, 0, none⟩ = some (.int .i64 x) := by simp [go_sem]
  have hy : (w.alloc (.cells #[.int .i64 x, .int .i64 y] 32)).cell? ⟨w.heap.size, 1, none⟩ = some (.int .i64 y) := by simp [go_sem]
  clear H hf hd
  go_enter Try.func17, Try.ntmps17
  go_wp2_with (go_at_call 25; refine (lm_slotOf H1.out HD.out x y).mono ?_; rintro e w1 ⟨he, hb1⟩; rw [HF.out] at he; subst he; have HB1 := Lib.hid hb1; have c1 := (H1.out.stay hb1).h1; clear hb1)
  go_ret2
  exact ⟨rfl, HB.out.trans (HB1.out.mono HB.out.size)⟩
theorem lm_get_full {x y : Int} (H : Lm w h A G C v s n L os zs) (hd : Dim s n L) (hf : findO os (x, y) = none) (hfull : os.length = n) :
    Calls Try.prog 17 #[.pointer (some ⟨h, 0, none⟩), .agg #[.int .i64 x, .int .i64 y], .bool true] w (fun e w' => e = .returned (.tuple #[.int .i64 0, .int .i64 28]) ∧ Below w.heap.size w w') := by
  obtain ⟨a, c, rfl, -⟩ := H.ks.shape
  have H1 := Lib.hid (H.stay (boxL w (.cells #[.int .i64 x, .int .i64 y] 32)))
  have HB := Lib.hid (boxL w (.cells #[.int .i64 x, .int .i64 y] 32))
  have HD := Lib.hid hd
  have HF := Lib.hid (findL_no hf)
  have HFU := Lib.hid hfull
  have hx : (w.alloc (.cells #[.int .i64 x, .int .i64 y] 32)).cell? ⟨w.heap.size, 0, none⟩ = some (.int .i64 x) := by simp [go_sem]
  have hy : (w.alloc (.cells #[.int .i64 x, .int .i64 y] 32)).cell? ⟨w.heap.size, 1, none⟩ = some (.int .i64 y) := by simp [go_sem]
  clear H hf hd hfull
  go_enter Try.func17, Try.ntmps17
  go_wp2_with (first
    | (go_at_call 25; refine (lm_slotOf H1.out HD.out x y).mono ?_; rintro e w1 ⟨he, hb1⟩; rw [HF.out] at he; subst he; have HB1 := Lib.hid hb1; have H2 := Lib.hid (H1.out.stay hb1); have c1 := H2.out.h1; have c0 := H2.out.h0; rw [HFU.out] at c1; clear hb1)
    | (go_at_call 30; refine (arr_len _ _ _ H2.out.ar.c1).mono ?_; rintro e w2 ⟨rfl, rfl⟩))
  go_ret2
  exact ⟨rfl, HB.out.trans (HB1.out.mono HB.out.size)⟩
set_option maxHeartbeats 1000000 in
theorem lm_get_new {x y : Int} {D : Nat → Prop} (H : Lm w h A G C v s n L os zs) (hd : Dim s n L) (hD : ∀ b, D b ↔ LmS h A G v b) (hf : findO os (x, y) = none) (hroom : os.length < n) :
    Calls Try.prog 17 #[.pointer (some ⟨h, 0, none⟩), .agg #[.int .i64 x, .int .i64 y], .bool true] w (GetQ (LP s n L) D h G (os.length, 0, os ++ [(x, y)], zeroS zs s os.length) w) := by
  obtain ⟨a, c, rfl, -⟩ := H.ks.shape
  have H1 := Lib.hid (H.stay (boxL w (.cells #[.int .i64 x, .int .i64 y] 32)))
  have HB := Lib.hid (boxL w (.cells #[.int .i64 x, .int .i64 y] 32))
  have HLT := Lib.hid H.lt
  have HD := Lib.hid hd
  have HDD := Lib.hid hD
  have HF := Lib.hid (findL_no hf)
  have hne : ((os.length : Int) == (n : Int)) = false := by simp; omega
  obtain ⟨k, hk⟩ : ∃ k, os.length = k := ⟨_, rfl⟩
  have HK := Lib.hid hk
  rw [hk] at H1 hroom hne ⊢
  have n1 := hd.n1
  have hx : (w.alloc (.cells #[.int .i64 x, .int .i64 y] 32)).cell? ⟨w.heap.size, 0, none⟩ = some (.int .i64 x) := by simp [go_sem]
  have hy : (w.alloc (.cells #[.int .i64 x, .int .i64 y] 32)).cell? ⟨w.heap.size, 1, none⟩ = some (.int .i64 y) := by simp [go_sem]
  have hz0 : (w.alloc (.cells #[.int .i64 x, .int .i64 y] 32)).heap.size = w.heap.size + 1 := by simp
  have HXY := Lib.hid (And.intro hx (And.intro hy hz0))
  have HRM := Lib.hid hroom
  clear H hf hd hD hk hz0
  unfold GetQ
  go_enter Try.func17, Try.ntmps17
  go_wp2_with (first
    | (go_at_call 25; refine (lm_slotOf H1.out HD.out x y).mono ?_; rintro e w1 ⟨he, hb1⟩; rw [HF.out] at he; subst he; have HB1 := Lib.hid hb1; have H2 := Lib.hid (H1.out.stay hb1); have c1 := H2.out.h1; have c0 := H2.out.h0; clear hb1)
    | (go_at_call 30; refine (arr_len _ _ _ H2.out.ar.c1).mono ?_; rintro e w2 ⟨rfl, rfl⟩)
    | (go_at_call 27; refine (lm_bytesOf H2.out HD.out HRM.out).mono ?_; rintro e w3 ⟨rfl, hb3⟩; have HB3 := Lib.hid hb3; have H3 := Lib.hid (H2.out.stay hb3); have hcl := H3.out.clears HD.out HRM.out; clear hb3))
  obtain ⟨W2, hW2⟩ : ∃ W2, w3.setCells G (k * s) (List.replicate s (Value.int .u8 0)) = W2 := ⟨_, rfl⟩
  have H4 := H3.out.cleared HD.out HRM.out
  have hw1 := (HB.out.trans (HB1.out.mono HB.out.size)).trans (HB3.out.mono (HB.out.trans (HB1.out.mono HB.out.size)).size)
  have hDG : D G := (HDD.out G).2 (.inr (.inr (.inl rfl)))
  have hT2 : Turned D w W2 := by rw [← hW2]; exact turned_setCells G hDG _ _ (Turned.of hw1)
  have hGl := HLT.out G (.inr (.inr (.inl rfl)))
  have hx2 : W2.cell? ⟨w.heap.size, 0, none⟩ = some (.int .i64 x) ∧ W2.cell? ⟨w.heap.size, 1, none⟩ = some (.int .i64 y) := by
    obtain ⟨g1, g2, g3⟩ := HXY.out
    have hb2 := HB1.out.trans (HB3.out.mono HB1.out.size)
    rw [g3] at hb2
    have e : ∀ j, W2.cell? ⟨w.heap.size, j, none⟩ = w3.cell? ⟨w.heap.size, j, none⟩ := fun j => by
      rw [← hW2]
      exact World.cell?_setCells_out _ _ _ _ _ (fun e _ => by simp only at e; omega)
    exact ⟨(e 0).trans ((hb2.cell (p := ⟨w.heap.size, 0, none⟩) (by show w.heap.size < _; omega)).trans g1), (e 1).trans ((hb2.cell (p := ⟨w.heap.size, 1, none⟩) (by show w.heap.size < _; omega)).trans g2)⟩
  rw [hW2] at H4 ⊢
  have hhl : h < W2.heap.size := H4.lt h (.inl rfl)
  have hwW : w.heap.size ≤ W2.heap.size := hT2.size
  obtain ⟨x1, x2⟩ := hx2
  obtain ⟨a2, c2, W3, hrun, hH3, ho3, hold3, hos3, htp3, hou3, hsz3, hv3⟩ := obs_add x y hhl H4.ks H4.vh (by have := HK.out; omega)
  have hP := H4.pushed HD.out (by rw [HK.out]; exact HRM.out) ho3 hold3 hv3
  have q1 := H4.h1
  have q2 : (W2.alloc (.cells #[.int .i64 x, .int .i64 y] 32)).cell? ⟨h, 1, none⟩ = some (.slice a k c) := by rw [World.cell?_alloc_lt _ _ _ hhl]; exact q1
  have q3 : W3.cell? ⟨h, 1, none⟩ = some (.slice a k c) := (World.cell?_of_block (w := W2) (a := ⟨h, 1, none⟩) hH3).trans q1
  have q4 : W3.frozen? ⟨h, 1, none⟩ = false := (World.frozen?_of_block (w := W2) (a := ⟨h, 1, none⟩) hH3).trans (H4.fh 1)
  rw [HK.out] at hrun hP hv3
  have hT3 : Turned D w (W3.setCell ⟨h, 1, none⟩ (.slice a2 (k + 1) c2)) := by
    refine (hT2.trans ⟨hos3, htp3, hou3, hsz3, fun b hb hn => hold3 b hb (fun e => hn ?_)⟩).set (a := ⟨h, 1, none⟩) (.inl ((HDD.out h).2 (.inl rfl))) _
    rw [HDD.out b]
    exact .inr (.inr (.inr (by rw [HK.out]; exact e)))
  have HP := Lib.hid hP
  have HT3 := Lib.hid hT3
  have HV3 := Lib.hid hv3
  have HWW := Lib.hid hwW
  clear H4 hw1 hT2 hP hT3 hv3 hold3 ho3 hH3 hos3 htp3 hou3 hsz3 hcl c1 c0 hx hy hW2 hDG hGl hwW
  go_region
  go_wp2
  go_ret2
  refine ⟨LmS h A G (.slice a2 (k + 1) c2), rfl, ⟨A, C, _, HP.out, fun b => Iff.rfl⟩, HT3.out, ?_⟩
  rintro b (h1 | h1 | h1 | h1)
  · exact .inl ((HDD.out b).2 (.inl h1))
  · exact .inl ((HDD.out b).2 (.inr (.inl h1)))
  · exact .inl ((HDD.out b).2 (.inr (.inr (.inl h1))))
  · rcases HV3.out b h1 with h2 | h2
    · exact .inl ((HDD.out b).2 (.inr (.inr (.inr (by rw [HK.out]; exact h2)))))
    · exact .inr (Nat.le_trans HWW.out h2)
theorem lmget_same {e : Ending} {D : Nat → Prop} {x k : Int} (H : Lm w h A G C v s n L os zs) (hD : ∀ b, D b ↔ LmS h A G v b) (he : e = .returned (.tuple #[.int .i64 k, .int .i64 x])) (hb : Below w.heap.size w w') : GetQ (LP s n L) D h G (k, x, os, zs) w e w' :=
  ⟨D, he, ⟨A, C, v, H.stay hb, hD⟩, Turned.of hb, fun _ hb => .inl hb⟩
/-- Get, in one. -/
theorem lm_get {D : Nat → Prop} {o : Ob} {c : Bool} (h1 : LP s n L w D h G os zs) (hd : Dim s n L) : Calls Try.prog 17 #[.pointer (some ⟨h, 0, none⟩), obV o, .bool c] w (GetQ (LP s n L) D h G (getR os zs s n o c) w) := by
  obtain ⟨A, C, v, H, hD⟩ := h1
  obtain ⟨x, y⟩ := o
  unfold getR
  cases hf : findO os (x, y) with
  | some i => exact (lm_get_had c H hd hf).mono fun e w' ⟨he, hb⟩ => lmget_same H hD he hb
  | none =>
    simp only
    cases c with
    | false =>
      rw [if_pos rfl]
      exact (lm_get_not H hd hf).mono fun e w' ⟨he, hb⟩ => lmget_same H hD he hb
    | true =>
      rw [if_neg (by simp)]
      by_cases hl : os.length = n
      · rw [if_pos hl]
        exact (lm_get_full H hd hf hl).mono fun e w' ⟨he, hb⟩ => lmget_same H hD he hb
      · rw [if_neg hl]
        exact lm_get_new H hd hD hf (by have := H.le; omega)
end
end Go.Proofs.Ytijhoiheieighaa
