/-
  Proved here: what Drop of the program's storage does. Conditions: as each lemma says.
-/
import Derived.Test.YtijhoiheieighaaLmX
import Derived.LoopTactic
import Derived.Deep.RegionWith
namespace Go.Proofs.Ytijhoiheieighaa
open Go.RowKit

/-- The bytes while they move: the slots from k on, up to j, have those of the next. -/
def mvS (zs : List Int) (s k j : Nat) : List Int := (List.range zs.length).map fun t => if k ≤ t / s ∧ t / s < j then zs.getD (t + s) 0 else zs.getD t 0
theorem mvS_length (zs : List Int) (s k j : Nat) : (mvS zs s k j).length = zs.length := by simp [mvS]
theorem mvS_get {zs : List Int} {s k j t : Nat} (ht : t < zs.length) : (mvS zs s k j).getD t 0 = if k ≤ t / s ∧ t / s < j then zs.getD (t + s) 0 else zs.getD t 0 := by
  unfold mvS
  rw [range_get ht]
theorem mvS_start (zs : List Int) (s k : Nat) : mvS zs s k k = zs := by
  refine getD_ext (mvS_length _ _ _ _) fun t ht => ?_
  rw [mvS_length] at ht
  rw [mvS_get ht, if_neg (by omega)]
theorem mvS_step {zs : List Int} {s n L k j : Nat} (hd : Dim s n L) (hz : zs.length = L) (hk : k ≤ j) (hj : j + 1 < n) : setL (mvS zs s k j) (j * s) (slotL (mvS zs s k j) s (j + 1)) = mvS zs s k (j + 1) := by
  have h1 := hd.at hj
  have h2 := hd.at (show j < n by omega)
  have hs := hd.s0
  have hl : (slotL (mvS zs s k j) s (j + 1)).length = s := slotL_length (by rw [mvS_length]; exact hz) h1
  refine getD_ext (by rw [setL_length, mvS_length, mvS_length]) fun t ht => ?_
  rw [setL_length, mvS_length] at ht
  rw [setL_get _ _ _ _ (by rw [hl, mvS_length, hz]; exact h2), hl, mvS_get ht, mvS_get ht]
  by_cases e : j * s ≤ t ∧ t < j * s + s
  · have e2 := (div_iff hs).2 e
    have e3 : (j + 1) * s = j * s + s := by rw [Nat.add_mul, Nat.one_mul]
    have e4 : ((j + 1) * s + (t - j * s)) / s = j + 1 := place_div (by omega)
    rw [if_pos e, slotL_get (by omega), mvS_get (by omega), e4, if_neg (by omega), if_pos (by omega), e3, show j * s + s + (t - j * s) = t + s by omega]
  · have e2 : t / s ≠ j := fun e3 => e ((div_iff hs).1 e3)
    rw [if_neg e]
    by_cases e3 : k ≤ t / s ∧ t / s < j
    · rw [if_pos e3, if_pos (by omega)]
    · rw [if_neg e3, if_neg (by omega)]
theorem mvS_end {zs : List Int} {s k q : Nat} (hk : k ≤ q) : zeroS (mvS zs s k q) s q = dropS zs s k (q + 1) := by
  refine getD_ext (by rw [zeroS_length, mvS_length, dropS_length]) fun t ht => ?_
  rw [zeroS_length, mvS_length] at ht
  unfold zeroS dropS
  rw [range_get (by rw [mvS_length]; exact ht), range_get ht, mvS_get ht]
  by_cases e1 : t / s = q
  · rw [if_pos e1, if_neg (by omega), if_neg (by omega), if_pos (by omega)]
  · rw [if_neg e1]
    by_cases e2 : t / s < k
    · rw [if_pos e2, if_neg (by omega)]
    · rw [if_neg e2]
      by_cases e3 : t / s + 1 < q + 1
      · rw [if_pos e3, if_pos (by omega)]
      · rw [if_neg e3, if_neg (by omega), if_neg (by omega)]
section
variable {w w' : World} {h A G C : Nat} {v : Value} {s n L : Nat} {os : List Ob} {zs : List Int}
/-- A slot's bytes over those of the one ahead of it. -/
theorem Lm.moves {W : World} {j : Nat} (H : Lm W h A G C v s n L os zs) (hd : Dim s n L) (hj : j + 1 < n) (ty : TypeId) :
    (Builtin.copy_ #[36, 36] ty #[.slice (some ⟨G, j * s, none⟩) s s, .slice (some ⟨G, (j + 1) * s, none⟩) s s]).run Try.prog W = .ok (goInt s) (W.setCells G (j * s) (u8s (slotL zs s (j + 1)))) := by
  have h1 := hd.at hj
  have h2 := hd.at (show j < n by omega)
  have hl : (slotL zs s (j + 1)).length = s := slotL_length H.ar.len h1
  have hcell : ∀ t, t < L → W.cell? ⟨G, t, none⟩ = some (.int .u8 (zs.getD t 0)) := fun t ht => by
    have := H.ar.row t ht
    rwa [Nat.zero_add] at this
  have hrow : RowAt W G ((j + 1) * s) s (slotL zs s (j + 1)) := fun t ht => by
    rw [slotL_get ht]
    exact hcell _ (by omega)
  have hrun := run_copy_cells (P := Try.prog) W 36 36 ty 5 G (j * s) s s ⟨G, (j + 1) * s, none⟩ s s (u8s (slotL zs s (j + 1))) Try.underlying36 (by kernel_rfl) (by rw [u8s_length, hl]; simp)
    (fun t u hu => by rw [add_lit]; exact u8s_cells hl hrow t u hu) (fun t ht => by rw [u8s_length, hl] at ht; rw [hcell _ (by omega)]; rfl) (fun t _ => H.ar.free _) u8s_one
  rw [u8s_length, hl] at hrun
  exact hrun
theorem Lm.moved {W : World} {k j : Nat} (H : Lm W h A G C v s n L os (mvS zs s k j)) (hd : Dim s n L) (hk : k ≤ j) (hj : j + 1 < n) : Lm (W.setCells G (j * s) (u8s (slotL (mvS zs s k j) s (j + 1)))) h A G C v s n L os (mvS zs s k (j + 1)) := by
  have h1 := hd.at hj
  have h2 := hd.at (show j < n by omega)
  have hz := H.ar.len
  rw [mvS_length] at hz
  rw [← mvS_step hd hz hk hj]
  exact H.puts hd (by rw [slotL_length (by rw [mvS_length]; exact hz) h1]; exact h2)
/-- One object less. -/
theorem Lm.erased {W w2 : World} {g q cap k : Nat} (H : Lm W h A G C (.slice (some ⟨g, 0, none⟩) (q + 1) cap) s n L os zs) (hd : Dim s n L) (hq : os.length = q + 1) (hk : k < q + 1) (ho : ObSl w2 (.slice (some ⟨g, 0, none⟩) q cap) (os.eraseIdx k)) (ht : Turned (fun b => b = g) W w2) :
    Lm (w2.setCell ⟨h, 1, none⟩ (.slice (some ⟨g, 0, none⟩) q cap)) h A G C (.slice (some ⟨g, 0, none⟩) q cap) s n L (os.eraseIdx k) zs := by
  have hlt := H.lt
  have hhl := hlt h (.inl rfl)
  have hAl := hlt A (.inr (.inl rfl))
  have hGl := hlt G (.inr (.inr (.inl rfl)))
  have vn : ∀ b, some b ≠ (Value.slice (some ⟨g, 0, none⟩) (q + 1) cap).ownBlock → b ≠ g := fun b hb e => hb (by rw [e]; rfl)
  have eh := ht.block h hhl (vn h H.vh)
  have eA := (Below.heap_setCell w2 ⟨h, 1, none⟩ (.slice (some ⟨g, 0, none⟩) q cap) A (fun e => H.hA e.symm)).trans (ht.block A hAl (vn A H.vA))
  have eG := (Below.heap_setCell w2 ⟨h, 1, none⟩ (.slice (some ⟨g, 0, none⟩) q cap) G (fun e => H.hG hd e.symm)).trans (ht.block G hGl (vn G H.vG))
  refine ⟨?_, World.cell?_setCell_same _ _ _ ((World.cell?_of_block (w := W) (a := ⟨h, 1, none⟩) eh).trans H.h1), fun j => ?_, ho.kept (fun b hb => Below.heap_setCell _ _ _ _ (fun e => H.vh (by simp only at e; rw [← e]; exact hb))), H.ar.kept eA eG (block_lt_of_eq hGl eG), H.c0, ?_, H.vh, H.vA, H.vG⟩
  · rw [World.cell?_setCell_other _ _ _ _ (by intro e; injection e with _ e _; cases e)]
    exact (World.cell?_of_block (w := W) (a := ⟨h, 0, none⟩) eh).trans H.h0
  · rw [World.frozen?_setCell]
    exact (World.frozen?_of_block (w := W) (a := ⟨h, j, none⟩) eh).trans (H.fh j)
  · rw [List.length_eraseIdx, hq, if_pos hk]
    have := H.le
    omega
theorem lm_drop_not {x y : Int} (H : Lm w h A G C v s n L os zs) (hd : Dim s n L) (hf : findO os (x, y) = none) :
    Calls Try.prog 13 #[.pointer (some ⟨h, 0, none⟩), .agg #[.int .i64 x, .int .i64 y]] w (fun e w' => e = .returned (.int .i64 2) ∧ Below w.heap.size w w') := by
  have H1 := Lib.hid (H.stay (boxL w (.cells #[.int .i64 x, .int .i64 y] 32)))
  have HB := Lib.hid (boxL w (.cells #[.int .i64 x, .int .i64 y] 32))
  have HD := Lib.hid hd
  have HF := Lib.hid (findL_no hf)
  have hx : (w.alloc (.cells #[.int .i64 x, .int .i64 y] 32)).cell? ⟨w.heap.size, 0, none⟩ = some (.int .i64 x) := by simp [go_sem]
  have hy : (w.alloc (.cells #[.int .i64 x, .int .i64 y] 32)).cell? ⟨w.heap.size, 1, none⟩ = some (.int .i64 y) := by simp [go_sem]
  clear H hf hd
  go_enter Try.func13, Try.ntmps13
  go_wp2_with (go_at_call 25; refine (lm_slotOf H1.out HD.out x y).mono ?_; rintro e w1 ⟨he, hb1⟩; rw [HF.out] at he; subst he; have HB1 := Lib.hid hb1; clear hb1)
  go_ret
  exact ⟨rfl, HB.out.trans (HB1.out.mono HB.out.size)⟩
set_option maxHeartbeats 1000000 in
theorem lm_drop_had {x y : Int} {k : Nat} {D : Nat → Prop} (H : Lm w h A G C v s n L os zs) (hd : Dim s n L) (hD : ∀ b, D b ↔ LmS h A G v b) (hf : findO os (x, y) = some k) :
    Calls Try.prog 13 #[.pointer (some ⟨h, 0, none⟩), .agg #[.int .i64 x, .int .i64 y]] w (DropQ (LP s n L) D h (0, os.eraseIdx k, dropS zs s k os.length) w) := by
  obtain ⟨hkl, -, -⟩ := findO_some hf
  obtain ⟨q, hq⟩ : ∃ q, os.length = q + 1 := ⟨os.length - 1, by omega⟩
  obtain ⟨g, cap, rfl⟩ : ∃ g cap, v = .slice (some ⟨g, 0, none⟩) (q + 1) cap := by
    rcases H.ks.2 with ⟨-, h0⟩ | ⟨g, cap, cur, hv, -⟩
    · omega
    · exact ⟨g, cap, by rw [hv, hq]⟩
  have H1 := Lib.hid (H.stay (boxL w (.cells #[.int .i64 x, .int .i64 y] 32)))
  have HB := Lib.hid (boxL w (.cells #[.int .i64 x, .int .i64 y] 32))
  have HLT := Lib.hid H.lt
  have HD := Lib.hid hd
  have HDD := Lib.hid hD
  have HF := Lib.hid (findL_some hf)
  have hqn : q < n := by have := H.le; omega
  have hn1 := hd.n1
  have hkq : k ≤ q := by omega
  have HKQ := Lib.hid hkq
  have HQ := Lib.hid hq
  have hx : (w.alloc (.cells #[.int .i64 x, .int .i64 y] 32)).cell? ⟨w.heap.size, 0, none⟩ = some (.int .i64 x) := by simp [go_sem]
  have hy : (w.alloc (.cells #[.int .i64 x, .int .i64 y] 32)).cell? ⟨w.heap.size, 1, none⟩ = some (.int .i64 y) := by simp [go_sem]
  rw [hq]
  clear H hf hd hD hq hkl
  unfold DropQ
  go_enter Try.func13, Try.ntmps13
  go_wp2_with (first
    | (go_at_call 25; refine (lm_slotOf H1.out HD.out x y).mono ?_; rintro e w1 ⟨he, hb1⟩; rw [HF.out] at he; subst he; have HB1 := Lib.hid hb1; have H2 := Lib.hid (H1.out.stay hb1); have c1 := H2.out.h1; clear hb1)
    | (go_at_call 26; refine (delete_obs H2.out.ks HQ.out (by have := HKQ.out; omega) (by omega)).mono ?_; rintro e w2 ⟨rfl, ho2, ht2, hz2⟩; rw [Nat.add_sub_cancel] at ho2 ⊢; have HO2 := Lib.hid ho2; have HT2 := Lib.hid ht2; have HZ2 := Lib.hid hz2; have d1 : w2.cell? ⟨h, 1, none⟩ = some (.slice (some ⟨g, 0, none⟩) (q + 1) cap) := (World.cell?_of_block (w := w1) (a := ⟨h, 1, none⟩) (ht2.block h (H2.out.lt h (.inl rfl)) (fun e => H2.out.vh (by rw [e]; rfl)))).trans H2.out.h1; have d2 : w2.frozen? ⟨h, 1, none⟩ = false := (World.frozen?_of_block (w := w1) (a := ⟨h, 1, none⟩) (ht2.block h (H2.out.lt h (.inl rfl)) (fun e => H2.out.vh (by rw [e]; rfl)))).trans (H2.out.fh 1); clear ho2 ht2 hz2))
  have hE := H2.out.erased HD.out HQ.out (by have := HKQ.out; omega) HO2.out HT2.out
  have hw1 := HB.out.trans (HB1.out.mono HB.out.size)
  have hT3 : Turned D w (w2.setCell ⟨h, 1, none⟩ (.slice (some ⟨g, 0, none⟩) q cap)) := by
    refine ((Turned.of hw1).trans (HT2.out.more (T := D) (fun b e => (HDD.out b).2 (.inr (.inr (.inr (by rw [e]; rfl))))))).set (a := ⟨h, 1, none⟩) (.inl ((HDD.out h).2 (.inl rfl))) _
  have HGD := Lib.hid ((HDD.out G).2 (.inr (.inr (.inl rfl))))
  obtain ⟨W3, hW3⟩ : ∃ W3, w2.setCell ⟨h, 1, none⟩ (.slice (some ⟨g, 0, none⟩) q cap) = W3 := ⟨_, rfl⟩
  rw [hW3] at hE hT3 ⊢
  have HE := Lib.hid hE
  have HT3 := Lib.hid hT3
  clear hE hT3 hW3 hw1 hx hy c1 d1 d2
  go_loopw [7] (fun v wr => ∃ j : Nat, k ≤ j ∧ j ≤ q ∧ v = .int .i64 j ∧ Lm wr h A G C (.slice (some ⟨g, 0, none⟩) q cap) s n L (os.eraseIdx k) (mvS zs s k j) ∧ Turned D w wr) (fun v _ => q - (intOf v).toNat)
  case atStart => exact ⟨k, Nat.le_refl _, hkq, rfl, by rw [mvS_start]; exact HE.out, HT3.out⟩
  case round =>
    obtain ⟨j, hkj, hjq, rfl, hL, hT⟩ := hrel
    have HL := Lib.hid hL
    have HT := Lib.hid hT
    clear hL hT
    by_cases hlt : j < q
    · have hj1 : j + 1 < n := by omega
      have HJ := Lib.hid hj1
      have e1 : ((j + 1 : Nat) : Int) = (j : Int) + 1 := by omega
      have E1 := Lib.hid e1
      clear e1
      go_wp2_with (first
        | (go_at_call 27; have hc := lm_bytesOf (q := j + 1) HL1.out HD.out HJ.out; rw [E1.out] at hc; refine hc.mono ?_; rintro e w5 ⟨rfl, hb5⟩; have HL2 := Lib.hid (HL1.out.stay hb5); have HT2' := Lib.hid (HTT1.out.trans (Turned.of (S := D) hb5)); have hcp := HL2.out.moves HD.out HJ.out; clear hb5 hc)
        | (go_at_call 27; refine (lm_bytesOf (q := j) HL.out HD.out (by have := HJ.out; omega)).mono ?_; rintro e w4 ⟨rfl, hb4⟩; have HL1 := Lib.hid (HL.out.stay hb4); have HTT1 := Lib.hid (HT.out.trans (Turned.of (S := D) hb4)); clear hb4))
      go_roundw
      case rel =>
        have q1 : k ≤ j + 1 := by omega
        have q2 : j + 1 ≤ q := by omega
        have q3 := HL2.out.moved HD.out hkj HJ.out
        have q4 := turned_setCells G HGD.out (u8s (slotL (mvS zs s k j) s (j + 1))) (j * s) HT2'.out
        exact ⟨j + 1, q1, q2, by go_num, q3, q4⟩
      case measure => simp [intOf]; omega
    · obtain rfl : j = q := by omega
      have HJN := Lib.hid hqn
      go_wp2_with (go_at_call 27; refine (lm_bytesOf (q := j) HL.out HD.out HJN.out).mono ?_; rintro e w4 ⟨rfl, hb4⟩; have HL1 := Lib.hid (HL.out.stay hb4); have HTT1 := Lib.hid (HT.out.trans (Turned.of (S := D) hb4)); have hcl := HL1.out.clears HD.out HJN.out; clear hb4)
      go_ret
      have hfin := HL1.out.cleared HD.out HJN.out
      rw [mvS_end hkj] at hfin
      refine ⟨LmS h A G (.slice (some ⟨g, 0, none⟩) j cap), G, rfl, ⟨A, C, _, hfin, fun b => Iff.rfl⟩, turned_setCells G HGD.out _ _ HTT1.out, fun b hb => .inl ((HDD.out b).2 hb)⟩
/-- Drop, in one. -/
theorem lm_drop {D : Nat → Prop} {o : Ob} (h1 : LP s n L w D h G os zs) (hd : Dim s n L) : Calls Try.prog 13 #[.pointer (some ⟨h, 0, none⟩), obV o] w (DropQ (LP s n L) D h (dropR os zs s o) w) := by
  obtain ⟨A, C, v, H, hD⟩ := h1
  obtain ⟨x, y⟩ := o
  unfold dropR
  cases hf : findO os (x, y) with
  | some i => exact lm_drop_had H hd hD hf
  | none => exact (lm_drop_not H hd hf).mono fun e w' ⟨he, hb⟩ => ⟨D, G, he, ⟨A, C, v, H.stay hb, hD⟩, Turned.of hb, fun _ hb => .inl hb⟩
end
end Go.Proofs.Ytijhoiheieighaa
