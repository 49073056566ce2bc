/-
  Proved here: what Bytes of the program's maps tells. Conditions: as each lemma says.
-/
import Derived.Test.YtenjdgoammaiiaaHPwH
import Derived.Laws.AppendOwnNone
import Derived.Test.YtenjdgoammaiiaaHKn14
namespace Go.Proofs.Ytenjdgoammaiiaa
open Go.RowKit
set_option maxRecDepth 100000

/-- Bytes that may be appended. -/
inductive SrcAt (w : World) : Value → List Int → Prop
  | nil : SrcAt w (.slice none 0 0) []
  | row (g off n c : Nat) (zs : List Int) (hl : zs.length = n) (hr : RowAt w g off n zs) : SrcAt w (.slice (some ⟨g, off, none⟩) n c) zs
theorem src_own {w : World} {B : Nat} {v : Value} {zs : List Int} (h : w.ownsRow B 5 1 v zs.length (u8s zs)) : SrcAt w v zs := by
  rcases h.2 with ⟨rfl, h0⟩ | ⟨g, cap, cur, hv, -⟩
  · rw [List.eq_nil_of_length_eq_zero h0]
    exact .nil
  · subst hv
    refine .row g 0 zs.length cap zs rfl fun j hj => ?_
    rw [Nat.zero_add]
    refine own_cells h j _ ?_
    simp [u8s, List.getD_eq_getElem?_getD, List.getElem?_eq_getElem hj]
theorem wpList_append_src {w : World} {ops : Array Oper} {rest : List Oper} {o : Oper} {a : Act} {Q : Exit → Act → World → Prop} (hgd : o.guard = none) (s x : Operand) (ho : o.op = .call { callee := .builtin .append, args := #[s, x], argTypes := #[32, 32] })
    (base : Nat) (v : Value) (acc : List Int) (hs : a.eval s = v) (hown : w.ownsRow base 5 1 v acc.length (u8s acc)) (u : Value) (nw : List Int) (hx : a.eval x = u) (hu : SrcAt w u nw) (hl : acc.length + nw.length ≤ 100000) (hbase : base ≤ w.heap.size)
    (h : ∀ v' w', w'.ownsRow base 5 1 v' (acc ++ nw).length (u8s (acc ++ nw)) → w.grownBy w' v.ownBlock → wpList Try.prog ops Q rest (a.put o.dst v') w') : wpList Try.prog ops Q (o :: rest) a w := by
  obtain ⟨i0, hi0, hz0, hz1, hz2⟩ := info_parts u8_info
  cases hu with
  | nil => exact wpList_append_own_none hgd s x 32 ho base 5 i0 1 Try.underlying32 hi0 v acc.length (u8s acc) hs hown hx (h v w (by rw [List.append_nil]; exact hown) (World.grownBy.refl _ _))
  | row g off n c _ hl2 hr =>
    refine wpList_append_own_at w hgd s x 32 ho base 5 i0 _ 1 1 Try.underlying32 hi0 hz0 hz1 hz2 rfl (by omega) v acc.length _ hs hown ⟨g, off, none⟩ n c (u8s nw) hx (by rw [u8s_length, hl2, Nat.mul_one]) (fun j z hz => by rw [add_lit]; exact u8s_cells hl2 hr j z hz) u8s_one (by unfold maxLen; omega) (by omega) hbase ?_
    intro v1 w1 hown1 hgr _ _
    refine h v1 w1 ?_ hgr
    rw [List.length_append, hl2, u8s_append]
    exact hown1
theorem one_src (W : World) (y : Int) {G : Nat} (hG : G = W.heap.size) : SrcAt (W.alloc (.cells #[.int .u8 y] 5)) (.slice (some ⟨G, 0, none⟩) 1 1) [y] := by
  subst hG
  refine .row _ 0 1 1 [y] rfl fun j hj => ?_
  have hn : (W.alloc (.cells #[.int .u8 y] 5)).heap[W.heap.size]? = some (.cells #[.int .u8 y] 5 (0, 0)) := heap_alloc_new W _
  obtain rfl : j = 0 := by omega
  unfold World.cell?
  simp only [hn]
  rfl
theorem PdM.len {w : World} {S : Nat → Prop} {v : Value} {x : MSt} (h : PdM w S v x) : (headM x).length ≤ 150 ∧ x.zs.length ≤ 512 := by
  have ho := h.ok
  unfold headM
  rw [List.length_cons, List.length_append]
  cases h with
  | arr hd h hc hS => exact ⟨by simp [k1M, k2M], by have := h.len; have := hd.le; simp only [MSt.zs]; omega⟩
  | hash hd hk hk8 h hS =>
    have h1 := keysB_len ho
    refine ⟨?_, by have := h.ar.len; have := hd.le; simp only [MSt.zs]; omega⟩
    simp only [k1M, k2M, List.length_nil]
    exact Nat.le_trans (Nat.add_le_add_right (Nat.add_le_add_right (Nat.le_trans (h1 _) (Nat.mul_le_mul_right 9 hd.n1)) _) _) (by omega)
  | loc hd hk h hS =>
    refine ⟨?_, by have := h.ar.len; have := hd.le; simp only [MSt.zs]; omega⟩
    simp only [k1M, k2M, List.length_nil, obsB_len]
    have := h.le
    have := hd.n1
    omega
  | ring hS => exact ⟨by simp [k1M, k2M], by simp [MSt.zs]⟩
theorem bytesS_snoc {st : List MSt} {m : Nat} {x : MSt} (hm : m < st.length) (hx : st.getD m .ring = x) : bytesS (st.take (m + 1)) = bytesS (st.take m) ++ [(x.kind : Int) % 256] ++ (k1M x ++ k2M x) ++ x.zs := by
  rw [List.getD_eq_getElem?_getD, List.getElem?_eq_getElem hm] at hx
  simp only [Option.getD_some] at hx
  rw [List.take_succ_eq_append_getElem hm, bytesS, List.flatMap_append, ← bytesS, hx]
  simp [headM]
attribute [local go_sem] m_bytes_a m_bytes_h m_bytes_l
section
variable {w w' : World} {h : Nat} {a1 a2 : Option Addr} {c1 c2 : Nat} {pv : Nat → Value} {Ss : Nat → Nat → Prop} {st : List MSt} {D : Nat → Prop}
set_option maxHeartbeats 4000000 in
theorem pw_bytes (H : Pw w h a1 a2 c1 c2 pv Ss st) : Calls Try.prog 10 #[ptrV h] w (HoldQ (bytesS st) w) := by
  have HLEN := Lib.hid (bytesS_len (st := st) (fun m hm => (H.pd m hm).len))
  have HH := Lib.hid H
  have h4 := H.four
  obtain ⟨n, hn⟩ : ∃ n, st.length = n := ⟨_, rfl⟩
  have HN := Lib.hid hn
  have k0 := H.c0
  have hhl := cell_block_lt k0
  rw [hn] at k0 h4
  clear H hn
  unfold ptrV
  go_enter Try.func10, Try.ntmps10
  go_wp2
  go_loopw [3, 14] (fun b i wr => ∃ m : Nat, m ≤ n ∧ i = .int .i64 m ∧ wr.ownsRow w.heap.size 5 1 b (bytesS (st.take m)).length (u8s (bytesS (st.take m))) ∧ Below w.heap.size w wr) (fun _ i _ => n - (intOf i).toNat)
  case atStart => exact ⟨0, by omega, rfl, World.ownsRow_nil _ _ _ _, Below.refl _ _⟩
  case round =>
    obtain ⟨m, hm, rfl, hown, hb⟩ := hrel
    by_cases hlt : m < n
    · have hml : m < st.length := by rw [HN.out]; exact hlt
      obtain ⟨g1, g2, rfl, rfl, e0, e1, e2, e3, e4⟩ := HH.out.row m hml
      have hlt' := HH.out.lt
      have hg1 : g1 < w.heap.size := hlt' g1 (.inr (.inl ⟨by omega, rfl⟩))
      have hg2 : g2 < w.heap.size := hlt' g2 (.inr (.inr (.inl ⟨by omega, rfl⟩)))
      have hpd := HH.out.pd m hml
      have hlen := HLEN.out m (by omega)
      obtain ⟨hl1, hl2⟩ := hpd.len
      obtain ⟨x, hx⟩ : ∃ x, st.getD m .ring = x := ⟨_, rfl⟩
      obtain ⟨p, hp⟩ : ∃ p, pv m = p := ⟨_, rfl⟩
      have hnx := bytesS_snoc hml hx
      rw [hx] at e0 e1 e2 e3 hpd hl1 hl2
      rw [hp] at e4 hpd
      have hl1' : (k1M x ++ k2M x).length ≤ 150 := by unfold headM at hl1; rw [List.length_cons] at hl1; omega
      have d0 := (hb.cell (p := ⟨g1, m * 4, none⟩) hg1).trans e0
      have d1 := (hb.cell (p := ⟨g1, m * 4 + 1, none⟩) hg1).trans e1
      have d2 := (hb.cell (p := ⟨g1, m * 4 + 2, none⟩) hg1).trans e2
      have d3 := (hb.cell (p := ⟨g1, m * 4 + 3, none⟩) hg1).trans e3
      have HY : Hid (∀ W, Below w.heap.size w W → W.cell? ⟨h, 1, none⟩ = some (.slice (some ⟨g2, 0, none⟩) n c2) ∧ W.cell? ⟨g2, m, none⟩ = some p ∧ PdM W (Ss m) p x) := Lib.hid fun W hW => ⟨by rw [(hW.cell (p := ⟨h, 1, none⟩) hhl), HH.out.c1, HN.out], (hW.cell (p := ⟨g2, m, none⟩) hg2).trans e4, hpd.kept fun b hb2 => hW.block b (hpd.lt b hb2)⟩
      obtain ⟨acc, hacc⟩ : ∃ acc, bytesS (st.take m) = acc := ⟨_, rfl⟩
      rw [hacc] at hown hnx hlen
      have hal : acc.length ≤ 2648 := by omega
      obtain ⟨bo, hbo⟩ : ∃ bo : Obj, .cells #[.int .i64 x.kind, .int .i64 x.key, .int .i64 x.val, .int .i64 x.max] 47 = bo := ⟨_, rfl⟩
      have b0 : (wr.alloc (.cells #[.int .i64 x.kind, .int .i64 x.key, .int .i64 x.val, .int .i64 x.max] 47)).cell? ⟨wr.heap.size, 0, none⟩ = some (.int .i64 x.kind) := by simp [go_sem]
      have hb1 : Below w.heap.size w (wr.alloc (.cells #[.int .i64 x.kind, .int .i64 x.key, .int .i64 x.val, .int .i64 x.max] 47)) := hb.trans ((box_below wr _).mono hb.size)
      have ho1 := own5_below hown (box_below wr (.cells #[.int .i64 x.kind, .int .i64 x.key, .int .i64 x.val, .int .i64 x.max] 47))
      have HO1 := Lib.hid (own5_below ho1 (box_below _ (.cells #[.int .u8 ((x.kind : Int) % 256)] 5)))
      have HB1 := Lib.hid (hb1.trans ((box_below _ (.cells #[.int .u8 ((x.kind : Int) % 256)] 5)).mono hb1.size))
      have HL := Lib.hid (And.intro hl1' hl2)
      have HNX := Lib.hid hnx
      have HPD := Lib.hid hpd
      clear hbo hlt' hx hp hnx hacc hown hb hb1 ho1 e0 e1 e2 e3 e4 hl1 hl2 hl1' hpd hlen
      have hk1 : (acc ++ [(x.kind : Int) % 256]).length ≤ 2649 := by simp; omega
      have HK1 := Lib.hid hk1
      clear hk1
      go_upto_region 9 with (at_builtin; refine wpList_append_src rfl _ _ rfl w.heap.size _ acc rfl HO1.out _ [(x.kind : Int) % 256] rfl (one_src _ _ (by simp)) (by simp; omega) HB1.out.size ?_; intro v3 w3 hown hgr; have HO3 := Lib.hid hown; have HB3 := Lib.hid (HB1.out.grown hgr HB1.out.size (fun b hb => (own5_lt HO1.out b hb.symm).1)); obtain ⟨y1, y2, -⟩ := HY.out w3 HB3.out; clear hown hgr)
      have hpd := HPD.out
      clear HPD
      cases hpd with
      | @arr A G C s n' zs hd ha hc hS =>
        have HQ3 := Lib.hid ha
        have HDM := Lib.hid hd
        have HZL := Lib.hid ha.len
        obtain ⟨acc3, hacc3⟩ : ∃ acc3, acc ++ [(((MSt.arr s n' zs).kind : Nat) : Int) % 256] = acc3 := ⟨_, rfl⟩
        rw [hacc3] at HO3 HK1 HNX
        clear hd ha hc hS hacc3
        unfold ptrV
        have hk1 := HK1.out
        go_wp2_with (first
          | (go_at_call 23; refine (holders_any (HY.out w3 HB3.out).2.2).mono ?_; rintro e w4 ⟨u4, rfl, ho4, hb4⟩; have HS4 := Lib.hid (src_own ho4); have HO4 := Lib.hid (own5_below HO3.out hb4); have HB4 := Lib.hid (HB3.out.trans (hb4.mono HB3.out.size)); clear ho4 hb4)
          | (go_at_call 70; refine (arr_bytes _ _ _ _ _ _ zs _ HDM.out.pos (by have := HDM.out.le; omega) (HQ3.out.stay HB5.out)).mono ?_; rintro e w6 ⟨g6, c6, rfl, hf6⟩; have HS6 := Lib.hid (SrcAt.row g6 0 _ c6 _ HZL.out hf6.row); have HO6 := Lib.hid (own5_below HO5.out hf6.below); have HB6 := Lib.hid (HB5.out.trans (hf6.below.mono HB5.out.size)); clear hf6)
          | (at_builtin; refine wpList_append_src rfl _ _ rfl w.heap.size _ _ rfl HO6.out _ _ rfl HS6.out (by have := HL5.out; have := HL.out.2; simp only [MSt.zs] at this; omega) HB6.out.size ?_; intro v7 w7 hown hgr; have HO7 := Lib.hid hown; have HB7 := Lib.hid (HB6.out.grown hgr HB6.out.size (fun b hb => (own5_lt HO6.out b hb.symm).1)); clear hown hgr)
          | (at_builtin; refine wpList_append_src rfl _ _ rfl w.heap.size _ _ rfl HO4.out _ _ rfl HS4.out (by have := HL.out.1; omega) HB4.out.size ?_; intro v5 w5 hown hgr; have HO5 := Lib.hid hown; have HB5 := Lib.hid (HB4.out.grown hgr HB4.out.size (fun b hb => (own5_lt HO4.out b hb.symm).1)); have HL5 : Hid ((acc3 ++ (k1M (MSt.arr s n' zs) ++ k2M (MSt.arr s n' zs))).length ≤ 2800) := Lib.hid (by rw [List.length_append]; have := HL.out.1; omega); clear hown hgr))
        go_roundw
        case rel => exact ⟨m + 1, by omega, by go_num, by rw [HNX.out]; exact HO7.out, HB7.out⟩
        case measure => simp [intOf]; omega
      | @hash h2 A G C M v2 len l Dm key s n' ks zs hd hk hk8 HM hS =>
        have HQ3 := Lib.hid HM
        have HDM := Lib.hid hd
        have HZL := Lib.hid HM.ar.len
        obtain ⟨acc3, hacc3⟩ : ∃ acc3, acc ++ [(((MSt.hash key s n' ks zs).kind : Nat) : Int) % 256] = acc3 := ⟨_, rfl⟩
        rw [hacc3] at HO3 HK1 HNX
        clear hd hk hk8 HM hS hacc3
        unfold ptrV
        have hk1 := HK1.out
        go_wp2_with (first
          | (go_at_call 23; refine (holders_any (HY.out w3 HB3.out).2.2).mono ?_; rintro e w4 ⟨u4, rfl, ho4, hb4⟩; have HS4 := Lib.hid (src_own ho4); have HO4 := Lib.hid (own5_below HO3.out hb4); have HB4 := Lib.hid (HB3.out.trans (hb4.mono HB3.out.size)); clear ho4 hb4)
          | (go_at_call 109; refine (hm_bytes (HQ3.out.stay HB5.out) HDM.out).mono ?_; rintro e w6 ⟨g6, c6, rfl, hf6⟩; have HS6 := Lib.hid (SrcAt.row g6 0 _ c6 _ HZL.out hf6.row); have HO6 := Lib.hid (own5_below HO5.out hf6.below); have HB6 := Lib.hid (HB5.out.trans (hf6.below.mono HB5.out.size)); clear hf6)
          | (at_builtin; refine wpList_append_src rfl _ _ rfl w.heap.size _ _ rfl HO6.out _ _ rfl HS6.out (by have := HL5.out; have := HL.out.2; simp only [MSt.zs] at this; omega) HB6.out.size ?_; intro v7 w7 hown hgr; have HO7 := Lib.hid hown; have HB7 := Lib.hid (HB6.out.grown hgr HB6.out.size (fun b hb => (own5_lt HO6.out b hb.symm).1)); clear hown hgr)
          | (at_builtin; refine wpList_append_src rfl _ _ rfl w.heap.size _ _ rfl HO4.out _ _ rfl HS4.out (by have := HL.out.1; omega) HB4.out.size ?_; intro v5 w5 hown hgr; have HO5 := Lib.hid hown; have HB5 := Lib.hid (HB4.out.grown hgr HB4.out.size (fun b hb => (own5_lt HO4.out b hb.symm).1)); have HL5 : Hid ((acc3 ++ (k1M (MSt.hash key s n' ks zs) ++ k2M (MSt.hash key s n' ks zs))).length ≤ 2800) := Lib.hid (by rw [List.length_append]; have := HL.out.1; omega); clear hown hgr))
        go_roundw
        case rel => exact ⟨m + 1, by omega, by go_num, by rw [HNX.out]; exact HO7.out, HB7.out⟩
        case measure => simp [intOf]; omega
      | @loc h2 A G C v2 kd s n' os zs hd hk HM hS =>
        have HQ3 := Lib.hid HM
        have HDM := Lib.hid hd
        have HZL := Lib.hid HM.ar.len
        obtain ⟨acc3, hacc3⟩ : ∃ acc3, acc ++ [(((MSt.loc kd s n' os zs).kind : Nat) : Int) % 256] = acc3 := ⟨_, rfl⟩
        rw [hacc3] at HO3 HK1 HNX
        clear hd hk HM hS hacc3
        unfold ptrV
        have hk1 := HK1.out
        go_wp2_with (first
          | (go_at_call 23; refine (holders_any (HY.out w3 HB3.out).2.2).mono ?_; rintro e w4 ⟨u4, rfl, ho4, hb4⟩; have HS4 := Lib.hid (src_own ho4); have HO4 := Lib.hid (own5_below HO3.out hb4); have HB4 := Lib.hid (HB3.out.trans (hb4.mono HB3.out.size)); clear ho4 hb4)
          | (go_at_call 112; refine (lm_bytes (HQ3.out.stay HB5.out) HDM.out).mono ?_; rintro e w6 ⟨g6, c6, rfl, hf6⟩; have HS6 := Lib.hid (SrcAt.row g6 0 _ c6 _ HZL.out hf6.row); have HO6 := Lib.hid (own5_below HO5.out hf6.below); have HB6 := Lib.hid (HB5.out.trans (hf6.below.mono HB5.out.size)); clear hf6)
          | (at_builtin; refine wpList_append_src rfl _ _ rfl w.heap.size _ _ rfl HO6.out _ _ rfl HS6.out (by have := HL5.out; have := HL.out.2; simp only [MSt.zs] at this; omega) HB6.out.size ?_; intro v7 w7 hown hgr; have HO7 := Lib.hid hown; have HB7 := Lib.hid (HB6.out.grown hgr HB6.out.size (fun b hb => (own5_lt HO6.out b hb.symm).1)); clear hown hgr)
          | (at_builtin; refine wpList_append_src rfl _ _ rfl w.heap.size _ _ rfl HO4.out _ _ rfl HS4.out (by have := HL.out.1; omega) HB4.out.size ?_; intro v5 w5 hown hgr; have HO5 := Lib.hid hown; have HB5 := Lib.hid (HB4.out.grown hgr HB4.out.size (fun b hb => (own5_lt HO4.out b hb.symm).1)); have HL5 : Hid ((acc3 ++ (k1M (MSt.loc kd s n' os zs) ++ k2M (MSt.loc kd s n' os zs))).length ≤ 2800) := Lib.hid (by rw [List.length_append]; have := HL.out.1; omega); clear hown hgr))
        go_roundw
        case rel => exact ⟨m + 1, by omega, by go_num, by rw [HNX.out]; exact HO7.out, HB7.out⟩
        case measure => simp [intOf]; omega
      | ring hS =>
        go_wp2
        go_roundw
        case rel =>
          refine ⟨m + 1, by omega, by go_num, ?_, HB3.out⟩
          rw [HNX.out, show k1M MSt.ring ++ k2M MSt.ring = [] from rfl, show MSt.ring.zs = [] from rfl, List.append_nil, List.append_nil]
          exact HO3.out
        case measure => simp [intOf]; omega
    · obtain rfl : m = n := by omega
      have HN2 := Lib.hid hown
      have HB2 := Lib.hid hb
      clear hown hb
      go_wp2
      go_ret
      have hown := HN2.out
      rw [← HN.out, List.take_length] at hown
      exact ⟨_, rfl, hown, HB2.out⟩
end
end Go.Proofs.Ytenjdgoammaiiaa
