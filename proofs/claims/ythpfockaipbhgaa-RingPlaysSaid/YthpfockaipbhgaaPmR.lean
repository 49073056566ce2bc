/-
  Proved here: Reserve of the program's rings. Conditions: as each lemma says.
-/
import Derived.Test.YthpfockaipbhgaaPmE
namespace Go.Proofs.Ythpfockaipbhgaa
open Go.RowKit

theorem lrec_info : (Try.prog.info? 62).map (fun i => (i.zero, i.size, i.bytes)) = some (some (.agg #[.int .i64 0, .int .u8 0, .slice none 0 0]), 3, 40) := by kernel_rfl
theorem three_new (W : World) (a b c : Value) (e : TypeId) : ∀ j u, [a, b, c][j]? = some u → (W.alloc (.cells #[a, b, c] e)).cell? ((⟨W.heap.size, 0, none⟩ : Addr).add j) = some u := by
  intro j u hu
  have hn : (W.alloc (.cells #[a, b, c] e)).heap[W.heap.size]? = some (.cells #[a, b, c] e) := heap_alloc_new W _
  rw [add_lit, Nat.zero_add]
  unfold World.cell?
  simp only [hn]
  simpa using hu
theorem lv_snoc {xs : List Value} {ds : Nat → Nat} {ls : List Rc} {o : Int} {m G : Nat} (h : LvCells xs ds ls) (hl : xs.length = ls.length * 3) :
    LvCells (xs ++ [.int .i64 o, .int .u8 0, .slice (some ⟨G, 0, none⟩) m m]) (fun j => if j = ls.length then G else ds j) (ls ++ [newR o m]) := by
  intro i hi
  rw [List.length_append, List.length_singleton] at hi
  rw [rget_snoc]
  by_cases e : i < ls.length
  · rw [if_pos e]
    obtain ⟨a0, a1, a2⟩ := h i e
    rw [List.getElem?_append_left (by omega), List.getElem?_append_left (by omega), List.getElem?_append_left (by omega)]
    simp only [show i ≠ ls.length by omega, if_false]
    exact ⟨a0, a1, a2⟩
  · have e2 : i = ls.length := by omega
    subst e2
    rw [if_neg e, if_pos rfl, List.getElem?_append_right (by omega), List.getElem?_append_right (by omega), List.getElem?_append_right (by omega), hl]
    simp [newR, zeros]
theorem pr_push {w : World} {h g : Nat} {room drops : Int} {kv : Value} {ds : Nat → Nat} {ls : List Rc} (H : Pr w h room drops g kv ds ls) (o : Int) (m : Nat) (h1 : 1 ≤ m) (h2 : m ≤ 32) (hle : g + ls.length + 1 ≤ 1000) :
    ∃ a2 c2 W3, (appendV #[56, 56] 56 #[kv, .slice (some ⟨w.heap.size + 1, 0, none⟩) 1 1]).run Try.prog ((w.alloc (.cells (u8s (zeros m)).toArray 5)).alloc (.cells #[.int .i64 o, .int .u8 0, .slice (some ⟨w.heap.size, 0, none⟩) m m] 62)).drew = .ok (.slice a2 (ls.length + 1) c2) W3 ∧
      W3.cell? ⟨h, 3, none⟩ = some kv ∧ W3.frozen? ⟨h, 3, none⟩ = false ∧ Pr (W3.setCell ⟨h, 3, none⟩ (.slice a2 (ls.length + 1) c2)) h room drops g (.slice a2 (ls.length + 1) c2) (fun j => if j = ls.length then w.heap.size else ds j) (ls ++ [newR o m]) ∧
      Turned (PrS h kv ds ls.length) w (W3.setCell ⟨h, 3, none⟩ (.slice a2 (ls.length + 1) c2)) ∧ ∀ b, PrS h (.slice a2 (ls.length + 1) c2) (fun j => if j = ls.length then w.heap.size else ds j) (ls.length + 1) b → PrS h kv ds ls.length b ∨ w.heap.size ≤ b := by
  obtain ⟨i0, hi0, hz0, hz1, hz2⟩ := info_parts lrec_info
  obtain ⟨xs, hx, hc⟩ := H.row
  have hlt := H.lt
  obtain ⟨W1, hW1⟩ : ∃ W1, w.alloc (.cells (u8s (zeros m)).toArray 5) = W1 := ⟨_, rfl⟩
  have hz1' : W1.heap.size = w.heap.size + 1 := by rw [← hW1]; simp
  obtain ⟨W2, hW2⟩ : ∃ W2, (W1.alloc (.cells #[.int .i64 o, .int .u8 0, .slice (some ⟨w.heap.size, 0, none⟩) m m] 62)).drew = W2 := ⟨_, rfl⟩
  have hsz : W2.heap.size = w.heap.size + 1 + 1 := by rw [← hW2]; simp [World.drew, hz1']
  have b1 : Below w.heap.size w W1 := by rw [← hW1]; exact (Below.refl _ _).alloc (Nat.le_refl _) _
  have b2 : Below w.heap.size w W2 := by rw [← hW2]; exact (b1.alloc b1.size _).drew
  have hold : ∀ i, i < w.heap.size → W2.heap[i]? = w.heap[i]? := fun i hi => b2.block i hi
  have hnew : W2.heap[w.heap.size]? = some (.cells (u8s (zeros m)).toArray 5 (0, 0)) := by
    have e1 : W1.heap[w.heap.size]? = some (.cells (u8s (zeros m)).toArray 5 (0, 0)) := by rw [← hW1]; exact heap_alloc_new w _
    rw [← hW2]
    exact (Below.heap_alloc W1 _ _ (by omega)).trans e1
  have hown2 : W2.ownsRow 0 62 3 kv ls.length xs := by rw [← hW2, ← hW1]; exact ((hx.alloc _).alloc _).drew
  obtain ⟨v', W3, hrun, hown3, hgr, -, hat⟩ := run_append_own_at (P := Try.prog) W2 0 56 56 62 i0 _ 3 40 Try.underlying56 hi0 hz0 hz1 hz2 rfl (by omega) kv ls.length xs hown2
    ⟨w.heap.size + 1, 0, none⟩ 1 1 [.int .i64 o, .int .u8 0, .slice (some ⟨w.heap.size, 0, none⟩) m m] rfl (fun j u hu => by
      have e := three_new W1 _ _ _ 62 j u hu
      rw [hz1'] at e
      rw [← hW2]
      exact e) (fun u hu => by simp at hu; rcases hu with rfl | rfl | rfl <;> rfl) (by unfold maxLen; omega) (by omega) (by omega)
  obtain ⟨a2, c2, rfl⟩ : ∃ a2 c2, v' = .slice a2 (ls.length + 1) c2 := by
    rcases hown3.2 with ⟨_, h0⟩ | ⟨g, cap, cur, hv, -⟩
    · omega
    · exact ⟨_, cap, hv⟩
  have hkvlt : ∀ b, some b = kv.ownBlock → b < w.heap.size := fun b hb => hlt b (.inr (.inl hb))
  have hnb : ∀ b, some b = (Value.slice a2 (ls.length + 1) c2).ownBlock → some b = kv.ownBlock ∨ b = w.heap.size + 1 + 1 := fun b hb => by
    rcases hat with h9 | h9
    · exact .inl (by rw [← h9]; exact hb)
    · rw [h9] at hb
      injection hb with hb
      exact .inr (by omega)
  have hHl := hlt h (.inl rfl)
  have hgl : ∀ i, i < ls.length → ds i < w.heap.size := fun i hi => hlt _ (.inr (.inr ⟨i, hi, rfl⟩))
  have hk3 : ∀ b, b < w.heap.size → some b ≠ kv.ownBlock → W3.heap[b]? = w.heap[b]? := fun b hb hn => (hgr.block b (by omega) hn).trans (hold b hb)
  have eH := hk3 h hHl H.hk
  have c23 : W3.cell? ⟨h, 3, none⟩ = some kv := (World.cell?_of_block (w := w) (a := ⟨h, 3, none⟩) eH).trans H.h3
  have f23 : W3.frozen? ⟨h, 3, none⟩ = false := (World.frozen?_of_block (w := w) (a := ⟨h, 3, none⟩) eH).trans (H.fH 3)
  have hs3 : ∀ b, b ≠ h → (W3.setCell ⟨h, 3, none⟩ (.slice a2 (ls.length + 1) c2)).heap[b]? = W3.heap[b]? := fun b hb => Below.heap_setCell W3 ⟨h, 3, none⟩ _ b hb
  have hHo : some h ≠ (Value.slice a2 (ls.length + 1) c2).ownBlock := fun e => by
    rcases hnb h e with e2 | e2
    · exact H.hk e2
    · omega
  have hZ3 : (W3.setCell ⟨h, 3, none⟩ (.slice a2 (ls.length + 1) c2)).heap[w.heap.size]? = some (.cells (u8s (zeros m)).toArray 5 (0, 0)) := by
    rw [hs3 _ (by omega), hgr.block _ (by omega) (fun e => by have := hkvlt _ e; omega)]
    exact hnew
  have hll : (ls ++ [newR o m]).length = ls.length + 1 := by simp
  have hzc : RowAt (W3.setCell ⟨h, 3, none⟩ (.slice a2 (ls.length + 1) c2)) w.heap.size 0 m (zeros m) := fun j hj => by
    rw [Nat.zero_add, zeros_get]
    unfold World.cell?
    simp only [hZ3]
    simp [u8s, zeros, hj]
  refine ⟨a2, c2, W3, by rw [hW1, hW2]; exact hrun, c23, f23, ⟨?_, ?_, ?_, World.cell?_setCell_same _ _ _ c23, fun j => ?_, ⟨_, ?_, lv_snoc hc hx.1⟩, hHo, fun i hi e => ?_, fun i hi e => ?_, fun i j hi hj e => ?_, fun i hi => ?_, fun i hi j => ?_, fun i hi => ?_, fun i hi => ?_, by rw [hll]; omega⟩, ⟨?_, ?_, ?_, ?_, fun b hb hn => ?_⟩, ?_⟩
  · rw [World.cell?_setCell_other _ _ _ _ (by simp)]
    exact (World.cell?_of_block (w := w) (a := ⟨h, 0, none⟩) eH).trans H.h0
  · rw [World.cell?_setCell_other _ _ _ _ (by simp)]
    exact (World.cell?_of_block (w := w) (a := ⟨h, 1, none⟩) eH).trans H.h1
  · rw [World.cell?_setCell_other _ _ _ _ (by simp)]
    exact (World.cell?_of_block (w := w) (a := ⟨h, 2, none⟩) eH).trans H.h2
  · rw [World.frozen?_setCell]
    exact (World.frozen?_of_block (w := w) (a := ⟨h, j, none⟩) eH).trans (H.fH j)
  · rw [hll]
    exact own_kept hown3 (fun b hb => hs3 b (fun e => hHo (by rw [← e]; exact hb)))
  · rw [hll] at hi
    split at e
    · rcases hnb _ e with e2 | e2
      · have := hkvlt _ e2; omega
      · omega
    · rcases hnb _ e with e2 | e2
      · exact H.kg i (by omega) e2
      · have := hgl i (by omega); omega
  · rw [hll] at hi
    split at e
    · omega
    · exact H.Hg i (by omega) e
  · rw [hll] at hi hj
    split at e <;> split at e
    · omega
    · have := hgl j (by omega); omega
    · have := hgl i (by omega); omega
    · exact H.gi i j (by omega) (by omega) e
  · rw [hll] at hi
    by_cases e : i = ls.length
    · subst e
      rw [rget_new, if_pos rfl]
      simp only [newR, zeros_length]
      exact hzc
    · rw [rget_old (by omega), if_neg e]
      have := hgl i (by omega)
      exact fun j hj => (World.cell?_of_block (w := w) (a := ⟨ds i, 0 + j, none⟩) ((hs3 _ (H.Hg i (by omega))).trans (hk3 _ this (H.kg i (by omega))))).trans (H.data i (by omega) j hj)
  · rw [hll] at hi
    by_cases e : i = ls.length
    · subst e
      simp only [if_true]
      unfold World.frozen?
      simp only [hZ3]
      simp
    · simp only [if_neg e]
      have := hgl i (by omega)
      exact (World.frozen?_of_block (w := w) (a := ⟨ds i, j, none⟩) ((hs3 _ (H.Hg i (by omega))).trans (hk3 _ this (H.kg i (by omega))))).trans (H.free i (by omega) j)
  · rw [hll] at hi
    by_cases e : i = ls.length
    · subst e
      rw [rget_new]
      simp only [newR, zeros_length]
      omega
    · rw [rget_old (by omega)]
      exact H.len i (by omega)
  · rw [hll] at hi
    by_cases e : i = ls.length
    · subst e
      rw [rget_new]
      simp only [newR]
      omega
    · rw [rget_old (by omega)]
      exact H.st i (by omega)
  · exact hgr.os.trans b2.os
  · exact hgr.tape.trans b2.tape
  · exact hgr.output.trans b2.output
  · have := hgr.size
    simp [World.setCell]
    omega
  · rw [hs3 b (fun e => hn (.inl e))]
    exact hk3 b hb (fun e => hn (.inr (.inl e)))
  · rintro b (rfl | hb | ⟨i, hi, rfl⟩)
    · exact .inl (.inl rfl)
    · rcases hnb b hb with e2 | e2
      · exact .inl (.inr (.inl e2))
      · exact .inr (by omega)
    · by_cases e : i = ls.length
      · subst e; simp
      · simp only [if_neg e]
        exact .inl (.inr (.inr ⟨i, by omega, rfl⟩))
theorem Split.snoc {rs pre ls : List Rc} (S : Split rs pre ls) (o : Int) (m : Nat) : Split (rs ++ [newR o m]) pre (ls ++ [newR o m]) := by
  refine ⟨by rw [S.eq, List.append_assoc], S.gone, fun i hi => ?_⟩
  rw [List.length_append, List.length_singleton] at hi
  by_cases e : i = ls.length
  · subst e; rw [rget_new]; rfl
  · rw [rget_old (by omega)]; exact S.there i (by omega)
attribute [local go_sem ↓] append_veil
set_option maxRecDepth 100000 in
set_option maxHeartbeats 2000000 in
theorem reserve_pr {w : World} {D : Nat → Prop} {h : Nat} {room drops : Int} {rs : List Rc} {o n : Int} (H : PrM w D h room drops rs) (hd1 : 0 ≤ drops) (hd2 : drops ≤ 100000) (hle : rs.length + 1 ≤ 1000) :
    Calls Try.prog 19 #[.pointer (some ⟨h, 0, none⟩), .int .i64 o, .int .i64 n] w (AnsQ PrM D h room (drops + (resR rs room o n).2.1) (resV (resR rs room o n)) (resR rs room o n).2.2 w) := by
  by_cases hn : 1 ≤ n ∧ n ≤ 32
  · obtain ⟨n1, n2⟩ := hn
    obtain ⟨m, rfl⟩ := Int.eq_ofNat_of_zero_le (show 0 ≤ n by omega)
    have hm1 : 1 ≤ m := by omega
    have hm2 : m ≤ 32 := by omega
    have HPM := Lib.hid H
    obtain ⟨pre, ls, kv, ds, S, H, hD⟩ := H
    have hrl : rs.length = pre.length + ls.length := by rw [S.eq, List.length_append]
    have hu := usedT_le (fun i hi => (H.len i hi).2) ls.length (Nat.le_refl _)
    have hur := S.usedR
    obtain ⟨u, hue⟩ : ∃ u, usedT ls ls.length = u := ⟨_, rfl⟩
    have HUE := Lib.hid hue
    rw [hue] at hu hur
    have hu2 : u ≤ 40000 := by have := H.le; omega
    have HH := Lib.hid H
    have HS := Lib.hid S
    have HDD := Lib.hid hD
    obtain ⟨N, hN⟩ : ∃ N, ls.length = N := ⟨_, rfl⟩
    obtain ⟨G, hG⟩ : ∃ G, pre.length = G := ⟨_, rfl⟩
    have HN := Lib.hid hN
    have HG := Lib.hid hG
    rw [hG] at HH
    have hGN : G + N + 1 ≤ 1000 := by omega
    have HRL := Lib.hid hrl
    have q0 : Hid (w.drew.cell? ⟨h, 0, none⟩ = some (.int .i64 room)) := Lib.hid H.h0
    have c0 := H.h0
    have f1 := H.fH 1
    by_cases hr : (room : Int) < u + m + 8
    · have hres : resR rs room o m = (-1, 1, rs) := by
        unfold resR
        rw [if_neg (by omega), if_pos (by rw [hur]; omega)]
      rw [hres]
      have k1 : decide (room < (u : Int) + ((m : Int) + 8)) = true := by simp; omega
      have k2 : IntKind.i64.wrap ((u : Int) + ((m : Int) + 8)) = (u : Int) + ((m : Int) + 8) := IntWalk.i64_in _ (by omega)
      clear H S hD hue hur hN hG hrl hres hr hle hu
      go_enter Try.func19, Try.ntmps19
      go_upto_region 3 with fail
      go_cut [28] (fun v wx => v = .bool true ∧ Below w.heap.size w wx)
      case first =>
        as_aux_lemma =>
        go_region_held (fun W => W.cell? ⟨h, 0, none⟩ = some (.int .i64 room)) (first | with_reducible exact Q1.out | with_reducible exact q0.out) (first
          | (go_at_call 22; refine (pr_used (HH.out.stay (Below.refl _ _).drew) HS.out.there).mono ?_; rintro e w1 ⟨he, hb1⟩; rw [HUE.out] at he; subst he; have HB1 := Lib.hid ((Below.refl _ _).drew.trans hb1); have Q1 := Lib.hid ((HH.out.stay HB1.out).h0); clear hb1)
          | (go_at_call 29; refine (taken_call _ _ (by omega) (by omega)).mono ?_; rintro e w2 ⟨he, hw⟩; subst he; subst hw))
        all_goals
          go_wp2_with fail
          go_meet
          case rel => exact ⟨by first | rfl | rw [k1] | rw [k2, k1], HB1.out⟩
      case rest =>
        obtain ⟨rfl, hb⟩ := hcut
        have H1 := Lib.hid (HH.out.stay hb)
        have HB := Lib.hid hb
        have c1 := H1.out.h1
        have f1 := H1.out.fH 1
        clear c0 hb
        go_wp2
        go_ret2
        exact ⟨D, rfl, ⟨pre, ls, kv, ds, HS.out, by rw [HG.out]; exact H1.out.drop1, HDD.out⟩, (Turned.of HB.out).set (a := ⟨h, 1, none⟩) (.inl ((HDD.out _).2 (.inl rfl))) _, fun b hb => .inl hb⟩
    · have hres : resR rs room o m = ((rs.length : Int), 0, rs ++ [newR o m]) := by
        unfold resR
        rw [if_neg (by omega), if_neg (by rw [hur]; omega), Int.toNat_natCast]
      rw [hres]
      have hrv : resV ((rs.length : Int), 0, rs ++ [newR o m]) = .tuple #[.int .i64 ((G : Int) + N), .bool true] := by
        unfold resV
        simp only
        rw [if_neg (by omega), decide_eq_true (by omega), hrl, hG, hN, Int.natCast_add]
      rw [hrv]
      have k1 : decide (room < (u : Int) + ((m : Int) + 8)) = false := by simp; omega
      have k2 : IntKind.i64.wrap ((u : Int) + ((m : Int) + 8)) = (u : Int) + ((m : Int) + 8) := IntWalk.i64_in _ (by omega)
      clear H S hD hue hur hN hG hrl hres hr hle hu hrv
      go_enter Try.func19, Try.ntmps19
      go_upto_region 3 with fail
      go_cut [28] (fun v wx => v = .bool false ∧ Below w.heap.size w wx)
      case first =>
        as_aux_lemma =>
        go_region_held (fun W => W.cell? ⟨h, 0, none⟩ = some (.int .i64 room)) (first | with_reducible exact Q1.out | with_reducible exact q0.out) (first
          | (go_at_call 22; refine (pr_used (HH.out.stay (Below.refl _ _).drew) HS.out.there).mono ?_; rintro e w1 ⟨he, hb1⟩; rw [HUE.out] at he; subst he; have HB1 := Lib.hid ((Below.refl _ _).drew.trans hb1); have Q1 := Lib.hid ((HH.out.stay HB1.out).h0); clear hb1)
          | (go_at_call 29; refine (taken_call _ _ (by omega) (by omega)).mono ?_; rintro e w2 ⟨he, hw⟩; subst he; subst hw))
        all_goals
          go_wp2_with fail
          go_meet
          case rel => exact ⟨by first | rfl | rw [k1] | rw [k2, k1], HB1.out⟩
      case rest =>
        obtain ⟨rfl, hb⟩ := hcut
        have H1 := Lib.hid (HH.out.stay hb)
        have HB := Lib.hid hb
        have c2 := H1.out.h2
        have c3 := H1.out.h3
        obtain ⟨a, c, rfl, -, -⟩ := H1.out.shape
        rw [HN.out] at c3
        have HST := Lib.hid (fun k => H1.out.stay (bdrewN (Below.refl _ _) k) : ∀ k, Pr (wc.drewN k) h room drops G (.slice a ls.length c) ds ls)
        have HT0 := Lib.hid (fun k => (bdrewN hb k) : ∀ k, Below w.heap.size w (wc.drewN k))
        have hmk := make_any m (by omega)
        clear c0 hb f1
        go_wp2
        go_quiet (fail)
        have hg2 := HST.out nq
        have ht2 := HT0.out nq
        clear c2 c3
        obtain ⟨W0, hW0⟩ : ∃ W0, wc.drewN nq = W0 := ⟨_, rfl⟩
        rw [hW0] at hg2 ht2 ⊢
        have k0 := hg2.h3
        have hHl : h < W0.heap.size := cell_block_lt k0
        obtain ⟨a2, c2, W3, hrun, hc3, hf3, hrg, htu, hbl⟩ := pr_push hg2 o m hm1 hm2 (by rw [HN.out]; exact hGN)
        have hca : (W0.alloc (.cells (u8s (zeros m)).toArray 5)).cell? ⟨h, 3, none⟩ = some (.slice a ls.length c) := by rw [World.cell?_alloc_lt _ _ _ hHl]; exact k0
        have hcb : ((W0.alloc (.cells (u8s (zeros m)).toArray 5)).alloc (.cells #[.int .i64 o, .int .u8 0, .slice (some ⟨W0.heap.size, 0, none⟩) m m] 62)).cell? ⟨h, 3, none⟩ = some (.slice a ls.length c) := by rw [World.cell?_alloc_lt _ _ _ (by simp; omega)]; exact hca
        have HRG := Lib.hid hrg
        have HTU := Lib.hid htu
        have HBL := Lib.hid hbl
        have HT3 := Lib.hid ht2
        rw [HN.out] at hrun k0 hca hcb hc3 HRG HTU HBL
        clear hg2 ht2 hrg htu hbl hHl hW0
        go_wp2
        go_region
        all_goals
          go_wp2
          go_ret2
          refine ⟨_, rfl, ⟨pre, _, _, _, HS.out.snoc o m, by first | (rw [HG.out]; exact HRG.out) | (rw [HG.out, Int.add_zero]; exact HRG.out), fun b => Iff.rfl⟩, (Turned.of HT3.out).trans (HTU.out.more (fun b hb => (HDD.out b).2 (by rw [HN.out]; exact hb))), fun b hb => ?_⟩
          have e : (ls ++ [newR o m]).length = N + 1 := by rw [List.length_append, HN.out]; rfl
          rw [e] at hb
          rcases HBL.out b hb with h1 | h1
          · exact .inl ((HDD.out b).2 (by rw [HN.out]; exact h1))
          · exact .inr (Nat.le_trans HT3.out.size h1)
  · have hres : resR rs room o n = (-1, 0, rs) := by
      unfold resR
      rw [if_pos hn]
    rw [hres]
    have hrv : resV ((-1 : Int), (0 : Int), rs) = .tuple #[.int .i64 0, .bool false] := rfl
    rw [hrv]
    have HH := Lib.hid H
    by_cases n1 : 1 ≤ n
    · have n2 : 32 < n := by omega
      clear hn hres hrv H
      go_enter Try.func19, Try.ntmps19
      go_wp2
      go_ret2
      exact ⟨D, rfl, by first | exact HH.out | (rw [Int.add_zero]; exact HH.out), Turned.refl D w, fun b hb => .inl hb⟩
    · clear hn hres hrv H
      go_enter Try.func19, Try.ntmps19
      go_wp2
      go_ret2
      exact ⟨D, rfl, by first | exact HH.out | (rw [Int.add_zero]; exact HH.out), Turned.refl D w, fun b hb => .inl hb⟩
end Go.Proofs.Ythpfockaipbhgaa
