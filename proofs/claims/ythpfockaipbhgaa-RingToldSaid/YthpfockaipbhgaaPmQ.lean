/-
  Proved here: Drain of the program's rings, walked. Conditions: as each lemma says.
-/
import Derived.Test.YthpfockaipbhgaaPmP
import Derived.WalkMore
namespace Go.Proofs.Ythpfockaipbhgaa
open Go.RowKit

section
variable {W wr w2 : World} {h g k : Nat} {room drops : Int} {kv kw v v' : Value} {ds : Nat → Nat} {ls : List Rc} {l : List (Int × Nat × List Int)}
theorem Pda.sub (h1 : Pda W wr h room drops g kv kw ds ls k v l) (hk : k ≤ ls.length) : ∀ b, PrS h kw (fun i => ds (k + i)) (ls.drop k).length b → PrS h kv ds ls.length b := by
  rintro b (rfl | hb | ⟨i, hi, rfl⟩)
  · exact .inl rfl
  · exact .inr (.inl (by rw [← h1.blk]; exact hb))
  · rw [List.length_drop] at hi
    exact .inr (.inr ⟨k + i, by omega, rfl⟩)
/-- New blocks turn nothing. -/
theorem Pda.box (h1 : Pda W wr h room drops g kv kw ds ls k v l) (o : Obj) : Pda W (wr.alloc o) h room drops g kv kw ds ls k v l :=
  ⟨h1.pr.stay ((Below.refl _ _).alloc (Nat.le_refl _) _), h1.blk, h1.own.alloc _, h1.t.trans (Turned.of ((Below.refl _ _).alloc (Nat.le_refl _) _)), h1.lt⟩
theorem Pda.push (h1 : Pda W wr h room drops g kv kw ds ls k v l) (hk : k ≤ ls.length) {o o' : Obj} {x : Int × Nat × List Int} (hown : w2.ownsRow W.heap.size 53 2 v' (l.length + 1) (flatA l ++ [.int .i64 x.1, .slice (some ⟨x.2.1, 0, none⟩) x.2.2.length x.2.2.length])) (hg : ((wr.alloc o).alloc o').grownBy w2 v.ownBlock) :
    Pda W w2 h room drops g kv kw ds ls k v' (l ++ [x]) := by
  have hs := h1.t.size
  have hz : ((wr.alloc o).alloc o').heap.size = wr.heap.size + 1 + 1 := by simp
  have hgs := hg.size
  have hk2 : ∀ q, q < W.heap.size → w2.heap[q]? = wr.heap[q]? := fun q hq => by
    rw [hg.block q (by omega) (fun e => by have := (h1.own.lt _ e.symm).1; omega), Below.heap_alloc _ _ _ (by simp; omega)]
    exact Below.heap_alloc _ _ _ (by omega)
  refine ⟨h1.pr.kept (fun b hb => hk2 b (h1.lt b (h1.sub hk b hb))), h1.blk, ?_, ⟨hg.os.trans h1.t.os, hg.tape.trans h1.t.tape, hg.output.trans h1.t.output, by omega, fun q hq hn => (hk2 q hq).trans (h1.t.block q hq hn)⟩, h1.lt⟩
  rw [flatA_snoc, List.length_append]
  exact hown
/-- The first of those that are there goes. -/
theorem Pda.pop (h1 : Pda W wr h room drops g kv kw ds ls k v l) (hk : k < ls.length) :
    ∃ b n c xs, kw = .slice (some ⟨b, 0, none⟩) (n + 1) c ∧ wr.ownsRow 0 62 3 (.slice (some ⟨b, 0, none⟩) (n + 1) c) (n + 1) xs ∧ (∀ u ∈ xs, u.oneCell' = true) ∧ n + 1 ≤ 1000 ∧ c ≤ maxLen ∧ n + 1 ≤ c ∧
      ∀ e w3, Popped b n c xs wr e w3 → e = .returned (.slice (some ⟨b, 0, none⟩) n c) ∧ w3.cell? ⟨h, 3, none⟩ = some (.slice (some ⟨b, 0, none⟩) (n + 1) c) ∧ w3.frozen? ⟨h, 3, none⟩ = false ∧
        (w3.setCell ⟨h, 3, none⟩ (.slice (some ⟨b, 0, none⟩) n c)).cell? ⟨h, 2, none⟩ = some (.int .i64 ((g + k : Nat) : Int)) ∧ (w3.setCell ⟨h, 3, none⟩ (.slice (some ⟨b, 0, none⟩) n c)).frozen? ⟨h, 2, none⟩ = false ∧
        Pda W ((w3.setCell ⟨h, 3, none⟩ (.slice (some ⟨b, 0, none⟩) n c)).setCell ⟨h, 2, none⟩ (.int .i64 (((g + k : Nat) : Int) + 1))) h room drops g kv (.slice (some ⟨b, 0, none⟩) n c) ds ls (k + 1) v l := by
  obtain ⟨a, c, rfl, hrow, hcl⟩ := h1.pr.shape
  have hdl : (ls.drop k).length = ls.length - k := List.length_drop
  obtain ⟨b, rfl, -, -, -⟩ := hrow.at_ (by omega)
  obtain ⟨n, hn⟩ : ∃ n, (ls.drop k).length = n + 1 := ⟨ls.length - k - 1, by omega⟩
  have hP := h1.pr
  have hle := hP.le
  have hblk := h1.blk
  have hbW : b < W.heap.size := h1.lt b (.inr (.inl (by rw [← h1.blk]; rfl)))
  have hhW : h < W.heap.size := h1.lt h (.inl rfl)
  rw [hn] at hP hle hblk
  obtain ⟨xs, hx, hv, hnc, hcm, hpop⟩ := hP.pop hn
  refine ⟨b, n, c, xs, by rw [hn], hx, hv, by omega, hcm, hnc, ?_⟩
  rintro e w3 ⟨rfl, ho, ht⟩
  obtain ⟨c3, f3, hp⟩ := hpop w3 ho ht
  have hdd : (ls.drop k).drop 1 = ls.drop (k + 1) := by rw [List.drop_drop]
  have hds : (fun i => (fun i => ds (k + i)) (1 + i)) = fun i => ds (k + 1 + i) := by funext i; simp only; congr 1; omega
  rw [hdd, hds] at hp
  have hp2 := hp.gone1 (g' := g + (k + 1)) (by rw [List.length_drop]; omega)
  refine ⟨rfl, c3, f3, hp.h2, hp.fH 2, ⟨?_, hblk, ?_, ?_, h1.lt⟩⟩
  · exact hp2
  · refine own_kept0 h1.own (fun q hq => ?_)
    have hqW := (h1.own.lt q hq.symm).1
    rw [Below.heap_setCell _ _ _ q (fun e => by simp only at e; omega), Below.heap_setCell _ _ _ q (fun e => by simp only at e; omega)]
    exact ht.block q (h1.own.lt q hq.symm).2 (by omega)
  · have ht2 : Turned (fun b => b = h ∨ some b = kv.ownBlock) W w3 := h1.t.trans (ht.more (fun q hq => .inr (by rw [hq, ← hblk]; rfl)))
    exact (ht2.set (a := ⟨h, 3, none⟩) (.inl (.inl rfl)) _).set (a := ⟨h, 2, none⟩) (.inl (.inl rfl)) _
end
section
variable {w wr : World} {D : Nat → Prop} {h k : Nat} {room drops : Int} {kv kw v : Value} {ds : Nat → Nat} {rs pre ls : List Rc}
theorem pda_done (S : Split rs pre ls) (H : Pr w h room drops pre.length kv ds ls) (hD : ∀ b, D b ↔ PrS h kv ds ls.length b) (h1 : Pda w wr h room drops pre.length kv kw ds ls k v (audM ds ls k)) (hk : k ≤ ls.length) (hK : pre.length + k = drainK rs) :
    DrainQ PrM D h room drops (drainR rs) w (.returned v) wr := by
  have hm := audM_map ds ls k
  have hal : (audT ls k).length = (audM ds ls k).length := by rw [← hm, List.length_map]
  have hS := S.goneBy hk
  have htl : ((goneT rs (pre.length + k)).take (pre.length + k)).length = pre.length + k := by
    rw [List.length_take, goneT_len, S.eq, List.length_append]; omega
  have hPM : PrM wr (PrS h kw (fun i => ds (k + i)) (ls.drop k).length) h room drops (goneT rs (pre.length + k)) := ⟨_, _, kw, _, hS, by rw [htl]; exact h1.pr, fun b => Iff.rfl⟩
  have hT : Turned D w wr := h1.t.more (fun b hb => (hD b).2 (hb.imp id .inl))
  have hsub : ∀ b, PrS h kw (fun i => ds (k + i)) (ls.drop k).length b → D b ∨ w.heap.size ≤ b := fun b hb => .inl ((hD b).2 (h1.sub hk b hb))
  unfold drainR DrainQ
  rw [← hK, S.aud k hk]
  rcases h1.own.2 with ⟨rfl, h0⟩ | ⟨b, cap, cur, hv, hg, hh, -⟩
  · exact ⟨_, none, 0, by simp only; rw [hal, h0], fun hp => by simp only at hp; omega, hPM, hT, hsub⟩
  · have ho := h1.own
    subst hv
    refine ⟨_, _, cap, by simp only; rw [hal], fun _ => ⟨b, rfl, .inr hg, (Array.getElem?_eq_some_iff.1 hh).1, fun i hi => ?_⟩, hPM, hT, hsub⟩
    simp only at hi ⊢
    rw [hal] at hi
    obtain ⟨c1, c2⟩ := flatA_get hi
    have e1 : (audT ls k).getD i (0, []) = (((audM ds ls k).getD i (0, 0, [])).1, ((audM ds ls k).getD i (0, 0, [])).2.2) := by
      rw [← hm, List.getD_eq_getElem?_getD, List.getD_eq_getElem?_getD, List.getElem?_map, List.getElem?_eq_getElem hi]
      rfl
    obtain ⟨q, hq, eq⟩ := audM_in k ((audM ds ls k).getD i (0, 0, [])) (by
      rw [List.getD_eq_getElem?_getD, List.getElem?_eq_getElem hi]
      exact List.getElem_mem _)
    rw [e1]
    rw [eq] at c1 c2 ⊢
    have hql : q < ls.length := by omega
    have hgq : PrS h kv ds ls.length (ds q) := .inr (.inr ⟨q, hql, rfl⟩)
    have hsame : wr.heap[ds q]? = w.heap[ds q]? := h1.t.block _ (h1.lt _ hgq) (fun e => by
      rcases e with e | e
      · exact H.Hg q hql e
      · exact H.kg q hql e)
    have hd : RowAt wr (ds q) 0 (rget ls q).b.length (rget ls q).b := fun j hj => (World.cell?_of_block (w := w) (a := ⟨ds q, 0 + j, none⟩) hsame).trans (H.data q hql j hj)
    have hln := H.len q hql
    refine ⟨ds q, 0, (rget ls q).b.length, ?_, ?_, .inl ((hD _).2 hgq), cell_block_lt (hd 0 (by omega)), hd⟩
    · rw [ho.cellAt _ (by omega)]; exact c1
    · rw [ho.cellAt _ (by omega)]; exact c2
set_option maxRecDepth 100000 in
set_option maxHeartbeats 2000000 in
theorem drain_pr (H : PrM w D h room drops rs) : Calls Try.prog 15 #[.pointer (some ⟨h, 0, none⟩)] w (DrainQ PrM D h room drops (drainR rs) w) := by
  obtain ⟨pre, ls, kv, ds, S, H, hD⟩ := H
  have hrl : rs.length = pre.length + ls.length := by rw [S.eq, List.length_append]
  have HDONE := Lib.hid (fun (wr : World) (kw v : Value) (k : Nat) => @pda_done w wr D h k room drops kv kw v ds rs pre ls S H hD)
  have HS := Lib.hid S
  have HLT := Lib.hid H.lt
  have HP := Lib.hid H
  have hst0 := S.stop pre.length (Nat.le_refl _)
  have HST0 := Lib.hid hst0
  have hle := H.le
  obtain ⟨m, hm⟩ : ∃ m, ls.length = m := ⟨_, rfl⟩
  obtain ⟨G, hG⟩ : ∃ G, pre.length = G := ⟨_, rfl⟩
  have HM := Lib.hid hm
  have HG := Lib.hid hG
  have HRL := Lib.hid hrl
  rw [hm, hG] at hle
  rw [hG] at HP HST0
  obtain ⟨i0, hi0, hz0, hz1, hz2⟩ := info_parts aud_info
  have HI := Lib.hid (And.intro hi0 (And.intro hz0 (And.intro hz1 hz2)))
  clear S H hD hrl hst0 hm hG hi0 hz0 hz1 hz2
  go_enter Try.func15, Try.ntmps15
  go_wp2
  go_step3
  go_wp2
  go_step3
  go_wp2
  go_loopw [3] (fun s wr => ∃ k : Nat, k ≤ m ∧ (∃ kw, Pda w wr h room drops G kv kw ds ls k s (audM ds ls k)) ∧ stopT rs (rs.length - (G + k)) (G + k) = drainK rs) (fun _ wr => 1001 - Pda.gone h wr)
  case atStart => exact ⟨0, by omega, ⟨kv, by simp only [Nat.zero_add, List.drop_zero, Nat.add_zero]; exact HP.out, rfl, World.ownsRow_nil _ _ _ _, Turned.refl _ _, HLT.out⟩, HST0.out⟩
  case round =>
    obtain ⟨k, hk, ⟨kw, hda⟩, hst⟩ := hrel
    have HDA := Lib.hid hda
    have HST := Lib.hid hst
    have c2 := hda.pr.h2
    have c3 := hda.pr.h3
    have hmz : Pda.gone h wr = G + k := gone_at c2
    have HMZ := Lib.hid hmz
    clear hda hst hmz
    by_cases hlt : k < m
    · have hkl : k < ls.length := by rw [HM.out]; exact hlt
      have HKL := Lib.hid hkl
      have hhas := HS.out.has hkl
      rw [HG.out] at hhas
      have hstep := drain_stop (rs := rs) (k := G + k) (by rw [HRL.out, HG.out]; omega)
      rw [hhas] at hstep
      have hgn := HS.out.there k hkl
      have hst2 := HDA.out.pr.st 0 (by rw [List.length_drop]; omega)
      obtain ⟨b, n, c, xs, rfl, -, -, hn1, -, -, -⟩ := HDA.out.pop hkl
      obtain ⟨b', hb', -, -, hcs⟩ := HDA.out.pr.lv.at_ (by rw [List.length_drop]; omega)
      injection hb' with hb'
      injection hb' with hb' _ _
      subst hb'
      obtain ⟨d0, d1, d2⟩ := hcs 0 (by rw [List.length_drop]; omega)
      simp only [rget_drop, Nat.add_zero, Nat.zero_mul, Nat.zero_add] at d0 d1 d2 hst2
      obtain ⟨r, hr⟩ : ∃ r, rget ls k = r := ⟨_, rfl⟩
      rw [hr] at d0 d1 d2 hstep hgn hst2
      obtain ⟨q, hq⟩ : ∃ q, r.b.length = q := ⟨_, rfl⟩
      rw [hq] at d2
      have HR := Lib.hid hr
      have HQ := Lib.hid hq
      have HGN := Lib.hid hgn
      have hal := audM_len ds ls k
      obtain ⟨s, hs⟩ : ∃ s, r.st = s := ⟨_, rfl⟩
      rw [hs] at d1 hstep hst2
      have HSS := Lib.hid hs
      have HSTEP := Lib.hid hstep
      clear hkl hhas hstep hgn hcs hr hq hs
      by_cases e0 : s = 0
      · subst e0
        have hK : G + k = drainK rs := by
          have h9 := HST.out
          rw [HSTEP.out, if_pos (by rfl)] at h9
          exact h9
        have HK := Lib.hid hK
        clear hK
        go_wp2
        try rw [Exit.noGoto_ret]
        go_ret
        exact HDONE.out _ _ _ k (by rw [HG.out]; exact HDA.out.box _) (by rw [HM.out]; omega) (by rw [HG.out]; exact HK.out)
      · have hK : stopT rs (rs.length - (G + (k + 1))) (G + (k + 1)) = drainK rs := by
          have h9 := HST.out
          rw [HSTEP.out, if_neg (by simpa using e0)] at h9
          exact h9
        have HK := Lib.hid hK
        clear hK
        have k0 : (s == 0) = false := by simpa using e0
        by_cases e1 : s = 1
        · subst e1
          have hau : audM ds ls (k + 1) = audM ds ls k ++ [(r.own, ds k, r.b)] := by
            show audM ds ls k ++ _ = _
            rw [HR.out, isTold, HGN.out, HSS.out]; rfl
          have HAU := Lib.hid hau
          clear hau e0 k0
          go_wp2_with (first
            | (at_builtin; have hsz := HDA.out.t.size; refine wpList_append_own_at _ rfl _ _ 41 rfl w.heap.size 53 i0 _ 2 32 Try.underlying41 HI.out.1 HI.out.2.1 HI.out.2.2.1 HI.out.2.2.2 rfl (by omega) _ _ _ rfl ((HDA.out.own.alloc _).alloc _) ⟨wr.heap.size + 1, 0, none⟩ 1 1 [.int .i64 r.own, .slice (some ⟨ds k, 0, none⟩) q q] rfl rfl (by have h9 := two_new (wr.alloc (.cells #[.int .i64 r.own, .int .u8 1, .slice (some ⟨ds k, 0, none⟩) q q] 62)) (.int .i64 r.own) (.slice (some ⟨ds k, 0, none⟩) q q) 53; rw [World.size_alloc] at h9; exact h9) (fun u hu => by simp at hu; rcases hu with rfl | rfl <;> rfl) (by unfold maxLen; omega) (by omega) (by simp; omega) ?_; intro v1 w2 hown2 hgr2 _ _; have hd2 := HDA.out.push (x := (r.own, ds k, r.b)) (by rw [HM.out]; omega) (by simp only [HQ.out]; exact hown2) hgr2; obtain ⟨b2, n2, c2', xs, he2, hown, hv, hn2, hcm, hnc, hpop⟩ := hd2.pop HKL.out; injection he2 with he2 he3 he4; injection he2 with he2; injection he2 with he2 _ _; obtain rfl : n = n2 := (by omega); subst he2 he4; have c3b := hd2.pr.h3; have HPOP := Lib.hid hpop; have HX := Lib.hid (And.intro hown hv); clear hown2 hgr2 hd2 hown hv hpop he3)
            | (go_at_call 27; refine (delete_first HX.out.1 HX.out.2 hn2 hcm hnc).mono ?_; intro e w3 h3; obtain ⟨rfl, p3, f3, p2, f2, hd3⟩ := HPOP.out e w3 h3; have HD3 := Lib.hid hd3; clear h3 hd3))
          go_roundw
          case rel => exact ⟨k + 1, by omega, ⟨_, by rw [HAU.out]; exact HD3.out⟩, HK.out⟩
          case measure =>
            have h9 := gone_at HD3.out.pr.h2
            rw [Int.natCast_add] at h9
            rw [h9, HMZ.out]
            omega
        · have hau : audM ds ls (k + 1) = audM ds ls k := by
            show audM ds ls k ++ _ = _
            rw [HR.out, isTold, HGN.out, HSS.out]; simp [e1]
          have HAU := Lib.hid hau
          have k1 : (s == 1) = false := by simpa using e1
          have hbx := HDA.out.box (.cells #[.int .i64 r.own, .int .u8 s, .slice (some ⟨ds k, 0, none⟩) q q] 62)
          obtain ⟨b2, n2, c2', xs, he2, hown, hv, hn2, hcm, hnc, hpop⟩ := hbx.pop HKL.out
          injection he2 with he2 he3 he4
          injection he2 with he2
          injection he2 with he2 _ _
          obtain rfl : n = n2 := by omega
          subst he2 he4
          have c3b := hbx.pr.h3
          have HPOP := Lib.hid hpop
          have HX := Lib.hid (And.intro hown hv)
          clear hau e0 e1 hbx hown hv hpop he3
          go_wp2_with (go_at_call 27; refine (delete_first HX.out.1 HX.out.2 hn2 hcm hnc).mono ?_; intro e w3 h3; obtain ⟨rfl, p3, f3, p2, f2, hd3⟩ := HPOP.out e w3 h3; have HD3 := Lib.hid hd3; clear h3 hd3)
          go_roundw
          case rel => exact ⟨k + 1, by omega, ⟨_, by rw [HAU.out]; exact HD3.out⟩, HK.out⟩
          case measure =>
            have h9 := gone_at HD3.out.pr.h2
            rw [Int.natCast_add] at h9
            rw [h9, HMZ.out]
            omega
    · obtain rfl : k = m := by omega
      obtain ⟨a, c, he, -, -⟩ := HDA.out.pr.shape
      rw [List.length_drop, HM.out, Nat.sub_self] at he
      subst he
      go_wp2
      try rw [Exit.noGoto_ret]
      go_ret
      exact HDONE.out wr _ _ k (by rw [HG.out]; exact HDA.out) (by rw [HM.out]; omega) (by
        have h9 := HST.out
        rw [HRL.out, HG.out, HM.out, Nat.sub_self] at h9
        rw [HG.out]
        exact h9)
end
end Go.Proofs.Ythpfockaipbhgaa
