/-
  Proved here: Drain of the document's rings, walked. Conditions: as each says.
-/
import Derived.Test.YthpfockaipbhgaaRgDrain
namespace Go.Proofs.Ythpfockaipbhgaa
open Go.RowKit

theorem goneT_b {rs : List Rc} : ∀ k, k ≤ rs.length → ∀ j, (rget (goneT rs k) j).b = (rget rs j).b
  | 0, _, _ => rfl
  | k + 1, hk, j => by
    show (rget (setGone (goneT rs k) k) j).b = _
    rw [setGone, rget_set (by rw [goneT_len]; omega)]
    by_cases e : k = j
    · subst e; rw [if_pos rfl]; exact goneT_b k (by omega) k
    · rw [if_neg e]; exact goneT_b k (by omega) j
theorem own_kept0 {w w' : World} {B : Nat} {e : TypeId} {m n : Nat} {v : Value} {xs : List Value} (h : w.ownsRow B e m v n xs) (k : ∀ b, some b = v.ownBlock → w'.heap[b]? = w.heap[b]?) : w'.ownsRow B e m v n xs := by
  refine ⟨h.1, ?_⟩
  rcases h.2 with h2 | ⟨g, cap, cur, rfl, hg, hh, r⟩
  · exact .inl h2
  · exact .inr ⟨g, cap, cur, rfl, hg, by rw [k g rfl]; exact hh, r⟩
theorem Da.gone {W wr : World} {H g c k : Nat} {room drops : Int} {v : Value} {gs : Nat → Nat} {rs : List Rc} {l : List (Int × Nat × List Int)} (h : Da W wr H room drops (.slice (some ⟨g, 0, none⟩) rs.length c) gs rs (goneT rs k) v l) (hk : k < rs.length) :
    Da W (wr.setCell ⟨g, k * 4 + 3, none⟩ (.bool true)) H room drops (.slice (some ⟨g, 0, none⟩) rs.length c) gs rs (goneT rs (k + 1)) v l := by
  have hg := h.lt g (.inr (.inl rfl))
  have h1 := h.rg
  have hl := goneT_len rs k
  have h2 := Rg.setGone (i := k) (g := g) (c := c) (by rw [hl]; exact h1) (by rw [hl]; exact hk)
  rw [show (setGone (goneT rs k) k).length = rs.length from goneT_len rs (k + 1)] at h2
  refine ⟨h2, own_kept0 h.own (fun b hb => Below.heap_setCell _ _ _ _ (fun e => ?_)), h.t.set (a := ⟨g, k * 4 + 3, none⟩) (.inl (.inr (.inl rfl))) _, h.lt, goneT_len rs (k + 1)⟩
  have := (h.own.lt b hb.symm).1
  simp only at e
  omega
theorem drain_stop {rs : List Rc} {k : Nat} (hk : k < rs.length) : stopT rs (rs.length - k) k = if hasR rs (k : Int) = true then k else stopT rs (rs.length - (k + 1)) (k + 1) := by
  rw [show rs.length - k = (rs.length - (k + 1)) + 1 by omega]
  rfl
def DrainP (S : Nat → Prop) (H : Nat) (room drops : Int) (r : List (Int × List Int) × List Rc) (W : World) (e : Ending) (w : World) : Prop :=
  ∃ a c, e = .returned (.slice a r.1.length c) ∧ AudIn w (fun b => S b ∨ W.heap.size ≤ b) a r.1 ∧ DR w S H room drops r.2 ∧ Turned S W w
theorem da_done {W wr : World} {S : Nat → Prop} {H : Nat} {room drops : Int} {kv v : Value} {gs : Nat → Nat} {rs : List Rc} {k : Nat} (h : Da W wr H room drops kv gs rs (goneT rs k) v (audM gs rs k)) (hk : k ≤ rs.length) (hS : ∀ b, S b ↔ RgS H kv gs rs.length b) (hK : k = drainK rs) :
    DrainP S H room drops (drainR rs) W (.returned v) wr := by
  have hm := audM_map gs rs k
  have hl : (audT rs k).length = (audM gs rs k).length := by rw [← hm, List.length_map]
  unfold drainR DrainP
  rw [← hK]
  have hDR : DR wr S H room drops (goneT rs k) := ⟨kv, gs, h.rg, fun b => by rw [hS b, goneT_len]⟩
  rcases h.own.2 with ⟨rfl, h0⟩ | ⟨g, cap, cur, hv, hg, hh, -⟩
  · exact ⟨none, 0, by simp only; rw [hl, h0], fun hp => by simp only at hp; omega, hDR, h.t.more (fun b hb => (hS b).2 hb)⟩
  · have ho := h.own
    subst hv
    refine ⟨_, cap, by simp only; rw [hl], fun _ => ⟨g, rfl, .inr hg, (Array.getElem?_eq_some_iff.1 hh).1, fun i hi => ?_⟩, hDR, h.t.more (fun b hb => (hS b).2 hb)⟩
    simp only at hi ⊢
    rw [hl] at hi
    obtain ⟨c1, c2⟩ := flatA_get hi
    have e1 : (audT rs k).getD i (0, []) = (((audM gs rs k).getD i (0, 0, [])).1, ((audM gs rs k).getD i (0, 0, [])).2.2) := by
      rw [← hm, List.getD_eq_getElem?_getD, List.getD_eq_getElem?_getD, List.getElem?_map, List.getElem?_eq_getElem hi]
      rfl
    obtain ⟨q, hq, eq⟩ := audM_in k ((audM gs rs k).getD i (0, 0, [])) (by
      rw [List.getD_eq_getElem?_getD, List.getElem?_eq_getElem hi]
      exact List.getElem_mem _)
    rw [e1]
    rw [eq] at c1 c2 ⊢
    have hd := h.rg.data q (by rw [goneT_len]; omega)
    have hb := goneT_b k hk q
    rw [hb] at hd
    have hln := h.rg.len q (by rw [goneT_len]; omega)
    rw [hb] at hln
    have hgq : RgS H kv gs rs.length (gs q) := .inr (.inr ⟨q, by omega, rfl⟩)
    refine ⟨gs q, 0, (rget rs q).b.length, ?_, ?_, .inl ((hS _).2 (by assumption)), cell_block_lt (hd 0 (by omega)), hd⟩
    · rw [ho.cellAt _ (by omega)]; exact c1
    · rw [ho.cellAt _ (by omega)]; exact c2
attribute [local go_sem ↓] append_veil
set_option maxRecDepth 100000 in
set_option maxHeartbeats 1000000 in
theorem rg_drain {w : World} {S : Nat → Prop} {H : Nat} {room drops : Int} {rs : List Rc} (h : DR w S H room drops rs) :
    Calls Try.prog 16 #[.pointer (some ⟨H, 0, none⟩)] w (DrainP S H room drops (drainR rs) w) := by
  obtain ⟨kv, gs, h, hS⟩ := h
  obtain ⟨a, c, rfl, -⟩ := h.shape
  have hle := h.le
  have HSS := Lib.hid hS
  have HLT := Lib.hid h.lt
  have HG := Lib.hid h
  obtain ⟨m, hm⟩ : ∃ m, rs.length = m := ⟨_, rfl⟩
  have HM := Lib.hid hm
  rw [hm] at hle
  clear h hS hm
  go_enter Try.func16, Try.ntmps16
  go_wp2
  go_loopw [3, 4] (fun s v wr => ∃ k : Nat, k ≤ m ∧ v = .int .i64 k ∧ Da w wr H room drops (.slice a rs.length c) gs rs (goneT rs k) s (audM gs rs k) ∧ stopT rs (rs.length - k) k = drainK rs) (fun _ v _ => 1001 - (intOf v).toNat)
  case atStart => exact ⟨0, by omega, rfl, ⟨HG.out, World.ownsRow_nil _ _ _ _, Turned.refl _ _, HLT.out, rfl⟩, rfl⟩
  case round =>
    obtain ⟨k, hk, rfl, hda, hst⟩ := hrel
    have HDA := Lib.hid hda
    have HST := Lib.hid hst
    have c2 := hda.rg.h2
    rw [HM.out] at c2
    clear hda hst
    by_cases hlt : k < m
    · have hstep := drain_stop (rs := rs) (k := k) (by rw [HM.out]; exact hlt)
      have hgn := hasR_gone (rs := rs) (k := k) (by rw [HM.out]; exact hlt)
      have HSTEP := Lib.hid hstep
      cases hb : hasR rs (k : Int)
      · rw [hb] at hgn
        have HB := Lib.hid hb
        have HGN := Lib.hid hgn
        clear hb hgn hstep
        obtain ⟨a', c', he, hrow⟩ := HDA.out.rg.shape
        injection he with he _ _
        subst he
        obtain ⟨g, rfl, hgl, hfz, hcs⟩ := hrow.at_ (by rw [goneT_len, HM.out]; omega)
        obtain ⟨d0, d1, d2, d3⟩ := hcs k (by rw [goneT_len, HM.out]; omega)
        have f3 := hfz (k * 4 + 3)
        rw [goneT_get k (by rw [HM.out]; omega) k (Nat.le_refl _)] at d0 d1 d2 d3
        obtain ⟨r, hr⟩ : ∃ r, rget rs k = r := ⟨_, rfl⟩
        rw [hr] at d0 d1 d2 d3
        have hk1 : stopT rs (rs.length - (k + 1)) (k + 1) = drainK rs := by
          have := HST.out
          rw [HSTEP.out, if_neg (by rw [HB.out]; decide)] at this
          exact this
        have HK1 := Lib.hid hk1
        have HR := Lib.hid hr
        obtain ⟨n, hn⟩ : ∃ n, r.b.length = n := ⟨_, rfl⟩
        rw [hn] at d2
        have HN := Lib.hid hn
        have hkl : k < rs.length := by rw [HM.out]; exact hlt
        have HKL := Lib.hid hkl
        clear hcs hfz hrow hr hk1 hn hkl
        cases hg : r.gone
        · by_cases hs1 : r.st = 1
          · have hau : audM gs rs (k + 1) = audM gs rs k ++ [(r.own, gs k, r.b)] := by
              show audM gs rs k ++ _ = _
              rw [HR.out, isTold, hg, hs1]; rfl
            have HAU := Lib.hid hau
            rw [hs1] at d1
            rw [hg] at d3
            obtain ⟨v', W3, hrun, hda3⟩ := aud_push HDA.out (by have := audM_len gs rs k; omega) r.own (gs k) n r.b HN.out
            have e2 := hda3.rg.h2
            rw [HM.out] at e2
            obtain ⟨a2, c2', he2, hrow2⟩ := hda3.rg.shape
            injection he2 with he2 _ _
            subst he2
            obtain ⟨g2, hg2, -, hfz2, hcs2⟩ := hrow2.at_ (by rw [goneT_len, HM.out]; omega)
            injection hg2 with hg2
            injection hg2 with hg2 _ _
            subst hg2
            obtain ⟨-, -, -, e3⟩ := hcs2 k (by rw [goneT_len, HM.out]; omega)
            have f4 := hfz2 (k * 4 + 3)
            have HD3 := Lib.hid hda3
            clear hda3 hau hrow2 hcs2 hfz2 hg hs1
            go_wp2_with (go_at_call 18; refine (rg_has HDA.out.rg _).mono ?_; rintro e w1 ⟨he, hw⟩; rw [HGN.out] at he; subst he; subst hw)
            go_region
            go_wp2
            go_roundw
            case rel => exact ⟨k + 1, by omega, by go_num, by rw [HAU.out]; exact HD3.out.gone HKL.out, HK1.out⟩
            case measure => simp [intOf]; omega
          · have hau : audM gs rs (k + 1) = audM gs rs k := by
              show audM gs rs k ++ _ = _
              rw [HR.out, isTold, hg]; simp [hs1]
            have HAU := Lib.hid hau
            have hs2 : (r.st == 1) = false := by simpa using hs1
            rw [hg] at d3
            clear hau hg hs1
            go_wp2_with (go_at_call 18; refine (rg_has HDA.out.rg _).mono ?_; rintro e w1 ⟨he, hw⟩; rw [HGN.out] at he; subst he; subst hw)
            go_roundw
            case rel => exact ⟨k + 1, by omega, by go_num, by rw [HAU.out]; exact HDA.out.gone HKL.out, HK1.out⟩
            case measure => simp [intOf]; omega
        · have hau : audM gs rs (k + 1) = audM gs rs k := by
            show audM gs rs k ++ _ = _
            rw [HR.out, isTold, hg]; simp
          have HAU := Lib.hid hau
          rw [hg] at d3
          clear hau hg
          go_wp2_with (go_at_call 18; refine (rg_has HDA.out.rg _).mono ?_; rintro e w1 ⟨he, hw⟩; rw [HGN.out] at he; subst he; subst hw)
          go_roundw
          case rel => exact ⟨k + 1, by omega, by go_num, by rw [HAU.out]; exact HDA.out.gone HKL.out, HK1.out⟩
          case measure => simp [intOf]; omega
      · rw [hb] at hgn
        have HB := Lib.hid hb
        have HGN := Lib.hid hgn
        clear hb hgn hstep
        go_wp2_with (go_at_call 18; refine (rg_has HDA.out.rg _).mono ?_; rintro e w1 ⟨he, hw⟩; rw [HGN.out] at he; subst he; subst hw)
        go_ret
        exact da_done HDA.out (by rw [HM.out]; omega) HSS.out (by have := HST.out; rw [HSTEP.out, if_pos HB.out] at this; exact this)
    · obtain rfl : k = m := by omega
      go_wp2
      go_ret
      exact da_done HDA.out (by rw [HM.out]; omega) HSS.out (by have := HST.out; rw [HM.out, Nat.sub_self] at this; exact this)
end Go.Proofs.Ythpfockaipbhgaa
