/-
  Proved here: what Copy of the program's maps makes. Conditions: as each lemma says.
-/
import Derived.Test.YtenjdgoammaiiaaHPwQ
namespace Go.Proofs.Ytenjdgoammaiiaa
open Go.RowKit
set_option maxRecDepth 100000
attribute [local go_sem] ta_aa ta_ah ta_al ta_ha ta_hh ta_hl ta_la ta_lh ta_ll ta_na ta_nh ta_nl

/-- A map's copy. -/
def CopyV (x : MSt) (W : World) (e : Ending) (w : World) : Prop := ∃ v S, e = .returned v ∧ PdM w S v x ∧ Below W.heap.size W w ∧ (∀ b, S b → W.heap.size ≤ b) ∧ v.oneCell' = true
theorem copied_any {w : World} {S : Nat → Prop} {v : Value} {x : MSt} (h : PdM w S v x) : Calls Try.prog 22 #[v] w (CopyV x w) := by
  cases h with
  | @arr A G C s n zs hd ha hc hS =>
    have HC := Lib.hid (arrC_copy _ _ _ _ _ _ _ _ hd.pos (by have := hd.le; omega) ha)
    have HD := Lib.hid hd
    clear hd ha hc hS
    unfold ptrV
    go_enter Try.func22, Try.ntmps22
    go_wp2_with (go_at_call 45; refine HC.out.mono ?_; rintro e w1 ⟨A2, G2, C2, rfl, hb, n1, n2, ha2, hc2, -⟩; have HB := Lib.hid hb; have HA := Lib.hid ha2; have HN := Lib.hid (And.intro n1 (And.intro n2 hc2)); clear hb n1 n2 ha2 hc2)
    go_ret
    obtain ⟨n1, n2, hc2⟩ := HN.out
    refine ⟨_, fun b => b = A2 ∨ b = G2, rfl, .arr HD.out HA.out hc2 fun b => Iff.rfl, HB.out, ?_, rfl⟩
    rintro b (rfl | rfl)
    · exact n1
    · exact n2
  | @hash h2 A G C M v2 len l Dm key s n ks zs hd hk hk8 HM hS =>
    have HC := Lib.hid (hm_copy HM hd)
    have HD := Lib.hid (And.intro hd (And.intro hk hk8))
    clear hd hk hk8 HM hS
    unfold ptrV
    go_enter Try.func22, Try.ntmps22
    go_wp2_with (go_at_call 46; refine HC.out.mono ?_; rintro e w1 ⟨h3, D3, rfl, hp, hb, hn⟩; have HB := Lib.hid hb; have HA := Lib.hid hp; have HN := Lib.hid hn; clear hb hp hn)
    go_ret
    obtain ⟨A', G', C', M', v', len', l', Dm', H', hD'⟩ := HA.out
    exact ⟨_, D3, rfl, .hash HD.out.1 HD.out.2.1 HD.out.2.2 H' hD', HB.out, HN.out, rfl⟩
  | @loc h2 A G C v2 kd s n os zs hd hk HM hS =>
    have HC := Lib.hid (lm_copy HM hd)
    have HD := Lib.hid (And.intro hd hk)
    clear hd hk HM hS
    unfold ptrV
    go_enter Try.func22, Try.ntmps22
    go_wp2_with (go_at_call 47; refine HC.out.mono ?_; rintro e w1 ⟨h3, D3, G3, rfl, hp, hb, hn⟩; have HB := Lib.hid hb; have HA := Lib.hid hp; have HN := Lib.hid hn; clear hb hp hn)
    go_ret
    obtain ⟨A', C', v', H', hD'⟩ := HA.out
    exact ⟨_, D3, rfl, .loc HD.out.1 HD.out.2 H' hD', HB.out, HN.out, rfl⟩
  | ring hS =>
    go_enter Try.func22, Try.ntmps22
    go_wp2
    go_ret
    exact ⟨_, fun _ => False, rfl, .ring fun _ h => h, Below.refl _ _, fun _ h => h.elim, rfl⟩
def defS (x : MSt) : Df := ⟨x.kind, x.key, x.val, x.max⟩
theorem defS_get {st : List MSt} {m : Nat} (hm : m < st.length) : (st.map defS).getD m dfD = defS (st.getD m .ring) := by
  rw [List.getD_eq_getElem?_getD, List.getElem?_map, List.getD_eq_getElem?_getD, List.getElem?_eq_getElem hm]
  rfl
attribute [local go_sem ↓] append_veil
section
variable {w w' : World} {h : Nat} {a1 a2 : Option Addr} {c1 c2 : Nat} {pv : Nat → Value} {Ss : Nat → Nat → Prop} {st : List MSt} {D : Nat → Prop}
theorem Pw.defs (H : Pw w h a1 a2 c1 c2 pv Ss st) : DfsIn w a1 (st.map defS) := by
  intro j hj
  rw [List.length_map] at hj
  have hlt := H.lt
  obtain ⟨g1, g2, rfl, rfl, e0, e1, e2, e3, -⟩ := H.row j hj
  rw [defS_get hj]
  refine ⟨g1, 0, rfl, hlt g1 (.inr (.inl ⟨by omega, rfl⟩)), ?_, ?_, ?_, ?_⟩
  · rw [Nat.zero_add]; exact e0
  · rw [Nat.zero_add]; exact e1
  · rw [Nat.zero_add]; exact e2
  · rw [Nat.zero_add]; exact e3
set_option maxHeartbeats 4000000 in
theorem pw_copy (H : Pw w h a1 a2 c1 c2 pv Ss st) :
    Calls Try.prog 9 #[ptrV h] w (fun e w' => ∃ h2 D2, e = .returned (ptrV h2) ∧ PwM w' D2 h2 st ∧ Below w.heap.size w w' ∧ ∀ b, D2 b → w.heap.size ≤ b) := by
  have h4 := H.four
  have hcl := clone_defs (c := c1) H.defs (by rw [List.length_map]; exact h4)
  rw [List.length_map] at hcl
  have HH := Lib.hid H
  have k0 := H.c0
  have k1 := H.c1
  have hhl := cell_block_lt k0
  obtain ⟨n, hn⟩ : ∃ n, st.length = n := ⟨_, rfl⟩
  have HN := Lib.hid hn
  rw [hn] at h4 k0 k1 hcl
  have HCL := Lib.hid hcl
  clear H hn hcl
  unfold ptrV
  go_enter Try.func9, Try.ntmps9
  go_wp2_with (go_at_call 17; refine HCL.out.mono ?_; rintro e w2 ⟨a3, c3, rfl, hb2, hg2⟩; have HB2 := Lib.hid hb2; have HG2 := Lib.hid hg2; rw [List.length_map, HN.out]; have k2 := (((box_below w2 (.cells #[.slice a3 n c3, .slice none 0 0] 54)).mono hb2.size).cell (p := ⟨h, 1, none⟩) hhl).trans ((hb2.cell (p := ⟨h, 1, none⟩) hhl).trans k1); clear hb2 hg2)
  obtain ⟨h0, hh0⟩ : ∃ x, w2.heap.size = x := ⟨_, rfl⟩
  have hst : Bd w (w2.alloc (.cells #[.slice a3 n c3, .slice none 0 0] 54)) h0 (.slice a3 n c3) (.slice none 0 0) (st.map defS) st [] (fun _ _ => False) := by
    subst hh0
    have hs2 := HB2.out.size
    have hb3 : Below w2.heap.size w2 (w2.alloc (.cells #[.slice a3 n c3, .slice none 0 0] 54)) := box_below w2 _
    refine ⟨by simp [go_sem], by simp [go_sem], fun j => by simp [go_sem], World.ownsRow_nil _ _ _ _, fun m hm => absurd hm (Nat.not_lt_zero _), fun m b hm => absurd hm (Nat.not_lt_zero _), fun m hm => absurd hm (Nat.not_lt_zero _), fun m b hm => absurd hm (Nat.not_lt_zero _), fun e => (by cases e), fun i j b hi => absurd hi (Nat.not_lt_zero _), ⟨a3, c3, by rw [List.length_map, HN.out], fun h0 => ?_⟩, by omega, HB2.out.trans (hb3.mono (by omega))⟩
    obtain ⟨g, e, g1, g2, g3⟩ := HG2.out h0
    exact ⟨g, e, by omega, Nat.lt_of_lt_of_le g2 hb3.size, by omega, fun m hm => absurd hm (Nat.not_lt_zero _), fun e => (by cases e), fun j u hu => (hb3.cell (p := ⟨g, j, none⟩) g2).trans (g3 j u hu)⟩
  have HST := Lib.hid hst
  rw [hh0] at *
  clear hst hh0 HG2 k2
  go_loopw [20] (fun v wr => ∃ k : Nat, k ≤ n ∧ v = .int .i64 k ∧ ∃ mv l Ss2, Bd w wr h0 (.slice a3 n c3) mv (st.map defS) st l Ss2 ∧ l.length = k) (fun v _ => n - (intOf v).toNat)
  case atStart => exact ⟨0, by omega, rfl, _, _, _, HST.out, rfl⟩
  case round =>
    obtain ⟨k, hk, rfl, mv, l, Ss2, hbd, hlk⟩ := hrel
    have HBD := Lib.hid hbd
    have HLK := Lib.hid hlk
    by_cases hlt : k < n
    · have hkl : k < st.length := by rw [HN.out]; exact hlt
      have hltw := HH.out.lt
      obtain ⟨g1, g2, rfl, rfl, -, -, -, -, e4⟩ := HH.out.row k hkl
      have hg2 : g2 < w.heap.size := hltw g2 (.inr (.inr (.inl ⟨by omega, rfl⟩)))
      have d4 := (hbd.b.cell (p := ⟨g2, k, none⟩) hg2).trans e4
      have hpd := HH.out.pd k hkl
      have hpd1 := hpd.kept fun b hb => hbd.b.block b (hpd.lt b hb)
      obtain ⟨x, hx⟩ : ∃ x, st.getD k .ring = x := ⟨_, rfl⟩
      obtain ⟨p, hp⟩ : ∃ p, pv k = p := ⟨_, rfl⟩
      rw [hx, hp] at hpd1
      rw [hp] at d4
      have HC := Lib.hid (copied_any (hpd1.kept (w' := wr.drew) fun b hb => rfl))
      obtain ⟨am, cm, rfl⟩ := own_shapeD hbd.own
      have HX := Lib.hid hx
      have q0 : wr.drew.cell? ⟨h0, 1, none⟩ = some (.slice am l.length cm) := hbd.c1
      have Q0 := Lib.hid (And.intro q0 (cell_block_lt q0))
      clear hbd hlk hx hp hpd hpd1 e4 hltw
      by_cases hk5 : x.kind = 5
      · have HK5 := Lib.hid hk5
        clear hk5
        go_wp2
        go_region_with ((go_at_call 22; refine HC.out.mono ?_; rintro e w3 ⟨v3, S3, rfl, hp3, hb3, hn3, ho3⟩; obtain rfl := pd_nil hp3 HK5.out; obtain ⟨a4, c4, W4, hrun, hc4, hf4, hk4, hbd4⟩ := bd_push HBD.out (by rw [HLK.out]; omega) ((Below.refl _ _).drew.trans hb3) (by rw [HLK.out, HX.out]; exact hp3) hn3 ho3; have HB4 := Lib.hid hbd4; have x3 := (hb3.cell (p := ⟨h0, 1, none⟩) Q0.out.2).trans Q0.out.1; have x4 := ((box_below w3 (.cells #[.nilIface] 56)).cell (p := ⟨h0, 1, none⟩) (Nat.lt_of_lt_of_le Q0.out.2 hb3.size)).trans x3; clear hk4 hp3 hb3 hn3 ho3 hbd4))
        all_goals
          go_wp2
          go_roundw
          case rel => exact ⟨k + 1, by omega, by go_num, _, _, _, HB4.out, by rw [List.length_append, HLK.out]; rfl⟩
          case measure => simp [intOf]; omega
      · have HK5 := Lib.hid hk5
        clear hk5
        go_wp2
        go_region_with ((go_at_call 22; refine HC.out.mono ?_; rintro e w3 ⟨v3, S3, rfl, hp3, hb3, hn3, ho3⟩; obtain ⟨t3, p3, rfl⟩ := pd_iface hp3 HK5.out; obtain ⟨a4, c4, W4, hrun, hc4, hf4, hk4, hbd4⟩ := bd_push HBD.out (by rw [HLK.out]; omega) ((Below.refl _ _).drew.trans hb3) (by rw [HLK.out, HX.out]; exact hp3) hn3 ho3; have HB4 := Lib.hid hbd4; have x3 := (hb3.cell (p := ⟨h0, 1, none⟩) Q0.out.2).trans Q0.out.1; have x4 := ((box_below w3 (.cells #[.iface t3 (.pointer p3)] 56)).cell (p := ⟨h0, 1, none⟩) (Nat.lt_of_lt_of_le Q0.out.2 hb3.size)).trans x3; clear hk4 hp3 hb3 hn3 ho3 hbd4))
        all_goals
          go_wp2
          go_roundw
          case rel => exact ⟨k + 1, by omega, by go_num, _, _, _, HB4.out, by rw [List.length_append, HLK.out]; rfl⟩
          case measure => simp [intOf]; omega
    · obtain rfl : k = n := by omega
      clear hbd hlk
      go_wp2
      go_ret
      have hlk := HLK.out
      have hn := HN.out
      obtain ⟨D, hp, hnw⟩ := bd_done HBD.out (by rw [hlk, hn]) (List.length_map _) (by rw [hn]; exact h4) (fun m hm => defS_get hm)
      exact ⟨h0, D, rfl, hp, HBD.out.b, hnw⟩
end
end Go.Proofs.Ytenjdgoammaiiaa
