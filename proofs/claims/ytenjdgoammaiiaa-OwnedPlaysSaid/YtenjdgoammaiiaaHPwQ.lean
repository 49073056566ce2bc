/-
  Proved here: what May tells, and New makes, of descriptions that may be a program's. Conditions: as each lemma says.
-/
import Derived.Test.YtenjdgoammaiiaaGN
import Derived.Deep.RegionHeld
import Derived.Deep.RegionWith
import Derived.Deep.DeepCutAuto
namespace Go.Proofs.Ytenjdgoammaiiaa
open Go.RowKit
set_option maxRecDepth 100000

theorem not_may_one {d : Df} (h : MayK d) (w : World) : Calls Try.prog 40 #[dfV d] w (fun e w' => e = .returned (.bool false) ∧ Below w.heap.size w w') := by
  have hb : Below w.heap.size w (w.alloc (dfO d)) := box_below w _
  have HB := Lib.hid hb
  have b0 : (w.alloc (dfO d)).cell? ⟨w.heap.size, 0, none⟩ = some (.int .i64 d.k) := by simp [go_sem, dfO]
  have b1 : (w.alloc (dfO d)).cell? ⟨w.heap.size, 1, none⟩ = some (.int .i64 d.y) := by simp [go_sem, dfO]
  have b2 : (w.alloc (dfO d)).cell? ⟨w.heap.size, 2, none⟩ = some (.int .i64 d.v) := by simp [go_sem, dfO]
  have b3 : (w.alloc (dfO d)).cell? ⟨w.heap.size, 3, none⟩ = some (.int .i64 d.x) := by simp [go_sem, dfO]
  have HM := Lib.hid (may_one h)
  clear hb h
  unfold dfV dfO at *
  obtain ⟨k, y, v, x⟩ := d
  simp only at *
  go_enter Try.func40, Try.ntmps40
  go_wp2_with (go_at_call 41; refine (HM.out _).mono ?_; rintro e w1 ⟨rfl, hb1⟩; have HB1 := Lib.hid hb1; clear hb1)
  go_ret
  exact ⟨rfl, HB.out.trans (HB1.out.mono HB.out.size)⟩
theorem index_defs {w : World} {a : Option Addr} {c n : Nat} {ds : List Df} (h : DfsIn w a ds) (hl : ds.length = n) (hn : n ≤ 4) (hm : ∀ j, j < n → MayK (ds.getD j dfD)) :
    Calls Try.prog 67 #[.slice a n c, .func (.func 40) #[] #[]] w (fun e w' => e = .returned (.int .i64 (-1)) ∧ Below w.heap.size w w') := by
  have HH := Lib.hid h
  have HL := Lib.hid hl
  have HM := Lib.hid hm
  clear h hl hm
  go_enter Try.func67, Try.ntmps67
  go_wp2
  go_loopw [8] (fun v wr => ∃ k : Nat, k ≤ n ∧ v = .int .i64 k ∧ Below w.heap.size w wr) (fun v _ => n - (intOf v).toNat)
  case atStart => exact ⟨0, by omega, rfl, Below.refl _ _⟩
  case round =>
    obtain ⟨k, hk, rfl, hb⟩ := hrel
    have HB := Lib.hid hb
    by_cases hlt : k < n
    · obtain ⟨g, o, rfl, hg, d0, d1, d2, d3⟩ := HH.out k (by rw [HL.out]; exact hlt)
      have d0 := (hb.cell (p := ⟨g, _, none⟩) hg).trans d0
      have d1 := (hb.cell (p := ⟨g, _, none⟩) hg).trans d1
      have d2 := (hb.cell (p := ⟨g, _, none⟩) hg).trans d2
      have d3 := (hb.cell (p := ⟨g, _, none⟩) hg).trans d3
      have hmk := HM.out k hlt
      obtain ⟨d, hd⟩ : ∃ d, ds.getD k dfD = d := ⟨_, rfl⟩
      rw [hd] at d0 d1 d2 d3 hmk
      have HC := Lib.hid (not_may_one hmk)
      clear hb hd hmk
      unfold dfV at HC
      obtain ⟨kd, y, v, x⟩ := d
      simp only at *
      go_wp2_with (go_at_call 40; refine (HC.out _).mono ?_; rintro e w1 ⟨rfl, hb1⟩; have HB1 := Lib.hid hb1; clear hb1)
      go_roundw
      case rel => exact ⟨k + 1, by omega, by go_num, HB.out.trans (HB1.out.mono HB.out.size)⟩
      case measure => simp [intOf]; omega
    · obtain rfl : k = n := by omega
      clear hb
      go_wp2
      go_ret
      exact ⟨rfl, HB.out⟩
theorem may_defs {w : World} {a : Option Addr} {c n : Nat} {ds : List Df} (h : DfsIn w a ds) (hl : ds.length = n) (hn : n ≤ 4) (hm : ∀ j, j < n → MayK (ds.getD j dfD)) :
    Calls Try.prog 16 #[.slice a n c] w (fun e w' => e = .returned (.bool true) ∧ Below w.heap.size w w') := by
  have hc : Calls Try.prog 39 #[.slice a n c, .func (.func 40) #[] #[]] w (fun e w' => e = .returned (.bool false) ∧ Below w.heap.size w w') := by
    have HI := Lib.hid (index_defs (c := c) h hl hn hm)
    clear h hl hm
    go_enter Try.func39, Try.ntmps39
    go_wp2_with (go_at_call 67; refine HI.out.mono ?_; rintro e w1 ⟨rfl, hb1⟩; have HB1 := Lib.hid hb1; clear hb1)
    go_ret
    exact ⟨rfl, HB1.out⟩
  have HC := Lib.hid hc
  have hn' : decide ((n : Int) ≤ 4) = true := decide_eq_true (by omega)
  clear h hl hm hc
  go_enter Try.func16, Try.ntmps16
  go_wp2_with (go_at_call 39; refine HC.out.mono ?_; rintro e w1 ⟨rfl, hb1⟩; have HB1 := Lib.hid hb1; clear hb1)
  go_ret
  exact ⟨rfl, HB1.out⟩
theorem pd_iface {w : World} {S : Nat → Prop} {v : Value} {x : MSt} (h : PdM w S v x) (hk : x.kind ≠ 5) : ∃ t q, v = .iface t (.pointer q) := by
  cases h with
  | arr hd h hc hS => exact ⟨_, _, rfl⟩
  | hash hd hk hk8 h hS => exact ⟨_, _, rfl⟩
  | loc hd hk h hS => exact ⟨_, _, rfl⟩
  | ring hS => exact absurd rfl hk
theorem pd_nil {w : World} {S : Nat → Prop} {v : Value} {x : MSt} (h : PdM w S v x) (hk : x.kind = 5) : v = .nilIface := by
  cases h with
  | arr hd h hc hS => cases hk
  | hash hd hk hk8 h hS => cases hk
  | loc hd hk2 h hS =>
    have : (MSt.loc _ _ _ _ _).kind = 5 := hk
    simp only [MSt.kind] at this
    omega
  | ring hS => rfl
theorem five_stay {W W' : World} {B h : Nat} {a b c d e : Value} (k : W.cell? ⟨B, 0, none⟩ = some a ∧ W.cell? ⟨B, 1, none⟩ = some b ∧ W.cell? ⟨B, 2, none⟩ = some c ∧ W.cell? ⟨B, 3, none⟩ = some d ∧ W.cell? ⟨h, 1, none⟩ = some e) (hb : Below W.heap.size W W') :
    W'.cell? ⟨B, 0, none⟩ = some a ∧ W'.cell? ⟨B, 1, none⟩ = some b ∧ W'.cell? ⟨B, 2, none⟩ = some c ∧ W'.cell? ⟨B, 3, none⟩ = some d ∧ W'.cell? ⟨h, 1, none⟩ = some e := by
  obtain ⟨k0, k1, k2, k3, k4⟩ := k
  have hB : B < W.heap.size := cell_block_lt k0
  have hh : h < W.heap.size := cell_block_lt k4
  exact ⟨(hb.cell (p := ⟨B, 0, none⟩) hB).trans k0, (hb.cell (p := ⟨B, 1, none⟩) hB).trans k1, (hb.cell (p := ⟨B, 2, none⟩) hB).trans k2, (hb.cell (p := ⟨B, 3, none⟩) hB).trans k3, (hb.cell (p := ⟨h, 1, none⟩) hh).trans k4⟩
theorem five_kept {W W' : World} {B h : Nat} {a b c d e f : Value} {mv : Value} (k : W.cell? ⟨B, 0, none⟩ = some a ∧ W.cell? ⟨B, 1, none⟩ = some b ∧ W.cell? ⟨B, 2, none⟩ = some c ∧ W.cell? ⟨B, 3, none⟩ = some d ∧ W.cell? ⟨h, 1, none⟩ = some f) (hk : ∀ i, i < W.heap.size → some i ≠ mv.ownBlock → W'.heap[i]? = W.heap[i]?) (hn : some B ≠ mv.ownBlock) (he : W'.cell? ⟨h, 1, none⟩ = some e) :
    W'.cell? ⟨B, 0, none⟩ = some a ∧ W'.cell? ⟨B, 1, none⟩ = some b ∧ W'.cell? ⟨B, 2, none⟩ = some c ∧ W'.cell? ⟨B, 3, none⟩ = some d ∧ W'.cell? ⟨h, 1, none⟩ = some e := by
  obtain ⟨k0, k1, k2, k3, k4⟩ := k
  have hB := hk B (cell_block_lt k0) hn
  exact ⟨(World.cell?_of_block (w := W) (a := ⟨B, 0, none⟩) hB).trans k0, (World.cell?_of_block (w := W) (a := ⟨B, 1, none⟩) hB).trans k1, (World.cell?_of_block (w := W) (a := ⟨B, 2, none⟩) hB).trans k2, (World.cell?_of_block (w := W) (a := ⟨B, 3, none⟩) hB).trans k3, he⟩
attribute [local go_sem ↓] append_veil
set_option maxHeartbeats 4000000 in
theorem pw_new {w : World} {a : Option Addr} {c : Nat} {ds : List Df} (h : DfsIn w a ds) (hm : mayL ds = true) :
    Calls Try.prog 7 #[.slice a ds.length c] w (fun e w' => ∃ h D, e = .returned (.tuple #[ptrV h, .int .i64 0]) ∧ PwM w' D h (ds.map newM) ∧ Below w.heap.size w w' ∧ ∀ b, D b → w.heap.size ≤ b) := by
  unfold mayL at hm
  simp only [Bool.and_eq_true, decide_eq_true_eq] at hm
  obtain ⟨h4, hall⟩ := hm
  have hmj : ∀ j, j < ds.length → mayD (ds.getD j dfD) = true := fun j hj => by
    rw [List.getD_eq_getElem?_getD, List.getElem?_eq_getElem hj]
    exact List.all_eq_true.1 hall _ (List.getElem_mem hj)
  have hmk : ∀ j, j < ds.length → MayK (ds.getD j dfD) := fun j hj => may_k (hmj j hj)
  obtain ⟨n, hn⟩ : ∃ n, ds.length = n := ⟨_, rfl⟩
  have HMY := Lib.hid (may_defs (c := c) h hn (by omega) (by rw [← hn]; exact hmk))
  have HCL := Lib.hid (fun (W : World) (hb : Below w.heap.size w W) => clone_defs (c := c) (h.stay hb) h4)
  have HH := Lib.hid h
  have HN := Lib.hid hn
  have HMK := Lib.hid hmk
  have HMJ := Lib.hid hmj
  rw [hn] at h4 HCL ⊢
  clear h hall hmj hmk hn
  go_enter Try.func7, Try.ntmps7
  go_wp2_with (first
    | (go_at_call 16; refine HMY.out.mono ?_; rintro e w1 ⟨rfl, hb1⟩; have HB1 := Lib.hid hb1; clear hb1)
    | (go_at_call 17; refine (HCL.out _ HB1.out).mono ?_; rintro e w2 ⟨a1, c1, rfl, hb2, hg2⟩; have HB2 := Lib.hid hb2; have HG2 := Lib.hid hg2; rw [HN.out]; clear hb2 hg2))
  obtain ⟨h0, hh0⟩ : ∃ x, w2.heap.size = x := ⟨_, rfl⟩
  have hst : Bd w (w2.alloc (.cells #[.slice a1 n c1, .slice none 0 0] 54)) h0 (.slice a1 n c1) (.slice none 0 0) ds (ds.map newM) [] (fun _ _ => False) := by
    subst hh0
    have hs1 := HB1.out.size
    have hs2 := HB2.out.size
    have hb3 : Below w2.heap.size w2 (w2.alloc (.cells #[.slice a1 n c1, .slice none 0 0] 54)) := box_below w2 _
    refine ⟨by simp [go_sem], by simp [go_sem], fun j => by simp [go_sem], World.ownsRow_nil _ _ _ _, fun m hm => absurd hm (Nat.not_lt_zero _), fun m b hm => absurd hm (Nat.not_lt_zero _), fun m hm => absurd hm (Nat.not_lt_zero _), fun m b hm => absurd hm (Nat.not_lt_zero _), fun e => (by cases e), fun i j b hi => absurd hi (Nat.not_lt_zero _), ⟨a1, c1, by rw [HN.out], fun h0 => ?_⟩, by omega, (HB1.out.trans (HB2.out.mono hs1)).trans (hb3.mono (by omega))⟩
    obtain ⟨g, e, g1, g2, g3⟩ := HG2.out h0
    exact ⟨g, e, by omega, Nat.lt_of_lt_of_le g2 hb3.size, by omega, fun m hm => absurd hm (Nat.not_lt_zero _), fun e => (by cases e), fun j u hu => (hb3.cell (p := ⟨g, j, none⟩) g2).trans (g3 j u hu)⟩
  have HST := Lib.hid hst
  rw [hh0] at *
  clear hst hh0 HG2
  go_loopw [16] (fun v wr => ∃ k : Nat, k ≤ n ∧ v = .int .i64 k ∧ ∃ mv l Ss, Bd w wr h0 (.slice a1 n c1) mv ds (ds.map newM) l Ss ∧ l.length = k) (fun v _ => n - (intOf v).toNat)
  case atStart => exact ⟨0, by omega, rfl, _, _, _, HST.out, rfl⟩
  case round =>
    obtain ⟨k, hk, rfl, mv, l, Ss, hbd, hlk⟩ := hrel
    have HBD := Lib.hid hbd
    have HLK := Lib.hid hlk
    by_cases hlt : k < n
    · obtain ⟨g, o, rfl, hg, d0, d1, d2, d3⟩ := HH.out k (by rw [HN.out]; exact hlt)
      have d0 := (hbd.b.cell (p := ⟨g, _, none⟩) hg).trans d0
      have d1 := (hbd.b.cell (p := ⟨g, _, none⟩) hg).trans d1
      have d2 := (hbd.b.cell (p := ⟨g, _, none⟩) hg).trans d2
      have d3 := (hbd.b.cell (p := ⟨g, _, none⟩) hg).trans d3
      have hmk := HMK.out k (by rw [HN.out]; exact hlt)
      obtain ⟨am, cm, rfl⟩ := own_shapeD hbd.own
      have hnw : (ds.map newM).getD k .ring = newM (ds.getD k dfD) := by
        have : k < ds.length := by rw [HN.out]; exact hlt
        rw [List.getD_eq_getElem?_getD, List.getElem?_map, List.getD_eq_getElem?_getD, List.getElem?_eq_getElem this]
        rfl
      obtain ⟨d, hd⟩ : ∃ d, ds.getD k dfD = d := ⟨_, rfl⟩
      rw [hd] at d0 d1 d2 d3 hmk hnw
      have HC := Lib.hid (slots_of hmk)
      have HW := Lib.hid hnw
      have hbx : Below wr.heap.size wr (wr.alloc (dfO d)) := box_below wr _
      have b0 : (wr.alloc (dfO d)).cell? ⟨wr.heap.size, 0, none⟩ = some (.int .i64 d.k) := by simp [go_sem, dfO]
      have b1 : (wr.alloc (dfO d)).cell? ⟨wr.heap.size, 1, none⟩ = some (.int .i64 d.y) := by simp [go_sem, dfO]
      have b2 : (wr.alloc (dfO d)).cell? ⟨wr.heap.size, 2, none⟩ = some (.int .i64 d.v) := by simp [go_sem, dfO]
      have b3 : (wr.alloc (dfO d)).cell? ⟨wr.heap.size, 3, none⟩ = some (.int .i64 d.x) := by simp [go_sem, dfO]
      have HBD0 := Lib.hid (hbd.stay hbx)
      have HZ := Lib.hid hbx.size
      have HBO : Hid (some wr.heap.size ≠ (Value.slice am l.length cm).ownBlock) := Lib.hid fun e => by have := (own_ltG hbd.own _ e).2; omega
      clear hbd hlk hd hmk hnw hbx
      unfold dfV at HC
      unfold dfO at b0 b1 b2 b3 HBD0 HZ
      obtain ⟨kd, y, v, x⟩ := d
      simp only at *
      go_upto_region 7 with fail
      obtain ⟨W0, hW0⟩ : ∃ W', wr.alloc (.cells #[.int .i64 kd, .int .i64 y, .int .i64 v, .int .i64 x] 47) = W' := ⟨_, rfl⟩
      obtain ⟨B, hB⟩ : ∃ B', wr.heap.size = B' := ⟨_, rfl⟩
      rw [hW0] at b0 b1 b2 b3 HBD0 HZ ⊢
      rw [hB] at b0 b1 b2 b3 HZ HBO ⊢
      clear hW0 hB
      have q0 : Hid (W0.drew.cell? ⟨B, 0, none⟩ = some (.int .i64 kd) ∧ W0.drew.cell? ⟨B, 1, none⟩ = some (.int .i64 y) ∧ W0.drew.cell? ⟨B, 2, none⟩ = some (.int .i64 v) ∧ W0.drew.cell? ⟨B, 3, none⟩ = some (.int .i64 x) ∧ W0.drew.cell? ⟨h0, 1, none⟩ = some (.slice am l.length cm)) := Lib.hid ⟨b0, b1, b2, b3, HBD0.out.c1⟩
      obtain ⟨d0, d1, d2, d3, d4⟩ := q0.out
      by_cases hk5 : (newM ⟨kd, y, v, x⟩).kind = 5
      · have HK5 := Lib.hid hk5
        clear hk5
        go_region_with ((go_at_call 18; refine (HC.out _).mono ?_; rintro e w3 ⟨v3, S3, rfl, hp3, hb3, hn3, ho3⟩; obtain rfl := pd_nil hp3 HK5.out; obtain ⟨a4, c4, W4, hrun, hc4, hf4, hk4, hbd4⟩ := bd_push HBD0.out (by rw [HLK.out]; omega) ((Below.refl _ _).drew.trans hb3) (by rw [HLK.out, HW.out]; exact hp3) hn3 ho3; have HB4 := Lib.hid hbd4; have q3 := Lib.hid (five_stay q0.out hb3); have q4 := Lib.hid (five_stay q3.out (box_below w3 (.cells #[.nilIface] 56))); have x3 := q3.out.2.2.2.2; have x4 := q4.out.2.2.2.2; clear hk4 hp3 hb3 hn3 ho3 hbd4))
        all_goals
          go_wp2
          go_roundw
          case rel => exact ⟨k + 1, by omega, by go_num, _, _, _, HB4.out, by rw [List.length_append, HLK.out]; rfl⟩
          case measure => simp [intOf]; omega
      · have HK5 := Lib.hid hk5
        clear hk5
        go_region_with ((go_at_call 18; refine (HC.out _).mono ?_; rintro e w3 ⟨v3, S3, rfl, hp3, hb3, hn3, ho3⟩; obtain ⟨t3, p3, rfl⟩ := pd_iface hp3 HK5.out; obtain ⟨a4, c4, W4, hrun, hc4, hf4, hk4, hbd4⟩ := bd_push HBD0.out (by rw [HLK.out]; omega) ((Below.refl _ _).drew.trans hb3) (by rw [HLK.out, HW.out]; exact hp3) hn3 ho3; have HB4 := Lib.hid hbd4; have q3 := Lib.hid (five_stay q0.out hb3); have q4 := Lib.hid (five_stay q3.out (box_below w3 (.cells #[.iface t3 (.pointer p3)] 56))); have x3 := q3.out.2.2.2.2; have x4 := q4.out.2.2.2.2; clear hk4 hp3 hb3 hn3 ho3 hbd4))
        all_goals
          go_wp2
          go_roundw
          case rel => exact ⟨k + 1, by omega, by go_num, _, _, _, HB4.out, by rw [List.length_append, HLK.out]; rfl⟩
          case measure => simp [intOf]; omega
    · obtain rfl : k = n := by omega
      clear hbd hlk
      go_wp2
      go_ret2
      have hlk := HLK.out
      have hn := HN.out
      have hll : (ds.map newM).length = ds.length := List.length_map _
      obtain ⟨D, hp, hnw⟩ := bd_done HBD.out (by rw [hll, hlk, hn]) hll.symm (by rw [hll, hn]; exact h4) (fun m hm => by
        rw [hll] at hm
        obtain ⟨e1, e2, e3, e4⟩ := newM_is (HMJ.out m hm)
        have hg : (ds.map newM).getD m .ring = newM (ds.getD m dfD) := by
          rw [List.getD_eq_getElem?_getD, List.getElem?_map, List.getD_eq_getElem?_getD, List.getElem?_eq_getElem hm]
          rfl
        rw [hg, e1, e2, e3, e4])
      exact ⟨h0, D, rfl, hp, HBD.out.b, hnw⟩
end Go.Proofs.Ytenjdgoammaiiaa
