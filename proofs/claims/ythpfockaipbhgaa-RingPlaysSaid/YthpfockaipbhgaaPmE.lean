/-
  Proved here: settle, Commit and Discard of the program's rings; what is written to a record's bytes behind its being told leaves the ring. Conditions: as each lemma says.
-/
import Derived.Test.YthpfockaipbhgaaPmH
import Derived.Test.YthpfockaipbhgaaTold13
namespace Go.Proofs.Ythpfockaipbhgaa
open Go.RowKit

theorem Fresh.stayed {W w : World} {G n : Nat} {zs : List Int} (h : Fresh W w G n zs) {k : Nat} (hk : k < W.heap.size) : w.heap[k]? = W.heap[k]? := h.below.block k hk
section
variable {w w' : World} {h g : Nat} {room drops : Int} {kv : Value} {ds : Nat → Nat} {ls : List Rc}
/-- What settle leaves of a record that was held. -/
def Settled (h g : Nat) (room drops : Int) (b c : Nat) (ds : Nat → Nat) (ls : List Rc) (i : Nat) (s : Int) (W : World) (e : Ending) (w : World) : Prop :=
  e = .returned (.bool true) ∧ ∃ G2, W.heap.size ≤ G2 ∧ Pr w h room drops g (.slice (some ⟨b, 0, none⟩) (setSt ls i s).length c) (fun j => if j = i then G2 else ds j) (setSt ls i s) ∧ Turned (fun k => k = b) W w
theorem setSt_b {i : Nat} {s : Int} (hi : i < ls.length) : (rget (setSt ls i s) i).b = (rget ls i).b := by rw [setSt, rget_set hi, if_pos rfl]
set_option maxRecDepth 100000 in
set_option maxHeartbeats 1000000 in
theorem settle_yes {b c i : Nat} {id s : Int} (H : Pr w h room drops g (.slice (some ⟨b, 0, none⟩) ls.length c) ds ls) (hid : id = (g : Int) + i) (hi : i < ls.length) (h0 : (rget ls i).st = 0) (hs : 0 ≤ s ∧ s ≤ 2) :
    Calls Try.prog 26 #[.pointer (some ⟨h, 0, none⟩), .int .i64 id, .int .u8 s] w (Settled h g room drops b c ds ls i s w) := by
  have HP := Lib.hid H
  have HI := Lib.hid (And.intro hid (And.intro hi h0))
  have HS := Lib.hid hs
  clear H hid hi h0 hs
  go_enter Try.func26, Try.ntmps26
  go_upto_region 5 with (go_at_call 28; refine (held_yes HP.out HI.out.1 HI.out.2.1 HI.out.2.2).mono ?_; rintro e w1 ⟨rfl, hb⟩; obtain ⟨b', hb', -, hfz, hcs⟩ := (HP.out.stay hb).lv.at_ (by have := HI.out.2.1; omega); injection hb' with hb'; injection hb' with hb' _ _; subst hb'; obtain ⟨-, d1, d2⟩ := hcs i HI.out.2.1; have f1 := hfz (i * 3 + 1); have f2 := hfz (i * 3 + 2); have HB := Lib.hid hb; have H1 := Lib.hid (HP.out.stay hb); clear hb hcs hfz)
  have h2 := H1.out.state (s := s) HI.out.2.1 HS.out
  rw [show ls.length = (setSt ls i s).length from List.length_set.symm] at h2
  have ht2 : Turned (fun k => k = b) w (w1.setCell ⟨b, i * 3 + 1, none⟩ (.int .u8 s)) := Turned.set (S := fun k => k = b) (Turned.of HB.out) (a := ⟨b, i * 3 + 1, none⟩) (.inl rfl) _
  obtain ⟨W2, hW2⟩ : ∃ W2, w1.setCell ⟨b, i * 3 + 1, none⟩ (.int .u8 s) = W2 := ⟨_, rfl⟩
  rw [hW2] at h2 ht2 ⊢
  have hi2 : i < (setSt ls i s).length := by rw [setSt, List.length_set]; exact HI.out.2.1
  obtain ⟨ls2, hls2⟩ : ∃ l, setSt ls i s = l := ⟨_, rfl⟩
  have HLS := Lib.hid hls2
  rw [hls2] at h2 hi2
  clear d1 d2 f1 f2 hW2 hls2
  obtain ⟨b', hb', -, hfz, hcs⟩ := h2.lv.at_ (by omega)
  injection hb' with hb'
  injection hb' with hb' _ _
  subst hb'
  obtain ⟨-, -, d2⟩ := hcs i hi2
  have f2 := hfz (i * 3 + 2)
  have hdat := h2.data i hi2
  have hln := h2.len i hi2
  obtain ⟨n, hn⟩ : ∃ n, (rget ls2 i).b.length = n := ⟨_, rfl⟩
  have HN := Lib.hid hn
  rw [hn] at d2 hdat hln
  have H2 := Lib.hid h2
  have HD := Lib.hid (And.intro hdat (And.intro hn (cell_block_lt (hdat 0 (by omega)))))
  have HT2 := Lib.hid ht2
  have HI2 := Lib.hid hi2
  clear h2 hcs hfz hdat hn ht2 hi2
  have hbl : b < W2.heap.size := cell_block_lt d2
  go_wp2_with (go_at_call 25; refine (copied_call (by omega) HD.out.2.1 HD.out.1 HD.out.2.2).mono ?_; rintro e w3 ⟨G2, rfl, hf⟩; have d3 := (hf.below.cell (p := ⟨b, i * 3 + 2, none⟩) hbl).trans d2; have f3 := (World.frozen?_of_block (w := W2) (a := ⟨b, i * 3 + 2, none⟩) (hf.below.block b hbl)).trans f2; have HF := Lib.hid hf; clear hf)
  go_ret
  have h3 := H2.out.stay HF.out.below
  have h4 := h3.bytes (G := G2) HI2.out (by rw [HN.out]; exact HF.out.row) HF.out.free (fun hS => by have := H2.out.lt _ hS; have := HF.out.at_; omega)
  rw [HN.out] at h4
  have hsz := HT2.out.size
  refine ⟨rfl, G2, Nat.le_trans hsz HF.out.at_, by rw [HLS.out]; exact h4, ?_⟩
  exact Turned.set (S := fun k => k = b) (HT2.out.trans (Turned.of HF.out.below)) (a := ⟨b, i * 3 + 2, none⟩) (.inl rfl) _
set_option maxRecDepth 100000 in
theorem settle_no {id s : Int} (H : Pr w h room drops g kv ds ls) (hn : id < (g : Int) ∨ (g : Int) + ls.length ≤ id ∨ ∃ i, id = (g : Int) + (i : Nat) ∧ i < ls.length ∧ (rget ls i).st ≠ 0) :
    Calls Try.prog 26 #[.pointer (some ⟨h, 0, none⟩), .int .i64 id, .int .u8 s] w (fun e w' => e = .returned (.bool false) ∧ Below w.heap.size w w') := by
  have HP := Lib.hid H
  have HI := Lib.hid hn
  clear H hn
  go_enter Try.func26, Try.ntmps26
  go_wp2_with (go_at_call 28; refine (held_no HP.out HI.out).mono ?_; rintro e w1 ⟨rfl, hb⟩; have HB := Lib.hid hb; clear hb)
  go_ret
  exact ⟨rfl, HB.out⟩
end
theorem Split.out {rs pre ls : List Rc} (S : Split rs pre ls) {id : Int} (h : hasR rs id = false) : id < (pre.length : Int) ∨ (pre.length : Int) + ls.length ≤ id ∨ ∃ i, id = (pre.length : Int) + (i : Nat) ∧ i < ls.length ∧ (rget ls i).st ≠ 0 := by
  rcases S.hasNo h with h1 | h1 | ⟨i, h1, h2, h3⟩
  · exact .inl h1
  · exact .inr (.inl h1)
  · exact .inr (.inr ⟨i, by omega, h2, h3⟩)
/-- What a record's settling makes of the ring's blocks. -/
theorem settled_blocks {h b c n m i G2 B : Nat} {ds : Nat → Nat} (hG : B ≤ G2) : ∀ k, PrS h (.slice (some ⟨b, 0, none⟩) m c) (fun j => if j = i then G2 else ds j) n k → PrS h (.slice (some ⟨b, 0, none⟩) m c) ds n k ∨ B ≤ k := by
  rintro k (rfl | hk | ⟨j, hj, rfl⟩)
  · exact .inl (.inl rfl)
  · exact .inl (.inr (.inl hk))
  · by_cases e : j = i
    · exact .inr (by simp only [if_pos e]; exact hG)
    · exact .inl (.inr (.inr ⟨j, hj, by simp only [if_neg e]⟩))
section
variable {w : World} {D : Nat → Prop} {h : Nat} {room drops : Int} {rs : List Rc}
theorem settle_any {id s : Int} (H : PrM w D h room drops rs) (hs : 0 ≤ s ∧ s ≤ 2) : Calls Try.prog 26 #[.pointer (some ⟨h, 0, none⟩), .int .i64 id, .int .u8 s] w (AnsQ PrM D h room drops (.bool (hasR rs id)) (endR rs id s) w) := by
  obtain ⟨pre, ls, kv, ds, S, H, hD⟩ := H
  by_cases hb : hasR rs id = true
  · obtain ⟨i, rfl, hi, h0⟩ := S.hasIn hb
    obtain ⟨a, c, rfl, hrow, -⟩ := H.shape
    obtain ⟨b, rfl, -, -, -⟩ := hrow.at_ (by omega)
    refine (settle_yes H (by omega) hi h0 hs).mono ?_
    rintro e w1 ⟨rfl, G2, hG, h1, ht⟩
    rw [hb]
    refine ⟨_, rfl, ⟨pre, _, _, _, S.endIt hi h0, h1, fun b => Iff.rfl⟩, ht.more (fun k hk => (hD k).2 (.inr (.inl (by rw [hk]; rfl)))), fun k hk => ?_⟩
    rw [show (setSt ls i s).length = ls.length from List.length_set] at hk
    exact (settled_blocks hG k hk).imp (fun h9 => (hD k).2 h9) id
  · have hbf : hasR rs id = false := by simpa using hb
    refine (settle_no H (S.out hbf)).mono ?_
    rintro e w1 ⟨rfl, hb1⟩
    rw [hbf]
    refine ⟨D, rfl, ⟨pre, ls, kv, ds, ?_, H.stay hb1, hD⟩, Turned.of hb1, fun k hk => .inl hk⟩
    rw [endR, hbf]
    exact S
theorem commit_pr {id : Int} (H : PrM w D h room drops rs) : Calls Try.prog 11 #[.pointer (some ⟨h, 0, none⟩), .int .i64 id] w (AnsQ PrM D h room drops (.bool (hasR rs id)) (endR rs id 1) w) := by
  have HP := Lib.hid H
  clear H
  go_enter Try.func11, Try.ntmps11
  go_wp2_with (go_at_call 26; refine (settle_any HP.out (by omega)).mono ?_; rintro e w1 ⟨D1, rfl, h1⟩; have H1 := Lib.hid h1; clear h1)
  go_ret
  exact ⟨D1, rfl, H1.out⟩
theorem discard_pr {id : Int} (H : PrM w D h room drops rs) : Calls Try.prog 13 #[.pointer (some ⟨h, 0, none⟩), .int .i64 id] w (AnsQ PrM D h room drops (.bool (hasR rs id)) (endR rs id 2) w) := by
  have HP := Lib.hid H
  clear H
  go_enter Try.func13, Try.ntmps13
  go_wp2_with (go_at_call 26; refine (settle_any HP.out (by omega)).mono ?_; rintro e w1 ⟨D1, rfl, h1⟩; have H1 := Lib.hid h1; clear h1)
  go_ret
  exact ⟨D1, rfl, H1.out⟩
theorem recNo_pr {id : Int} (H : PrM w D h room drops rs) (hb : hasR rs id = false) : Calls Try.prog 17 #[.pointer (some ⟨h, 0, none⟩), .int .i64 id] w (fun e w' => e = .returned (.tuple #[.slice none 0 0, .bool false]) ∧ Below w.heap.size w w') := by
  obtain ⟨pre, ls, kv, ds, S, H, hD⟩ := H
  exact rec_no H (S.out hb)
theorem recYes_pr {i : Nat} (H : PrM w D h room drops rs) (hb : hasR rs (i : Int) = true) : Calls Try.prog 17 #[.pointer (some ⟨h, 0, none⟩), .int .i64 (i : Int)] w (RecQ PrM D h room drops rs i w) := by
  obtain ⟨pre, ls, kv, ds, S, H, hD⟩ := H
  obtain ⟨k, hk, hi, h0⟩ := S.hasIn hb
  obtain rfl : i = pre.length + k := by omega
  obtain ⟨a, c, rfl, hrow, -⟩ := H.shape
  obtain ⟨b, rfl, -, -, -⟩ := hrow.at_ (by omega)
  refine (rec_yes H (by omega) hi h0).mono ?_
  rintro e w1 ⟨rfl, hb1⟩
  have h1 := H.stay hb1
  have hg : rget rs (pre.length + k) = rget ls k := by rw [S.eq, rget_post]
  have hd := h1.data k hi
  refine ⟨ds k, 0, _, by rw [hg], (hD _).2 (.inr (.inr ⟨k, hi, rfl⟩)), hb1, h1.lt _ (.inr (.inr ⟨k, hi, rfl⟩)), by rw [hg]; exact hd, fun j _ => h1.free k hi _, fun wx zs hz hw => ?_⟩
  rw [hg] at hz hw
  have h2 := h1.wrote hi hw hz
  exact ⟨pre, _, _, ds, S.bytes hi, h2, fun b => by rw [List.length_set]; exact hD b⟩
/-- Behind its being told a record's old bytes are no block of the ring's. -/
theorem told_pr : Told13 PrM where
  told := fun {w D h room drops rs i} H hb => by
    obtain ⟨pre, ls, kv, ds, S, H, hD⟩ := H
    obtain ⟨k, hk, hi, h0⟩ := S.hasIn hb
    obtain rfl : i = pre.length + k := by omega
    obtain ⟨a, c, rfl, hrow, -⟩ := H.shape
    obtain ⟨b, rfl, -, -, -⟩ := hrow.at_ (by omega)
    refine (rec_yes H (by omega) hi h0).mono ?_
    rintro e w1 ⟨rfl, hb1⟩
    have h1 := H.stay hb1
    have hg : rget rs (pre.length + k) = rget ls k := by rw [S.eq, rget_post]
    have hd := h1.data k hi
    refine ⟨ds k, 0, _, by rw [hg], (hD _).2 (.inr (.inr ⟨k, hi, rfl⟩)), hb1, by rw [hg]; exact hd, fun j _ => h1.free k hi _, fun wx zs hz hw => ?_⟩
    rw [hg] at hz hw
    have h2 := h1.wrote hi hw hz
    have S2 := S.bytes (zs := zs) hi
    have hi2 : k < (ls.set k { rget ls k with b := zs }).length := by rw [List.length_set]; exact hi
    have h02 : (rget (ls.set k { rget ls k with b := zs }) k).st = 0 := by rw [rget_set hi, if_pos rfl]; exact h0
    have hlen : (ls.set k { rget ls k with b := zs }).length = ls.length := List.length_set
    have hbl : (rget (ls.set k { rget ls k with b := zs }) k).b = zs := by rw [rget_set hi, if_pos rfl]
    have hhas : hasR (rs.set (pre.length + k) { rget rs (pre.length + k) with b := zs }) ((pre.length + k : Nat) : Int) = true := by rw [S2.has hi2, h02]; rfl
    obtain ⟨ls2, hls2⟩ : ∃ l, ls.set k { rget ls k with b := zs } = l := ⟨_, rfl⟩
    obtain ⟨rs2, hrs2⟩ : ∃ l, rs.set (pre.length + k) { rget rs (pre.length + k) with b := zs } = l := ⟨_, rfl⟩
    rw [hls2] at h2 S2 hi2 h02 hlen hbl
    rw [hrs2] at S2 hhas ⊢
    rw [← hlen] at h2
    have hE := S2.endIt (s := 1) hi2 h02
    have H2 := Lib.hid h2
    have HE := Lib.hid hE
    have HI := Lib.hid (And.intro hi2 h02)
    have HD := Lib.hid hD
    have hgoal : ∀ e w3, Settled h pre.length room drops b c ds ls2 k 1 wx e w3 → ∃ D', e = .returned (.bool true) ∧ Turned D wx w3 ∧ (∀ b, D' b → D b ∨ wx.heap.size ≤ b) ∧ ∀ j, j < (rget ls k).b.length → (∃ y, w3.cell? ⟨ds k, 0 + j, none⟩ = some (.int .u8 y)) ∧ w3.frozen? ⟨ds k, 0 + j, none⟩ = false ∧ ∀ x, PrM (w3.setCell ⟨ds k, 0 + j, none⟩ (.int .u8 x)) D' h room drops (endR rs2 ((pre.length + k : Nat) : Int) 1) := by
      rintro e w3 ⟨rfl, G2, hG, h3, ht⟩
      have hkb : ds k ≠ b := fun e => H2.out.kg k HI.out.1 (by rw [e]; rfl)
      have hkl : ds k < wx.heap.size := H2.out.lt _ (.inr (.inr ⟨k, HI.out.1, rfl⟩))
      have hsame : w3.heap[ds k]? = wx.heap[ds k]? := ht.block _ hkl hkb
      have hnot : ¬ PrS h (.slice (some ⟨b, 0, none⟩) (setSt ls2 k 1).length c) (fun j => if j = k then G2 else ds j) (setSt ls2 k 1).length (ds k) := by
        rintro (e | e | ⟨j, hj, e⟩)
        · exact H2.out.Hg k HI.out.1 e
        · exact H2.out.kg k HI.out.1 e
        · rw [setSt, List.length_set] at hj
          by_cases e2 : j = k
          · simp only [if_pos e2] at e; omega
          · simp only [if_neg e2] at e; exact e2 (H2.out.gi j k hj HI.out.1 e.symm)
      refine ⟨PrS h (.slice (some ⟨b, 0, none⟩) (setSt ls2 k 1).length c) (fun j => if j = k then G2 else ds j) (setSt ls2 k 1).length, rfl, ht.more (fun q hq => (HD.out q).2 (.inr (.inl (by rw [hq]; rfl)))), fun q hq => ?_, fun j hj => ⟨?_, ?_, fun x => ?_⟩⟩
      · rw [show (setSt ls2 k 1).length = ls.length by rw [setSt, List.length_set, hlen]] at hq
        exact (settled_blocks hG q hq).imp (fun h9 => (HD.out q).2 h9) id
      · have hq := H2.out.data k HI.out.1
        rw [hbl] at hq
        exact ⟨_, (World.cell?_of_block (w := wx) (a := ⟨ds k, 0 + j, none⟩) hsame).trans (hq j (by omega))⟩
      · exact (World.frozen?_of_block (w := wx) (a := ⟨ds k, 0 + j, none⟩) hsame).trans (H2.out.free k HI.out.1 _)
      · refine ⟨pre, _, _, _, HE.out, h3.kept (fun q hq => Below.heap_setCell w3 ⟨ds k, 0 + j, none⟩ _ q (fun e => hnot (by have e9 : q = ds k := e; rw [← e9]; exact hq))), fun q => Iff.rfl⟩
    have HGO := Lib.hid hgoal
    rw [hg]
    clear hgoal h2 hE hi2 h02 hD h1 hd H S S2 hz hw hls2 hrs2 hrow hhas hbl
    go_enter Try.func11, Try.ntmps11
    go_wp2_with (go_at_call 26; refine (settle_yes H2.out (by omega) HI.out.1 HI.out.2 (by omega)).mono ?_; intro e w3 h3; have h4 := HGO.out e w3 h3; obtain ⟨D', rfl, h5⟩ := h4; have H5 := Lib.hid h5; clear h3 h5)
    go_ret
    exact ⟨D', rfl, H5.out⟩
end
end Go.Proofs.Ythpfockaipbhgaa
