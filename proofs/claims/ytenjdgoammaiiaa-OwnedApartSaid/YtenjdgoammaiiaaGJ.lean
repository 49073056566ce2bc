/-
  Proved here: what slices.Delete makes of a row of objects, one of which is taken out. Conditions: as each lemma says.
-/
import Derived.Test.YtenjdgoammaiiaaGI
import Derived.WalkKit
import Derived.Deep.RegionLaw
import Derived.Lib.SmallJoins
import Derived.LoopTactic
import Derived.Deep.RegionWith
namespace Go.Proofs.Ytenjdgoammaiiaa
open Go.RowKit
set_option maxRecDepth 100000

/-- Cells written one behind the other. -/
def layA (cs : Array Value) : Nat → List Value → Array Value
  | _, [] => cs
  | o, v :: r => layA (cs.setIfInBounds o v) (o + 1) r
theorem layA_size : ∀ (vs : List Value) (o : Nat) (cs : Array Value), (layA cs o vs).size = cs.size
  | [], _, _ => rfl
  | v :: r, o, cs => by
    show (layA (cs.setIfInBounds o v) (o + 1) r).size = _
    rw [layA_size r]
    simp
theorem layA_get : ∀ (vs : List Value) (o : Nat) (cs : Array Value) (j : Nat), o + vs.length ≤ cs.size → (layA cs o vs)[j]? = if o ≤ j ∧ j < o + vs.length then vs[j - o]? else cs[j]?
  | [], o, cs, j, _ => by rw [if_neg (by simp only [List.length_nil]; omega)]; rfl
  | v :: r, o, cs, j, h => by
    simp only [List.length_cons] at h ⊢
    show (layA (cs.setIfInBounds o v) (o + 1) r)[j]? = _
    rw [layA_get r _ _ _ (by simp; omega), Array.getElem?_setIfInBounds]
    by_cases e : o = j
    · subst e
      rw [if_neg (by omega), if_pos rfl, if_pos (by omega), if_pos (by omega), Nat.sub_self]
      rfl
    · by_cases e2 : o + 1 ≤ j ∧ j < o + 1 + r.length
      · rw [if_pos e2, if_pos (by omega), show j - o = j - (o + 1) + 1 by omega]
        rfl
      · rw [if_neg e2, if_neg e, if_neg (by omega)]
theorem block_setCells {g : Nat} {t : TypeId} : ∀ (vs : List Value) (o : Nat) (w : World) (cs : Array Value), w.heap[g]? = some (.cells cs t (0, 0)) → (w.setCells g o vs).heap[g]? = some (.cells (layA cs o vs) t (0, 0))
  | [], _, _, _, h => h
  | v :: r, o, w, cs, h => block_setCells r (o + 1) (w.setCell ⟨g, o, none⟩ v) _ (heap_setCell_same w g o cs t v h)
theorem flatO_append (a b : List Ob) : flatO (a ++ b) = flatO a ++ flatO b := by simp [flatO]
theorem erase_split {os : List Ob} {i : Nat} : os.eraseIdx i = os.take i ++ os.drop (i + 1) := List.eraseIdx_eq_take_drop_succ os i
/-- What stands in the row behind it. -/
theorem taken_out {os : List Ob} {i m cap : Nat} {cur : Array Value} (hi : i < m) (hm : os.length = m) (hc : m ≤ cap) (hz : cur.size = cap * 2) (ht : cur.toList.take (m * 2) = flatO os) :
    (layA (layA cur (i * 2) (flatO (os.drop (i + 1)))) ((m - 1) * 2) [.int .i64 0, .int .i64 0]).toList.take ((m - 1) * 2) = flatO (os.eraseIdx i) := by
  have hl : (flatO (os.drop (i + 1))).length = (m - (i + 1)) * 2 := by rw [flatO_length, List.length_drop, hm]
  have hs : flatO os = flatO (os.take i) ++ flatO (os.drop i) := by rw [← flatO_append, List.take_append_drop]
  have hlt : (flatO (os.take i)).length = i * 2 := by rw [flatO_length, List.length_take, Nat.min_eq_left (by omega)]
  rw [erase_split, flatO_append]
  apply List.ext_getElem?
  intro j
  rw [List.getElem?_take]
  by_cases e : j < (m - 1) * 2
  · rw [if_pos e, Array.getElem?_toList, layA_get _ _ _ _ (by rw [layA_size, hz]; simp; omega), if_neg (by omega), layA_get _ _ _ _ (by rw [hl, hz]; omega)]
    by_cases e2 : i * 2 ≤ j
    · rw [if_pos (by rw [hl]; omega), List.getElem?_append_right (by rw [hlt]; exact e2), hlt]
    · rw [if_neg (by omega), List.getElem?_append_left (by rw [hlt]; omega)]
      have h1 : (cur.toList.take (m * 2))[j]? = cur[j]? := by rw [List.getElem?_take, if_pos (by omega), Array.getElem?_toList]
      rw [← h1, ht, hs, List.getElem?_append_left (by rw [hlt]; omega)]
  · rw [if_neg e, List.getElem?_eq_none]
    rw [List.length_append, hlt, hl]
    omega
theorem run_clear_key (w : World) (ty : TypeId) (b o c : Nat) (hc : ∀ j, j < 2 → (w.cell? ⟨b, o + j, none⟩).isSome = true) (hf : ∀ j, j < 2 → w.frozen? ⟨b, o + j, none⟩ = false) :
    (Builtin.clear_ #[83] ty #[.slice (some ⟨b, o, none⟩) 1 c]).run Try.prog w = .ok (.tuple #[]) (w.setCells b o [.int .i64 0, .int .i64 0]) := by
  have hst := run_storeCells_cells (P := Try.prog) b o [.int .i64 0, .int .i64 0] 0 w (by simpa using hc) (by simpa using hf) (by intro v hv; simp at hv; rw [hv]; rfl)
  simp only [Nat.add_zero] at hst
  have hzc : (Builtin.zeroCells (Value.agg #[.int .i64 0, .int .i64 0]).cells 1).toList = [.int .i64 0, .int .i64 0] := by kernel_rfl
  simp [Builtin.clear_, run_underlying Try.underlying83, hzc, hst]
/-- What Delete of one object gives. -/
def GaveDel (g m cap i : Nat) (os : List Ob) (W : World) (e : Ending) (w : World) : Prop :=
  e = .returned (.slice (some ⟨g, 0, none⟩) (m - 1) cap) ∧ ObSl w (.slice (some ⟨g, 0, none⟩) (m - 1) cap) (os.eraseIdx i) ∧ Turned (fun b => b = g) W w ∧ w.heap.size = W.heap.size
set_option maxHeartbeats 1000000 in
theorem delete_obs {g m cap i : Nat} {os : List Ob} {w : World} (hk : ObSl w (.slice (some ⟨g, 0, none⟩) m cap) os) (hm : os.length = m) (hi : i < m) (h16 : m ≤ 16) :
    Calls Try.prog 80 #[.slice (some ⟨g, 0, none⟩) m cap, .int .i64 (i : Int), .int .i64 ((i : Int) + 1)] w (GaveDel g m cap i os w) := by
  obtain ⟨i0, hi0, hz0, hz1, hz2⟩ := info_parts key_info
  rcases hk.2 with ⟨hv, -⟩ | ⟨g', cap', cur, hv, -, hh, hle, hmx, hz, ht⟩
  · cases hv
  · injection hv with hv1 hv2 hv3
    injection hv1 with hv1
    injection hv1 with hv1 _ _
    subst hv1 hv3
    rw [hm] at hle ht
    have hto := taken_out (cap := cap) hi hm hle hz ht
    obtain ⟨news, hnews⟩ : ∃ news, news = flatO (os.drop (i + 1)) := ⟨_, rfl⟩
    have hlen : news.length = (m - (i + 1)) * 2 := by rw [hnews, flatO_length, List.length_drop, hm]
    have hcell : ∀ j u, (flatO os)[j]? = some u → w.cell? ⟨g, j, none⟩ = some u := obs_cells (obsAt_of_own (base := 0) (n := m) (c := cap) (by have h9 := hk; unfold ObSl at h9; rw [hm] at h9; exact h9))
    have hin : ∀ j, j < cap * 2 → (w.cell? ⟨g, j, none⟩).isSome = true := fun j hj => by
      simp [World.cell?, hh, hz, hj]
    have hfz : ∀ j, w.frozen? ⟨g, j, none⟩ = false := fun j => by simp [World.frozen?, hh]
    obtain ⟨A, hA, hsrc⟩ : ∃ A : Addr, (if cap = i + 1 then some (⟨g, 0, none⟩ : Addr) else some ⟨g, (i + 1) * 2, none⟩) = some A ∧ (∀ t u, news[t]? = some u → w.drew.cell? (A.add t) = some u) := by
      by_cases e : cap = i + 1
      · refine ⟨⟨g, 0, none⟩, by simp [e], fun t u hu => ?_⟩
        have h0 : news.length = 0 := by rw [hlen]; omega
        rw [List.length_eq_zero_iff.1 h0] at hu
        simp at hu
      · refine ⟨⟨g, (i + 1) * 2, none⟩, by simp [e], fun t u hu => ?_⟩
        rw [add_lit]
        refine hcell _ _ ?_
        rw [hnews] at hu
        have hs : flatO os = flatO (os.take (i + 1)) ++ flatO (os.drop (i + 1)) := by rw [← flatO_append, List.take_append_drop]
        rw [hs, List.getElem?_append_right (by rw [flatO_length, List.length_take, Nat.min_eq_left (by omega)]; omega), flatO_length, List.length_take, Nat.min_eq_left (by omega), Nat.add_sub_cancel_left]
        exact hu
    have s1 := Lib.hid hlen
    have s2' : ∀ u ∈ news, u.oneCell' = true := by rw [hnews]; exact flatO_one _
    have s2 := Lib.hid s2'
    have s3' : ∀ t, t < news.length → (w.drew.cell? ⟨g, 0 + i * 2 + t, none⟩).isSome = true ∧ w.drew.frozen? ⟨g, 0 + i * 2 + t, none⟩ = false := fun t ht' => by
      rw [hlen] at ht'
      exact ⟨hin _ (by omega), hfz _⟩
    have s3 := Lib.hid s3'
    have HSRC := Lib.hid hsrc
    obtain ⟨W1, hW1⟩ : ∃ W1, W1 = w.drew.setCells g (0 + i * 2) news := ⟨_, rfl⟩
    have hh1 : W1.heap[g]? = some (.cells (layA cur (i * 2) news) 34 (0, 0)) := by rw [hW1, Nat.zero_add]; exact block_setCells _ _ _ _ hh
    have hl1 : (layA cur (i * 2) news).size = cap * 2 := by rw [layA_size, hz]
    have hcl : ∀ ty, (Builtin.clear_ #[83] ty #[.slice (some ⟨g, (i + (m - (i + 1))) * 2, none⟩) (m - (i + (m - (i + 1)))) (cap - (i + (m - (i + 1))))]).run Try.prog W1 = .ok (.tuple #[]) (W1.setCells g ((m - 1) * 2) [.int .i64 0, .int .i64 0]) := fun ty => by
      rw [show i + (m - (i + 1)) = m - 1 by omega, show m - (m - 1) = 1 by omega]
      exact run_clear_key W1 ty g _ _ (fun j hj => by simp [World.cell?, hh1, hl1]; omega) (fun j _ => by simp [World.frozen?, hh1])
    have hT1 : Turned (fun b => b = g) w W1 := by rw [hW1]; exact turned_setCells (S := fun b => b = g) g rfl _ _ (Turned.refl _ _).drew
    have hT2 := Lib.hid (turned_setCells g (S := fun b => b = g) rfl [.int .i64 0, .int .i64 0] ((m - 1) * 2) hT1)
    have hsz1 : W1.heap.size = w.heap.size := by
      rw [hW1]
      have : ∀ (vs : List Value) (o : Nat) (w : World), (w.setCells g o vs).heap.size = w.heap.size := by
        intro vs
        induction vs with
        | nil => intro o w; rfl
        | cons v r ih => intro o w; rw [World.setCells, ih]; simp
      rw [this]
      rfl
    have HS1 := Lib.hid hsz1
    have hw := Lib.hid hW1
    have HT := Lib.hid hto
    have HH1 := Lib.hid hh1
    have HL1 := Lib.hid hl1
    have HN := Lib.hid hnews
    have HM := Lib.hid hm
    have HMX := Lib.hid hmx
    have hic : i ≤ cap := by omega
    have hjc : i + 1 ≤ cap := by omega
    have p0 : (0 : Int) ≤ (i : Int) + 1 := by omega
    have p1 : (i : Int) + 1 ≤ (m : Int) := by omega
    clear hk hh hz ht hto hnews hlen hcell hin hfz hW1 hh1 hl1 hT1 hsz1 hm hv2 s2' s3' hsrc
    go_enter Try.func80, Try.ntmps80
    go_wp2_with fail
    go_region_law (refine step_append_room rfl (.tmp 22) (.tmp 25) 83 rfl 34 i0 2 Try.underlying83 hi0 hz1 g 0 i cap (by simp [Act.eval, Act.put]) A (m - (i + 1)) (cap - (i + 1)) news (by simp [Act.eval, Act.put]) s1.out HSRC.out s2.out (by omega) s3.out ?_; rw [← hw.out])
    go_wp2
    go_ret
    have em : i + (m - (i + 1)) = m - 1 := by omega
    have hel : (os.eraseIdx i).length = m - 1 := by rw [List.length_eraseIdx, HM.out, if_pos hi]
    refine ⟨by rw [em]; rfl, ?_, hT2.out, ?_⟩
    · refine ⟨by rw [flatO_length], .inr ⟨g, cap, layA (layA cur (i * 2) news) ((m - 1) * 2) [.int .i64 0, .int .i64 0], by rw [hel], Nat.zero_le _, block_setCells _ _ _ _ HH1.out, by rw [hel]; omega, HMX.out, by rw [layA_size, HL1.out], ?_⟩⟩
      rw [hel, HN.out]
      exact HT.out
    · rw [World.setCells, World.setCells, World.setCells]
      simp
      exact HS1.out
end Go.Proofs.Ytenjdgoammaiiaa

/-
  Proved here: what Drop of the program's storage does. Conditions: as each lemma says.
-/
namespace Go.Proofs.Ytenjdgoammaiiaa
open Go.RowKit
set_option maxRecDepth 100000

/-- The bytes while they move: the slots from k on, up to j, have those of the next. -/
def mvS (zs : List Int) (s k j : Nat) : List Int := (List.range zs.length).map fun t => if k ≤ t / s ∧ t / s < j then zs.getD (t + s) 0 else zs.getD t 0
theorem mvS_length (zs : List Int) (s k j : Nat) : (mvS zs s k j).length = zs.length := by simp [mvS]
theorem mvS_get {zs : List Int} {s k j t : Nat} (ht : t < zs.length) : (mvS zs s k j).getD t 0 = if k ≤ t / s ∧ t / s < j then zs.getD (t + s) 0 else zs.getD t 0 := by
  unfold mvS
  rw [range_get ht]
theorem mvS_start (zs : List Int) (s k : Nat) : mvS zs s k k = zs := by
  refine getD_ext (mvS_length _ _ _ _) fun t ht => ?_
  rw [mvS_length] at ht
  rw [mvS_get ht, if_neg (by omega)]
theorem mvS_step {zs : List Int} {s n L k j : Nat} (hd : Dim s n L) (hz : zs.length = L) (hk : k ≤ j) (hj : j + 1 < n) : setL (mvS zs s k j) (j * s) (slotL (mvS zs s k j) s (j + 1)) = mvS zs s k (j + 1) := by
  have h1 := hd.at hj
  have h2 := hd.at (show j < n by omega)
  have hs := hd.s0
  have hl : (slotL (mvS zs s k j) s (j + 1)).length = s := slotL_length (by rw [mvS_length]; exact hz) h1
  refine getD_ext (by rw [setL_length, mvS_length, mvS_length]) fun t ht => ?_
  rw [setL_length, mvS_length] at ht
  rw [setL_get _ _ _ _ (by rw [hl, mvS_length, hz]; exact h2), hl, mvS_get ht, mvS_get ht]
  by_cases e : j * s ≤ t ∧ t < j * s + s
  · have e2 := (div_iff hs).2 e
    have e3 : (j + 1) * s = j * s + s := by rw [Nat.add_mul, Nat.one_mul]
    have e4 : ((j + 1) * s + (t - j * s)) / s = j + 1 := place_div (by omega)
    rw [if_pos e, slotL_get (by omega), mvS_get (by omega), e4, if_neg (by omega), if_pos (by omega), e3, show j * s + s + (t - j * s) = t + s by omega]
  · have e2 : t / s ≠ j := fun e3 => e ((div_iff hs).1 e3)
    rw [if_neg e]
    by_cases e3 : k ≤ t / s ∧ t / s < j
    · rw [if_pos e3, if_pos (by omega)]
    · rw [if_neg e3, if_neg (by omega)]
theorem mvS_end {zs : List Int} {s k q : Nat} (hk : k ≤ q) : zeroS (mvS zs s k q) s q = dropS zs s k (q + 1) := by
  refine getD_ext (by rw [zeroS_length, mvS_length, dropS_length]) fun t ht => ?_
  rw [zeroS_length, mvS_length] at ht
  unfold zeroS dropS
  rw [range_get (by rw [mvS_length]; exact ht), range_get ht, mvS_get ht]
  by_cases e1 : t / s = q
  · rw [if_pos e1, if_neg (by omega), if_neg (by omega), if_pos (by omega)]
  · rw [if_neg e1]
    by_cases e2 : t / s < k
    · rw [if_pos e2, if_neg (by omega)]
    · rw [if_neg e2]
      by_cases e3 : t / s + 1 < q + 1
      · rw [if_pos e3, if_pos (by omega)]
      · rw [if_neg e3, if_neg (by omega), if_neg (by omega)]
section
variable {w w' : World} {h A G C : Nat} {v : Value} {s n L : Nat} {os : List Ob} {zs : List Int}
/-- A slot's bytes over those of the one ahead of it. -/
theorem Lm.moves {W : World} {j : Nat} (H : Lm W h A G C v s n L os zs) (hd : Dim s n L) (hj : j + 1 < n) (ty : TypeId) :
    (Builtin.copy_ #[32, 32] ty #[.slice (some ⟨G, j * s, none⟩) s s, .slice (some ⟨G, (j + 1) * s, none⟩) s s]).run Try.prog W = .ok (goInt s) (W.setCells G (j * s) (u8s (slotL zs s (j + 1)))) := by
  have h1 := hd.at hj
  have h2 := hd.at (show j < n by omega)
  have hl : (slotL zs s (j + 1)).length = s := slotL_length H.ar.len h1
  have hcell : ∀ t, t < L → W.cell? ⟨G, t, none⟩ = some (.int .u8 (zs.getD t 0)) := fun t ht => by
    have := H.ar.row t ht
    rwa [Nat.zero_add] at this
  have hrow : RowAt W G ((j + 1) * s) s (slotL zs s (j + 1)) := fun t ht => by
    rw [slotL_get ht]
    exact hcell _ (by omega)
  have hrun := run_copy_cells (P := Try.prog) W 32 32 ty 5 G (j * s) s s ⟨G, (j + 1) * s, none⟩ s s (u8s (slotL zs s (j + 1))) Try.underlying32 (by kernel_rfl) (by rw [u8s_length, hl]; simp)
    (fun t u hu => by rw [add_lit]; exact u8s_cells hl hrow t u hu) (fun t ht => by rw [u8s_length, hl] at ht; rw [hcell _ (by omega)]; rfl) (fun t _ => H.ar.free _) u8s_one
  rw [u8s_length, hl] at hrun
  exact hrun
theorem Lm.moved {W : World} {k j : Nat} (H : Lm W h A G C v s n L os (mvS zs s k j)) (hd : Dim s n L) (hk : k ≤ j) (hj : j + 1 < n) : Lm (W.setCells G (j * s) (u8s (slotL (mvS zs s k j) s (j + 1)))) h A G C v s n L os (mvS zs s k (j + 1)) := by
  have h1 := hd.at hj
  have h2 := hd.at (show j < n by omega)
  have hz := H.ar.len
  rw [mvS_length] at hz
  rw [← mvS_step hd hz hk hj]
  exact H.puts hd (by rw [slotL_length (by rw [mvS_length]; exact hz) h1]; exact h2)
/-- One object less. -/
theorem Lm.erased {W w2 : World} {g q cap k : Nat} (H : Lm W h A G C (.slice (some ⟨g, 0, none⟩) (q + 1) cap) s n L os zs) (hd : Dim s n L) (hq : os.length = q + 1) (hk : k < q + 1) (ho : ObSl w2 (.slice (some ⟨g, 0, none⟩) q cap) (os.eraseIdx k)) (ht : Turned (fun b => b = g) W w2) :
    Lm (w2.setCell ⟨h, 1, none⟩ (.slice (some ⟨g, 0, none⟩) q cap)) h A G C (.slice (some ⟨g, 0, none⟩) q cap) s n L (os.eraseIdx k) zs := by
  have hlt := H.lt
  have hhl := hlt h (.inl rfl)
  have hAl := hlt A (.inr (.inl rfl))
  have hGl := hlt G (.inr (.inr (.inl rfl)))
  have vn : ∀ b, some b ≠ (Value.slice (some ⟨g, 0, none⟩) (q + 1) cap).ownBlock → b ≠ g := fun b hb e => hb (by rw [e]; rfl)
  have eh := ht.block h hhl (vn h H.vh)
  have eA := (Below.heap_setCell w2 ⟨h, 1, none⟩ (.slice (some ⟨g, 0, none⟩) q cap) A (fun e => H.hA e.symm)).trans (ht.block A hAl (vn A H.vA))
  have eG := (Below.heap_setCell w2 ⟨h, 1, none⟩ (.slice (some ⟨g, 0, none⟩) q cap) G (fun e => H.hG hd e.symm)).trans (ht.block G hGl (vn G H.vG))
  refine ⟨?_, World.cell?_setCell_same _ _ _ ((World.cell?_of_block (w := W) (a := ⟨h, 1, none⟩) eh).trans H.h1), fun j => ?_, ho.kept (fun b hb => Below.heap_setCell _ _ _ _ (fun e => H.vh (by simp only at e; rw [← e]; exact hb))), H.ar.kept eA eG (block_lt_of_eq hGl eG), H.c0, ?_, H.vh, H.vA, H.vG⟩
  · rw [World.cell?_setCell_other _ _ _ _ (by intro e; injection e with _ e _; cases e)]
    exact (World.cell?_of_block (w := W) (a := ⟨h, 0, none⟩) eh).trans H.h0
  · rw [World.frozen?_setCell]
    exact (World.frozen?_of_block (w := W) (a := ⟨h, j, none⟩) eh).trans (H.fh j)
  · rw [List.length_eraseIdx, hq, if_pos hk]
    have := H.le
    omega
theorem lm_drop_not {x y : Int} (H : Lm w h A G C v s n L os zs) (hd : Dim s n L) (hf : findO os (x, y) = none) :
    Calls Try.prog 57 #[.pointer (some ⟨h, 0, none⟩), .agg #[.int .i64 x, .int .i64 y]] w (fun e w' => e = .returned (.int .i64 2) ∧ Below w.heap.size w w') := by
  have H1 := Lib.hid (H.stay (boxL w (.cells #[.int .i64 x, .int .i64 y] 34)))
  have HB := Lib.hid (boxL w (.cells #[.int .i64 x, .int .i64 y] 34))
  have HD := Lib.hid hd
  have HF := Lib.hid (findL_no hf)
  have hx : (w.alloc (.cells #[.int .i64 x, .int .i64 y] 34)).cell? ⟨w.heap.size, 0, none⟩ = some (.int .i64 x) := by simp [go_sem]
  have hy : (w.alloc (.cells #[.int .i64 x, .int .i64 y] 34)).cell? ⟨w.heap.size, 1, none⟩ = some (.int .i64 y) := by simp [go_sem]
  clear H hf hd
  go_enter Try.func57, Try.ntmps57
  go_wp2_with (go_at_call 77; refine (lm_slotOf H1.out HD.out x y).mono ?_; rintro e w1 ⟨he, hb1⟩; rw [HF.out] at he; subst he; have HB1 := Lib.hid hb1; clear hb1)
  go_ret
  exact ⟨rfl, HB.out.trans (HB1.out.mono HB.out.size)⟩
set_option maxHeartbeats 1000000 in
theorem lm_drop_had {x y : Int} {k : Nat} {D : Nat → Prop} (H : Lm w h A G C v s n L os zs) (hd : Dim s n L) (hD : ∀ b, D b ↔ LmS h A G v b) (hf : findO os (x, y) = some k) :
    Calls Try.prog 57 #[.pointer (some ⟨h, 0, none⟩), .agg #[.int .i64 x, .int .i64 y]] w (DropQ (LP s n L) D h (0, os.eraseIdx k, dropS zs s k os.length) w) := by
  obtain ⟨hkl, -, -⟩ := findO_some hf
  obtain ⟨q, hq⟩ : ∃ q, os.length = q + 1 := ⟨os.length - 1, by omega⟩
  obtain ⟨g, cap, rfl⟩ : ∃ g cap, v = .slice (some ⟨g, 0, none⟩) (q + 1) cap := by
    rcases H.ks.2 with ⟨-, h0⟩ | ⟨g, cap, cur, hv, -⟩
    · omega
    · exact ⟨g, cap, by rw [hv, hq]⟩
  have H1 := Lib.hid (H.stay (boxL w (.cells #[.int .i64 x, .int .i64 y] 34)))
  have HB := Lib.hid (boxL w (.cells #[.int .i64 x, .int .i64 y] 34))
  have HLT := Lib.hid H.lt
  have HD := Lib.hid hd
  have HDD := Lib.hid hD
  have HF := Lib.hid (findL_some hf)
  have hqn : q < n := by have := H.le; omega
  have hn1 := hd.n1
  have hkq : k ≤ q := by omega
  have HKQ := Lib.hid hkq
  have HQ := Lib.hid hq
  have hx : (w.alloc (.cells #[.int .i64 x, .int .i64 y] 34)).cell? ⟨w.heap.size, 0, none⟩ = some (.int .i64 x) := by simp [go_sem]
  have hy : (w.alloc (.cells #[.int .i64 x, .int .i64 y] 34)).cell? ⟨w.heap.size, 1, none⟩ = some (.int .i64 y) := by simp [go_sem]
  rw [hq]
  clear H hf hd hD hq hkl
  unfold DropQ
  go_enter Try.func57, Try.ntmps57
  go_wp2_with (first
    | (go_at_call 77; refine (lm_slotOf H1.out HD.out x y).mono ?_; rintro e w1 ⟨he, hb1⟩; rw [HF.out] at he; subst he; have HB1 := Lib.hid hb1; have H2 := Lib.hid (H1.out.stay hb1); have c1 := H2.out.h1; clear hb1)
    | (go_at_call 80; refine (delete_obs H2.out.ks HQ.out (by have := HKQ.out; omega) (by omega)).mono ?_; rintro e w2 ⟨rfl, ho2, ht2, hz2⟩; rw [Nat.add_sub_cancel] at ho2 ⊢; have HO2 := Lib.hid ho2; have HT2 := Lib.hid ht2; have HZ2 := Lib.hid hz2; have d1 : w2.cell? ⟨h, 1, none⟩ = some (.slice (some ⟨g, 0, none⟩) (q + 1) cap) := (World.cell?_of_block (w := w1) (a := ⟨h, 1, none⟩) (ht2.block h (H2.out.lt h (.inl rfl)) (fun e => H2.out.vh (by rw [e]; rfl)))).trans H2.out.h1; have d2 : w2.frozen? ⟨h, 1, none⟩ = false := (World.frozen?_of_block (w := w1) (a := ⟨h, 1, none⟩) (ht2.block h (H2.out.lt h (.inl rfl)) (fun e => H2.out.vh (by rw [e]; rfl)))).trans (H2.out.fh 1); clear ho2 ht2 hz2))
  have hE := H2.out.erased HD.out HQ.out (by have := HKQ.out; omega) HO2.out HT2.out
  have hw1 := HB.out.trans (HB1.out.mono HB.out.size)
  have hT3 : Turned D w (w2.setCell ⟨h, 1, none⟩ (.slice (some ⟨g, 0, none⟩) q cap)) := by
    refine ((Turned.of hw1).trans (HT2.out.more (T := D) (fun b e => (HDD.out b).2 (.inr (.inr (.inr (by rw [e]; rfl))))))).setN (a := ⟨h, 1, none⟩) (.inl ((HDD.out h).2 (.inl rfl))) _
  have HGD := Lib.hid ((HDD.out G).2 (.inr (.inr (.inl rfl))))
  obtain ⟨W3, hW3⟩ : ∃ W3, w2.setCell ⟨h, 1, none⟩ (.slice (some ⟨g, 0, none⟩) q cap) = W3 := ⟨_, rfl⟩
  rw [hW3] at hE hT3 ⊢
  have HE := Lib.hid hE
  have HT3 := Lib.hid hT3
  clear hE hT3 hW3 hw1 hx hy c1 d1 d2
  go_loopw [7] (fun v wr => ∃ j : Nat, k ≤ j ∧ j ≤ q ∧ v = .int .i64 j ∧ Lm wr h A G C (.slice (some ⟨g, 0, none⟩) q cap) s n L (os.eraseIdx k) (mvS zs s k j) ∧ Turned D w wr) (fun v _ => q - (intOf v).toNat)
  case atStart => exact ⟨k, Nat.le_refl _, hkq, rfl, by rw [mvS_start]; exact HE.out, HT3.out⟩
  case round =>
    obtain ⟨j, hkj, hjq, rfl, hL, hT⟩ := hrel
    have HL := Lib.hid hL
    have HT := Lib.hid hT
    clear hL hT
    by_cases hlt : j < q
    · have hj1 : j + 1 < n := by omega
      have HJ := Lib.hid hj1
      have e1 : ((j + 1 : Nat) : Int) = (j : Int) + 1 := by omega
      have E1 := Lib.hid e1
      clear e1
      go_wp2_with (first
        | (go_at_call 78; have hc := lm_bytesOf (q := j + 1) HL1.out HD.out HJ.out; rw [E1.out] at hc; refine hc.mono ?_; rintro e w5 ⟨rfl, hb5⟩; have HL2 := Lib.hid (HL1.out.stay hb5); have HT2' := Lib.hid (HTT1.out.trans (Turned.of (S := D) hb5)); have hcp := HL2.out.moves HD.out HJ.out; clear hb5 hc)
        | (go_at_call 78; refine (lm_bytesOf (q := j) HL.out HD.out (by have := HJ.out; omega)).mono ?_; rintro e w4 ⟨rfl, hb4⟩; have HL1 := Lib.hid (HL.out.stay hb4); have HTT1 := Lib.hid (HT.out.trans (Turned.of (S := D) hb4)); clear hb4))
      go_roundw
      case rel =>
        have q1 : k ≤ j + 1 := by omega
        have q2 : j + 1 ≤ q := by omega
        have q3 := HL2.out.moved HD.out hkj HJ.out
        have q4 := turned_setCells G HGD.out (u8s (slotL (mvS zs s k j) s (j + 1))) (j * s) HT2'.out
        exact ⟨j + 1, q1, q2, by go_num, q3, q4⟩
      case measure => simp [intOf]; omega
    · obtain rfl : j = q := by omega
      have HJN := Lib.hid hqn
      go_wp2_with (go_at_call 78; refine (lm_bytesOf (q := j) HL.out HD.out HJN.out).mono ?_; rintro e w4 ⟨rfl, hb4⟩; have HL1 := Lib.hid (HL.out.stay hb4); have HTT1 := Lib.hid (HT.out.trans (Turned.of (S := D) hb4)); have hcl := HL1.out.clears HD.out HJN.out; clear hb4)
      go_ret
      have hfin := HL1.out.cleared HD.out HJN.out
      rw [mvS_end hkj] at hfin
      refine ⟨LmS h A G (.slice (some ⟨g, 0, none⟩) j cap), G, rfl, ⟨A, C, _, hfin, fun b => Iff.rfl⟩, turned_setCells G HGD.out _ _ HTT1.out, fun b hb => .inl ((HDD.out b).2 hb)⟩
/-- Drop, in one. -/
theorem lm_drop {D : Nat → Prop} {o : Ob} (h1 : LP s n L w D h G os zs) (hd : Dim s n L) : Calls Try.prog 57 #[.pointer (some ⟨h, 0, none⟩), obV o] w (DropQ (LP s n L) D h (dropR os zs s o) w) := by
  obtain ⟨A, C, v, H, hD⟩ := h1
  obtain ⟨x, y⟩ := o
  unfold dropR
  cases hf : findO os (x, y) with
  | some i => exact lm_drop_had H hd hD hf
  | none => exact (lm_drop_not H hd hf).mono fun e w' ⟨he, hb⟩ => ⟨D, G, he, ⟨A, C, v, H.stay hb, hD⟩, Turned.of hb, fun _ hb => .inl hb⟩
end
end Go.Proofs.Ytenjdgoammaiiaa

/-
  Proved here: what New and Copy of the program's storage give; it keeps all contracts that the laws ask. Conditions: as each lemma says.
-/
namespace Go.Proofs.Ytenjdgoammaiiaa
open Go.RowKit
set_option maxRecDepth 100000

/-- A new storage of an array and of objects that lie apart. -/
theorem Lm.made {W : World} {A G C : Nat} {v : Value} {s n L : Nat} {os : List Ob} {zs : List Int} (ha : Arr W A G s n L C zs) (hc : L ≤ C) (hk : ObSl W v os) (hl : os.length ≤ n) (vA : some A ≠ v.ownBlock) (vG : some G ≠ v.ownBlock) :
    Lm (W.alloc (.cells #[.pointer (some ⟨A, 0, none⟩), v] 137)) W.heap.size A G C v s n L os zs := by
  have hb : Below W.heap.size W (W.alloc (.cells #[.pointer (some ⟨A, 0, none⟩), v] 137)) := (Below.refl _ _).alloc (Nat.le_refl _) _
  refine ⟨by simp [go_sem], by simp [go_sem], fun j => by simp [go_sem], hk.kept (fun b hb2 => hb.block b (hk.lt b hb2)), ha.stay hb, hc, hl, fun e => ?_, vA, vG⟩
  have := hk.lt _ e
  omega
theorem lm_new (s n L : Nat) (w : World) (hd : Dim s n L) : Calls Try.prog 44 #[.int .i64 (s : Int), .int .i64 (n : Int)] w (NewQ (LP s n L) L w) := by
  have HD := Lib.hid hd
  clear hd
  go_enter Try.func44, Try.ntmps44
  go_wp2_with (go_at_call 42; refine (arr_new _ _ _ _ HD.out).mono ?_; rintro e w1 ⟨rfl, hb, ha⟩; have HB := Lib.hid hb; have HA := Lib.hid ha; clear hb ha)
  go_ret2
  have hk : ObSl w1 (.slice none 0 0) [] := World.ownsRow_nil _ _ _ _
  have hs := HB.out.size
  have hl := HA.out.ltA
  refine ⟨w1.heap.size, LmS w1.heap.size (w.heap.size + 1) w.heap.size (.slice none 0 0), w.heap.size, rfl, ⟨w.heap.size + 1, L, .slice none 0 0, Lm.made HA.out (Nat.le_refl _) hk (Nat.zero_le _) (fun e => by cases e) (fun e => by cases e), fun b => Iff.rfl⟩, HB.out.alloc hs _, ?_⟩
  rintro b (rfl | rfl | rfl | hb)
  · omega
  · omega
  · omega
  · cases hb
theorem lm_new_not (s n : Int) (w : World) (h : ¬ (1 ≤ s ∧ s ≤ 32 ∧ 1 ≤ n ∧ n ≤ 16)) : Calls Try.prog 44 #[.int .i64 s, .int .i64 n] w (fun e w' => e = .returned (.tuple #[.pointer none, .int .i64 22]) ∧ Below w.heap.size w w') := by
  have HH := Lib.hid h
  clear h
  go_enter Try.func44, Try.ntmps44
  go_wp2_with (go_at_call 42; refine (arr_not _ _ _ HH.out).mono ?_; rintro e w1 ⟨rfl, rfl⟩)
  go_ret2
  exact ⟨rfl, Below.refl _ _⟩
section
variable {w w' : World} {h A G C : Nat} {v : Value} {s n L : Nat} {os : List Ob} {zs : List Int}
theorem lm_copy (H : Lm w h A G C v s n L os zs) (hd : Dim s n L) : Calls Try.prog 47 #[.pointer (some ⟨h, 0, none⟩)] w (CopyQ (LP s n L) os zs w) := by
  have c0 := H.h0
  have HH := Lib.hid H
  have HD := Lib.hid hd
  clear H hd
  go_enter Try.func47, Try.ntmps47
  go_wp2_with (first
    | (go_at_call 45; refine (arrC_copy _ _ _ _ _ _ _ _ HD.out.pos (by have := HD.out.le; omega) HH.out.ar).mono ?_; rintro e w1 ⟨A2, G2, C2, rfl, hb1, hA2, hG2, ha2, hc2, -⟩; have HB1 := Lib.hid hb1; have HA2 := Lib.hid ha2; have HN2 := Lib.hid (And.intro hA2 (And.intro hG2 hc2)); have H1 := Lib.hid (HH.out.stay hb1); clear hb1 ha2 hA2 hG2 hc2)
    | (go_at_call 49; refine (lm_keysv H1.out HD.out).mono ?_; rintro e w2 ⟨v2, rfl, ho2, hb2⟩; obtain ⟨a2, c2, rfl, -⟩ := obs_of_own ho2; have HO2 := Lib.hid ho2; have HB2 := Lib.hid hb2; clear ho2 hb2))
  go_ret
  obtain ⟨hA2, hG2, hc2⟩ := HN2.out
  have hb12 := HB1.out.trans (HB2.out.mono HB1.out.size)
  have ha := HA2.out.stay HB2.out
  have hk : ObSl w2 (.slice a2 os.length c2) os := ⟨HO2.out.1, HO2.out.2.imp id fun ⟨g, cap, cur, hv, _, r⟩ => ⟨g, cap, cur, hv, Nat.zero_le _, r⟩⟩
  have hfar : ∀ b, some b = (Value.slice a2 os.length c2).ownBlock → w1.heap.size ≤ b := fun b hb => by
    rcases HO2.out.2 with ⟨hv, -⟩ | ⟨g, cap, cur, hv, hg, -⟩
    · rw [hv] at hb; cases hb
    · rw [hv] at hb; injection hb with hb; subst hb; exact hg
  have hAl := HA2.out.ltA
  have hGl := HA2.out.lt
  have hz := HB1.out.size
  refine ⟨w2.heap.size, LmS w2.heap.size A2 G2 (.slice a2 os.length c2), G2, rfl, ⟨A2, C2, _, Lm.made ha hc2 hk HH.out.le (fun e => by have := hfar _ e; omega) (fun e => by have := hfar _ e; omega), fun b => Iff.rfl⟩, hb12.alloc hb12.size _, ?_⟩
  rintro b (rfl | rfl | rfl | hb)
  · exact hb12.size
  · exact hA2
  · exact hG2
  · have := hfar b hb; omega
end
end Go.Proofs.Ytenjdgoammaiiaa
