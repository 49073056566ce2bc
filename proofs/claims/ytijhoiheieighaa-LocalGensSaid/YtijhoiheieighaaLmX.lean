/-
  Proved here: what slices.Delete makes of a row of objects, one of which is taken out. Conditions: as each lemma says.
-/
import Derived.Test.YtijhoiheieighaaLmG
import Derived.WalkKit
import Derived.Deep.RegionLaw
import Derived.Lib.SmallJoins
namespace Go.Proofs.Ytijhoiheieighaa
open Go.RowKit

/-- Cells written one behind the other. -/
def layA (cs : Array Value) : Nat → List Value → Array Value
  | _, [] => cs
  | o, v :: r => layA (cs.setIfInBounds o v) (o + 1) r
theorem layA_size : ∀ (vs : List Value) (o : Nat) (cs : Array Value), (layA cs o vs).size = cs.size
  | [], _, _ => rfl
  | v :: r, o, cs => by
    show (layA (cs.setIfInBounds o v) (o + 1) r).size = _
    rw [layA_size r]
    simp
theorem layA_get : ∀ (vs : List Value) (o : Nat) (cs : Array Value) (j : Nat), o + vs.length ≤ cs.size → (layA cs o vs)[j]? = if o ≤ j ∧ j < o + vs.length then vs[j - o]? else cs[j]?
  | [], o, cs, j, _ => by rw [if_neg (by simp only [List.length_nil]; omega)]; rfl
  | v :: r, o, cs, j, h => by
    simp only [List.length_cons] at h ⊢
    show (layA (cs.setIfInBounds o v) (o + 1) r)[j]? = _
    rw [layA_get r _ _ _ (by simp; omega), Array.getElem?_setIfInBounds]
    by_cases e : o = j
    · subst e
      rw [if_neg (by omega), if_pos rfl, if_pos (by omega), if_pos (by omega), Nat.sub_self]
      rfl
    · by_cases e2 : o + 1 ≤ j ∧ j < o + 1 + r.length
      · rw [if_pos e2, if_pos (by omega), show j - o = j - (o + 1) + 1 by omega]
        rfl
      · rw [if_neg e2, if_neg e, if_neg (by omega)]
theorem block_setCells {g : Nat} {t : TypeId} : ∀ (vs : List Value) (o : Nat) (w : World) (cs : Array Value), w.heap[g]? = some (.cells cs t (0, 0)) → (w.setCells g o vs).heap[g]? = some (.cells (layA cs o vs) t (0, 0))
  | [], _, _, _, h => h
  | v :: r, o, w, cs, h => block_setCells r (o + 1) (w.setCell ⟨g, o, none⟩ v) _ (heap_setCell_same w g o cs t v h)
theorem flatO_append (a b : List Ob) : flatO (a ++ b) = flatO a ++ flatO b := by simp [flatO]
theorem erase_split {os : List Ob} {i : Nat} : os.eraseIdx i = os.take i ++ os.drop (i + 1) := List.eraseIdx_eq_take_drop_succ os i
/-- What stands in the row behind it. -/
theorem taken_out {os : List Ob} {i m cap : Nat} {cur : Array Value} (hi : i < m) (hm : os.length = m) (hc : m ≤ cap) (hz : cur.size = cap * 2) (ht : cur.toList.take (m * 2) = flatO os) :
    (layA (layA cur (i * 2) (flatO (os.drop (i + 1)))) ((m - 1) * 2) [.int .i64 0, .int .i64 0]).toList.take ((m - 1) * 2) = flatO (os.eraseIdx i) := by
  have hl : (flatO (os.drop (i + 1))).length = (m - (i + 1)) * 2 := by rw [flatO_length, List.length_drop, hm]
  have hs : flatO os = flatO (os.take i) ++ flatO (os.drop i) := by rw [← flatO_append, List.take_append_drop]
  have hlt : (flatO (os.take i)).length = i * 2 := by rw [flatO_length, List.length_take, Nat.min_eq_left (by omega)]
  rw [erase_split, flatO_append]
  apply List.ext_getElem?
  intro j
  rw [List.getElem?_take]
  by_cases e : j < (m - 1) * 2
  · rw [if_pos e, Array.getElem?_toList, layA_get _ _ _ _ (by rw [layA_size, hz]; simp; omega), if_neg (by omega), layA_get _ _ _ _ (by rw [hl, hz]; omega)]
    by_cases e2 : i * 2 ≤ j
    · rw [if_pos (by rw [hl]; omega), List.getElem?_append_right (by rw [hlt]; exact e2), hlt]
    · rw [if_neg (by omega), List.getElem?_append_left (by rw [hlt]; omega)]
      have h1 : (cur.toList.take (m * 2))[j]? = cur[j]? := by rw [List.getElem?_take, if_pos (by omega), Array.getElem?_toList]
      rw [← h1, ht, hs, List.getElem?_append_left (by rw [hlt]; omega)]
  · rw [if_neg e, List.getElem?_eq_none]
    rw [List.length_append, hlt, hl]
    omega
theorem run_clear_key (w : World) (ty : TypeId) (b o c : Nat) (hc : ∀ j, j < 2 → (w.cell? ⟨b, o + j, none⟩).isSome = true) (hf : ∀ j, j < 2 → w.frozen? ⟨b, o + j, none⟩ = false) :
    (Builtin.clear_ #[43] ty #[.slice (some ⟨b, o, none⟩) 1 c]).run Try.prog w = .ok (.tuple #[]) (w.setCells b o [.int .i64 0, .int .i64 0]) := by
  have hst := run_storeCells_cells (P := Try.prog) b o [.int .i64 0, .int .i64 0] 0 w (by simpa using hc) (by simpa using hf) (by intro v hv; simp at hv; rw [hv]; rfl)
  simp only [Nat.add_zero] at hst
  have hzc : (Builtin.zeroCells (Value.agg #[.int .i64 0, .int .i64 0]).cells 1).toList = [.int .i64 0, .int .i64 0] := by kernel_rfl
  simp [Builtin.clear_, run_underlying Try.underlying43, hzc, hst]
/-- What Delete of one object gives. -/
def GaveDel (g m cap i : Nat) (os : List Ob) (W : World) (e : Ending) (w : World) : Prop :=
  e = .returned (.slice (some ⟨g, 0, none⟩) (m - 1) cap) ∧ ObSl w (.slice (some ⟨g, 0, none⟩) (m - 1) cap) (os.eraseIdx i) ∧ Turned (fun b => b = g) W w ∧ w.heap.size = W.heap.size
set_option maxHeartbeats 1000000 in
theorem delete_obs {g m cap i : Nat} {os : List Ob} {w : World} (hk : ObSl w (.slice (some ⟨g, 0, none⟩) m cap) os) (hm : os.length = m) (hi : i < m) (h16 : m ≤ 16) :
    Calls Try.prog 26 #[.slice (some ⟨g, 0, none⟩) m cap, .int .i64 (i : Int), .int .i64 ((i : Int) + 1)] w (GaveDel g m cap i os w) := by
  obtain ⟨i0, hi0, hz0, hz1, hz2⟩ := info_parts key_info
  rcases hk.2 with ⟨hv, -⟩ | ⟨g', cap', cur, hv, -, hh, hle, hmx, hz, ht⟩
  · cases hv
  · injection hv with hv1 hv2 hv3
    injection hv1 with hv1
    injection hv1 with hv1 _ _
    subst hv1 hv3
    rw [hm] at hle ht
    have hto := taken_out (cap := cap) hi hm hle hz ht
    obtain ⟨news, hnews⟩ : ∃ news, news = flatO (os.drop (i + 1)) := ⟨_, rfl⟩
    have hlen : news.length = (m - (i + 1)) * 2 := by rw [hnews, flatO_length, List.length_drop, hm]
    have hcell : ∀ j u, (flatO os)[j]? = some u → w.cell? ⟨g, j, none⟩ = some u := obs_cells (obsAt_of_own (base := 0) (n := m) (c := cap) (by have h9 := hk; unfold ObSl at h9; rw [hm] at h9; exact h9))
    have hin : ∀ j, j < cap * 2 → (w.cell? ⟨g, j, none⟩).isSome = true := fun j hj => by
      simp [World.cell?, hh, hz, hj]
    have hfz : ∀ j, w.frozen? ⟨g, j, none⟩ = false := fun j => by simp [World.frozen?, hh]
    obtain ⟨A, hA, hsrc⟩ : ∃ A : Addr, (if cap = i + 1 then some (⟨g, 0, none⟩ : Addr) else some ⟨g, (i + 1) * 2, none⟩) = some A ∧ (∀ t u, news[t]? = some u → w.drew.cell? (A.add t) = some u) := by
      by_cases e : cap = i + 1
      · refine ⟨⟨g, 0, none⟩, by simp [e], fun t u hu => ?_⟩
        have h0 : news.length = 0 := by rw [hlen]; omega
        rw [List.length_eq_zero_iff.1 h0] at hu
        simp at hu
      · refine ⟨⟨g, (i + 1) * 2, none⟩, by simp [e], fun t u hu => ?_⟩
        rw [add_lit]
        refine hcell _ _ ?_
        rw [hnews] at hu
        have hs : flatO os = flatO (os.take (i + 1)) ++ flatO (os.drop (i + 1)) := by rw [← flatO_append, List.take_append_drop]
        rw [hs, List.getElem?_append_right (by rw [flatO_length, List.length_take, Nat.min_eq_left (by omega)]; omega), flatO_length, List.length_take, Nat.min_eq_left (by omega), Nat.add_sub_cancel_left]
        exact hu
    have s1 := Lib.hid hlen
    have s2' : ∀ u ∈ news, u.oneCell' = true := by rw [hnews]; exact flatO_one _
    have s2 := Lib.hid s2'
    have s3' : ∀ t, t < news.length → (w.drew.cell? ⟨g, 0 + i * 2 + t, none⟩).isSome = true ∧ w.drew.frozen? ⟨g, 0 + i * 2 + t, none⟩ = false := fun t ht' => by
      rw [hlen] at ht'
      exact ⟨hin _ (by omega), hfz _⟩
    have s3 := Lib.hid s3'
    have HSRC := Lib.hid hsrc
    obtain ⟨W1, hW1⟩ : ∃ W1, W1 = w.drew.setCells g (0 + i * 2) news := ⟨_, rfl⟩
    have hh1 : W1.heap[g]? = some (.cells (layA cur (i * 2) news) 32 (0, 0)) := by rw [hW1, Nat.zero_add]; exact block_setCells _ _ _ _ hh
    have hl1 : (layA cur (i * 2) news).size = cap * 2 := by rw [layA_size, hz]
    have hcl : ∀ ty, (Builtin.clear_ #[43] ty #[.slice (some ⟨g, (i + (m - (i + 1))) * 2, none⟩) (m - (i + (m - (i + 1)))) (cap - (i + (m - (i + 1))))]).run Try.prog W1 = .ok (.tuple #[]) (W1.setCells g ((m - 1) * 2) [.int .i64 0, .int .i64 0]) := fun ty => by
      rw [show i + (m - (i + 1)) = m - 1 by omega, show m - (m - 1) = 1 by omega]
      exact run_clear_key W1 ty g _ _ (fun j hj => by simp [World.cell?, hh1, hl1]; omega) (fun j _ => by simp [World.frozen?, hh1])
    have hT1 : Turned (fun b => b = g) w W1 := by rw [hW1]; exact turned_setCells (S := fun b => b = g) g rfl _ _ (Turned.refl _ _).drew
    have hT2 := Lib.hid (turned_setCells g (S := fun b => b = g) rfl [.int .i64 0, .int .i64 0] ((m - 1) * 2) hT1)
    have hsz1 : W1.heap.size = w.heap.size := by
      rw [hW1]
      have : ∀ (vs : List Value) (o : Nat) (w : World), (w.setCells g o vs).heap.size = w.heap.size := by
        intro vs
        induction vs with
        | nil => intro o w; rfl
        | cons v r ih => intro o w; rw [World.setCells, ih]; simp
      rw [this]
      rfl
    have HS1 := Lib.hid hsz1
    have hw := Lib.hid hW1
    have HT := Lib.hid hto
    have HH1 := Lib.hid hh1
    have HL1 := Lib.hid hl1
    have HN := Lib.hid hnews
    have HM := Lib.hid hm
    have HMX := Lib.hid hmx
    have hic : i ≤ cap := by omega
    have hjc : i + 1 ≤ cap := by omega
    have p0 : (0 : Int) ≤ (i : Int) + 1 := by omega
    have p1 : (i : Int) + 1 ≤ (m : Int) := by omega
    clear hk hh hz ht hto hnews hlen hcell hin hfz hW1 hh1 hl1 hT1 hsz1 hm hv2 s2' s3' hsrc
    go_enter Try.func26, Try.ntmps26
    go_wp2_with fail
    go_region_law (refine step_append_room rfl (.tmp 22) (.tmp 25) 43 rfl 32 i0 2 Try.underlying43 hi0 hz1 g 0 i cap (by simp [Act.eval, Act.put]) A (m - (i + 1)) (cap - (i + 1)) news (by simp [Act.eval, Act.put]) s1.out HSRC.out s2.out (by omega) s3.out ?_; rw [← hw.out])
    go_wp2
    go_ret
    have em : i + (m - (i + 1)) = m - 1 := by omega
    have hel : (os.eraseIdx i).length = m - 1 := by rw [List.length_eraseIdx, HM.out, if_pos hi]
    refine ⟨by rw [em]; rfl, ?_, hT2.out, ?_⟩
    · refine ⟨by rw [flatO_length], .inr ⟨g, cap, layA (layA cur (i * 2) news) ((m - 1) * 2) [.int .i64 0, .int .i64 0], by rw [hel], Nat.zero_le _, block_setCells _ _ _ _ HH1.out, by rw [hel]; omega, HMX.out, by rw [layA_size, HL1.out], ?_⟩⟩
      rw [hel, HN.out]
      exact HT.out
    · rw [World.setCells, World.setCells, World.setCells]
      simp
      exact HS1.out
end Go.Proofs.Ytijhoiheieighaa
