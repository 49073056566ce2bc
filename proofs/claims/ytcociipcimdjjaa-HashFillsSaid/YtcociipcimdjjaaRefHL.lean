/-
  Proved here: what List of the document's maps by keys gives. Conditions: as each says.
-/
import Derived.Test.YtcociipcimdjjaaRefH
namespace Go.Proofs.Ytcociipcimdjjaa
open Go.RowKit

/-- The keys that there are. -/
def listK (ks : List ByteArray) : List ByteArray := ks.filter fun k => decide (k ≠ ⟨#[]⟩)
def strs (l : List ByteArray) : List Value := l.map Value.string
theorem ba_empty {a : ByteArray} (h : a = ⟨#[]⟩) : a.toList.isEmpty = true := by
  subst h
  rw [ByteArray.toList_eq]
  rfl
theorem ba_full {a : ByteArray} (h : a ≠ ⟨#[]⟩) : a.toList.isEmpty = false := by
  have := ba_no h
  rw [ByteArray.toList_eq ⟨#[]⟩] at this
  cases e : a.toList
  · rw [e] at this; simp at this
  · rfl
theorem listK_snoc {ks : List ByteArray} {k : Nat} {y : ByteArray} (hk : k < ks.length) (hy : ks.getD k .empty = y) : listK (ks.take (k + 1)) = listK (ks.take k) ++ if y = ⟨#[]⟩ then [] else [y] := by
  have e : ks[k] = y := by rw [← hy, List.getD_eq_getElem?_getD, List.getElem?_eq_getElem hk]; rfl
  rw [listK, listK, List.take_succ_eq_append_getElem hk, List.filter_append, e]
  congr 1
  by_cases h : y = ⟨#[]⟩ <;> simp [h]
theorem listK_len (ks : List ByteArray) : (listK ks).length ≤ ks.length := List.length_filter_le _ _
theorem str_info9 : (Try.prog.info? 9).map (fun i => (i.zero, i.size, i.bytes)) = some (some (.string ⟨#[]⟩), 1, 16) := by kernel_rfl
def GaveList (W : World) (l : List ByteArray) (e : Ending) (w : World) : Prop := ∃ v, e = .returned v ∧ w.ownsRow W.heap.size 9 1 v l.length (strs l) ∧ Below W.heap.size W w
set_option maxHeartbeats 1000000 in
theorem list_ref (H K R B cap key s n L : Nat) (gs : Nat → Nat) (ks : List ByteArray) (zs : List Int) (w : World) (h : Hf w H K R B cap key s n L gs ks zs) (hn : n ≤ 16) (hn0 : 1 ≤ n) :
    Calls Try.prog 35 #[.pointer (some ⟨H, 0, none⟩)] w (GaveList w (listK ks)) := by
  have H1 := h.h1
  obtain ⟨i0, hi0, hz0, hz1, hz2⟩ := info_parts str_info9
  have hbh : H < w.heap.size := cell_block_lt H1
  have hbk : K < w.heap.size := cell_block_lt (h.keys 0 (by omega))
  have HH := Lib.hid h
  have hT : w.ownsRow w.heap.size 9 1 (.slice none 0 0) 0 (strs (listK (ks.take 0))) ∧ Below w.heap.size w w := ⟨World.ownsRow_nil _ _ _ _, Below.refl _ _⟩
  have HT := Lib.hid hT
  clear h hT
  go_enter Try.func35, Try.ntmps35
  go_wp2
  go_loopw [3, 4] (fun v i wr => ∃ k : Nat, k ≤ n ∧ i = .int .i64 k ∧ wr.ownsRow w.heap.size 9 1 v (listK (ks.take k)).length (strs (listK (ks.take k))) ∧ Below w.heap.size w wr) (fun _ i _ => n - (intOf i).toNat)
  case atStart => exact ⟨0, by omega, rfl, HT.out.1, HT.out.2⟩
  case round =>
    obtain ⟨k, hk, rfl, ho, hb⟩ := hrel
    clear HT
    have hz := hb.size
    have c1 := (hb.cell (p := ⟨H, 1, none⟩) hbh).trans H1
    by_cases hlt : k < n
    · have hkl : k < ks.length := by rw [HH.out.klen]; exact hlt
      have c2 := (hb.cell (p := ⟨K, k, none⟩) hbk).trans (HH.out.keys k hlt)
      obtain ⟨y, hy⟩ : ∃ y, ks.getD k .empty = y := ⟨_, rfl⟩
      rw [hy] at c2
      have hsn := listK_snoc hkl hy
      obtain ⟨m, hm⟩ : ∃ m, (listK (ks.take k)).length = m := ⟨_, rfl⟩
      have hmk : m ≤ k := by rw [← hm]; exact Nat.le_trans (listK_len _) (by simp; omega)
      rw [hm] at ho
      have HM := Lib.hid hm
      have HO := Lib.hid ho
      have HB := Lib.hid hb
      clear hy hm ho hb
      by_cases he : y = ⟨#[]⟩
      · have hd := ba_empty he
        rw [if_pos he, List.append_nil] at hsn
        have HSN := Lib.hid hsn
        clear hsn he
        go_wp2
        go_roundw
        case rel => exact ⟨k + 1, by omega, by go_num, by rw [HSN.out, HM.out]; exact HO.out, HB.out⟩
        case measure => simp [intOf]; omega
      · have hd := ba_full he
        rw [if_neg he] at hsn
        have HSN := Lib.hid hsn
        clear hsn he
        go_wp2_with (at_builtin; refine wpList_append_own_at _ rfl _ _ 44 rfl w.heap.size 9 i0 _ 1 16 Try.underlying44 hi0 hz0 hz1 hz2 rfl (by omega) _ m _ rfl (HO.out.alloc _) ⟨wr.heap.size, 0, none⟩ 1 1 [.string y] rfl rfl (cell_one_new _ _ _) (fun u hu => by simp at hu; subst hu; rfl) (by unfold maxLen; omega) (by omega) (Nat.le_trans hz (by simp)) ?_; intro v1 w1 hown hgr _ _; have HO1 := Lib.hid hown; have HG1 := Lib.hid hgr; clear hown hgr)
        go_roundw
        case rel =>
          refine ⟨k + 1, by omega, by go_num, ?_, ((HB.out.alloc hz _).grown HG1.out (Nat.le_trans hz (by simp)) (fun b hb => (HO.out.lt b hb).1))⟩
          rw [HSN.out, List.length_append, HM.out]
          have := HO1.out
          rw [show strs (listK (ks.take k)) ++ [Value.string y] = strs (listK (ks.take k) ++ [y]) by simp [strs]] at this
          exact this
        case measure => simp [intOf]; omega
    · obtain rfl : k = n := by omega
      have e : ks.take k = ks := List.take_of_length_le (by rw [HH.out.klen]; omega)
      rw [e] at ho
      have HO := Lib.hid ho
      have HB := Lib.hid hb
      clear ho hb e
      go_wp2
      go_ret
      exact ⟨_, rfl, HO.out, HB.out⟩
end Go.Proofs.Ytcociipcimdjjaa
