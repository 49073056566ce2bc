/-
  Proved here: whose the slots of a program's map are, as holders tells it. Conditions: as each lemma says.
-/
import Derived.Test.YtenjdgoammaiiaaHPwQ
namespace Go.Proofs.Ytenjdgoammaiiaa
open Go.RowKit
set_option maxRecDepth 100000
attribute [local go_sem] ta_aa ta_ah ta_al ta_ha ta_hh ta_hl ta_la ta_lh ta_ll ta_na ta_nh ta_nl

/-- Bytes that were gathered. -/
def HoldQ (acc : List Int) (W : World) (e : Ending) (w : World) : Prop := ∃ v, e = .returned v ∧ w.ownsRow W.heap.size 5 1 v acc.length (u8s acc) ∧ Below W.heap.size W w
theorem own_mono {w : World} {B B' e m n : Nat} {v : Value} {xs : List Value} (h : w.ownsRow B e m v n xs) (hB : B' ≤ B) : w.ownsRow B' e m v n xs :=
  ⟨h.1, h.2.imp id fun ⟨g, cap, cur, hv, hg, r⟩ => ⟨g, cap, cur, hv, Nat.le_trans hB hg, r⟩⟩
theorem HoldQ.ahead {acc : List Int} {W w w' : World} {e : Ending} (h : HoldQ acc w e w') (hb : Below W.heap.size W w) : HoldQ acc W e w' := by
  obtain ⟨v, he, ho, hb2⟩ := h
  exact ⟨v, he, own_mono ho hb.size, hb.trans (hb2.mono hb.size)⟩
theorem holders_none {w : World} {v : Value} (hv : (∃ q, v = .iface 90 q) ∨ v = .nilIface) : Calls Try.prog 23 #[v] w (HoldQ [] w) := by
  rcases hv with ⟨q, rfl⟩ | rfl
  all_goals
    go_enter Try.func23, Try.ntmps23
    go_wp2
    go_ret
    exact ⟨_, rfl, World.ownsRow_nil _ _ _ _, Below.refl _ _⟩
theorem obsB_snoc {os : List Ob} {k : Nat} {o : Ob} (hk : k < os.length) (ho : os.getD k (0, 0) = o) : obsB (os.take (k + 1)) = obsB (os.take k) ++ [o.1 % 256, o.2 % 256] := by
  rw [List.getD_eq_getElem?_getD, List.getElem?_eq_getElem hk] at ho
  simp only [Option.getD_some] at ho
  rw [List.take_succ_eq_append_getElem hk, obsB, List.flatMap_append, ← obsB, ho]
  simp
theorem two_cell (W : World) (y z : Int) {G : Nat} (hG : G = W.heap.size) : ∀ j u, (u8s [y, z])[j]? = some u → (W.alloc (.cells #[.int .u8 y, .int .u8 z] 5)).cell? ((⟨G, 0, none⟩ : Addr).add j) = some u := by
  intro j u hu
  subst hG
  rw [add_lit, Nat.zero_add]
  have hn : (W.alloc (.cells #[.int .u8 y, .int .u8 z] 5)).heap[W.heap.size]? = some (.cells #[.int .u8 y, .int .u8 z] 5 (0, 0)) := heap_alloc_new W _
  unfold World.cell?
  simp only [hn]
  simpa [u8s] using hu
theorem holders_loc {w : World} {h A G C : Nat} {v : Value} {s n L : Nat} {os : List Ob} {zs : List Int} (H : Lm w h A G C v s n L os zs) (hd : Dim s n L) : Calls Try.prog 23 #[.iface 102 (.pointer (some ⟨h, 0, none⟩))] w (HoldQ (obsB os) w) := by
  obtain ⟨i0, hi0, hz0, hz1, hz2⟩ := info_parts u8_info
  have HK := Lib.hid (lm_keys H hd)
  have hl16 : os.length ≤ 16 := Nat.le_trans H.le hd.n1
  obtain ⟨m, hm⟩ : ∃ m, os.length = m := ⟨_, rfl⟩
  have HM := Lib.hid hm
  rw [hm] at HK hl16
  clear H hd hm
  go_enter Try.func23, Try.ntmps23
  go_wp2_with (go_at_call 49; refine HK.out.mono ?_; rintro e w1 ⟨a, c, rfl, ho, hb⟩; have HO := Lib.hid ho; have HB := Lib.hid hb; clear ho hb)
  go_loopw [3, 43] (fun b i wr => ∃ k : Nat, k ≤ m ∧ i = .int .i64 k ∧ wr.ownsRow w1.heap.size 5 1 b (obsB (os.take k)).length (u8s (obsB (os.take k))) ∧ Below w1.heap.size w1 wr) (fun _ i _ => m - (intOf i).toNat)
  case atStart => exact ⟨0, by omega, rfl, World.ownsRow_nil _ _ _ _, Below.refl _ _⟩
  case round =>
    obtain ⟨k, hk, rfl, hown, hb⟩ := hrel
    by_cases hlt : k < m
    · obtain ⟨g, rfl, hg, hobs⟩ := HO.out (by rw [HM.out]; omega)
      obtain ⟨d1, d2⟩ := hobs k (by rw [HM.out]; exact hlt)
      have d1 := (hb.cell (p := ⟨g, k * 2, none⟩) hg).trans d1
      have d2 := (hb.cell (p := ⟨g, k * 2 + 1, none⟩) hg).trans d2
      obtain ⟨o, hoe⟩ : ∃ o, os.getD k (0, 0) = o := ⟨_, rfl⟩
      have hnx := obsB_snoc (by rw [HM.out]; exact hlt) hoe
      rw [hoe] at d1 d2
      obtain ⟨x, y⟩ := o
      simp only at d1 d2 hnx
      obtain ⟨acc, hacc⟩ : ∃ acc, obsB (os.take k) = acc := ⟨_, rfl⟩
      have hal : acc.length ≤ 32 := by rw [← hacc, obsB_len, List.length_take]; omega
      rw [hacc] at hown hnx
      have hb1 := hb.trans ((box_below wr (.cells #[.int .i64 x, .int .i64 y] 34)).mono hb.size)
      have hb2 := hb1.trans ((box_below (wr.alloc (.cells #[.int .i64 x, .int .i64 y] 34)) (.cells #[.int .u8 (x % 256), .int .u8 (y % 256)] 5)).mono hb1.size)
      have HO2 := Lib.hid (own5_below (own5_below hown (box_below wr (.cells #[.int .i64 x, .int .i64 y] 34))) (box_below _ (.cells #[.int .u8 (x % 256), .int .u8 (y % 256)] 5)))
      have HB2 := Lib.hid hb2
      have HS2 := Lib.hid hb2.size
      have HNX := Lib.hid hnx
      clear hobs hoe hacc hown hb hb1 hb2 hnx
      go_wp2_with (at_builtin; refine wpList_append_own_at _ rfl _ _ 32 rfl w1.heap.size 5 i0 _ 1 1 Try.underlying32 hi0 hz0 hz1 hz2 rfl (by omega) _ acc.length _ rfl HO2.out ⟨_, 0, none⟩ 2 2 (u8s [x % 256, y % 256]) rfl rfl (two_cell _ _ _ (by simp)) u8s_one (by unfold maxLen; omega) (by omega) HS2.out ?_; intro v1 w2 hown hgr _ _; have HN := Lib.hid hown; have HG := Lib.hid hgr; clear hown hgr)
      go_roundw
      case rel =>
        refine ⟨k + 1, by omega, by go_num, ?_, HB2.out.grown HG.out HS2.out (fun b hb => (own5_lt HO2.out b hb.symm).1)⟩
        rw [HNX.out, List.length_append, u8s_append]
        exact HN.out
      case measure => simp [intOf]; omega
    · obtain rfl : k = m := by omega
      have HN := Lib.hid hown
      have HB3 := Lib.hid hb
      clear hown hb
      go_wp2
      go_ret
      have hown := HN.out
      rw [← HM.out, List.take_length] at hown
      exact ⟨_, rfl, own_mono hown HB.out.size, HB.out.trans (HB3.out.mono HB.out.size)⟩
/-! ### Keys -/
def accK (ks : List ByteArray) (l : List ByteArray) : List Int := l.flatMap fun y => findK ks y :: strB y
theorem found_at {ks : List ByteArray} (hu : Uniq ks) {i : Nat} (hi : i < ks.length) {y : ByteArray} (hy : ks.getD i .empty = y) (hne : y ≠ ⟨#[]⟩) : ks.findIdx? (· = y) = some i := by
  have h := slotOf_at hu hi hy hne
  unfold slotOf at h
  rw [if_neg hne] at h
  exact h
theorem accK_all {ks : List ByteArray} (hu : Uniq ks) : ∀ k, k ≤ ks.length → accK ks (listK (ks.take k)) = keysB ks k
  | 0, _ => rfl
  | k + 1, hk => by
    have ih := accK_all hu k (by omega)
    obtain ⟨y, hy⟩ : ∃ y, ks.getD k .empty = y := ⟨_, rfl⟩
    rw [listK_snoc (by omega) hy, accK, List.flatMap_append, ← accK, ih]
    show _ = keysB ks k ++ if ks.getD k .empty = ⟨#[]⟩ then [] else (k : Int) :: strB (ks.getD k .empty)
    rw [hy]
    by_cases he : y = ⟨#[]⟩
    · rw [if_pos he, if_pos he]; rfl
    · rw [if_neg he, if_neg he]
      simp only [List.flatMap_cons, List.flatMap_nil, List.append_nil]
      rw [findK_some (found_at hu (by omega) hy he)]
theorem accK_snoc {ks l : List ByteArray} {k : Nat} {y : ByteArray} (hk : k < l.length) (hy : l.getD k .empty = y) : accK ks (l.take (k + 1)) = accK ks (l.take k) ++ (findK ks y :: strB y) := by
  rw [List.getD_eq_getElem?_getD, List.getElem?_eq_getElem hk] at hy
  simp only [Option.getD_some] at hy
  rw [List.take_succ_eq_append_getElem hk, accK, List.flatMap_append, ← accK, hy]
  simp
theorem accK_len {ks : List ByteArray} : ∀ (l : List ByteArray), (∀ y ∈ l, y.size ≤ 8) → (accK ks l).length ≤ l.length * 9
  | [], _ => Nat.le_refl _
  | a :: r, h => by
    have h1 := accK_len (ks := ks) r (fun y hy => h y (List.mem_cons_of_mem _ hy))
    have h2 := h a (List.mem_cons_self ..)
    rw [accK, List.flatMap_cons, List.length_append, ← accK, List.length_cons, List.length_cons, strB_length]
    omega
theorem in_listK {ks : List ByteArray} {y : ByteArray} (h : y ∈ listK ks) : y ≠ ⟨#[]⟩ ∧ ∃ i, i < ks.length ∧ ks.getD i .empty = y := by
  obtain ⟨h1, h2⟩ := List.mem_filter.1 h
  obtain ⟨i, hi, e⟩ := List.mem_iff_getElem.1 h1
  exact ⟨by simpa using h2, i, hi, by rw [List.getD_eq_getElem?_getD, List.getElem?_eq_getElem hi]; exact e⟩
set_option maxHeartbeats 2000000 in
theorem holders_hash {w : World} {h A G C M : Nat} {v : Value} {len : Nat} {l : List Int} {Dm : DataW Unit} {key s n L : Nat} {ks : List ByteArray} {zs : List Int} (H : Hm w h A G C M v len l Dm key s n L ks zs) (hd : Dim s n L) (hk1 : 1 ≤ key) (hk8 : key ≤ 8) :
    Calls Try.prog 23 #[.iface 92 (.pointer (some ⟨h, 0, none⟩))] w (HoldQ (keysB ks n) w) := by
  obtain ⟨i0, hi0, hz0, hz1, hz2⟩ := info_parts u8_info
  have HK := Lib.hid (hm_keys H hd)
  have HH := Lib.hid H
  have HD := Lib.hid (And.intro hd (And.intro hk1 hk8))
  have hall : ∀ k y, k < (listK ks).length → (listK ks).getD k .empty = y → y.size = key ∧ y ≠ ⟨#[]⟩ ∧ ∃ i : Nat, i < 16 ∧ ks.findIdx? (· = y) = some i := by
    intro k y hk hy
    rw [List.getD_eq_getElem?_getD, List.getElem?_eq_getElem hk] at hy
    simp only [Option.getD_some] at hy
    obtain ⟨h1, i, hi, e⟩ := in_listK (ks := ks) (y := y) (by rw [← hy]; exact List.getElem_mem hk)
    refine ⟨H.kz y ?_ h1, h1, i, by have := H.kl; have := hd.n1; omega, found_at H.un hi e h1⟩
    rw [← e, List.getD_eq_getElem?_getD, List.getElem?_eq_getElem hi]
    exact List.getElem_mem hi
  have hkl : ks.length = n := H.kl
  have hun : Uniq ks := H.un
  have hm16 : (listK ks).length ≤ 16 := by have := listK_len ks; have := hd.n1; omega
  have hsz8 : ∀ y ∈ listK ks, y.size ≤ 8 := fun y hy => by
    obtain ⟨k, hk, e⟩ := List.mem_iff_getElem.1 hy
    have := (hall k y hk (by rw [List.getD_eq_getElem?_getD, List.getElem?_eq_getElem hk]; exact e)).1
    omega
  have hend : accK ks (listK ks) = keysB ks n := by
    have := accK_all hun ks.length (Nat.le_refl _)
    rwa [List.take_length, hkl] at this
  obtain ⟨ls, hls⟩ : ∃ ls, listK ks = ls := ⟨_, rfl⟩
  rw [hls] at HK hall hm16 hsz8 hend
  obtain ⟨m, hm⟩ : ∃ m, ls.length = m := ⟨_, rfl⟩
  have HM := Lib.hid hm
  rw [hm] at HK hm16
  have HALL := Lib.hid hall
  have HSZ := Lib.hid hsz8
  have HE := Lib.hid hend
  clear H hd hk1 hk8 hall hkl hun hsz8 hend hls hm
  go_enter Try.func23, Try.ntmps23
  go_wp2_with (go_at_call 48; refine HK.out.mono ?_; rintro e w1 ⟨a, c, rfl, ho, hb⟩; have HO := Lib.hid ho; have HB := Lib.hid hb; have HH1 := Lib.hid (HH.out.stay hb); clear ho hb)
  go_loopw [3, 19] (fun b i wr => ∃ k : Nat, k ≤ m ∧ i = .int .i64 k ∧ wr.ownsRow w1.heap.size 5 1 b (accK ks (ls.take k)).length (u8s (accK ks (ls.take k))) ∧ Below w1.heap.size w1 wr) (fun _ i _ => m - (intOf i).toNat)
  case atStart => exact ⟨0, by omega, rfl, World.ownsRow_nil _ _ _ _, Below.refl _ _⟩
  case round =>
    obtain ⟨k, hk, rfl, hown, hb⟩ := hrel
    by_cases hlt : k < m
    · obtain ⟨B, rfl, hBl, hkeys⟩ : ∃ B, a = some ⟨B, 0, none⟩ ∧ B < w1.heap.size ∧ _ := by
        rcases HO.out with h0 | h0
        · rw [HM.out] at h0; omega
        · exact h0
      obtain ⟨g, off, ck, kz, d1, hg, hrow, hkz⟩ := hkeys k (by rw [HM.out]; exact hlt)
      have d1 := (hb.cell (p := ⟨B, k, none⟩) hBl).trans d1
      obtain ⟨y, hy⟩ : ∃ y, ls.getD k .empty = y := ⟨_, rfl⟩
      obtain ⟨hys, hyn, i, hi, hfi⟩ := HALL.out k y (by rw [HM.out]; exact hlt) hy
      have hnx := accK_snoc (ks := ks) (by rw [HM.out]; exact hlt) hy
      rw [findK_some hfi] at hnx
      rw [hy] at hkz
      have hkl : kz.length = key := by rw [hkz, numsOf_length, hys]
      have hzb : kz = strB y := hkz
      have hstr : strOfNums kz = y := by rw [hkz, strOf_numsOf]
      rw [hkl] at d1 hrow
      have hr : ∀ W, Below w1.heap.size w1 W → RowAt W g off key kz := fun W hW => rowAt_below hrow hg hW
      have HR := Lib.hid hr
      have hka : KeyAt wr (.slice (some ⟨g, off, none⟩) key ck) kz := .row g off key ck kz hkl (hr wr hb) (fun _ => Nat.lt_of_lt_of_le hg hb.size)
      have hf := hm_find (HH1.out.stay hb) HD.out.2.1 hka (by rw [hkl]; have := HD.out.2.2; unfold maxLen; omega)
      have HF : Hid (Calls Try.prog 38 #[.pointer (some ⟨h, 0, none⟩), .slice (some ⟨g, off, none⟩) key ck] wr (fun e w' => e = .returned (.tuple #[.int .i64 i, .bool true]) ∧ Below wr.heap.size wr w')) := Lib.hid (hf.mono fun e w' ⟨he, hb'⟩ => ⟨by rw [he, if_pos hkl, hstr, hfi], hb'⟩)
      obtain ⟨acc, hacc⟩ : ∃ acc, accK ks (ls.take k) = acc := ⟨_, rfl⟩
      have hal : acc.length ≤ 144 := by
        rw [← hacc]
        have := accK_len (ks := ks) (ls.take k) (fun y hy => HSZ.out y (List.mem_of_mem_take hy))
        rw [List.length_take] at this
        omega
      rw [hacc] at hown hnx
      have HOW := Lib.hid hown
      have HBK := Lib.hid hb
      have HNX := Lib.hid hnx
      have HKL := Lib.hid (And.intro hkl hzb)
      have hk8 : key ≤ 8 := HD.out.2.2
      clear hkeys hrow hkz hy hys hyn hfi hkl hzb hstr hr hka hf hacc hown hb hnx
      go_wp2_with (first
        | (go_at_call 38; refine HF.out.mono ?_; rintro e w2 ⟨rfl, hb2⟩; have HB2 := Lib.hid (HBK.out.trans (hb2.mono HBK.out.size)); have HO2 := Lib.hid (own5_below (own5_below HOW.out hb2) (box_below w2 (.cells #[.int .u8 (i : Int)] 5))); have HB3 := Lib.hid (HB2.out.trans ((box_below w2 (.cells #[.int .u8 (i : Int)] 5)).mono HB2.out.size)); have HS3 := Lib.hid HB3.out.size; clear hb2)
        | (at_builtin; refine wpList_append_own_at _ rfl _ _ 32 rfl w1.heap.size 5 i0 _ 1 1 Try.underlying32 hi0 hz0 hz1 hz2 rfl (by omega) _ (acc.length + 1) _ rfl HO4.out ⟨g, off, none⟩ key ck (u8s kz) rfl (by rw [u8s_length, HKL.out.1, Nat.mul_one]) (fun j u hu => by rw [add_lit]; exact u8s_cells HKL.out.1 (HR.out _ HB4.out) j u hu) u8s_one (by unfold maxLen; omega) (by omega) HB4.out.size ?_; intro v5 w5 hown hgr _ _; have HO5 := Lib.hid hown; have HG5 := Lib.hid hgr; clear hown hgr)
        | (at_builtin; refine wpList_append_own_at _ rfl _ _ 32 rfl w1.heap.size 5 i0 _ 1 1 Try.underlying32 hi0 hz0 hz1 hz2 rfl (by omega) _ acc.length _ rfl HO2.out ⟨_, 0, none⟩ 1 1 (u8s [(i : Int)]) rfl rfl (one_cell _ _ (by simp)) u8s_one (by unfold maxLen; omega) (by omega) HS3.out ?_; intro v4 w4 hown hgr _ _; have HO4 := Lib.hid hown; have HB4 := Lib.hid (HB3.out.grown hgr HS3.out (fun b hb => (own5_lt HO2.out b hb.symm).1)); clear hown hgr))
      go_roundw
      case rel =>
        refine ⟨k + 1, by omega, by go_num, ?_, HB4.out.grown HG5.out HB4.out.size (fun b hb => (own5_lt HO4.out b hb.symm).1)⟩
        have h5 := HO5.out
        have e1 : u8s ((i : Int) :: strB y) = u8s [(i : Int)] ++ u8s kz := by rw [HKL.out.2]; rfl
        have e2 : acc.length + ((strB y).length + 1) = acc.length + 1 + key := by rw [← HKL.out.2, HKL.out.1]; omega
        rw [HNX.out, List.length_append, List.length_cons, u8s_append, e1, e2, ← List.append_assoc]
        exact h5
      case measure => simp [intOf]; omega
    · obtain rfl : k = m := by omega
      have HN := Lib.hid hown
      have HB3 := Lib.hid hb
      clear hown hb
      go_wp2
      go_ret
      have hown := HN.out
      rw [← HM.out, List.take_length, HE.out] at hown
      exact ⟨_, rfl, own_mono hown HB.out.size, HB.out.trans (HB3.out.mono HB.out.size)⟩
/-- Whose the slots are. -/
theorem holders_any {w : World} {S : Nat → Prop} {v : Value} {x : MSt} (h : PdM w S v x) : Calls Try.prog 23 #[v] w (HoldQ (k1M x ++ k2M x) w) := by
  cases h with
  | arr hd ha hc hS => exact holders_none (.inl ⟨_, rfl⟩)
  | hash hd hk hk8 H hS =>
    have := holders_hash H hd hk hk8
    unfold k1M k2M
    rw [List.append_nil]
    exact this
  | loc hd hk H hS => exact holders_loc H hd
  | ring hS => exact holders_none (.inr rfl)
end Go.Proofs.Ytenjdgoammaiiaa
