/-
  Proved here: what Write and Bytes of the document's arrays do and give. Conditions: as each says.
-/
import Derived.Test.YtijhoiheieighaaRefNew
namespace Go.Proofs.Ytijhoiheieighaa
open Go.RowKit

/-- The document's array in memory: its box lies in block R, its list of slots in block B, the slots in the blocks gs k. -/
structure Rf (w : World) (R B cap s n L : Nat) (gs : Nat → Nat) (zs : List Int) : Prop where
  r0 : w.cell? ⟨R, 0, none⟩ = some (.int .i64 s)
  r1 : w.cell? ⟨R, 1, none⟩ = some (.slice (some ⟨B, 0, none⟩) n cap)
  rows : ∀ k, k < n → w.cell? ⟨B, k, none⟩ = some (.slice (some ⟨gs k, 0, none⟩) s s)
  row : ∀ k j, k < n → j < s → w.cell? ⟨gs k, j, none⟩ = some (.int .u8 (zs.getD (k * s + j) 0))
  free : ∀ k j, k < n → w.frozen? ⟨gs k, j, none⟩ = false
  len : zs.length = L
  inj : ∀ i j, i < n → j < n → gs i = gs j → i = j
  neR : ∀ k, k < n → gs k ≠ R
  neB : ∀ k, k < n → gs k ≠ B
theorem Rf.ltR {w : World} {R B cap s n L : Nat} {gs : Nat → Nat} {zs : List Int} (h : Rf w R B cap s n L gs zs) : R < w.heap.size := cell_block_lt h.r0
theorem Rf.ltB {w : World} {R B cap s n L : Nat} {gs : Nat → Nat} {zs : List Int} (h : Rf w R B cap s n L gs zs) (hn : 0 < n) : B < w.heap.size := cell_block_lt (h.rows 0 hn)
theorem Rf.ltG {w : World} {R B cap s n L k : Nat} {gs : Nat → Nat} {zs : List Int} (h : Rf w R B cap s n L gs zs) (hs : 0 < s) (hk : k < n) : gs k < w.heap.size := cell_block_lt (h.row k 0 hk hs)
/-- It stays where its blocks stay. -/
theorem Rf.kept {w w' : World} {R B cap s n L : Nat} {gs : Nat → Nat} {zs : List Int} (h : Rf w R B cap s n L gs zs) (hR : w'.heap[R]? = w.heap[R]?) (hB : w'.heap[B]? = w.heap[B]?) (hG : ∀ k, k < n → w'.heap[gs k]? = w.heap[gs k]?) :
    Rf w' R B cap s n L gs zs :=
  ⟨(World.cell?_of_block (w := w) hR).trans h.r0, (World.cell?_of_block (w := w) hR).trans h.r1, fun k hk => (World.cell?_of_block (w := w) hB).trans (h.rows k hk), fun k j hk hj => (World.cell?_of_block (w := w) (hG k hk)).trans (h.row k j hk hj),
    fun k j hk => (World.frozen?_of_block (w := w) (hG k hk)).trans (h.free k j hk), h.len, h.inj, h.neR, h.neB⟩
theorem Rf.stay {w w' : World} {R B cap s n L : Nat} {gs : Nat → Nat} {zs : List Int} (h : Rf w R B cap s n L gs zs) (hs : 0 < s) (hn : 0 < n) (hb : Below w.heap.size w w') : Rf w' R B cap s n L gs zs :=
  h.kept (hb.block _ h.ltR) (hb.block _ (h.ltB hn)) (fun _ hk => hb.block _ (h.ltG hs hk))
/-- A store into another block. -/
theorem Rf.far {w : World} {R B cap s n L : Nat} {gs : Nat → Nat} {zs : List Int} (h : Rf w R B cap s n L gs zs) (a : Addr) (v : Value) (hR : R ≠ a.block) (hB : B ≠ a.block) (hG : ∀ k, k < n → gs k ≠ a.block) : Rf (w.setCell a v) R B cap s n L gs zs :=
  h.kept (Below.heap_setCell _ _ _ _ hR) (Below.heap_setCell _ _ _ _ hB) (fun k hk => Below.heap_setCell _ _ _ _ (hG k hk))
theorem place_eq {s k j k' j' : Nat} (hj : j < s) (hj' : j' < s) (h : k * s + j = k' * s + j') : k = k' ∧ j = j' := by
  have h1 : (k * s + j) / s = k := by rw [Nat.mul_comm, Nat.mul_add_div (by omega), Nat.div_eq_of_lt hj, Nat.add_zero]
  have h2 : (k' * s + j') / s = k' := by rw [Nat.mul_comm, Nat.mul_add_div (by omega), Nat.div_eq_of_lt hj', Nat.add_zero]
  have : k = k' := by rw [← h1, h, h2]
  subst this
  exact ⟨rfl, by omega⟩
theorem set_get {zs : List Int} {i j : Nat} {c : Int} (hi : i < zs.length) : (zs.set i c).getD j 0 = if i = j then c else zs.getD j 0 := by
  rw [List.getD_eq_getElem?_getD, List.getD_eq_getElem?_getD, List.getElem?_set]
  by_cases e : i = j
  · subst e; simp [hi]
  · simp [e]
theorem cell_set {w : World} {g j at_ : Nat} {u v : Value} (h : w.cell? ⟨g, j, none⟩ = some v) : (w.setCell ⟨g, at_, none⟩ u).cell? ⟨g, j, none⟩ = some (if at_ = j then u else v) := by
  by_cases e : at_ = j
  · subst e
    rw [if_pos rfl, World.cell?_setCell_same _ _ _ h]
  · rw [if_neg e, World.cell?_setCell_other _ _ _ _ (by intro h2; injection h2 with _ h3; exact e h3)]
    exact h
theorem Rf.put {w : World} {R B cap s n L k at_ : Nat} {gs : Nat → Nat} {zs : List Int} {c : Int} (h : Rf w R B cap s n L gs zs) (hk : k < n) (ha : at_ < s) (hL : k * s + s ≤ L) :
    Rf (w.setCell ⟨gs k, at_, none⟩ (.int .u8 c)) R B cap s n L gs (zs.set (k * s + at_) c) := by
  have hl := h.len
  have hR := Below.heap_setCell w ⟨gs k, at_, none⟩ (.int .u8 c) R (fun e => h.neR k hk e.symm)
  have hB := Below.heap_setCell w ⟨gs k, at_, none⟩ (.int .u8 c) B (fun e => h.neB k hk e.symm)
  refine ⟨(World.cell?_of_block (w := w) hR).trans h.r0, (World.cell?_of_block (w := w) hR).trans h.r1, fun i hi => (World.cell?_of_block (w := w) hB).trans (h.rows i hi), fun i j hi hj => ?_, fun i j hi => ?_, by simp [hl], h.inj, h.neR, h.neB⟩
  · by_cases e : i = k
    · subst e
      rw [cell_set (h.row i j hi hj), set_get (by omega)]
      by_cases e2 : at_ = j
      · subst e2; simp
      · rw [if_neg e2, if_neg (by omega)]
    · rw [World.cell?_setCell_other _ _ _ _ (by intro h2; injection h2 with h2; exact e (h.inj _ _ hi hk h2.symm)), h.row i j hi hj, set_get (by omega), if_neg]
      intro e2
      exact e (place_eq ha hj e2).1.symm
  · rw [World.frozen?_setCell]
    exact h.free i j hi

/-! ### Write -/
def Wrote (W : World) (e : Ending) (w : World) : Prop := e = .returned (.tuple #[]) ∧ W = w
theorem write_yes (R B cap s n L k at_ : Nat) (c : Int) (gs : Nat → Nat) (zs : List Int) (w : World) (h : Rf w R B cap s n L gs zs) (hk : k < n) (ha : at_ < s) :
    Calls Try.prog 16 #[.pointer (some ⟨R, 0, none⟩), .int .i64 k, .int .i64 at_, .int .u8 c] w (Wrote (w.setCell ⟨gs k, at_, none⟩ (.int .u8 c))) := by
  have h0 := h.r0
  have h1 := h.r1
  have h2 := h.rows k hk
  have h3 := h.row k at_ hk ha
  have h4 := h.free k at_ hk
  obtain ⟨g, hg⟩ : ∃ g, gs k = g := ⟨_, rfl⟩
  obtain ⟨y, hy⟩ : ∃ y, zs.getD (k * s + at_) 0 = y := ⟨_, rfl⟩
  rw [hg] at h2 h3 h4 ⊢
  rw [hy] at h3
  clear h hg hy
  go_enter Try.func16, Try.ntmps16
  go_wp2
  refine bodyPost_ret (results_none rfl _ _ _) rfl ?_
  exact ⟨rfl, rfl⟩
theorem write_no (R B cap s n L : Nat) (k at_ c : Int) (gs : Nat → Nat) (zs : List Int) (w : World) (h : Rf w R B cap s n L gs zs) (hno : ¬ (0 ≤ k ∧ k < n ∧ 0 ≤ at_ ∧ at_ < s)) :
    Calls Try.prog 16 #[.pointer (some ⟨R, 0, none⟩), .int .i64 k, .int .i64 at_, .int .u8 c] w (Wrote w) := by
  have h0 := h.r0
  have h1 := h.r1
  clear h
  by_cases a1 : 0 ≤ k
  · by_cases a2 : k < n
    · by_cases a3 : 0 ≤ at_
      · have a4 : ¬ at_ < s := by omega
        go_enter Try.func16, Try.ntmps16
        go_wp2
        first | refine bodyPost_ret (results_none rfl _ _ _) rfl ?_ | go_end0
        exact ⟨rfl, rfl⟩
      · go_enter Try.func16, Try.ntmps16
        go_wp2
        first | refine bodyPost_ret (results_none rfl _ _ _) rfl ?_ | go_end0
        exact ⟨rfl, rfl⟩
    · go_enter Try.func16, Try.ntmps16
      go_wp2
      first | refine bodyPost_ret (results_none rfl _ _ _) rfl ?_ | go_end0
      exact ⟨rfl, rfl⟩
  · go_enter Try.func16, Try.ntmps16
    go_wp2
    first | refine bodyPost_ret (results_none rfl _ _ _) rfl ?_ | go_end0
    exact ⟨rfl, rfl⟩
/-! ### Bytes -/
/-- The bytes of a slot. -/
def slotL (zs : List Int) (s k : Nat) : List Int := (zs.drop (k * s)).take s
theorem slotL_length {zs : List Int} {s k L : Nat} (hz : zs.length = L) (h : k * s + s ≤ L) : (slotL zs s k).length = s := by
  simp [slotL]; omega
theorem slotL_get {zs : List Int} {s k j : Nat} (hj : j < s) : (slotL zs s k).getD j 0 = zs.getD (k * s + j) 0 := by
  rw [List.getD_eq_getElem?_getD, List.getD_eq_getElem?_getD, slotL, List.getElem?_take_of_lt hj, List.getElem?_drop]
theorem slotL_snoc (zs : List Int) (s k : Nat) : u8s (zs.take (k * s)) ++ u8s (slotL zs s k) = u8s (zs.take (k * s + s)) := by
  rw [u8s, u8s, u8s, ← List.map_append, slotL, List.take_add]
/-- Under way: the first k slots' bytes have been taken. -/
structure Taken (W wr : World) (v : Value) (m : Nat) (zs : List Int) : Prop where
  own : wr.ownsRow W.heap.size 5 1 v m (u8s (zs.take m))
  below : Below W.heap.size W wr
set_option maxHeartbeats 400000 in
theorem ref_bytes (R B cap s n L : Nat) (gs : Nat → Nat) (zs : List Int) (w : World) (hd : Dim s n L) (h : Rf w R B cap s n L gs zs) : Calls Try.prog 32 #[.pointer (some ⟨R, 0, none⟩)] w (GaveRow w L zs) := by
  have hs := hd.s0
  have hs1 := hd.s1
  have hn := hd.n0
  have hn1 := hd.n1
  have hle := hd.le
  have hR := h.ltR
  have hB := h.ltB hn
  have h1 := h.r1
  obtain ⟨i0, hi0, hz0, hz1, hz2⟩ := info_parts u8_info
  have H := Lib.hid h
  have HD := Lib.hid hd
  clear h hd
  have hT : Taken w w (.slice none 0 0) 0 zs := ⟨World.ownsRow_nil _ _ _ _, Below.refl _ _⟩
  have HT := Lib.hid hT
  clear hT
  go_enter Try.func32, Try.ntmps32
  go_wp2
  go_loopw [3, 4] (fun v i wr => ∃ k : Nat, k ≤ n ∧ i = .int .i64 k ∧ Taken w wr v (k * s) zs) (fun _ i _ => n - (intOf i).toNat)
  case atStart => exact ⟨0, by omega, rfl, by rw [Nat.zero_mul]; exact HT.out⟩
  case round =>
    obtain ⟨k, hk, rfl, hT⟩ := hrel
    clear HT
    have hz := hT.below.size
    have h1' := (hT.below.cell (p := ⟨R, 1, none⟩) hR).trans h1
    by_cases hlt : k < n
    · have h2' := (hT.below.cell (p := ⟨B, k, none⟩) hB).trans (H.out.rows k hlt)
      have hg := H.out.ltG (k := k) hs hlt
      have hps := HD.out.at hlt
      have hrow : RowAt wr (gs k) 0 s (slotL zs s k) := fun j hj => by
        rw [slotL_get hj]
        exact (hT.below.cell (p := ⟨gs k, 0 + j, none⟩) hg).trans (by rw [Nat.zero_add]; exact H.out.row k j hlt hj)
      have hl := slotL_length (zs := zs) H.out.len hps
      obtain ⟨g, hge⟩ : ∃ g, gs k = g := ⟨_, rfl⟩
      obtain ⟨m, hm⟩ : ∃ m, k * s = m := ⟨_, rfl⟩
      rw [hge] at h2' hrow
      have HL := Lib.hid hl
      have HM := Lib.hid hm
      have HR := Lib.hid hrow
      rw [hm] at hT hps
      have hnx : (k + 1) * s = m + s := by rw [Nat.add_mul, Nat.one_mul, hm]
      have HN := Lib.hid hnx
      have HT := Lib.hid hT
      have HS := Lib.hid (slotL_snoc zs s k)
      clear hl hm hnx hrow hT hge h1 hg
      go_wp2_with (at_builtin; refine wpList_append_own_at _ rfl _ _ 36 rfl w.heap.size 5 i0 _ 1 1 Try.underlying36 hi0 hz0 hz1 hz2 rfl (by omega) _ m _ rfl HT.out.own ⟨g, 0, none⟩ s s (u8s (slotL zs s k)) rfl (by rw [u8s_length, HL.out]; omega) (fun j u hu => by rw [add_lit]; exact u8s_cells HL.out HR.out j u hu) u8s_one (by unfold maxLen; omega) (by omega) hz ?_; intro v1 w1 hown hgr _ _; have HO := Lib.hid hown; have HG := Lib.hid hgr; clear hown hgr)
      go_roundw
      case rel =>
        refine ⟨k + 1, by omega, by go_num, ?_⟩
        rw [HN.out]
        have e := HS.out
        rw [HM.out] at e
        refine ⟨by rw [← e]; exact HO.out, HT.out.below.grown HG.out hz (fun b hb => (HT.out.own.lt b hb).1)⟩
      case measure => simp [intOf]; omega
    · obtain rfl : k = n := by omega
      have hkl : k * s = L := by rw [Nat.mul_comm]; exact HD.out.hL
      rw [hkl] at hT
      have HT := Lib.hid hT
      clear hT hkl
      go_wp2
      go_ret
      have ho := HT.out.own
      rw [List.take_of_length_le (by rw [H.out.len]; omega)] at ho
      obtain ⟨g, cap, e, hf⟩ := fresh_of_own H.out.len HD.out.pos ho HT.out.below
      exact ⟨g, cap, by subst e; rfl, hf⟩
end Go.Proofs.Ytijhoiheieighaa
