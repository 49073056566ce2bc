/-
  Proved here: what Keys of the program's map gives. Conditions: as each lemma says.
-/
import Derived.Test.YtcociipcimdjjaaDel
import Derived.Lib.ConvBytes
namespace Go.Proofs.Ytcociipcimdjjaa
open Go.RowKit

theorem made_nil (m : Nat) : madeCells (Value.cells (.slice none 0 0)) m = Array.replicate m (.slice none 0 0) := by
  apply Array.ext
  · simp [size_madeCells]
  · intro i h1 h2
    simp [madeCells, Value.cells, Nat.mod_one]
theorem make_sl (w : World) (m : Nat) (h : m ≤ 1000) : (Instr.makeSlice 72 (.int .i64 m) (.int .i64 m)).run Try.prog w = .ok (.slice (some ⟨w.heap.size, 0, none⟩) m m) (w.alloc (.cells (Array.replicate m (.slice none 0 0)) 31)) := by
  obtain ⟨i0, hi0, hz0, hz1, hz2⟩ := info_parts sl_info
  have hr := run_make (P := Try.prog) w 72 31 i0 _ Try.underlying72 hi0 hz0 .i64 .i64 m m (by omega) (by omega) (by rw [hz2]; omega) (by omega)
  rw [hz1, Int.toNat_natCast, Nat.mul_one, made_nil] at hr
  exact hr
/-- A cell that holds a key's bytes. -/
def KeyCell (w : World) (B j : Nat) (y : ByteArray) : Prop := ∃ g off c kz, w.cell? ⟨B, j, none⟩ = some (.slice (some ⟨g, off, none⟩) kz.length c) ∧ g < w.heap.size ∧ g ≠ B ∧ RowAt w g off kz.length kz ∧ strOfNums kz = y
/-- How far the map has been gone through. -/
structure KeyR (W wr : World) (B n : Nat) (ks : List ByteArray) (left : Lit → Bool) : Prop where
  no : ∀ j, j < n → (ks.getD j .empty = ⟨#[]⟩ ∨ left (keyL (ks.getD j .empty)) = true) → wr.cell? ⟨B, j, none⟩ = some (.slice none 0 0)
  yes : ∀ j, j < n → ks.getD j .empty ≠ ⟨#[]⟩ → left (keyL (ks.getD j .empty)) = false → KeyCell wr B j (ks.getD j .empty)
  free : ∀ j, wr.frozen? ⟨B, j, none⟩ = false
  below : Below W.heap.size W wr
  at_ : W.heap.size ≤ B
  lt : B < wr.heap.size
/-- The numbers of a string's bytes. -/
def numsOf (y : ByteArray) : List Int := y.data.toList.map fun b => (b.toNat : Int)
theorem numsOf_length (y : ByteArray) : (numsOf y).length = y.size := by rw [numsOf, List.length_map, Array.length_toList]; rfl
theorem numsOf_get (y : ByteArray) (j : Nat) (hj : j < y.size) : (numsOf y).getD j 0 = ((y.data.toList.getD j 0).toNat : Int) := by
  have h : j < y.data.toList.length := by rw [Array.length_toList]; exact hj
  simp [numsOf, List.getD_eq_getElem?_getD, List.getElem?_map, List.getElem?_eq_getElem h]
theorem strOf_numsOf (y : ByteArray) : strOfNums (numsOf y) = y := by
  cases y with
  | mk a =>
    unfold numsOf strOfNums
    simp [List.map_map, Function.comp_def]
theorem below_bytes (w : World) (e : TypeId) (y : ByteArray) : Below w.heap.size w (Lib.bytesWorld w e y) :=
  ⟨rfl, rfl, rfl, by rw [Lib.bytesWorld_size]; omega, fun k hk => Lib.bytesWorld_at_old w e y k hk⟩
theorem conv_str (w : World) (y : ByteArray) : ∃ c, (convert 9 31 (.string y)).run Try.prog w = .ok (.slice (some ⟨w.heap.size, 0, none⟩) y.size c) (Lib.bytesWorld w 5 y) ∧ RowAt (Lib.bytesWorld w 5 y) w.heap.size 0 y.size (numsOf y) := by
  refine ⟨_, Lib.run_convert_string_bytes w 9 31 5 y Try.underlying9 Try.underlying31 Try.underlying5, fun j hj => ?_⟩
  rw [Nat.zero_add, Lib.bytesWorld_cell w 5 y j hj, numsOf_get y j hj]
theorem KeyCell.kept {w w' : World} {B j : Nat} {y : ByteArray} (h : KeyCell w B j y) (hc : w'.cell? ⟨B, j, none⟩ = w.cell? ⟨B, j, none⟩) (hb : ∀ g, g < w.heap.size → g ≠ B → w'.heap[g]? = w.heap[g]?) (hz : w.heap.size ≤ w'.heap.size) : KeyCell w' B j y := by
  obtain ⟨g, off, c, kz, h1, h2, h3, h4, h5⟩ := h
  exact ⟨g, off, c, kz, hc.trans h1, Nat.lt_of_lt_of_le h2 hz, h3, fun i hi => (World.cell?_of_block (w := w) (hb g h2 h3)).trans (h4 i hi), h5⟩
/-- One more key has come, and stands in its slot. -/
theorem KeyR.next {W wr w1 w2 : World} {B n r i : Nat} {ks : List ByteArray} {left : Lit → Bool} {y : ByteArray} {c : Nat} (h : KeyR W wr B n ks left) (hu : Uniq ks) (hkl : ks.length = n) (hi : i < n) (hy : ks.getD i .empty = y) (hne : y ≠ ⟨#[]⟩) (hr : W.heap.size ≤ r) (hrB : r ≠ B) (hrt : ∀ g cs e f, wr.heap[g]? = some (.cells cs e f) → g ≠ r)
    (hg : wr.grownBy w1 (some r)) (hz1 : w1.heap.size = wr.heap.size) (hw2 : w2 = Lib.bytesWorld w1 5 y) (hrow : RowAt w2 w1.heap.size 0 y.size (numsOf y)) :
    KeyR W (w2.setCell ⟨B, i, none⟩ (.slice (some ⟨w1.heap.size, 0, none⟩) y.size c)) B n ks (fun z => left z && !z.sameKey (keyL y)) := by
  have hb2 : Below w1.heap.size w1 w2 := by rw [hw2]; exact below_bytes _ _ _
  have hz2 := hb2.size
  have eB : w2.heap[B]? = wr.heap[B]? := (hb2.block B (by rw [hz1]; exact h.lt)).trans (hg.block B h.lt (fun e => hrB (by injection e with e; exact e.symm)))
  have hcell : ∀ j, w2.cell? ⟨B, j, none⟩ = wr.cell? ⟨B, j, none⟩ := fun j => World.cell?_of_block (w := wr) eB
  have hold : ∀ j, j ≠ i → (w2.setCell ⟨B, i, none⟩ (.slice (some ⟨w1.heap.size, 0, none⟩) y.size c)).cell? ⟨B, j, none⟩ = wr.cell? ⟨B, j, none⟩ := fun j hj => by
    rw [World.cell?_setCell_other _ _ _ _ (by intro e; injection e with _ e _; exact hj e.symm)]
    exact hcell j
  have hkeep : ∀ j, j ≠ i → KeyCell wr B j (ks.getD j .empty) → KeyCell (w2.setCell ⟨B, i, none⟩ (.slice (some ⟨w1.heap.size, 0, none⟩) y.size c)) B j (ks.getD j .empty) := by
    rintro j hj ⟨g, off, c', kz, h1, h2, h3, h4, h5⟩
    refine ⟨g, off, c', kz, (hold j hj).trans h1, by simp [World.setCell]; omega, h3, fun t ht => ?_, h5⟩
    have hgr : g ≠ r := by
      have h6 := h4 t ht
      unfold World.cell? at h6
      cases hq : wr.heap[g]? with
      | none => simp [hq] at h6
      | some o =>
        cases o with
        | cells cs e f => exact hrt g cs e f hq
        | _ => simp [hq] at h6
    rw [World.cell?_of_block (w := wr) (a := ⟨g, off + t, none⟩)]
    · exact h4 t ht
    · show (w2.setCell ⟨B, i, none⟩ _).heap[g]? = _
      rw [Below.heap_setCell _ _ _ _ h3]
      exact (hb2.block g (by omega)).trans (hg.block g h2 (fun e => hgr (by injection e)))
  have hleft : ∀ j, j < n → ks.getD j .empty ≠ ⟨#[]⟩ → j ≠ i → (left (keyL (ks.getD j .empty)) && !(keyL (ks.getD j .empty)).sameKey (keyL y)) = left (keyL (ks.getD j .empty)) := by
    intro j hj hn hji
    have hne2 : keyL (ks.getD j .empty) ≠ keyL y := fun e => hji (hu j i (by omega) (by omega) (by rw [keyL_inj e, hy]) hn)
    rw [Maps.sameKey_ne hne2]
    simp
  refine ⟨fun j hj ho => ?_, fun j hj hn hl => ?_, fun j => ?_, ?_, h.at_, by simp [World.setCell]; have := h.lt; omega⟩
  · by_cases e : j = i
    · subst e
      rw [hy] at ho
      rcases ho with ho | ho
      · exact absurd ho hne
      · rw [WideAt.sameKey_self (keyLit y)] at ho
        simp at ho
    · rw [hold j e]
      refine h.no j hj ?_
      rcases ho with ho | ho
      · exact .inl ho
      · by_cases h0 : ks.getD j .empty = ⟨#[]⟩
        · exact .inl h0
        · rw [hleft j hj h0 e] at ho
          exact .inr ho
  · by_cases e : j = i
    · subst e
      rw [hy]
      have h0 := h.lt
      refine ⟨w1.heap.size, 0, c, numsOf y, ?_, by simp [World.setCell]; have : w1.heap.size < w2.heap.size := (by rw [hw2, Lib.bytesWorld_size]; omega); omega, by omega, fun t ht => ?_, strOf_numsOf y⟩
      · rw [numsOf_length]
        cases hc : wr.cell? ⟨B, j, none⟩ with
        | some v => exact World.cell?_setCell_same _ _ _ ((hcell j).trans hc)
        | none =>
          by_cases hl0 : left (keyL (ks.getD j .empty)) = true
          · rw [h.no j hj (.inr hl0)] at hc; cases hc
          · obtain ⟨_, _, _, _, h9, -⟩ := h.yes j hj hn (by simpa using hl0)
            rw [h9] at hc; cases hc
      · rw [World.cell?_setCell_other _ _ _ _ (by intro e; injection e with e _ _; omega)]
        exact hrow t (by rw [numsOf_length] at ht; exact ht)
    · rw [hleft j hj hn e] at hl
      exact hkeep j e (h.yes j hj hn hl)
  · rw [World.frozen?_setCell]
    exact (World.frozen?_of_block (w := wr) (a := ⟨B, j, none⟩) eB).trans (h.free j)
  · have hbw : Below W.heap.size W w1 := h.below.grown hg h.below.size (fun k hk => by injection hk with hk; omega)
    exact (hbw.trans (hb2.mono (by have := hbw.size; omega))).setCell h.at_ _
theorem filter_pair : ∀ (ks : List ByteArray) (ts : List SV), ks.length = ts.length → (∀ k, k < ks.length → (live (ts.getD k svD) = true ↔ ks.getD k .empty ≠ ⟨#[]⟩)) → (ts.filter live).length = (listK ks).length ∧
    ∀ j, j < (listK ks).length → ∃ k, k < ks.length ∧ (ts.filter live).getD j svD = ts.getD k svD ∧ (listK ks).getD j .empty = ks.getD k .empty ∧ ks.getD k .empty ≠ ⟨#[]⟩
  | [], [], _, _ => ⟨rfl, fun j hj => by simp [listK] at hj⟩
  | [], _ :: _, h, _ => by simp at h
  | _ :: _, [], h, _ => by simp at h
  | a :: r, t :: q, h, hl => by
    obtain ⟨h1, h2⟩ := filter_pair r q (by simpa using h) (fun k hk => by have := hl (k + 1) (by simpa using hk); simpa only [List.getD_cons_succ] using this)
    have h0 := hl 0 (by simp)
    simp only [List.getD_cons_zero] at h0
    by_cases ha : a = ⟨#[]⟩
    · have hlv : live t = false := by
        cases hq : live t
        · rfl
        · exact absurd ha (h0.1 hq)
      have e1 : (t :: q).filter live = q.filter live := by simp [hlv]
      have e2 : listK (a :: r) = listK r := by simp [listK, ha]
      rw [e1, e2]
      refine ⟨h1, fun j hj => ?_⟩
      obtain ⟨k, hk, h3, h4, h5⟩ := h2 j hj
      exact ⟨k + 1, by simpa using hk, by rw [List.getD_cons_succ]; exact h3, by rw [List.getD_cons_succ]; exact h4, by rw [List.getD_cons_succ]; exact h5⟩
    · have hlv : live t = true := h0.2 ha
      have e1 : (t :: q).filter live = t :: q.filter live := by simp [hlv]
      have e2 : listK (a :: r) = a :: listK r := by simp [listK, ha]
      rw [e1, e2]
      refine ⟨by simp [h1], fun j hj => ?_⟩
      cases j with
      | zero => exact ⟨0, by simp, rfl, rfl, ha⟩
      | succ j =>
        obtain ⟨k, hk, h3, h4, h5⟩ := h2 j (by simpa using hj)
        exact ⟨k + 1, by simpa using hk, by rw [List.getD_cons_succ, List.getD_cons_succ]; exact h3, by rw [List.getD_cons_succ, List.getD_cons_succ]; exact h4, by rw [List.getD_cons_succ]; exact h5⟩
/-- A slice that a key's cell holds. -/
def Tells1 (w : World) (B : Nat) (y : ByteArray) (t : SV) : Prop := (y = ⟨#[]⟩ ∧ t = svD) ∨ (y ≠ ⟨#[]⟩ ∧ ∃ g off c kz, t = (some ⟨g, off, none⟩, kz.length, c) ∧ g < w.heap.size ∧ g ≠ B ∧ RowAt w g off kz.length kz ∧ strOfNums kz = y)
/-- All have come. -/
theorem KeyR.row {W wr : World} {B n : Nat} {ks : List ByteArray} {left : Lit → Bool} (h : KeyR W wr B n ks left) (hl : ∀ kl, left kl = false) : ∃ ts : List SV, RowS wr B n ts ∧ ∀ j, j < n → Tells1 wr B (ks.getD j .empty) (ts.getD j svD) := by
  have hx : ∀ j, j < n → ∃ t : SV, wr.cell? ⟨B, j, none⟩ = some (sv t) ∧ Tells1 wr B (ks.getD j .empty) t := by
    intro j hj
    by_cases h0 : ks.getD j .empty = ⟨#[]⟩
    · exact ⟨svD, h.no j hj (.inl h0), .inl ⟨h0, rfl⟩⟩
    · obtain ⟨g, off, c, kz, h1, h2, h3, h4, h5⟩ := h.yes j hj h0 (hl _)
      exact ⟨(some ⟨g, off, none⟩, kz.length, c), h1, .inr ⟨h0, g, off, c, kz, rfl, h2, h3, h4, h5⟩⟩
  obtain ⟨f, hf⟩ := Go.Deep.choose_lt hx
  have hg : ∀ j, j < n → ((List.range n).map f).getD j svD = f j := fun j hj => by
    rw [List.getD_eq_getElem?_getD, List.getElem?_map, List.getElem?_range hj]
    rfl
  exact ⟨(List.range n).map f, ⟨by simp, fun j hj => by rw [hg j hj]; exact (hf j hj).1, h.free⟩, fun j hj => by rw [hg j hj]; exact (hf j hj).2⟩
/-- What is told in the end. -/
theorem keys_told {W wr w' : World} {B n : Nat} {ks : List ByteArray} {ts : List SV} {e : Ending} (hb : Below W.heap.size W wr) (hB : W.heap.size ≤ B) (hkl : ks.length = n) (hr : RowS wr B n ts) (ht : ∀ j, j < n → Tells1 wr B (ks.getD j .empty) (ts.getD j svD)) (hB2 : B < wr.heap.size) (hs : Struck B n ts wr e w') :
    ∃ a c, e = .returned (.slice a (listK ks).length c) ∧ KeysAt w' a (listK ks) ∧ Below W.heap.size W w' := by
  obtain ⟨he, htu, hc⟩ := hs
  obtain ⟨h1, h2⟩ := filter_pair ks ts (by rw [hkl, hr.len]) (fun k hk => by
    rcases ht k (by omega) with ⟨h3, h4⟩ | ⟨h3, g, off, c, kz, h4, -⟩
    · rw [h4, h3]; simp [live, svD]
    · rw [h4]; exact ⟨fun _ => h3, fun _ => rfl⟩)
  refine ⟨some ⟨B, 0, none⟩, n, by rw [← h1]; exact he, .inr ⟨B, rfl, Nat.lt_of_lt_of_le hB2 htu.size, fun j hj => ?_⟩, htu.below hb (fun b hb' => by rw [hb']; exact hB)⟩
  obtain ⟨k, hk, h3, h4, h5⟩ := h2 j hj
  rcases ht k (by omega) with ⟨h6, -⟩ | ⟨-, g, off, c, kz, h7, h8, h9, h10, h11⟩
  · exact absurd h6 h5
  · refine ⟨g, off, c, kz, ?_, Nat.lt_of_lt_of_le h8 htu.size, fun i hi => (World.cell?_of_block (w := wr) (a := ⟨g, off + i, none⟩) (htu.block g h8 h9)).trans (h10 i hi), by rw [h4]; exact h11⟩
    rw [hc j (by rw [h1]; exact hj), h3, h7]
    rfl
section
variable {h A G C M : Nat} {v : Value} {len : Nat} {l : List Int} {Dm : DataW Unit} {key s n L : Nat} {ks : List ByteArray} {zs : List Int}
set_option maxRecDepth 100000 in
theorem hm_keys {w : World} (H : Hm w h A G C M v len l Dm key s n L ks zs) (hd : Dim s n L) : Calls Try.prog 34 #[.pointer (some ⟨h, 0, none⟩)] w (fun e w' => ∃ a c, e = .returned (.slice a (listK ks).length c) ∧ KeysAt w' a (listK ks) ∧ Below w.heap.size w w') := by
  have c1 := H.h1
  have c2 := H.h2
  have hn1 := hd.n1
  have HL := Lib.hid H.ar.c1
  have HH := Lib.hid H
  have HD := Lib.hid hd
  have hmk := make_sl w n (by omega)
  have hhlt : h < w.heap.size := cell_block_lt c2
  have e1 : (w.alloc (.cells (Array.replicate n (.slice none 0 0)) 31)).heap.size = w.heap.size + 1 := by simp
  clear H hd
  go_enter Try.func34, Try.ntmps34
  go_wp2_with (first
    | (go_at_call 40; refine (arr_len _ _ _ HL.out).mono ?_; rintro e w' ⟨rfl, rfl⟩)
    | (at_range; refine wpList_range_own _ rfl _ 59 rfl 9 3 keyed9 Try.underlying59 _ M 16 _ rfl (HH.out.ow.alloc _) ?_; intro w0 hrg0 hg0 hs0))
  go_frame
  rw [e1] at hrg0 hs0 ⊢
  obtain ⟨B, hB⟩ : ∃ B, w.heap.size = B := ⟨_, rfl⟩
  have hin : ∀ i : Nat, i < n → (i : Int) < (n : Int) := fun i hi => by omega
  have hkl := HH.out.kl
  have hR0 : KeyR w w0 B n ks (Maps.has Dm) := by
    have hbl : w0.heap[B]? = some (.cells (Array.replicate n (.slice none 0 0)) 31 (0, 0)) := by
      rw [hg0.block B (by rw [e1]; omega) (by simp), ← hB]
      exact heap_alloc_new w _
    refine ⟨fun j hj _ => by simp [World.cell?, hbl, hj], fun j hj hn hl => ?_, fun j => by simp [World.frozen?, hbl], ?_, by omega, by omega⟩
    · rw [HH.out.ag.yes (slotOf_at HH.out.un (by omega) rfl hn)] at hl
      cases hl
    · exact ((Below.refl _ _).alloc (Nat.le_refl _) _).grown hg0 (by simp) (fun k hk => by cases hk)
  rw [hB] at hrg0 hs0 ⊢
  have HR0 := Lib.hid hR0
  have HRG0 := Lib.hid hrg0
  clear hR0 hrg0 hg0 hs0 hmk e1 c1 c2
  go_loopw [5] (fun _ wr => ∃ (left : Lit → Bool) (cnt : Nat), wr.ranges Try.prog 9 (plainElem Try.prog 3) M (B + 1) 16 Dm left cnt ∧ KeyR w wr B n ks left) (fun _ wr => wr.rangeLeft M (B + 1))
  case atStart => exact ⟨_, _, HRG0.out, HR0.out⟩
  case round =>
    obtain ⟨left, cnt, hrg, hkr⟩ := hrel
    have HRG := Lib.hid hrg
    have HKR := Lib.hid hkr
    clear hrg hkr HR0 HRG0
    go_wp2_with (at_next; refine wpList_next_ranges _ rfl _ rfl 9 keyed9 (plainElem Try.prog 3) Value.string (Value.int .i64) (fun key kl hkey => by obtain ⟨x, h1, -⟩ := WideMaps.string_of_keyOf Try.underlying9 hkey; exact ⟨x, h1⟩) (fun v y hv => by obtain ⟨c, h1, -⟩ := plainElem_int_inv Try.underlying3 hv; exact ⟨c, h1⟩) M (B + 1) 16 Dm left cnt rfl HRG.out ?_ ?_)
    · intro hc0 hl0
      obtain ⟨ts, hrs, hts⟩ := HKR.out.row hl0
      have HRS := Lib.hid hrs
      have HTS := Lib.hid hts
      clear hrs hts hl0
      go_wp2_with (go_at_call 42; refine (delete_nils _ _ ts _ HRS.out (by omega)).mono ?_; intro e w9 hst; have HST := Lib.hid hst; obtain ⟨he, -, -⟩ := hst; subst he)
      go_ret
      exact keys_told HKR.out.below HKR.out.at_ hkl HRS.out HTS.out HKR.out.lt HST.out
    · intro x c kl yd yp w1 cnt1 hkey hlk hv hat hrg1 hlt hg1 hs1 hen
      obtain ⟨x2, hx2, rfl, hxm⟩ := WideMaps.string_of_keyOf Try.underlying9 hkey
      cases hx2
      obtain ⟨c2, hc2, hz, -⟩ := plainElem_int_inv Try.underlying3 hv
      cases hc2
      cases hz
      obtain ⟨i, hsl, rfl⟩ : ∃ i : Nat, slotOf ks x = some i ∧ c = (i : Int) := by
        cases hs : slotOf ks x with
        | none =>
          have h1 := HH.out.ag.no hs
          have h2 := Maps.has_true_of_atKey hat
          rw [show (Lit.string x.data.toList) = keyL x from rfl, h1] at h2
          cases h2
        | some i =>
          have h1 := HH.out.ag.at_ x (.lit (.int .i64 0))
          rw [hs, show keyL x = (Lit.string x.data.toList) from rfl, hat] at h1
          simp only [DataW.lit.injEq, Lit.int.injEq, true_and] at h1
          exact ⟨i, rfl, h1⟩
      obtain ⟨hik, hix, hxn⟩ := slotOf_some hsl
      have hi : i < n := by omega
      obtain ⟨cc, hcv, hrow⟩ := conv_str w1 x
      obtain ⟨w2, hw2⟩ : ∃ w2, Lib.bytesWorld w1 5 x = w2 := ⟨_, rfl⟩
      rw [hw2] at hcv hrow
      have hrt : ∀ g cs e f, wr.heap[g]? = some (.cells cs e f) → g ≠ B + 1 := by
        obtain ⟨_, _, _, _, _, _, _, _, _, hr, _⟩ := HRG.out
        intro g cs e f hg he
        rw [he, hr] at hg
        cases hg
      have hMB : M ≠ B := by have := HH.out.ow.lt; omega
      have hnx := HKR.out.next (c := cc) HH.out.un hkl hi hix hxn (by omega) (by omega) hrt hg1 hs1 hw2.symm hrow
      have hb2 : Below w1.heap.size w1 w2 := by rw [← hw2]; exact below_bytes _ _ _
      have hB1 : B < w1.heap.size := by have := HKR.out.lt; omega
      have eB : w2.heap[B]? = wr.heap[B]? := (hb2.block B hB1).trans (hg1.block B HKR.out.lt (by simp))
      have hci : ∃ u, w2.cell? ⟨B, i, none⟩ = some u := by
        have e : w2.cell? ⟨B, i, none⟩ = wr.cell? ⟨B, i, none⟩ := World.cell?_of_block (w := wr) (a := ⟨B, i, none⟩) eB
        rw [e]
        by_cases hl0 : left (keyL (ks.getD i .empty)) = true
        · exact ⟨_, HKR.out.no i hi (.inr hl0)⟩
        · obtain ⟨_, _, _, _, h9, -⟩ := HKR.out.yes i hi (by rw [hix]; exact hxn) (by simpa using hl0)
          exact ⟨_, h9⟩
      obtain ⟨u, hci⟩ := hci
      have hfi : w2.frozen? ⟨B, i, none⟩ = false := (World.frozen?_of_block (w := wr) (a := ⟨B, i, none⟩) eB).trans (HKR.out.free i)
      have hrg2 : (w2.setCell ⟨B, i, none⟩ (.slice (some ⟨w1.heap.size, 0, none⟩) x.size cc)).ranges Try.prog 9 (plainElem Try.prog 3) M (B + 1) 16 Dm (fun z => left z && !z.sameKey (keyL x)) cnt1 := by
        have h1 := hrg1.kept (w' := w2) (row := none) ⟨hb2.os, hb2.tape, hb2.output, hb2.size, fun k hk _ => hb2.block k hk⟩ (by simp) (by simp)
        exact h1.kept (row := some B) ⟨rfl, rfl, rfl, by simp [World.setCell], fun k _ hk => Below.heap_setCell _ _ _ _ (fun e => hk (by rw [e]))⟩ (fun e => hMB (by injection e)) (fun e => by injection e with e; omega)
      have HNX := Lib.hid hnx
      have HRG2 := Lib.hid hrg2
      have hmeas : (w2.setCell ⟨B, i, none⟩ (.slice (some ⟨w1.heap.size, 0, none⟩) x.size cc)).rangeLeft M (B + 1) < wr.rangeLeft M (B + 1) := by rw [hrg2.left_eq, HRG.out.left_eq]; exact hlt
      have HME := Lib.hid hmeas
      have hi16 := hin i hi
      clear hkey hlk hv hat hrg1 hg1 hs1 hsl hik hix hxn hrow hw2 hrt hMB hnx hb2 eB hrg2 hmeas
      go_wp2
      go_roundw
      case rel => exact ⟨_, _, HRG2.out, HNX.out⟩
      case measure => exact HME.out
end
end Go.Proofs.Ytcociipcimdjjaa
