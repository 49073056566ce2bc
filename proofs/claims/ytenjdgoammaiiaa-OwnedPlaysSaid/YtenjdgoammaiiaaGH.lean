/-
  Proved here: slices.IndexFunc and slices.DeleteFunc over a row of slices of bytes, where those that are nil are struck. Conditions: as each says.
-/
import Derived.Test.YtenjdgoammaiiaaGG
import Derived.Laws.IdiomCopy
import Derived.LoopTactic
import Derived.Lib.SliceRun
import Derived.Lib.ConvBytes
namespace Go.Proofs.Ytenjdgoammaiiaa
open Go.RowKit
set_option maxRecDepth 100000

abbrev SV := Option Addr × Nat × Nat
def sv (t : SV) : Value := .slice t.1 t.2.1 t.2.2
def svD : SV := (none, 0, 0)
def live (t : SV) : Bool := t.1.isSome
/-- A row of slices. -/
structure RowS (w : World) (B n : Nat) (ts : List SV) : Prop where
  len : ts.length = n
  at_ : ∀ j, j < n → w.cell? ⟨B, j, none⟩ = some (sv (ts.getD j svD))
  free : ∀ j, w.frozen? ⟨B, j, none⟩ = false
theorem sv_getD_set {ts : List SV} {i k : Nat} {x : SV} (hi : i < ts.length) : (ts.set i x).getD k svD = if i = k then x else ts.getD k svD := by
  rw [List.getD_eq_getElem?_getD, List.getD_eq_getElem?_getD, List.getElem?_set]
  by_cases e : i = k
  · subst e; simp [hi]
  · simp [e]
theorem RowS.set {w : World} {B n i : Nat} {ts : List SV} {t : SV} (h : RowS w B n ts) (hi : i < n) : RowS (w.setCell ⟨B, i, none⟩ (sv t)) B n (ts.set i t) := by
  refine ⟨by rw [List.length_set]; exact h.len, fun j hj => ?_, fun j => by rw [World.frozen?_setCell]; exact h.free j⟩
  rw [cell_set (h.at_ j hj), sv_getD_set (by rw [h.len]; exact hi)]
  by_cases e : i = j <;> simp [e]
theorem keys_nil (a : Option Addr) (n c : Nat) (w : World) : Calls Try.prog 74 #[.slice a n c] w (Ret (.bool a.isNone) w) := by
  have q := fun (w : World) (a : Option Addr) (n c n' c' : Nat) => Lib.run_eql_slice_nil (P := Try.prog) w 32 5 a n c n' c' Try.underlying32
  unfold Ret
  go_enter Try.func74, Try.ntmps74
  go_wp2
  go_ret
  exact ⟨rfl, rfl⟩
/-- The first one that is nil. -/
def idxN (ts : List SV) : Int := match ts.findIdx? (fun t => !live t) with
  | some i => (i : Int)
  | none => -1
theorem index_nil (B n c : Nat) (ts : List SV) (w : World) (h : RowS w B n ts) (hn : n ≤ 1000) :
    Calls Try.prog 85 #[.slice (some ⟨B, 0, none⟩) n c, .func (.func 74) #[] #[]] w (Ret (.int .i64 (idxN ts)) w) := by
  have HR := Lib.hid h
  clear h
  unfold Ret
  go_enter Try.func85, Try.ntmps85
  go_wp2
  go_loopw [8] (fun v wr => ∃ k : Nat, k ≤ n ∧ v = .int .i64 k ∧ wr = w ∧ ∀ j, j < k → live (ts.getD j svD) = true) (fun v _ => n - (intOf v).toNat)
  case atStart => exact ⟨0, by omega, rfl, rfl, fun j hj => by omega⟩
  case round =>
    obtain ⟨k, hk, rfl, rfl, hl⟩ := hrel
    have HL := Lib.hid hl
    clear hl
    by_cases hlt : k < n
    · have hc := HR.out.at_ k hlt
      obtain ⟨t, ht⟩ : ∃ t, ts.getD k svD = t := ⟨_, rfl⟩
      rw [ht] at hc
      obtain ⟨a, ln, cp⟩ := t
      unfold sv at hc
      simp only at hc
      have HT := Lib.hid ht
      clear ht
      cases a with
      | none =>
        go_wp2_with (go_at_call 74; refine (keys_nil _ _ _ _).mono ?_; rintro e w' ⟨rfl, rfl⟩)
        go_ret
        refine ⟨?_, rfl⟩
        have e : ts.findIdx? (fun t => !live t) = some k := by
          rw [List.findIdx?_eq_some_iff_getElem]
          have hkl : k < ts.length := by rw [HR.out.len]; exact hlt
          refine ⟨hkl, ?_, fun j hj => ?_⟩
          · have h1 := HT.out
            rw [List.getD_eq_getElem?_getD, List.getElem?_eq_getElem hkl] at h1
            simp only [Option.getD_some] at h1
            rw [h1]; rfl
          · have h1 := HL.out j hj
            rw [List.getD_eq_getElem?_getD, List.getElem?_eq_getElem (by omega)] at h1
            simp only [Option.getD_some] at h1
            simp [h1]
        unfold idxN
        rw [e]
        rfl
      | some a =>
        go_wp2_with (go_at_call 74; refine (keys_nil _ _ _ _).mono ?_; rintro e w' ⟨rfl, rfl⟩)
        go_roundw
        case rel =>
          refine ⟨k + 1, by omega, by go_num, by first | rfl | trivial, fun j hj => ?_⟩
          by_cases e : j = k
          · rw [e, HT.out]; rfl
          · exact HL.out j (by omega)
        case measure => simp [intOf]; omega
    · obtain rfl : k = n := by omega
      go_wp2
      go_ret
      refine ⟨?_, rfl⟩
      have e : ts.findIdx? (fun t => !live t) = none := by
        rw [List.findIdx?_eq_none_iff]
        intro x hx
        obtain ⟨j, hj, rfl⟩ := List.mem_iff_getElem.1 hx
        have h1 := HL.out j (by rw [← HR.out.len]; exact hj)
        rw [List.getD_eq_getElem?_getD, List.getElem?_eq_getElem hj] at h1
        simp only [Option.getD_some] at h1
        simp [h1]
      unfold idxN
      rw [e]
      rfl
theorem take_live {ts : List SV} {j : Nat} (hj : j < ts.length) : (ts.take (j + 1)).filter live = (ts.take j).filter live ++ if live (ts.getD j svD) then [ts.getD j svD] else [] := by
  rw [List.take_succ_eq_append_getElem hj, List.filter_append, List.getD_eq_getElem?_getD, List.getElem?_eq_getElem hj]
  congr 1
  simp only [Option.getD_some]
  cases h : live ts[j] <;> simp [h]
theorem live_le (ts : List SV) (j : Nat) : ((ts.take j).filter live).length ≤ j := Nat.le_trans (List.length_filter_le _ _) (by simp; omega)
/-- How far the striking has come: i are kept of the first j. -/
structure Kept (ts cur : List SV) (n i j : Nat) : Prop where
  cnt : i = ((ts.take j).filter live).length
  lt : i < j
  le : j ≤ n
  len : cur.length = n
  lo : ∀ k, k < i → cur.getD k svD = ((ts.take j).filter live).getD k svD
  hi : ∀ k, j ≤ k → cur.getD k svD = ts.getD k svD
theorem Kept.skip {ts cur : List SV} {n i j : Nat} (h : Kept ts cur n i j) (hn : ts.length = n) (hj : j < n) (hd : live (ts.getD j svD) = false) : Kept ts cur n i (j + 1) := by
  have e := take_live (ts := ts) (j := j) (by omega)
  rw [hd] at e
  simp only [Bool.false_eq_true, if_false, List.append_nil] at e
  exact ⟨by rw [e]; exact h.cnt, by have := h.lt; omega, hj, h.len, fun k hk => by rw [e]; exact h.lo k hk, fun k hk => h.hi k (by omega)⟩
theorem Kept.keep {ts cur : List SV} {n i j : Nat} (h : Kept ts cur n i j) (hn : ts.length = n) (hj : j < n) (hd : live (ts.getD j svD) = true) : Kept ts (cur.set i (ts.getD j svD)) n (i + 1) (j + 1) := by
  have e := take_live (ts := ts) (j := j) (by omega)
  rw [hd] at e
  simp only [if_true] at e
  have hlt := h.lt
  have hi := h.cnt
  have hil : i < cur.length := by rw [h.len]; omega
  refine ⟨by rw [e, List.length_append]; simp; exact hi, by omega, hj, by rw [List.length_set]; exact h.len, fun k hk => ?_, fun k hk => ?_⟩
  · rw [e, sv_getD_set hil]
    by_cases e2 : i = k
    · rw [if_pos e2, ← e2]
      generalize ts.getD j svD = x
      rw [List.getD_eq_getElem?_getD, List.getElem?_append_right (by omega), ← hi]
      simp
    · rw [if_neg e2, h.lo k (by omega), List.getD_eq_getElem?_getD, List.getD_eq_getElem?_getD, List.getElem?_append_left (by omega)]
  · rw [sv_getD_set hil, if_neg (by omega)]
    exact h.hi k (by omega)
/-- What DeleteFunc gives. -/
def Struck (B n : Nat) (ts : List SV) (W : World) (e : Ending) (w : World) : Prop :=
  e = .returned (.slice (some ⟨B, 0, none⟩) (ts.filter live).length n) ∧ Turned (fun b => b = B) W w ∧ ∀ j, j < (ts.filter live).length → w.cell? ⟨B, j, none⟩ = some (sv ((ts.filter live).getD j svD))
theorem zeroSl (w : World) : (zeroValue 32).run Try.prog w = .ok (.slice none 0 0) w := by kernel_rfl
set_option maxHeartbeats 1000000 in
theorem delete_nils (B n : Nat) (ts : List SV) (w : World) (h : RowS w B n ts) (hn : n ≤ 1000) :
    Calls Try.prog 73 #[.slice (some ⟨B, 0, none⟩) n n, .func (.func 74) #[] #[]] w (Struck B n ts w) := by
  have HR := Lib.hid h
  have hlen := h.len
  clear h
  cases hf : ts.findIdx? (fun t => !live t) with
  | none =>
    have hi : idxN ts = -1 := by unfold idxN; rw [hf]
    have e : ts.filter live = ts := by
      rw [List.filter_eq_self]
      intro t ht
      have := List.findIdx?_eq_none_iff.1 hf t ht
      simpa using this
    have HI := Lib.hid hi
    have HE := Lib.hid e
    clear hi e hf
    go_enter Try.func73, Try.ntmps73
    go_wp2_with (go_at_call 85; refine (index_nil _ _ _ ts _ HR.out hn).mono ?_; rintro e w' ⟨he, rfl⟩; rw [HI.out] at he; subst he)
    go_ret
    refine ⟨by rw [HE.out, hlen]; rfl, Turned.refl _ _, fun j hj => ?_⟩
    rw [HE.out] at hj ⊢
    exact HR.out.at_ j (by omega)
  | some i0 =>
    have hi : idxN ts = (i0 : Int) := by unfold idxN; rw [hf]
    obtain ⟨hi0, hd0, hb0⟩ := List.findIdx?_eq_some_iff_getElem.1 hf
    have hk0 : Kept ts ts n i0 (i0 + 1) := by
      have e0 : (ts.take i0).filter live = ts.take i0 := by
        rw [List.filter_eq_self]
        intro t ht
        obtain ⟨k, hk, rfl⟩ := List.mem_iff_getElem.1 ht
        rw [List.length_take] at hk
        rw [List.getElem_take]
        have := hb0 k (by omega)
        simpa using this
      have e1 : (ts.take (i0 + 1)).filter live = ts.take i0 := by
        rw [take_live hi0, e0]
        rw [List.getD_eq_getElem?_getD, List.getElem?_eq_getElem hi0]
        have : live ts[i0] = false := by simpa using hd0
        simp [this]
      refine ⟨by rw [e1, List.length_take]; omega, by omega, by omega, hlen, fun k hk => ?_, fun k hk => rfl⟩
      rw [e1, List.getD_eq_getElem?_getD, List.getD_eq_getElem?_getD, List.getElem?_take, if_pos hk]
    have hneg : ((i0 : Int) == -1) = false := beq_eq_false_iff_ne.2 (by omega)
    have HI := Lib.hid hi
    have HK0 := Lib.hid hk0
    have hi0n : i0 < n := by omega
    clear hi hf hd0 hb0 hk0 hi0
    go_enter Try.func73, Try.ntmps73
    go_wp2_with (go_at_call 85; refine (index_nil _ _ _ ts _ HR.out hn).mono ?_; rintro e w' ⟨he, rfl⟩; rw [HI.out] at he; subst he)
    go_loopw [5, 6, 7] (fun a b _ wr => ∃ (i j : Nat) (cur : List SV), a = .int .i64 i ∧ b = .int .i64 j ∧ Kept ts cur n i j ∧ RowS wr B n cur ∧ Turned (fun b => b = B) w wr) (fun _ b _ _ => n - (intOf b).toNat)
    case atStart => exact ⟨i0, i0 + 1, ts, rfl, by go_num, HK0.out, HR.out, Turned.refl _ _⟩
    case round =>
      obtain ⟨i, j, cur, rfl, rfl, hk, hr, ht⟩ := hrel
      have hle := hk.le
      have hlt0 := hk.lt
      have HK := Lib.hid hk
      have HRR := Lib.hid hr
      have HT := Lib.hid ht
      clear hk hr ht HK0
      by_cases hlt : j < n
      · have hc := HRR.out.at_ j hlt
        have hci := HRR.out.at_ i (by omega)
        have hfi := HRR.out.free i
        rw [HK.out.hi j (Nat.le_refl _)] at hc
        obtain ⟨t, ht⟩ : ∃ t, ts.getD j svD = t := ⟨_, rfl⟩
        obtain ⟨u, hu⟩ : ∃ u, sv (cur.getD i svD) = u := ⟨_, rfl⟩
        rw [ht] at hc
        rw [hu] at hci
        have HT1 := Lib.hid ht
        clear ht hu
        obtain ⟨a, ln, cp⟩ := t
        have hc2 : wr.cell? ⟨B, j, none⟩ = some (.slice a ln cp) := hc
        clear hc
        cases a with
        | none =>
          go_wp2_with (go_at_call 74; refine (keys_nil _ _ _ _).mono ?_; rintro e w' ⟨rfl, rfl⟩)
          go_roundw
          case rel => exact ⟨i, j + 1, cur, rfl, by go_num, HK.out.skip hlen hlt (by rw [HT1.out]; rfl), HRR.out, HT.out⟩
          case measure => simp [intOf]; omega
        | some a =>
          have hset := HRR.out.set (i := i) (t := (some a, ln, cp)) (by omega)
          have HSET := Lib.hid hset
          clear hset
          go_wp2_with (go_at_call 74; refine (keys_nil _ _ _ _).mono ?_; rintro e w' ⟨rfl, rfl⟩)
          go_roundw
          case rel =>
            refine ⟨i + 1, j + 1, cur.set i (some a, ln, cp), by go_num, by go_num, ?_, HSET.out, HT.out.set (a := ⟨B, i, none⟩) rfl _⟩
            have := HK.out.keep hlen hlt (by rw [HT1.out]; rfl)
            rw [HT1.out] at this
            exact this
          case measure => simp [intOf]; omega
      · obtain rfl : j = n := by omega
        have hcl : ∀ ty, (Builtin.clear_ #[86] ty #[.slice (some ⟨B, i, none⟩) (j - i) (j - i)]).run Try.prog wr = .ok (.tuple #[]) (wr.setCells B i (List.replicate (j - i) (.slice none 0 0))) :=
          fun ty => Lib.run_clear_slice wr 86 32 ty (.slice none 0 0) Try.underlying86 zeroSl rfl rfl B i (j - i) (j - i) (by omega) (fun k hk => by rw [HRR.out.at_ (i + k) (by omega)]; rfl) (fun k hk => HRR.out.free _)
        go_wp2_with (simp only [hcl])
        go_ret
        have e : ts.take j = ts := List.take_of_length_le (by omega)
        have hi := HK.out.cnt
        rw [e] at hi
        refine ⟨by rw [← hi]; rfl, turned_setCells (S := fun b => b = B) B rfl _ _ HT.out, fun k hk => ?_⟩
        rw [World.cell?_setCells_out B _ _ _ _ (fun _ _ => .inl (show k < i by omega)), HRR.out.at_ k (by omega), HK.out.lo k (by omega), e]
end Go.Proofs.Ytenjdgoammaiiaa

/-
  Proved here: what Keys of the program's map gives. Conditions: as each lemma says.
-/
namespace Go.Proofs.Ytenjdgoammaiiaa
open Go.RowKit
set_option maxRecDepth 100000

theorem made_nil (m : Nat) : madeCells (Value.cells (.slice none 0 0)) m = Array.replicate m (.slice none 0 0) := by
  apply Array.ext
  · simp [size_madeCells]
  · intro i h1 h2
    simp [madeCells, Value.cells, Nat.mod_one]
theorem make_sl (w : World) (m : Nat) (h : m ≤ 1000) : (Instr.makeSlice 86 (.int .i64 m) (.int .i64 m)).run Try.prog w = .ok (.slice (some ⟨w.heap.size, 0, none⟩) m m) (w.alloc (.cells (Array.replicate m (.slice none 0 0)) 32)) := by
  obtain ⟨i0, hi0, hz0, hz1, hz2⟩ := info_parts sl_info
  have hr := run_make (P := Try.prog) w 86 32 i0 _ Try.underlying86 hi0 hz0 .i64 .i64 m m (by omega) (by omega) (by rw [hz2]; omega) (by omega)
  rw [hz1, Int.toNat_natCast, Nat.mul_one, made_nil] at hr
  exact hr
/-- A cell that holds a key's bytes. -/
def KeyCell (w : World) (B j : Nat) (y : ByteArray) : Prop := ∃ g off c kz, w.cell? ⟨B, j, none⟩ = some (.slice (some ⟨g, off, none⟩) kz.length c) ∧ g < w.heap.size ∧ g ≠ B ∧ RowAt w g off kz.length kz ∧ kz = numsOf y
/-- How far the map has been gone through. -/
structure KeyR (W wr : World) (B n : Nat) (ks : List ByteArray) (left : Lit → Bool) : Prop where
  no : ∀ j, j < n → (ks.getD j .empty = ⟨#[]⟩ ∨ left (keyL (ks.getD j .empty)) = true) → wr.cell? ⟨B, j, none⟩ = some (.slice none 0 0)
  yes : ∀ j, j < n → ks.getD j .empty ≠ ⟨#[]⟩ → left (keyL (ks.getD j .empty)) = false → KeyCell wr B j (ks.getD j .empty)
  free : ∀ j, wr.frozen? ⟨B, j, none⟩ = false
  below : Below W.heap.size W wr
  at_ : W.heap.size ≤ B
  lt : B < wr.heap.size
/-- The numbers of a string's bytes. -/
theorem numsOf_length (y : ByteArray) : (numsOf y).length = y.size := by rw [numsOf, List.length_map, Array.length_toList]; rfl
theorem numsOf_get (y : ByteArray) (j : Nat) (hj : j < y.size) : (numsOf y).getD j 0 = ((y.data.toList.getD j 0).toNat : Int) := by
  have h : j < y.data.toList.length := by rw [Array.length_toList]; exact hj
  simp [numsOf, List.getD_eq_getElem?_getD, List.getElem?_map, List.getElem?_eq_getElem h]
theorem strOf_numsOf (y : ByteArray) : strOfNums (numsOf y) = y := by
  cases y with
  | mk a =>
    unfold numsOf strOfNums
    simp [List.map_map, Function.comp_def]
theorem below_bytes (w : World) (e : TypeId) (y : ByteArray) : Below w.heap.size w (Lib.bytesWorld w e y) :=
  ⟨rfl, rfl, rfl, by rw [Lib.bytesWorld_size]; omega, fun k hk => Lib.bytesWorld_at_old w e y k hk⟩
theorem conv_str (w : World) (y : ByteArray) : ∃ c, (convert 9 32 (.string y)).run Try.prog w = .ok (.slice (some ⟨w.heap.size, 0, none⟩) y.size c) (Lib.bytesWorld w 5 y) ∧ RowAt (Lib.bytesWorld w 5 y) w.heap.size 0 y.size (numsOf y) := by
  refine ⟨_, Lib.run_convert_string_bytes w 9 32 5 y Try.underlying9 Try.underlying32 Try.underlying5, fun j hj => ?_⟩
  rw [Nat.zero_add, Lib.bytesWorld_cell w 5 y j hj, numsOf_get y j hj]
theorem KeyCell.kept {w w' : World} {B j : Nat} {y : ByteArray} (h : KeyCell w B j y) (hc : w'.cell? ⟨B, j, none⟩ = w.cell? ⟨B, j, none⟩) (hb : ∀ g, g < w.heap.size → g ≠ B → w'.heap[g]? = w.heap[g]?) (hz : w.heap.size ≤ w'.heap.size) : KeyCell w' B j y := by
  obtain ⟨g, off, c, kz, h1, h2, h3, h4, h5⟩ := h
  exact ⟨g, off, c, kz, hc.trans h1, Nat.lt_of_lt_of_le h2 hz, h3, fun i hi => (World.cell?_of_block (w := w) (hb g h2 h3)).trans (h4 i hi), h5⟩
/-- One more key has come, and stands in its slot. -/
theorem KeyR.next {W wr w1 w2 : World} {B n r i : Nat} {ks : List ByteArray} {left : Lit → Bool} {y : ByteArray} {c : Nat} (h : KeyR W wr B n ks left) (hu : Uniq ks) (hkl : ks.length = n) (hi : i < n) (hy : ks.getD i .empty = y) (hne : y ≠ ⟨#[]⟩) (hr : W.heap.size ≤ r) (hrB : r ≠ B) (hrt : ∀ g cs e f, wr.heap[g]? = some (.cells cs e f) → g ≠ r)
    (hg : wr.grownBy w1 (some r)) (hz1 : w1.heap.size = wr.heap.size) (hw2 : w2 = Lib.bytesWorld w1 5 y) (hrow : RowAt w2 w1.heap.size 0 y.size (numsOf y)) :
    KeyR W (w2.setCell ⟨B, i, none⟩ (.slice (some ⟨w1.heap.size, 0, none⟩) y.size c)) B n ks (fun z => left z && !z.sameKey (keyL y)) := by
  have hb2 : Below w1.heap.size w1 w2 := by rw [hw2]; exact below_bytes _ _ _
  have hz2 := hb2.size
  have eB : w2.heap[B]? = wr.heap[B]? := (hb2.block B (by rw [hz1]; exact h.lt)).trans (hg.block B h.lt (fun e => hrB (by injection e with e; exact e.symm)))
  have hcell : ∀ j, w2.cell? ⟨B, j, none⟩ = wr.cell? ⟨B, j, none⟩ := fun j => World.cell?_of_block (w := wr) eB
  have hold : ∀ j, j ≠ i → (w2.setCell ⟨B, i, none⟩ (.slice (some ⟨w1.heap.size, 0, none⟩) y.size c)).cell? ⟨B, j, none⟩ = wr.cell? ⟨B, j, none⟩ := fun j hj => by
    rw [World.cell?_setCell_other _ _ _ _ (by intro e; injection e with _ e _; exact hj e.symm)]
    exact hcell j
  have hkeep : ∀ j, j ≠ i → KeyCell wr B j (ks.getD j .empty) → KeyCell (w2.setCell ⟨B, i, none⟩ (.slice (some ⟨w1.heap.size, 0, none⟩) y.size c)) B j (ks.getD j .empty) := by
    rintro j hj ⟨g, off, c', kz, h1, h2, h3, h4, h5⟩
    refine ⟨g, off, c', kz, (hold j hj).trans h1, by simp [World.setCell]; omega, h3, fun t ht => ?_, h5⟩
    have hgr : g ≠ r := by
      have h6 := h4 t ht
      unfold World.cell? at h6
      cases hq : wr.heap[g]? with
      | none => simp [hq] at h6
      | some o =>
        cases o with
        | cells cs e f => exact hrt g cs e f hq
        | _ => simp [hq] at h6
    rw [World.cell?_of_block (w := wr) (a := ⟨g, off + t, none⟩)]
    · exact h4 t ht
    · show (w2.setCell ⟨B, i, none⟩ _).heap[g]? = _
      rw [Below.heap_setCell _ _ _ _ h3]
      exact (hb2.block g (by omega)).trans (hg.block g h2 (fun e => hgr (by injection e)))
  have hleft : ∀ j, j < n → ks.getD j .empty ≠ ⟨#[]⟩ → j ≠ i → (left (keyL (ks.getD j .empty)) && !(keyL (ks.getD j .empty)).sameKey (keyL y)) = left (keyL (ks.getD j .empty)) := by
    intro j hj hn hji
    have hne2 : keyL (ks.getD j .empty) ≠ keyL y := fun e => hji (hu j i (by omega) (by omega) (by rw [keyL_inj e, hy]) hn)
    rw [Maps.sameKey_ne hne2]
    simp
  refine ⟨fun j hj ho => ?_, fun j hj hn hl => ?_, fun j => ?_, ?_, h.at_, by simp [World.setCell]; have := h.lt; omega⟩
  · by_cases e : j = i
    · subst e
      rw [hy] at ho
      rcases ho with ho | ho
      · exact absurd ho hne
      · rw [WideAt.sameKey_self (keyLit y)] at ho
        simp at ho
    · rw [hold j e]
      refine h.no j hj ?_
      rcases ho with ho | ho
      · exact .inl ho
      · by_cases h0 : ks.getD j .empty = ⟨#[]⟩
        · exact .inl h0
        · rw [hleft j hj h0 e] at ho
          exact .inr ho
  · by_cases e : j = i
    · subst e
      rw [hy]
      have h0 := h.lt
      refine ⟨w1.heap.size, 0, c, numsOf y, ?_, by simp [World.setCell]; have : w1.heap.size < w2.heap.size := (by rw [hw2, Lib.bytesWorld_size]; omega); omega, by omega, fun t ht => ?_, rfl⟩
      · rw [numsOf_length]
        cases hc : wr.cell? ⟨B, j, none⟩ with
        | some v => exact World.cell?_setCell_same _ _ _ ((hcell j).trans hc)
        | none =>
          by_cases hl0 : left (keyL (ks.getD j .empty)) = true
          · rw [h.no j hj (.inr hl0)] at hc; cases hc
          · obtain ⟨_, _, _, _, h9, -⟩ := h.yes j hj hn (by simpa using hl0)
            rw [h9] at hc; cases hc
      · rw [World.cell?_setCell_other _ _ _ _ (by intro e; injection e with e _ _; omega)]
        exact hrow t (by rw [numsOf_length] at ht; exact ht)
    · rw [hleft j hj hn e] at hl
      exact hkeep j e (h.yes j hj hn hl)
  · rw [World.frozen?_setCell]
    exact (World.frozen?_of_block (w := wr) (a := ⟨B, j, none⟩) eB).trans (h.free j)
  · have hbw : Below W.heap.size W w1 := h.below.grown hg h.below.size (fun k hk => by injection hk with hk; omega)
    exact (hbw.trans (hb2.mono (by have := hbw.size; omega))).setCell h.at_ _
theorem filter_pair : ∀ (ks : List ByteArray) (ts : List SV), ks.length = ts.length → (∀ k, k < ks.length → (live (ts.getD k svD) = true ↔ ks.getD k .empty ≠ ⟨#[]⟩)) → (ts.filter live).length = (listK ks).length ∧
    ∀ j, j < (listK ks).length → ∃ k, k < ks.length ∧ (ts.filter live).getD j svD = ts.getD k svD ∧ (listK ks).getD j .empty = ks.getD k .empty ∧ ks.getD k .empty ≠ ⟨#[]⟩
  | [], [], _, _ => ⟨rfl, fun j hj => by simp [listK] at hj⟩
  | [], _ :: _, h, _ => by simp at h
  | _ :: _, [], h, _ => by simp at h
  | a :: r, t :: q, h, hl => by
    obtain ⟨h1, h2⟩ := filter_pair r q (by simpa using h) (fun k hk => by have := hl (k + 1) (by simpa using hk); simpa only [List.getD_cons_succ] using this)
    have h0 := hl 0 (by simp)
    simp only [List.getD_cons_zero] at h0
    by_cases ha : a = ⟨#[]⟩
    · have hlv : live t = false := by
        cases hq : live t
        · rfl
        · exact absurd ha (h0.1 hq)
      have e1 : (t :: q).filter live = q.filter live := by simp [hlv]
      have e2 : listK (a :: r) = listK r := by simp [listK, ha]
      rw [e1, e2]
      refine ⟨h1, fun j hj => ?_⟩
      obtain ⟨k, hk, h3, h4, h5⟩ := h2 j hj
      exact ⟨k + 1, by simpa using hk, by rw [List.getD_cons_succ]; exact h3, by rw [List.getD_cons_succ]; exact h4, by rw [List.getD_cons_succ]; exact h5⟩
    · have hlv : live t = true := h0.2 ha
      have e1 : (t :: q).filter live = t :: q.filter live := by simp [hlv]
      have e2 : listK (a :: r) = a :: listK r := by simp [listK, ha]
      rw [e1, e2]
      refine ⟨by simp [h1], fun j hj => ?_⟩
      cases j with
      | zero => exact ⟨0, by simp, rfl, rfl, ha⟩
      | succ j =>
        obtain ⟨k, hk, h3, h4, h5⟩ := h2 j (by simpa using hj)
        exact ⟨k + 1, by simpa using hk, by rw [List.getD_cons_succ, List.getD_cons_succ]; exact h3, by rw [List.getD_cons_succ, List.getD_cons_succ]; exact h4, by rw [List.getD_cons_succ]; exact h5⟩
/-- A slice that a key's cell holds. -/
def Tells1 (w : World) (B : Nat) (y : ByteArray) (t : SV) : Prop := (y = ⟨#[]⟩ ∧ t = svD) ∨ (y ≠ ⟨#[]⟩ ∧ ∃ g off c kz, t = (some ⟨g, off, none⟩, kz.length, c) ∧ g < w.heap.size ∧ g ≠ B ∧ RowAt w g off kz.length kz ∧ kz = numsOf y)
/-- All have come. -/
theorem KeyR.row {W wr : World} {B n : Nat} {ks : List ByteArray} {left : Lit → Bool} (h : KeyR W wr B n ks left) (hl : ∀ kl, left kl = false) : ∃ ts : List SV, RowS wr B n ts ∧ ∀ j, j < n → Tells1 wr B (ks.getD j .empty) (ts.getD j svD) := by
  have hx : ∀ j, j < n → ∃ t : SV, wr.cell? ⟨B, j, none⟩ = some (sv t) ∧ Tells1 wr B (ks.getD j .empty) t := by
    intro j hj
    by_cases h0 : ks.getD j .empty = ⟨#[]⟩
    · exact ⟨svD, h.no j hj (.inl h0), .inl ⟨h0, rfl⟩⟩
    · obtain ⟨g, off, c, kz, h1, h2, h3, h4, h5⟩ := h.yes j hj h0 (hl _)
      exact ⟨(some ⟨g, off, none⟩, kz.length, c), h1, .inr ⟨h0, g, off, c, kz, rfl, h2, h3, h4, h5⟩⟩
  obtain ⟨f, hf⟩ := Go.Deep.choose_lt hx
  have hg : ∀ j, j < n → ((List.range n).map f).getD j svD = f j := fun j hj => by
    rw [List.getD_eq_getElem?_getD, List.getElem?_map, List.getElem?_range hj]
    rfl
  exact ⟨(List.range n).map f, ⟨by simp, fun j hj => by rw [hg j hj]; exact (hf j hj).1, h.free⟩, fun j hj => by rw [hg j hj]; exact (hf j hj).2⟩
/-- What is told in the end. -/
theorem keys_told {W wr w' : World} {B n : Nat} {ks : List ByteArray} {ts : List SV} {e : Ending} (hb : Below W.heap.size W wr) (hB : W.heap.size ≤ B) (hkl : ks.length = n) (hr : RowS wr B n ts) (ht : ∀ j, j < n → Tells1 wr B (ks.getD j .empty) (ts.getD j svD)) (hB2 : B < wr.heap.size) (hs : Struck B n ts wr e w') :
    ∃ a c, e = .returned (.slice a (listK ks).length c) ∧ KeysAt w' a (listK ks) ∧ Below W.heap.size W w' := by
  obtain ⟨he, htu, hc⟩ := hs
  obtain ⟨h1, h2⟩ := filter_pair ks ts (by rw [hkl, hr.len]) (fun k hk => by
    rcases ht k (by omega) with ⟨h3, h4⟩ | ⟨h3, g, off, c, kz, h4, -⟩
    · rw [h4, h3]; simp [live, svD]
    · rw [h4]; exact ⟨fun _ => h3, fun _ => rfl⟩)
  refine ⟨some ⟨B, 0, none⟩, n, by rw [← h1]; exact he, .inr ⟨B, rfl, Nat.lt_of_lt_of_le hB2 htu.size, fun j hj => ?_⟩, htu.belowN hb (fun b hb' => by rw [hb']; exact hB)⟩
  obtain ⟨k, hk, h3, h4, h5⟩ := h2 j hj
  rcases ht k (by omega) with ⟨h6, -⟩ | ⟨-, g, off, c, kz, h7, h8, h9, h10, h11⟩
  · exact absurd h6 h5
  · refine ⟨g, off, c, kz, ?_, Nat.lt_of_lt_of_le h8 htu.size, fun i hi => (World.cell?_of_block (w := wr) (a := ⟨g, off + i, none⟩) (htu.block g h8 h9)).trans (h10 i hi), by rw [h4]; exact h11⟩
    rw [hc j (by rw [h1]; exact hj), h3, h7]
    rfl
section
variable {h A G C M : Nat} {v : Value} {len : Nat} {l : List Int} {Dm : DataW Unit} {key s n L : Nat} {ks : List ByteArray} {zs : List Int}
set_option maxRecDepth 100000 in
theorem hm_keys {w : World} (H : Hm w h A G C M v len l Dm key s n L ks zs) (hd : Dim s n L) : Calls Try.prog 48 #[.pointer (some ⟨h, 0, none⟩)] w (fun e w' => ∃ a c, e = .returned (.slice a (listK ks).length c) ∧ KeysAt w' a (listK ks) ∧ Below w.heap.size w w') := by
  have c1 := H.h1
  have c2 := H.h2
  have hn1 := hd.n1
  have HL := Lib.hid H.ar.c1
  have HH := Lib.hid H
  have HD := Lib.hid hd
  have hmk := make_sl w n (by omega)
  have hhlt : h < w.heap.size := cell_block_lt c2
  have e1 : (w.alloc (.cells (Array.replicate n (.slice none 0 0)) 32)).heap.size = w.heap.size + 1 := by simp
  clear H hd
  go_enter Try.func48, Try.ntmps48
  go_wp2_with (first
    | (go_at_call 66; refine (arr_len _ _ _ HL.out).mono ?_; rintro e w' ⟨rfl, rfl⟩)
    | (at_range; refine wpList_range_own _ rfl _ 122 rfl 9 3 keyed9 Try.underlying122 _ M 16 _ rfl (HH.out.ow.alloc _) ?_; intro w0 hrg0 hg0 hs0))
  go_frame
  rw [e1] at hrg0 hs0 ⊢
  obtain ⟨B, hB⟩ : ∃ B, w.heap.size = B := ⟨_, rfl⟩
  have hin : ∀ i : Nat, i < n → (i : Int) < (n : Int) := fun i hi => by omega
  have hkl := HH.out.kl
  have hR0 : KeyR w w0 B n ks (Maps.has Dm) := by
    have hbl : w0.heap[B]? = some (.cells (Array.replicate n (.slice none 0 0)) 32 (0, 0)) := by
      rw [hg0.block B (by rw [e1]; omega) (by simp), ← hB]
      exact heap_alloc_new w _
    refine ⟨fun j hj _ => by simp [World.cell?, hbl, hj], fun j hj hn hl => ?_, fun j => by simp [World.frozen?, hbl], ?_, by omega, by omega⟩
    · rw [HH.out.ag.yes (slotOf_at HH.out.un (by omega) rfl hn)] at hl
      cases hl
    · exact ((Below.refl _ _).alloc (Nat.le_refl _) _).grown hg0 (by simp) (fun k hk => by cases hk)
  rw [hB] at hrg0 hs0 ⊢
  have HR0 := Lib.hid hR0
  have HRG0 := Lib.hid hrg0
  clear hR0 hrg0 hg0 hs0 hmk e1 c1 c2
  go_loopw [5] (fun _ wr => ∃ (left : Lit → Bool) (cnt : Nat), wr.ranges Try.prog 9 (plainElem Try.prog 3) M (B + 1) 16 Dm left cnt ∧ KeyR w wr B n ks left) (fun _ wr => wr.rangeLeft M (B + 1))
  case atStart => exact ⟨_, _, HRG0.out, HR0.out⟩
  case round =>
    obtain ⟨left, cnt, hrg, hkr⟩ := hrel
    have HRG := Lib.hid hrg
    have HKR := Lib.hid hkr
    clear hrg hkr HR0 HRG0
    go_wp2_with (at_next; refine wpList_next_ranges _ rfl _ rfl 9 keyed9 (plainElem Try.prog 3) Value.string (Value.int .i64) (fun key kl hkey => by obtain ⟨x, h1, -⟩ := WideMaps.string_of_keyOf Try.underlying9 hkey; exact ⟨x, h1⟩) (fun v y hv => by obtain ⟨c, h1, -⟩ := plainElem_int_inv Try.underlying3 hv; exact ⟨c, h1⟩) M (B + 1) 16 Dm left cnt rfl HRG.out ?_ ?_)
    · intro hc0 hl0
      obtain ⟨ts, hrs, hts⟩ := HKR.out.row hl0
      have HRS := Lib.hid hrs
      have HTS := Lib.hid hts
      clear hrs hts hl0
      go_wp2_with (go_at_call 73; refine (delete_nils _ _ ts _ HRS.out (by omega)).mono ?_; intro e w9 hst; have HST := Lib.hid hst; obtain ⟨he, -, -⟩ := hst; subst he)
      go_ret
      exact keys_told HKR.out.below HKR.out.at_ hkl HRS.out HTS.out HKR.out.lt HST.out
    · intro x c kl yd yp w1 cnt1 hkey hlk hv hat hrg1 hlt hg1 hs1 hen
      obtain ⟨x2, hx2, rfl, hxm⟩ := WideMaps.string_of_keyOf Try.underlying9 hkey
      cases hx2
      obtain ⟨c2, hc2, hz, -⟩ := plainElem_int_inv Try.underlying3 hv
      cases hc2
      cases hz
      obtain ⟨i, hsl, rfl⟩ : ∃ i : Nat, slotOf ks x = some i ∧ c = (i : Int) := by
        cases hs : slotOf ks x with
        | none =>
          have h1 := HH.out.ag.no hs
          have h2 := Maps.has_true_of_atKey hat
          rw [show (Lit.string x.data.toList) = keyL x from rfl, h1] at h2
          cases h2
        | some i =>
          have h1 := HH.out.ag.at_ x (.lit (.int .i64 0))
          rw [hs, show keyL x = (Lit.string x.data.toList) from rfl, hat] at h1
          simp only [DataW.lit.injEq, Lit.int.injEq, true_and] at h1
          exact ⟨i, rfl, h1⟩
      obtain ⟨hik, hix, hxn⟩ := slotOf_some hsl
      have hi : i < n := by omega
      obtain ⟨cc, hcv, hrow⟩ := conv_str w1 x
      obtain ⟨w2, hw2⟩ : ∃ w2, Lib.bytesWorld w1 5 x = w2 := ⟨_, rfl⟩
      rw [hw2] at hcv hrow
      have hrt : ∀ g cs e f, wr.heap[g]? = some (.cells cs e f) → g ≠ B + 1 := by
        obtain ⟨_, _, _, _, _, _, _, _, _, hr, _⟩ := HRG.out
        intro g cs e f hg he
        rw [he, hr] at hg
        cases hg
      have hMB : M ≠ B := by have := HH.out.ow.lt; omega
      have hnx := HKR.out.next (c := cc) HH.out.un hkl hi hix hxn (by omega) (by omega) hrt hg1 hs1 hw2.symm hrow
      have hb2 : Below w1.heap.size w1 w2 := by rw [← hw2]; exact below_bytes _ _ _
      have hB1 : B < w1.heap.size := by have := HKR.out.lt; omega
      have eB : w2.heap[B]? = wr.heap[B]? := (hb2.block B hB1).trans (hg1.block B HKR.out.lt (by simp))
      have hci : ∃ u, w2.cell? ⟨B, i, none⟩ = some u := by
        have e : w2.cell? ⟨B, i, none⟩ = wr.cell? ⟨B, i, none⟩ := World.cell?_of_block (w := wr) (a := ⟨B, i, none⟩) eB
        rw [e]
        by_cases hl0 : left (keyL (ks.getD i .empty)) = true
        · exact ⟨_, HKR.out.no i hi (.inr hl0)⟩
        · obtain ⟨_, _, _, _, h9, -⟩ := HKR.out.yes i hi (by rw [hix]; exact hxn) (by simpa using hl0)
          exact ⟨_, h9⟩
      obtain ⟨u, hci⟩ := hci
      have hfi : w2.frozen? ⟨B, i, none⟩ = false := (World.frozen?_of_block (w := wr) (a := ⟨B, i, none⟩) eB).trans (HKR.out.free i)
      have hrg2 : (w2.setCell ⟨B, i, none⟩ (.slice (some ⟨w1.heap.size, 0, none⟩) x.size cc)).ranges Try.prog 9 (plainElem Try.prog 3) M (B + 1) 16 Dm (fun z => left z && !z.sameKey (keyL x)) cnt1 := by
        have h1 := hrg1.kept (w' := w2) (row := none) ⟨hb2.os, hb2.tape, hb2.output, hb2.size, fun k hk _ => hb2.block k hk⟩ (by simp) (by simp)
        exact h1.kept (row := some B) ⟨rfl, rfl, rfl, by simp [World.setCell], fun k _ hk => Below.heap_setCell _ _ _ _ (fun e => hk (by rw [e]))⟩ (fun e => hMB (by injection e)) (fun e => by injection e with e; omega)
      have HNX := Lib.hid hnx
      have HRG2 := Lib.hid hrg2
      have hmeas : (w2.setCell ⟨B, i, none⟩ (.slice (some ⟨w1.heap.size, 0, none⟩) x.size cc)).rangeLeft M (B + 1) < wr.rangeLeft M (B + 1) := by rw [hrg2.left_eq, HRG.out.left_eq]; exact hlt
      have HME := Lib.hid hmeas
      have hi16 := hin i hi
      clear hkey hlk hv hat hrg1 hg1 hs1 hsl hik hix hxn hrow hw2 hrt hMB hnx hb2 eB hrg2 hmeas
      go_wp2
      go_roundw
      case rel => exact ⟨_, _, HRG2.out, HNX.out⟩
      case measure => exact HME.out
end
end Go.Proofs.Ytenjdgoammaiiaa

/-
  Proved here: what New of the program's map gives. Conditions: as each lemma says.
-/
namespace Go.Proofs.Ytenjdgoammaiiaa
open Go.RowKit
set_option maxRecDepth 100000

/-- The free slots under way. -/
def rowK (n k : Nat) : List Int := (List.range n).map fun j => if j < k then (j : Int) else 0
theorem rowK_length (n k : Nat) : (rowK n k).length = n := by simp [rowK]
theorem rowK_zero (n : Nat) : rowK n 0 = List.replicate n 0 := by
  apply List.ext_getElem
  · simp [rowK]
  · intro i h1 h2
    simp [rowK]
theorem rowK_all (n : Nat) : rowK n n = (List.range n).map Int.ofNat := by
  refine List.map_congr_left fun j hj => ?_
  rw [if_pos (List.mem_range.1 hj)]
  rfl
theorem rowK_set {n k : Nat} : (rowK n k).set k (k : Int) = rowK n (k + 1) := by
  apply List.ext_getElem
  · simp [rowK]
  · intro i h1 h2
    rw [List.getElem_set]
    simp only [rowK, List.getElem_map, List.getElem_range]
    by_cases e : k = i
    · subst e; simp
    · rw [if_neg e]
      by_cases h : i < k
      · rw [if_pos h, if_pos (by omega)]
      · rw [if_neg h, if_neg (by omega)]
theorem made_int (m : Nat) : madeCells (Value.cells (.int .i64 0)) m = (ints (List.replicate m 0)).toArray := by
  apply Array.ext
  · simp [size_madeCells, ints]
  · intro i h1 h2
    simp [madeCells, Value.cells, Nat.mod_one, ints]
theorem make_free (w : World) (m : Nat) (h : m ≤ 1000) : (Instr.makeSlice 124 (.int .i64 m) (.int .i64 m)).run Try.prog w = .ok (.slice (some ⟨w.heap.size, 0, none⟩) m m) (w.alloc (.cells (ints (rowK m 0)).toArray 3)) := by
  obtain ⟨i0, hi0, hz0, hz1, hz2⟩ := info_parts int_info
  have hr := run_make (P := Try.prog) w 124 3 i0 _ Try.underlying124 hi0 hz0 .i64 .i64 m m (by omega) (by omega) (by rw [hz2]; omega) (by omega)
  rw [hz1, Int.toNat_natCast, Nat.mul_one, made_int, ← rowK_zero] at hr
  exact hr
def AllFree (n : Nat) (W : World) (e : Ending) (w : World) : Prop :=
  e = .returned (.slice (some ⟨W.heap.size, 0, none⟩) n n) ∧ w.heap[W.heap.size]? = some (.cells (ints ((List.range n).map Int.ofNat)).toArray 3 (0, 0)) ∧ Below W.heap.size W w ∧ w.heap.size = W.heap.size + 1
theorem all_free (n : Nat) (w : World) (hn : n ≤ 1000) : Calls Try.prog 69 #[.int .i64 n] w (AllFree n w) := by
  have hmk := make_free w n hn
  have hB0 : (w.alloc (.cells (ints (rowK n 0)).toArray 3)).heap[w.heap.size]? = some (.cells (ints (rowK n 0)).toArray 3 (0, 0)) := heap_alloc_new w _
  have hb0 : Below w.heap.size w (w.alloc (.cells (ints (rowK n 0)).toArray 3)) := (Below.refl _ _).alloc (Nat.le_refl _) _
  have HB0 := Lib.hid hB0
  have Hb0 := Lib.hid hb0
  unfold AllFree
  clear hB0 hb0
  go_enter Try.func69, Try.ntmps69
  go_wp2
  go_loopw [9] (fun v wr => ∃ k : Nat, k ≤ n ∧ v = .int .i64 k ∧ wr.heap[w.heap.size]? = some (.cells (ints (rowK n k)).toArray 3 (0, 0)) ∧ Below w.heap.size w wr ∧ wr.heap.size = w.heap.size + 1) (fun v _ => n - (intOf v).toNat)
  case atStart => exact ⟨0, by omega, rfl, HB0.out, Hb0.out, by simp⟩
  case round =>
    obtain ⟨k, hk, rfl, hbl, hb, hz⟩ := hrel
    have Hb := Lib.hid hb
    have HZ := Lib.hid hz
    clear hb hz
    by_cases hlt : k < n
    · have hc : wr.cell? ⟨w.heap.size, k, none⟩ = some (.int .i64 0) := by
        simp [World.cell?, hbl, ints, rowK, hlt]
      have hf : wr.frozen? ⟨w.heap.size, k, none⟩ = false := by simp [World.frozen?, hbl]
      have hnew : (wr.setCell ⟨w.heap.size, k, none⟩ (.int .i64 (k : Int))).heap[w.heap.size]? = some (.cells (ints (rowK n (k + 1))).toArray 3 (0, 0)) := by
        rw [← rowK_set]
        simp [World.setCell, Array.getElem?_modify, hbl, ints, List.map_set]
      have HN := Lib.hid hnew
      clear hbl hnew hmk
      go_wp2
      go_roundw
      case rel => exact ⟨k + 1, by omega, by go_num, HN.out, Hb.out.setCell (p := ⟨w.heap.size, k, none⟩) (Nat.le_refl _) _, by simp [World.setCell]; exact HZ.out⟩
      case measure => simp [intOf]; omega
    · obtain rfl : k = n := by omega
      rw [rowK_all] at hbl
      have HBL := Lib.hid hbl
      clear hbl hmk
      go_wp2
      go_ret
      exact ⟨rfl, HBL.out, Hb.out, HZ.out⟩
theorem hm_new_not (key s n : Int) (w : World) (h : ¬ (1 ≤ s ∧ s ≤ 32 ∧ 1 ≤ n ∧ n ≤ 16 ∧ 1 ≤ key ∧ key ≤ 8)) : Calls Try.prog 43 #[.int .i64 key, .int .i64 s, .int .i64 n] w (fun e w' => e = .returned (.tuple #[.pointer none, .int .i64 22]) ∧ Below w.heap.size w w') := by
  by_cases h1 : 1 ≤ s ∧ s ≤ 32 ∧ 1 ≤ n ∧ n ≤ 16
  · obtain ⟨a1, a2, a3, a4⟩ := h1
    obtain ⟨s', rfl⟩ := Int.eq_ofNat_of_zero_le (show 0 ≤ s by omega)
    obtain ⟨n', rfl⟩ := Int.eq_ofNat_of_zero_le (show 0 ≤ n by omega)
    have hd : Dim s' n' (s' * n') := ⟨by omega, by omega, by omega, by omega, rfl⟩
    by_cases h2 : key < 1
    · have hq : decide (key < 1) = true := by simpa using h2
      clear h
      go_enter Try.func43, Try.ntmps43
      go_wp2_with (go_at_call 42; refine (arr_new s' n' (s' * n') _ hd).mono ?_; rintro e w1 ⟨rfl, hb, -⟩; have HB := Lib.hid hb; clear hb)
      go_ret2
      exact ⟨rfl, HB.out⟩
    · have h3 : 8 < key := by omega
      have hq : decide (key < 1) = false := by simpa using h2
      have hq2 : decide (8 < key) = true := by simpa using h3
      clear h
      go_enter Try.func43, Try.ntmps43
      go_wp2_with (go_at_call 42; refine (arr_new s' n' (s' * n') _ hd).mono ?_; rintro e w1 ⟨rfl, hb, -⟩; have HB := Lib.hid hb; clear hb)
      go_ret2
      exact ⟨rfl, HB.out⟩
  · clear h
    go_enter Try.func43, Try.ntmps43
    go_wp2_with (go_at_call 42; refine (arr_not s n _ h1).mono ?_; rintro e w1 ⟨rfl, rfl⟩)
    go_ret2
    exact ⟨rfl, Below.refl _ _⟩
theorem hm_new (key s n L : Nat) (w : World) (hd : Dim s n L) (hk : 1 ≤ key) (hk8 : key ≤ 8) : Calls Try.prog 43 #[.int .i64 (key : Int), .int .i64 (s : Int), .int .i64 (n : Int)] w (NewP (PM key s n L) n L w) := by
  have hmm := @run_makeMap Try.prog
  have hn1 := hd.n1
  have HD := Lib.hid hd
  clear hd
  unfold NewP
  go_enter Try.func43, Try.ntmps43
  go_wp2_with (first
    | (go_at_call 42; refine (arr_new s n L _ HD.out).mono ?_; rintro e w1 ⟨rfl, hb, ha⟩; have HB1 := Lib.hid hb; have HA1 := Lib.hid ha; clear hb ha)
    | (go_at_call 69; refine (all_free n _ (by omega)).mono ?_; rintro e w3 ⟨rfl, hbl, hb3, hz3⟩; have HBL := Lib.hid hbl; have HB3 := Lib.hid hb3; have HZ3 := Lib.hid hz3; clear hbl hb3 hz3))
  go_ret2
  have hz2 : (w1.alloc (.map #[] 0)).heap.size = w1.heap.size + 1 := by simp
  have hb3 := HB3.out
  have hz3 := HZ3.out
  have hbl := HBL.out
  rw [hz2] at hb3 hz3 hbl
  have ha := HA1.out
  have hal := ha.lt
  have haA := ha.ltA
  have hb1 := HB1.out
  have hm2 : (w1.alloc (.map #[] 0)).ownsMap Try.prog 9 (plainElem (H := Unit) Try.prog 3) w1.heap.size 0 (.map []) := World.ownsMap_made w1 _ _ _
  have hm3 := ownsMap_kept hm2 (hb3.block w1.heap.size (by omega))
  obtain ⟨box, hbox⟩ : ∃ box, (#[.int .i64 (key : Int), .pointer (some ⟨w.heap.size + 1, 0, none⟩), .map (some w1.heap.size), .slice (some ⟨w1.heap.size + 1, 0, none⟩) n n] : Array Value) = box := ⟨_, rfl⟩
  have hb4 : Below w3.heap.size w3 (w3.alloc (.cells box 126)) := (Below.refl _ _).alloc (Nat.le_refl _) _
  have hw12 : Below w1.heap.size w1 (w1.alloc (.map #[] 0)) := (Below.refl _ _).alloc (Nat.le_refl _) _
  have hw13 : Below w1.heap.size w1 w3 := hw12.trans (hb3.mono (by omega))
  have hw14 : Below w1.heap.size w1 (w3.alloc (.cells box 126)) := hw13.trans (hb4.mono hw13.size)
  have hnb : (w3.alloc (.cells box 126)).heap[w3.heap.size]? = some (.cells box 126 (0, 0)) := heap_alloc_new w3 _
  have hbl4 := (hb4.block (w1.heap.size + 1) (by omega)).trans hbl
  have hm4 := ownsMap_kept hm3 (hb4.block w1.heap.size (by omega))
  have ha4 := ha.stay hw14
  have hbw4 : Below w.heap.size w (w3.alloc (.cells box 126)) := hb1.trans (hw14.mono (by omega))
  have hs1 := hb1.size
  have hdle := HD.out.le
  refine ⟨w3.heap.size, HmS w3.heap.size (w.heap.size + 1) w.heap.size w1.heap.size (.slice (some ⟨w1.heap.size + 1, 0, none⟩) n n), rfl, ⟨w.heap.size + 1, w.heap.size, L, w1.heap.size, .slice (some ⟨w1.heap.size + 1, 0, none⟩) n n, n, (List.range n).map Int.ofNat, .map [], ?_, fun b => Iff.rfl⟩, by rw [hbox]; exact hbw4, ?_⟩
  · rw [hbox]
    refine ⟨?_, ?_, ?_, ⟨?_, ⟨by simp [ints], .inr ⟨w1.heap.size + 1, n, _, rfl, Nat.zero_le _, hbl4, Nat.le_refl _, by unfold maxLen; omega, by simp [ints], by rw [Nat.mul_one, List.toList_toArray]; exact List.take_of_length_le (by simp [ints])⟩⟩, fun e => by injection e with e; simp only at e; omega⟩, ?_, isHeap_range n, ?_, ha4, Nat.le_refl _, by unfold maxLen; omega, hm4.mono (Nat.zero_le _), agr_new n, uniq_new n, by simp [noKeys], fun y hy hne => ?_, fun e => by injection e with e; simp only at e; omega, fun e => by injection e with e; simp only at e; omega⟩
    · unfold World.cell?; simp only [hnb]; rw [← hbox]; rfl
    · unfold World.cell?; simp only [hnb]; rw [← hbox]; rfl
    · unfold World.cell?; simp only [hnb]; rw [← hbox]; rfl
    · unfold World.cell?; simp only [hnb]; rw [← hbox]; rfl
    · unfold World.frozen?; simp only [hnb]; simp
    · unfold noKeys
      rw [freeK_new]
    · unfold noKeys at hy
      exact absurd (List.eq_of_mem_replicate hy) hne
  · rintro b (h1 | h1 | h1 | h1 | h1)
    · omega
    · omega
    · omega
    · omega
    · injection h1 with h1
      simp only at h1
      omega
end Go.Proofs.Ytenjdgoammaiiaa
