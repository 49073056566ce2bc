/-
  Proved here: what Of, Count and Suits of package helpers give. Conditions: none.
-/
import Derived.Test.YthjdmnbpidoifaaHAll
namespace Go.Proofs.Ythjdmnbpidoifaa
open Go.RowKit Go.MapKept

/-- The map of helpers: block b. -/
def HMap (W : World) (b : Nat) : Prop := W.heap[b]? = some (.map (hEnts b 13) 13)
/-- Its rows. -/
def HRows (W : World) (b : Nat) : Prop := ∀ j r, hrowsL[j]? = some r → W.heap[b + (j + 1)]? = some (.cells (rowCells r).toArray (rowT r) (0, 0))
theorem HRows.of {w W : World} (h : MadeH w W 13 20) : HRows W w.heap.size := fun j r hr => h.row j r (by
  have := (List.getElem?_eq_some_iff.1 hr).1
  exact this) hr
theorem rows_len : hrowsL.length = 20 := rfl
theorem HRows.keep {W W' : World} {b : Nat} (h : HRows W b) (hk : ∀ j, j < 20 → W'.heap[b + (j + 1)]? = W.heap[b + (j + 1)]?) : HRows W' b := fun j r hr => (hk j (List.getElem?_eq_some_iff.1 hr).1).trans (h j r hr)
theorem ents_at (b k : Nat) (h1 : 1 ≤ k) (h2 : k ≤ 13) : Instr.findNow (.int .i64) (.int .i64 (k : Int)) (hEnts b 13).toList 0 = some (some (k - 1, descV b k)) := match k, h1, h2 with
  | 1, _, _ => by kernel_rfl
  | 2, _, _ => by kernel_rfl
  | 3, _, _ => by kernel_rfl
  | 4, _, _ => by kernel_rfl
  | 5, _, _ => by kernel_rfl
  | 6, _, _ => by kernel_rfl
  | 7, _, _ => by kernel_rfl
  | 8, _, _ => by kernel_rfl
  | 9, _, _ => by kernel_rfl
  | 10, _, _ => by kernel_rfl
  | 11, _, _ => by kernel_rfl
  | 12, _, _ => by kernel_rfl
  | 13, _, _ => by kernel_rfl
  | n + 14, _, h => absurd h (by omega)
theorem ents_no (b : Nat) (k : Int) (h : ¬ (1 ≤ k ∧ k ≤ 13)) : Instr.findNow (.int .i64) (.int .i64 k) (hEnts b 13).toList 0 = some none := by
  have n1 : (k == 1) = false := by rw [beq_eq_false_iff_ne]; omega
  have n2 : (k == 2) = false := by rw [beq_eq_false_iff_ne]; omega
  have n3 : (k == 3) = false := by rw [beq_eq_false_iff_ne]; omega
  have n4 : (k == 4) = false := by rw [beq_eq_false_iff_ne]; omega
  have n5 : (k == 5) = false := by rw [beq_eq_false_iff_ne]; omega
  have n6 : (k == 6) = false := by rw [beq_eq_false_iff_ne]; omega
  have n7 : (k == 7) = false := by rw [beq_eq_false_iff_ne]; omega
  have n8 : (k == 8) = false := by rw [beq_eq_false_iff_ne]; omega
  have n9 : (k == 9) = false := by rw [beq_eq_false_iff_ne]; omega
  have n10 : (k == 10) = false := by rw [beq_eq_false_iff_ne]; omega
  have n11 : (k == 11) = false := by rw [beq_eq_false_iff_ne]; omega
  have n12 : (k == 12) = false := by rw [beq_eq_false_iff_ne]; omega
  have n13 : (k == 13) = false := by rw [beq_eq_false_iff_ne]; omega
  simp [hEnts, List.range_succ, Instr.findNow, Instr.sameNow, n1, n2, n3, n4, n5, n6, n7, n8, n9, n10, n11, n12, n13]
theorem look_yes {W : World} {b : Nat} (hb : HMap W b) (k : Nat) (h1 : 1 ≤ k) (h2 : k ≤ 13) (ok : Bool) :
    (Instr.lookup 37 (.map (some b)) (.int .i64 (k : Int)) ok).run Try.prog W = .ok (if ok then .tuple #[descV b k, .bool true] else descV b k) W := by
  unfold HMap at hb
  have h := ents_at b k h1 h2
  have hk : IsKey (.int .i64) (.int .i64 (k : Int)) := rfl
  have hd : Try.prog.underlying 3 = some (.int .i64) := Try.underlying3
  simp [Instr.lookup, run_underlying Try.underlying37, MapKept.run_getObj_map hb, run_checkKey hd hk, run_findKey hd h, Result.andThen]
def zeroH : Value := .agg #[.string { data := #[] }, .slice none 0 0, .slice none 0 0, .int .u8 0]
theorem look_no {W : World} {b : Nat} (hb : HMap W b) (k : Int) (hn : ¬ (1 ≤ k ∧ k ≤ 13)) (ok : Bool) :
    (Instr.lookup 37 (.map (some b)) (.int .i64 k) ok).run Try.prog W = .ok (if ok then .tuple #[zeroH, .bool false] else zeroH) W := by
  unfold HMap at hb
  have h := ents_no b k hn
  have hk : IsKey (.int .i64) (.int .i64 k) := rfl
  have hd : Try.prog.underlying 3 = some (.int .i64) := Try.underlying3
  have hz : (zeroValue 26).run Try.prog W = .ok zeroH W := by kernel_rfl
  simp [Instr.lookup, run_underlying Try.underlying37, MapKept.run_getObj_map hb, run_checkKey hd hk, run_findKey hd h, Result.andThen, hz]
theorem arg_row (k : Nat) (h1 : 1 ≤ k) (h2 : k ≤ 13) (hn : 0 < (hargL k).length) : ∃ p, hargP k = p + 1 ∧ hrowsL[p]? = some (.u8, hargL k) := match k, h1, h2, hn with
  | 1, _, _, _ => ⟨_, rfl, rfl⟩
  | 2, _, _, _ => ⟨_, rfl, rfl⟩
  | 3, _, _, _ => ⟨_, rfl, rfl⟩
  | 4, _, _, _ => ⟨_, rfl, rfl⟩
  | 5, _, _, _ => ⟨_, rfl, rfl⟩
  | 6, _, _, _ => ⟨_, rfl, rfl⟩
  | 7, _, _, _ => ⟨_, rfl, rfl⟩
  | 8, _, _, _ => ⟨_, rfl, rfl⟩
  | 9, _, _, _ => ⟨_, rfl, rfl⟩
  | 10, _, _, _ => ⟨_, rfl, rfl⟩
  | 11, _, _, h => absurd h (by decide)
  | 12, _, _, _ => ⟨_, rfl, rfl⟩
  | 13, _, _, _ => ⟨_, rfl, rfl⟩
  | n + 14, _, h, _ => absurd h (by omega)
theorem map_row (k : Nat) (h1 : 1 ≤ k) (h2 : k ≤ 13) (hn : 0 < (hmapL k).length) : ∃ p, hmapP k = p + 1 ∧ hrowsL[p]? = some (.i64, hmapL k) := match k, h1, h2, hn with
  | 1, _, _, _ => ⟨_, rfl, rfl⟩
  | 2, _, _, _ => ⟨_, rfl, rfl⟩
  | 3, _, _, _ => ⟨_, rfl, rfl⟩
  | 4, _, _, _ => ⟨_, rfl, rfl⟩
  | 5, _, _, _ => ⟨_, rfl, rfl⟩
  | 6, _, _, _ => ⟨_, rfl, rfl⟩
  | 7, _, _, _ => ⟨_, rfl, rfl⟩
  | 8, _, _, _ => ⟨_, rfl, rfl⟩
  | 9, _, _, h => absurd h (by decide)
  | 10, _, _, h => absurd h (by decide)
  | 11, _, _, h => absurd h (by decide)
  | 12, _, _, h => absurd h (by decide)
  | 13, _, _, h => absurd h (by decide)
  | n + 14, _, h, _ => absurd h (by omega)
theorem row_cells {W : World} {b p B : Nat} {kd : IntKind} {zs : List Int} (h : HRows W b) (hB : B ≤ b) (hr : hrowsL[p]? = some (kd, zs)) : ∃ q off, slA b (p + 1) = some ⟨q, off, none⟩ ∧ B ≤ q ∧ q < W.heap.size ∧ ∀ j, j < zs.length → W.cell? ⟨q, off + j, none⟩ = some (.int kd (zs.getD j 0)) ∧ W.frozen? ⟨q, off + j, none⟩ = false := by
  have hp := h p _ hr
  refine ⟨b + (p + 1), 0, rfl, by omega, (Array.getElem?_eq_some_iff.1 hp).1, fun j hj => ⟨?_, ?_⟩⟩
  · simp [World.cell?, hp, rowCells, hj]
  · simp [World.frozen?, hp]
theorem sl_args {W : World} {b B k : Nat} (h : HRows W b) (hB : B ≤ b) (h1 : 1 ≤ k) (h2 : k ≤ 13) : SlRow W B .u8 (slA b (hargP k)) (hargL k) := by
  intro hn
  obtain ⟨p, hp, hr⟩ := arg_row k h1 h2 hn
  rw [hp]
  exact row_cells h hB hr
theorem sl_maps {W : World} {b B k : Nat} (h : HRows W b) (hB : B ≤ b) (h1 : 1 ≤ k) (h2 : k ≤ 13) : SlRow W B .i64 (slA b (hmapP k)) (hmapL k) := by
  intro hn
  obtain ⟨p, hp, hr⟩ := map_row k h1 h2 hn
  rw [hp]
  exact row_cells h hB hr
theorem of_yes16 (k : Nat) (w : World) (h1 : 1 ≤ k) (h2 : k ≤ 13) : Calls Try.prog 7 #[.int .i64 k] w (GaveHelper k w) := by
  obtain ⟨b, hb0⟩ : ∃ b, w.heap.size + 1 = b := ⟨_, rfl⟩
  have hlk := fun W (hb : HMap W b) => look_yes hb k h1 h2 true
  simp only [if_true] at hlk
  have h3 := fun W (h : HRows W b) => sl_args (B := w.heap.size) h (by omega) h1 h2
  have h4 := fun W (h : HRows W b) => sl_maps (B := w.heap.size) h (by omega) h1 h2
  unfold descV slP at hlk
  unfold GaveHelper
  generalize slA b (hargP k) = a1 at hlk h3
  generalize slA b (hmapP k) = a2 at hlk h4
  generalize retI (hretC k) = r at hlk ⊢
  generalize hnameB k = nm at hlk ⊢
  generalize hargL k = zs at hlk h3 ⊢
  generalize hmapL k = ms at hlk h4 ⊢
  generalize zs.length = n1 at hlk ⊢
  generalize ms.length = n2 at hlk ⊢
  have H3 := Lib.hid h3
  have H4 := Lib.hid h4
  have HK := Lib.hid hlk
  clear h3 h4 hlk h1 h2
  go_enter Try.func7, Try.ntmps7
  go_wp2_with (go_at_call 14; refine (all_call _).mono ?_; rintro e W ⟨rfl, hm⟩; obtain ⟨hc, hf⟩ := boxed hm.below; have hsz := hm.size; have hbx := hm.box; have hrw := HRows.of hm; have hbl := below_box hm.below; have HM := Lib.hid hbl; rw [World.size_alloc, hb0] at hsz hbx hrw ⊢; have HR := Lib.hid hrw; have HZ := Lib.hid hsz; have hlk := HK.out W hbx; have hlt : w.heap.size < W.heap.size := (by omega); clear hm hbx hrw hbl hsz)
  have hlt : w.heap.size < W.heap.size := by have := HZ.out; omega
  have hk : ∀ j, j < 20 → (((((W.setCell ⟨w.heap.size, 0, none⟩ (Value.string nm)).setCell ⟨w.heap.size, 1, none⟩ (.slice a1 n1 n1)).setCell ⟨w.heap.size, 2, none⟩ (.slice a2 n2 n2)).setCell ⟨w.heap.size, 3, none⟩ (.int .u8 r)).alloc (.cells #[.string nm, .slice a1 n1 n1, .slice a2 n2 n2, .int .u8 r] 26)).heap[b + (j + 1)]? = W.heap[b + (j + 1)]? := by
    intro j hj
    have hz := HZ.out
    rw [Below.heap_alloc _ _ _ (by simp; omega), Below.heap_setCell _ _ _ _ (by simp; omega), Below.heap_setCell _ _ _ _ (by simp; omega), Below.heap_setCell _ _ _ _ (by simp; omega), Below.heap_setCell _ _ _ _ (by simp; omega)]
  have hrw := HR.out.keep hk
  refine bodyPost_ret (v := .tuple #[.agg #[.string nm, .slice a1 n1 n1, .slice a2 n2 n2, .int .u8 r], .bool true]) (by simp [results, Try.results7, go_sem, hc, hlt]) rfl ⟨a1, n1, a2, n2, rfl, ?_, H3.out _ hrw, H4.out _ hrw⟩
  exact ((((HM.out.setCell (by simp) _).setCell (by simp) _).setCell (by simp) _).setCell (by simp) _).alloc (by simp; omega) _
theorem of_no16 (k : Int) (w : World) (h : ¬ (1 ≤ k ∧ k ≤ 13)) : Calls Try.prog 7 #[.int .i64 k] w (Tells (.tuple #[.agg #[.string { data := #[] }, .slice none 0 0, .slice none 0 0, .int .u8 0], .bool false]) w) := by
  obtain ⟨b, hb0⟩ : ∃ b, w.heap.size + 1 = b := ⟨_, rfl⟩
  have hlk := fun W (hb : HMap W b) => look_no hb k h true
  simp only [if_true] at hlk
  unfold zeroH at hlk
  have HK := Lib.hid hlk
  clear hlk h
  go_enter Try.func7, Try.ntmps7
  go_wp2_with (go_at_call 14; refine (all_call _).mono ?_; rintro e W ⟨rfl, hm⟩; obtain ⟨hc, hf⟩ := boxed hm.below; have hsz := hm.size; have hbx := hm.box; have hbl := below_box hm.below; have HM := Lib.hid hbl; rw [World.size_alloc, hb0] at hsz hbx ⊢; have HZ := Lib.hid hsz; have hlk := HK.out W hbx; have hlt : w.heap.size < W.heap.size := (by omega); clear hm hbx hbl hsz)
  refine bodyPost_ret (v := .tuple #[.agg #[.string { data := #[] }, .slice none 0 0, .slice none 0 0, .int .u8 0], .bool false]) (by simp [results, Try.results7, go_sem, hc, hlt]) rfl ⟨rfl, ?_⟩
  exact ((((HM.out.setCell (by simp) _).setCell (by simp) _).setCell (by simp) _).setCell (by simp) _).alloc (by simp; omega) _
theorem ents_size (b : Nat) : (hEnts b 13).size = 13 := by simp [hEnts]
theorem len16 {W : World} {b : Nat} (hb : HMap W b) : (Builtin.len_ #[37] 3 #[.map (some b)]).run Try.prog W = .ok (.int .i64 13) W := by
  unfold HMap at hb
  have hs := ents_size b
  simp [Builtin.len_, run_underlying Try.underlying37, MapKept.run_getObj_map hb, hs, goInt, Result.andThen]
  try rfl
theorem count16 (w : World) : Calls Try.prog 10 #[] w (Tells (.int .i64 13) w) := by
  go_enter Try.func10, Try.ntmps10
  go_wp2_with (go_at_call 14; refine (all_call _).mono ?_; rintro e W ⟨rfl, hm⟩; have hln := len16 (W := W) (b := w.heap.size) hm.box; have HB := Lib.hid hm.below; clear hm)
  go_ret
  exact ⟨rfl, HB.out⟩
/-- The place of a number among numbers; -1 without it. -/
theorem any_found {zs : List Int} {v : Int} {i : Nat} (hi : i < zs.length) (h : (zs.getD i 0 == v) = true) : zs.any (· == v) = true := by
  rw [List.getD_eq_getElem?_getD, List.getElem?_eq_getElem hi, Option.getD_some] at h
  exact List.any_eq_true.2 ⟨_, List.getElem_mem hi, h⟩
theorem any_none {zs : List Int} {v : Int} (hno : ∀ j, j < zs.length → (zs.getD j 0 == v) = false) : zs.any (· == v) = false := by
  rw [List.any_eq_false]
  intro x hx
  obtain ⟨j, hj, rfl⟩ := List.mem_iff_getElem.1 hx
  have h2 := hno j hj
  rw [List.getD_eq_getElem?_getD, List.getElem?_eq_getElem (by omega), Option.getD_some] at h2
  simp [h2]
def GaveIndex (zs : List Int) (v : Int) (w : World) (e : Ending) (w' : World) : Prop := ∃ i : Int, e = .returned (.int .i64 i) ∧ decide (0 ≤ i) = zs.any (· == v) ∧ w = w'
theorem index16 (zs : List Int) (v : Int) (a : Option Addr) (n c B : Nat) (w : World) (hn : zs.length = n) (hs : SlRow w B .i64 a zs) (h5 : n ≤ 5) : Calls Try.prog 18 #[.slice a n c, .int .i64 v] w (GaveIndex zs v w) := by
  have HS := Lib.hid hs
  have HN := Lib.hid hn
  clear hs hn
  go_enter Try.func18, Try.ntmps18
  go_wp2
  go_loopw [8] (fun x W => ∃ i : Nat, i ≤ n ∧ x = .int .i64 i ∧ W = w ∧ ∀ j, j < i → (zs.getD j 0 == v) = false) (fun x _ => n - (intOf x).toNat)
  case atStart => exact ⟨0, Nat.zero_le _, rfl, rfl, fun j hj => absurd hj (Nat.not_lt_zero _)⟩
  case round =>
    obtain ⟨i, hi, rfl, rfl, hno⟩ := hrel
    have HNO := Lib.hid hno
    clear hno
    by_cases hlt : i < n
    · obtain ⟨p, off, rfl, -, -, hrow⟩ := HS.out (by rw [HN.out]; omega)
      obtain ⟨hrow, -⟩ := hrow i (by rw [HN.out]; exact hlt)
      cases hy : zs.getD i 0 == v
      · have HY := Lib.hid hy
        have hne : (v == zs.getD i 0) = false := by rw [beq_eq_false_iff_ne] at hy ⊢; exact fun e => hy e.symm
        generalize zs.getD i 0 = z at hrow hne
        clear hy
        go_wp2
        go_roundw
        case rel => exact ⟨i + 1, by omega, by go_num, trivial, letter_more HNO.out HY.out⟩
        case measure => simp [intOf]; omega
      · have HY := Lib.hid (any_found (by rw [HN.out]; exact hlt) hy)
        have hne : (v == zs.getD i 0) = true := by rw [beq_iff_eq] at hy ⊢; exact hy.symm
        generalize zs.getD i 0 = z at hrow hne
        clear hy
        go_wp2
        go_ret
        exact ⟨_, rfl, by rw [HY.out]; simp, rfl⟩
    · obtain rfl : i = n := by omega
      have HY := Lib.hid (any_none (zs := zs) (v := v) (by rw [HN.out]; exact HNO.out))
      go_wp2
      go_ret
      exact ⟨_, rfl, by rw [HY.out]; simp, rfl⟩
theorem contains16 (zs : List Int) (v : Int) (a : Option Addr) (n c B : Nat) (w : World) (hn : zs.length = n) (hs : SlRow w B .i64 a zs) (h5 : n ≤ 5) : Calls Try.prog 15 #[.slice a n c, .int .i64 v] w (Ret (.bool (zs.any (· == v))) w) := by
  generalize hb : zs.any (· == v) = b
  have HC := Lib.hid (index16 zs v a n c B w hn hs h5)
  have HB := Lib.hid hb
  clear hn hs hb
  unfold Ret
  go_enter Try.func15, Try.ntmps15
  go_wp2_with (go_at_call 18; refine HC.out.mono ?_; rintro e W ⟨i, rfl, hi, rfl⟩; rw [HB.out] at hi)
  go_ret
  exact ⟨rfl, rfl⟩
theorem map_len (k : Nat) (h2 : k ≤ 13) : (hmapL k).length ≤ 5 := (harg_len k h2).2
theorem fld_maps (nm : ByteArray) (a1 a2 : Option Addr) (n1 n2 : Nat) (r : Int) (W : World) : (Instr.field 26 (.agg #[.string nm, .slice a1 n1 n1, .slice a2 n2 n2, .int .u8 r]) 2).run Try.prog W = .ok (.slice a2 n2 n2) W := by kernel_rfl
theorem suits_yes16 (k : Nat) (kind : Int) (w : World) (h1 : 1 ≤ k) (h2 : k ≤ 13) : Calls Try.prog 12 #[.int .i64 k, .int .i64 kind] w (Tells (.bool (suitsB k kind)) w) := by
  obtain ⟨b, hb0⟩ : ∃ b, w.heap.size = b := ⟨_, rfl⟩
  have hlk := fun W (hb : HMap W b) => look_yes hb k h1 h2 false
  simp only [Bool.false_eq_true, if_false] at hlk
  have h4 := fun W (h : HRows W b) => contains16 (hmapL k) kind _ _ ((hmapL k).length) b W rfl (sl_maps (B := b) h (by omega) h1 h2) (map_len k h2)
  unfold descV slP at hlk
  have hsu : (hmapL k).any (· == kind) = suitsB k kind := rfl
  rw [hsu] at h4
  generalize suitsB k kind = sb at h4 ⊢
  clear hsu
  generalize slA b (hargP k) = a1 at hlk
  generalize slA b (hmapP k) = a2 at hlk h4
  generalize retI (hretC k) = r at hlk
  generalize hnameB k = nm at hlk
  generalize (hargL k).length = n1 at hlk
  generalize (hmapL k).length = n2 at hlk h4
  have H4 := Lib.hid h4
  have HK := Lib.hid hlk
  clear h4 hlk h1 h2
  have hfd := fld_maps
  go_enter Try.func12, Try.ntmps12
  go_wp2_with (first
    | (go_at_call 14; refine (all_call _).mono ?_; rintro e W ⟨rfl, hm⟩; have hbx := hm.box; rw [hb0] at hbx; have hlk := HK.out W hbx; have hrw := HRows.of hm; rw [hb0] at hrw; have HR := Lib.hid hrw; have HB := Lib.hid hm.below; rw [hb0]; clear hm hbx hrw)
    | (go_at_call 15; refine (H4.out _ HR.out).mono ?_; rintro e W2 ⟨rfl, rfl⟩))
  go_ret
  exact ⟨rfl, HB.out⟩
theorem suits_no16 (k kind : Int) (w : World) (h : ¬ (1 ≤ k ∧ k ≤ 13)) : Calls Try.prog 12 #[.int .i64 k, .int .i64 kind] w (Tells (.bool false) w) := by
  obtain ⟨b, hb0⟩ : ∃ b, w.heap.size = b := ⟨_, rfl⟩
  have hlk := fun W (hb : HMap W b) => look_no hb k h false
  simp only [Bool.false_eq_true, if_false] at hlk
  have h4 := fun W => contains16 [] kind none 0 0 0 W rfl (fun h => absurd h (by simp)) (by omega)
  simp only [List.any_nil] at h4
  unfold zeroH at hlk
  have H4 := Lib.hid h4
  have HK := Lib.hid hlk
  clear h4 hlk h
  have hfd := fld_maps
  go_enter Try.func12, Try.ntmps12
  go_wp2_with (first
    | (go_at_call 14; refine (all_call _).mono ?_; rintro e W ⟨rfl, hm⟩; have hbx := hm.box; rw [hb0] at hbx; have hlk := HK.out W hbx; have HB := Lib.hid hm.below; rw [hb0]; clear hm hbx)
    | (go_at_call 15; refine (H4.out _).mono ?_; rintro e W2 ⟨rfl, rfl⟩))
  go_ret
  exact ⟨rfl, HB.out⟩
end Go.Proofs.Ythjdmnbpidoifaa
