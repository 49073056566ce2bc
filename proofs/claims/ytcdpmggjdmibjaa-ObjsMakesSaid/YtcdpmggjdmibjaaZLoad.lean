/-
  Proved here: what fieldBytes and Load of package objs give. Conditions: an object that reads as one.
-/
import Derived.Test.YtcdpmggjdmibjaaZRightB
import Derived.Laws.MakeOwn
namespace Go.Proofs.Ytcdpmggjdmibjaa
open Go.RowKit

/-- A row of bytes of the call's own, that is not frozen, with nothing turned below. -/
structure Fresh (W w : World) (g len : Nat) (zs : List Int) : Prop where
  at_ : W.heap.size ≤ g
  lt : g < w.heap.size
  row : RowAt w g 0 len zs
  free : ∀ j, w.frozen? ⟨g, j, none⟩ = false
  below : Below W.heap.size W w
theorem Fresh.put {W w : World} {g len : Nat} {zs vs : List Int} {p : Nat} (h : Fresh W w g len zs) (hz : zs.length = len) (hp : p + vs.length ≤ len) :
    Fresh W (w.setCells g (0 + p) (u8s vs)) g len (putL zs p vs) := by
  have hlen := u8s_length vs
  refine ⟨h.at_, ?_, fun j hj => ?_, fun j => by rw [World.frozen?_setCells]; exact h.free j, ?_⟩
  · have hg := h.lt
    generalize u8s vs = l
    generalize 0 + p = o
    clear h hp hz hlen
    induction l generalizing w o with
    | nil => exact hg
    | cons v r ih => exact ih (w := w.setCell ⟨g, o, none⟩ v) (by simpa using hg) _
  · rcases Nat.lt_or_ge j p with hlt | hge
    · rw [World.cell?_setCells_out _ _ _ _ _ (fun _ _ => .inl (by simp; omega)), putL_getD_out (by omega) (.inl hlt)]
      exact h.row j hj
    · rcases Nat.lt_or_ge j (p + vs.length) with hlt2 | hge2
      · obtain ⟨i, rfl⟩ : ∃ i, j = p + i := ⟨j - p, by omega⟩
        have hc := World.cell?_setCells_in g (u8s vs) (0 + p) w (fun j hj => by
          have := h.row (p + j) (by omega)
          rw [show 0 + (p + j) = 0 + p + j by omega] at this
          rw [this]; rfl) i (by omega)
        rw [show 0 + (p + i) = 0 + p + i by omega, hc, putL_getD_in (by omega) (by omega)]
        simp only [u8s, List.getElem_map]
        rw [List.getD_eq_getElem?_getD, List.getElem?_eq_getElem (by omega)]
        rfl
      · rw [World.cell?_setCells_out _ _ _ _ _ (fun _ _ => .inr (by simp; omega)), putL_getD_out (by omega) (.inr hge2)]
        exact h.row j hj
  · have hb := h.below
    have hg := h.at_
    generalize u8s vs = l
    generalize 0 + p = o
    clear h hp hz hlen
    induction l generalizing w o with
    | nil => exact hb
    | cons v r ih => exact ih (hb.setCell (p := ⟨g, o, none⟩) hg v) _
/-- The bytes of the first k fields, and zeros. -/
def partF (f : List Int) (k : Nat) : List Int := bytesF f k ++ List.replicate (64 - 8 * k) 0
theorem partF_len (f : List Int) {k : Nat} (hk : k ≤ 8) : (partF f k).length = 64 := by
  unfold partF
  rw [List.length_append, bytesF_len, List.length_replicate]
  omega
theorem partF_put (f : List Int) {k : Nat} (hk : k < 8) : putL (partF f k) (k * 8) (bsL (f.getD k 0) 8) = partF f (k + 1) := by
  have hl := bytesF_len f k
  unfold putL partF
  rw [bsL_length, List.take_append_of_le_length (by omega), List.take_of_length_le (by omega), List.drop_append, List.drop_of_length_le (by omega), List.nil_append, List.drop_replicate, bytesF]
  congr 2
  omega
theorem partF_all (f : List Int) : partF f 8 = bytesF f 8 := by
  unfold partF
  simp
theorem info5 : (Try.prog.info? 5).map (fun i => (i.zero, i.size, i.bytes)) = some (some (.int .u8 0), 1, 1) := by kernel_rfl
def zeros64 : Array Value := madeCells (Value.int .u8 0).cells 64
theorem zeros_at (i : Nat) (h : i < 64) : zeros64[i]? = some (.int .u8 0) := by
  have hall : ∀ j : Fin 64, (match zeros64[j.val]? with | some (.int .u8 z) => z == 0 | _ => false) = true := by decide +kernel
  have := hall ⟨i, h⟩
  simp only at this
  split at this
  · rename_i b e
    rw [e]
    simp at this
    rw [this]
  · cases this
theorem make64 (w : World) : (Instr.makeSlice 41 (.int .i64 64) (.int .i64 64)).run Try.prog w = .ok (.slice (some ⟨w.heap.size, 0, none⟩) 64 64) (w.alloc (.cells zeros64 5)) := by
  obtain ⟨i0, hi, hz0, hz1, hz2⟩ := info_parts info5
  have := run_make (P := Try.prog) w 41 5 i0 (.int .u8 0) Try.underlying41 hi hz0 .i64 .i64 64 64 (by omega) (by omega) (by rw [hz2]; omega) (by omega)
  rw [hz1] at this
  exact this
theorem fresh_zeros (W w : World) (f : List Int) (hb : Below W.heap.size W w) : Fresh W (w.alloc (.cells zeros64 5)) w.heap.size 64 (partF f 0) := by
  refine ⟨hb.size, by simp, fun j hj => ?_, fun j => ?_, hb.alloc hb.size _⟩
  · rw [Nat.zero_add, box_cells, zeros_at j hj]
    have : (partF f 0).getD j 0 = 0 := by
      show (List.replicate 64 (0 : Int)).getD j 0 = 0
      rw [List.getD_eq_getElem?_getD, List.getElem?_replicate]
      split <;> rfl
    rw [this]
  · exact (boxed (w := w) (cs := zeros64) (T := 5) (Below.refl _ _)).2 j
theorem store8 (g cap k : Nat) (x : Int) (zs : List Int) (W w : World) (h : Fresh W w g 64 zs) (hz : zs.length = 64) (hk : k < 8) : Calls Try.prog 40 #[.slice (some ⟨g, 0, none⟩) 64 cap, .int .i64 ((k : Int) * 8), .int .i64 8, .int .u64 x] w (fun e w' => e = .returned (.bool true) ∧ Fresh W w' g 64 (putL zs (k * 8) (bsL x 8))) := by
  have ht : thB 64 ((k * 8 : Nat) : Int) ((8 : Nat) : Int) = true := by
    unfold thB
    rw [decide_eq_true (by omega), decide_eq_true (by omega)]
    rfl
  have hc := store_yes g 0 64 cap (k * 8) 8 x zs w (by unfold maxLen; omega) ht h.row (fun j _ => h.free _)
  have e : ((k * 8 : Nat) : Int) = (k : Int) * 8 := by omega
  rw [e] at hc
  refine hc.mono ?_
  rintro e w' ⟨rfl, rfl⟩
  exact ⟨rfl, h.put hz (by rw [bsL_length]; omega)⟩
def GaveF (f : List Int) (W : World) (e : Ending) (w : World) : Prop := ∃ g, e = .returned (.slice (some ⟨g, 0, none⟩) 64 64) ∧ Fresh W w g 64 (bytesF f 8)
attribute [local go_sem] make64
theorem fields_call (X : Array Value) (o : Kob) (w : World) (hx : ObX w X o) : Calls Try.prog 28 #[.agg X] w (GaveF o.f w) := by
  have hxf := hx.xf
  obtain ⟨f, hf⟩ : ∃ f, o.f = f := ⟨_, rfl⟩
  rw [hf] at hxf ⊢
  have hb1 : Below (w.alloc (.cells X 38)).heap.size (w.alloc (.cells X 38)) ((w.alloc (.cells X 38)).alloc (.cells zeros64 5)) := (Below.refl _ _).alloc (Nat.le_refl _) _
  have hfr := fresh_zeros w (w.alloc (.cells X 38)) f ((Below.refl _ _).alloc (Nat.le_refl _) _)
  obtain ⟨W1, hW1⟩ : ∃ W1, (w.alloc (.cells X 38)).alloc (.cells zeros64 5) = W1 := ⟨_, rfl⟩
  rw [hW1, World.size_alloc] at hfr
  rw [hW1] at hb1
  have h0 := (box_stay hb1 3).trans (hxf 0 (by omega))
  have h1 := (box_stay hb1 4).trans (hxf 1 (by omega))
  have h2 := (box_stay hb1 5).trans (hxf 2 (by omega))
  have h3 := (box_stay hb1 6).trans (hxf 3 (by omega))
  have h4 := (box_stay hb1 7).trans (hxf 4 (by omega))
  have h5 := (box_stay hb1 8).trans (hxf 5 (by omega))
  have h6 := (box_stay hb1 9).trans (hxf 6 (by omega))
  have h7 := (box_stay hb1 10).trans (hxf 7 (by omega))
  have hix : ∀ (k : Nat), k < 8 → ∀ W, (Instr.index 23 (.agg #[.int .u64 (f.getD 0 0), .int .u64 (f.getD 1 0), .int .u64 (f.getD 2 0), .int .u64 (f.getD 3 0), .int .u64 (f.getD 4 0), .int .u64 (f.getD 5 0), .int .u64 (f.getD 6 0), .int .u64 (f.getD 7 0)]) (.int .i64 k)).run Try.prog W = .ok (.int .u64 (f.getD k 0)) W := fun k hk W => match k, hk with
    | 0, _ => by kernel_rfl
    | 1, _ => by kernel_rfl
    | 2, _ => by kernel_rfl
    | 3, _ => by kernel_rfl
    | 4, _ => by kernel_rfl
    | 5, _ => by kernel_rfl
    | 6, _ => by kernel_rfl
    | 7, _ => by kernel_rfl
    | n + 8, h => absurd h (by omega)
  generalize f.getD 0 0 = f0 at h0 hix
  generalize f.getD 1 0 = f1 at h1 hix
  generalize f.getD 2 0 = f2 at h2 hix
  generalize f.getD 3 0 = f3 at h3 hix
  generalize f.getD 4 0 = f4 at h4 hix
  generalize f.getD 5 0 = f5 at h5 hix
  generalize f.getD 6 0 = f6 at h6 hix
  generalize f.getD 7 0 = f7 at h7 hix
  have HIX := Lib.hid hix
  have HF := Lib.hid hfr
  have HW1 := Lib.hid hW1
  clear hf hx hxf hix hfr hb1 hW1
  go_enter Try.func28, Try.ntmps28
  go_upto_region 2 with fail
  rw [HW1.out]
  go_wp2
  go_loopw [9] (fun i W => ∃ k : Nat, k ≤ 8 ∧ i = .int .i64 k ∧ Fresh w W (w.heap.size + 1) 64 (partF f k)) (fun i _ => 8 - (intOf i).toNat)
  case atStart => exact ⟨0, by omega, rfl, HF.out⟩
  case round =>
    obtain ⟨k, hk, rfl, ho⟩ := hrel
    have HO := Lib.hid ho
    clear ho HF
    by_cases hlt : k < 8
    · have hkb : decide ((k : Int) < 8) = true := by simp; omega
      have hx1 := HIX.out k hlt wr
      have hp := partF_put f hlt
      generalize f.getD k 0 = x at hx1 hp
      have HP := Lib.hid hp
      clear hp
      go_wp2_with (go_at_call 40; refine (store8 _ _ k x _ w _ HO.out (partF_len f (by omega)) hlt).mono ?_; rintro e w' ⟨rfl, hf'⟩; rw [HP.out] at hf'; have HF' := Lib.hid hf'; clear hf')
      go_roundw
      case rel => exact ⟨k + 1, by omega, by go_num, HF'.out⟩
      case measure => simp [intOf]; omega
    · obtain rfl : k = 8 := by omega
      have ho := HO.out
      rw [partF_all] at ho
      have HO2 := Lib.hid ho
      clear ho
      go_wp2
      go_ret
      exact ⟨_, rfl, HO2.out⟩
attribute [local go_sem ↓] loadObj_veil
theorem far_th {at_ n : Int} (h : 64 ≤ at_) : thB 64 at_ n = false := by
  unfold thB
  cases hs : sizeB n
  · rfl
  · have := size_bd hs
    rw [decide_eq_false (p := at_ + n ≤ ((64 : Nat) : Int)) (by omega)]
    simp
theorem neg_th {at_ n : Int} (h : at_ < 0) : thB 64 at_ n = false := by
  unfold thB
  rw [decide_eq_false (p := 0 ≤ at_) (by omega)]
  simp
theorem loadO_no {o : Kob} {at_ n : Int} (h : thB 64 at_ n = false) : loadO o at_ n = .tuple #[.int .u64 0, .bool false] := by
  unfold loadO
  rw [h]
  rfl
theorem load17 (X : Array Value) (o : Kob) (at_ n : Int) (w : World) (hx : ObX w X o) (ha : -9223372036854775808 ≤ at_ ∧ at_ ≤ 9223372036854775807) : Calls Try.prog 12 #[.agg X, .int .i64 at_, .int .i64 n] w (Tells (loadO o at_ n) w) := by
  have hld := run_loadObj (w.alloc (.cells X 38)) w.heap.size X 38 (0, 0) (heap_alloc_new _ _) hx.size
  have hb0 : Below w.heap.size w (w.alloc (.cells X 38)) := (Below.refl _ _).alloc (Nat.le_refl _) _
  have HFC := Lib.hid (fields_call X o (w.alloc (.cells X 38)) (hx.stay hb0))
  by_cases h0 : at_ < 0
  · rw [loadO_no (neg_th h0)]
    clear hx hb0
    go_enter Try.func12, Try.ntmps12
    go_wp2_with (go_at_call 28; refine HFC.out.mono ?_; rintro e w1 ⟨g, rfl, hf⟩; have HB := Lib.hid (below_box hf.below); clear hf)
    go_ret2
    exact ⟨rfl, HB.out⟩
  · by_cases h64 : 64 ≤ at_
    · rw [loadO_no (far_th h64)]
      clear hx hb0
      go_enter Try.func12, Try.ntmps12
      go_wp2_with (go_at_call 28; refine HFC.out.mono ?_; rintro e w1 ⟨g, rfl, hf⟩; have HB := Lib.hid (below_box hf.below); clear hf)
      go_ret2
      exact ⟨rfl, HB.out⟩
    · have hn0 : decide (at_ < 0) = false := by simp; omega
      have hn64 : decide ((64 : Int) ≤ at_) = false := by simp; omega
      have hbi := bytesIn_of (bytesF_in o.f 8)
      obtain ⟨zs, hzs⟩ : ∃ zs, bytesF o.f 8 = zs := ⟨_, rfl⟩
      have hlo : loadO o at_ n = if thB 64 at_ n then .tuple #[.int .u64 (ldF zs at_.toNat n.toNat), .bool true] else .tuple #[.int .u64 0, .bool false] := by unfold loadO; rw [hzs]
      rw [hlo]
      have hfc := HFC.out
      unfold GaveF at hfc
      rw [hzs] at hbi hfc
      have HFC2 := Lib.hid hfc
      have HBI := Lib.hid hbi
      clear hx hb0 HFC hfc hbi hlo hzs
      have hall : ∀ (g : Nat) (W : World), RowAt W g 0 64 zs → Calls Try.prog 29 #[.slice (some ⟨g, 0, none⟩) 64 64, .int .i64 at_, .int .i64 n] W (Ret (if thB 64 at_ n then .tuple #[.int .u64 (ldF zs at_.toNat n.toNat), .bool true] else .tuple #[.int .u64 0, .bool false]) W) := by
        intro g W hr
        cases ht : thB 64 at_ n
        · rw [if_neg (by simp)]
          exact load_no _ 64 64 at_ n W (by unfold maxLen; omega) ha ht
        · rw [if_pos rfl]
          obtain ⟨hs, h0', -⟩ := thB_true ht
          have hb := size_bd hs
          obtain ⟨p, rfl⟩ := Int.eq_ofNat_of_zero_le h0'
          obtain ⟨m, rfl⟩ := Int.eq_ofNat_of_zero_le (show 0 ≤ n by omega)
          exact load_yes g 0 64 64 p m zs W (by unfold maxLen; omega) ht hr HBI.out
      obtain ⟨u, b, hub⟩ : ∃ u b, (if thB 64 at_ n then Value.tuple #[.int .u64 (ldF zs at_.toNat n.toNat), .bool true] else .tuple #[.int .u64 0, .bool false]) = .tuple #[.int .u64 u, .bool b] := by
        cases thB 64 at_ n
        · exact ⟨_, _, rfl⟩
        · exact ⟨_, _, rfl⟩
      rw [hub] at hall ⊢
      have HALL := Lib.hid (fun g W => hall g W)
      clear hall hub h0 h64
      go_enter Try.func12, Try.ntmps12
      go_wp2_with (first
        | (go_at_call 28; refine HFC2.out.mono ?_; rintro e w1 ⟨g, rfl, hf⟩; have HR := Lib.hid hf.row; have HB := Lib.hid (below_box hf.below); clear hf)
        | (go_at_call 29; refine (HALL.out _ _ HR.out).mono ?_; rintro e w2 ⟨rfl, rfl⟩))
      go_ret2
      exact ⟨rfl, HB.out⟩
end Go.Proofs.Ytcdpmggjdmibjaa
