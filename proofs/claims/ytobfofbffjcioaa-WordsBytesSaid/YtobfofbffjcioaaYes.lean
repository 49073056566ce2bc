/-
  Proved here: the law WordsBytes returns true where the places are there. Conditions: between 1 and 300 bytes came in.
-/
import Derived.Test.YtobfofbffjcioaaStored
import Derived.Deep.RegionHeld
namespace Go.Proofs.Ytobfofbffjcioaa
open Go.RowKit

theorem rowAt_below {w w' : World} {g off len : Nat} {zs : List Int} (h : RowAt w g off len zs) (hg : g < w.heap.size) (hb : Below w.heap.size w w') : RowAt w' g off len zs :=
  fun j hj => (hb.cell (p := ⟨g, off + j, none⟩) hg).trans (h j hj)
theorem cell_block_lt {w : World} {a : Addr} {v : Value} (h : w.cell? a = some v) : a.block < w.heap.size := World.block_lt_of_cell? w a h
theorem str_of {w : World} {g off len cap : Nat} {zs : List Int} (hz : zs.length = len) (h : RowAt w g off len zs) :
    (convert 28 9 (.slice (some ⟨g, off, none⟩) len cap)).run Try.prog w = .ok (.string (strOfNums zs)) w :=
  run_convert_bytes_arg w 28 5 Try.underlying28 Try.underlying5 g off len cap zs hz h 9 Try.underlying9

theorem load_yes2 (g off len cap p n : Nat) (zs : List Int) (w : World) (z : Int) (hl : len ≤ maxLen) (ht : thB len p n = true) (hr : RowAt w g off len zs) (hz : BytesIn zs) (h : ldF zs p n = z) :
    Calls Try.prog 15 #[.slice (some ⟨g, off, none⟩) len cap, .int .i64 p, .int .i64 n] w (Ret (.tuple #[.int .u64 z, .bool true]) w) := by
  subst h
  exact load_yes g off len cap p n zs w hl ht hr hz
theorem load_ref2 (g off len cap p n : Nat) (zs : List Int) (w : World) (z : Int) (hl : len ≤ maxLen) (hn : n ≤ 8) (hpn : p + n ≤ len) (hr : RowAt w g off len zs) (hz : BytesIn zs) (h : ldF zs p n = z) :
    Calls Try.prog 18 #[.slice (some ⟨g, off, none⟩) len cap, .int .i64 p, .int .i64 n] w (Ret (.int .u64 z) w) := by
  subst h
  exact load_ref g off len cap p n zs w hl hn hpn hr hz
theorem bytesIn_put {zs : List Int} {p n : Nat} {x : Int} (h : BytesIn zs) (hx : p + n ≤ zs.length) : BytesIn (putL zs p (bsL x n)) := by
  have hl := bsL_length x n
  intro j
  rcases Nat.lt_or_ge j p with hj | hj
  · rw [putL_getD_out (by omega) (.inl hj)]; exact h j
  · rcases Nat.lt_or_ge j (p + n) with hj2 | hj2
    · obtain ⟨i, rfl⟩ : ∃ i, j = p + i := ⟨j - p, by omega⟩
      rw [putL_getD_in (by omega) (by omega), bsL_getD x n i (by omega)]
      omega
    · rw [putL_getD_out (by omega) (.inr (by omega))]; exact h j
theorem zx_size {x : Int} {n : Nat} (hs : sizeB n = true) (x0 : 0 ≤ x) (x1 : x ≤ 18446744073709551615) : x % 256 ^ n = zx x n := by
  have h : n = 1 ∨ n = 2 ∨ n = 4 ∨ n = 8 := by
    simp [sizeB] at hs; omega
  rcases h with rfl | rfl | rfl | rfl <;> simp [zx]
  omega
theorem ld_put {zs : List Int} {p n : Nat} {x : Int} (hp : p + n ≤ zs.length) (hs : sizeB n = true) (x0 : 0 ≤ x) (x1 : x ≤ 18446744073709551615) : ldF (putL zs p (bsL x n)) p n = zx x n := by
  have hl := bsL_length x n
  rw [ldF_bytes x x0 _ n p (fun j hj => by rw [putL_getD_in (by omega) (by omega), bsL_getD x n j hj]), zx_size hs x0 x1]

theorem zext_ref2 (x n z : Int) (w : World) (h0 : 0 ≤ x) (h1 : x ≤ 18446744073709551615) (h : zx x n = z) : Calls Try.prog 10 #[.int .u64 x, .int .i64 n] w (Ret (.int .u64 z) w) := by
  subst h
  exact zext_ref x n w h0 h1
set_option maxHeartbeats 1000000 in
theorem walk_yes (g off len cap p n : Nat) (x : Int) (zs : List Int) (w : World) (hz : zs.length = len) (h0 : 0 < len) (hl : len ≤ 300) (hr : RowAt w g off len zs) (hg : g < w.heap.size) (hzb : BytesIn zs)
    (ht : thB len p n = true) (x0 : 0 ≤ x) (x1 : x ≤ 18446744073709551615) :
    Calls Try.prog 4 #[.slice (some ⟨g, off, none⟩) len cap, .int .i64 p, .int .i64 n, .int .u64 x] w fun e w' => e = .returned (.bool true) ∧ Below w.heap.size w w' := by
  obtain ⟨hs, -, hpn⟩ := thB_true ht
  have hb := size_bd hs
  have hm : len ≤ maxLen := by unfold maxLen; omega
  have hpi : -9223372036854775808 ≤ (p : Int) ∧ (p : Int) ≤ 9223372036854775807 := by omega
  have hzb2 := bytesIn_put (x := x) (p := p) (n := n) hzb (by omega)
  have hld := ld_put (x := x) (zs := zs) (p := p) (n := n) (by omega) hs x0 x1
  have hlen2 : (putL zs p (bsL x n)).length = len := by rw [putL_length (by rw [bsL_length]; omega), hz]
  obtain ⟨zs', hzs'⟩ : ∃ zs', putL zs p (bsL x n) = zs' := ⟨_, rfl⟩
  obtain ⟨s', hs'⟩ : ∃ s', strOfNums zs' = s' := ⟨_, rfl⟩
  obtain ⟨v, hv⟩ : ∃ v, ldF zs p n = v := ⟨_, rfl⟩
  obtain ⟨z, hzz⟩ : ∃ z, zx x n = z := ⟨_, rfl⟩
  rw [hzs'] at hzb2 hld hlen2
  rw [hzz] at hld
  have HS := Lib.hid hs
  have HZ := Lib.hid hz
  have HS' := Lib.hid hs'
  have HZS := Lib.hid hzs'
  have HV := Lib.hid hv
  have HZZ := Lib.hid hzz
  have HLD := Lib.hid hld
  have HL2 := Lib.hid hlen2
  clear hs hz hs' hzs' hv hzz hld hlen2
  go_enter Try.func4, Try.ntmps4
  go_wp2_with (first
    | (go_at_call 6; refine (alive _).mono ?_; rintro e w1 ⟨rfl, hb1, -⟩; have hr1 := rowAt_below hr hg hb1; have hg1 := Nat.lt_of_lt_of_le hg hb1.size; have HB1 := Lib.hid hb1; clear hb1)
    | (at_builtin; refine wpList_clone rfl _ _ rfl rfl g off len cap zs rfl HZ.out h0 (by omega) hr1 hg1 ?_; intro g2 cap2 w2 hf2)
    | (go_at_call 15; refine (load_yes2 _ _ _ _ _ _ zs _ v hm ht hf2.row hzb HV.out).mono ?_; rintro e w' ⟨rfl, rfl⟩)
    | (go_at_call 16; refine (store_yes _ _ _ _ _ _ _ zs _ hm ht hf2.row (fun j _ => hf2.free _)).mono ?_; rintro e w3 ⟨rfl, hw3⟩; have hf3 := hf2.put (p := p) (vs := bsL x n) HZ.out (by rw [bsL_length]; omega); rw [hw3, HZS.out] at hf3; clear hw3)
    | (go_at_call 17; refine (there_ref _ _ _ _ _ _ hm hpi).mono ?_; rintro e w' ⟨rfl, rfl⟩)
    | (go_at_call 15; refine (load_yes2 _ _ _ _ _ _ zs' _ z hm ht hf3.row hzb2 HLD.out).mono ?_; rintro e w' ⟨rfl, rfl⟩))
  have hr3 : RowAt w3 g off len zs := rowAt_below hr1 hg1 hf3.below
  have hg3 : g < w3.heap.size := Nat.lt_of_lt_of_le hg1 hf3.below.size
  have hb3 : Below w3.drew.heap.size w3.drew w3.drew := Below.refl _ _
  have hg23 : g2 < w3.heap.size := cell_block_lt (hf3.row 0 h0)
  have hf3r := hf3.row
  go_region_held (fun W => (convert 28 9 (.slice (some ⟨g2, 0, none⟩) len cap2)).run Try.prog W = .ok (.string s') W ∧ RowAt W g off len zs ∧ g < W.heap.size ∧ Below w3.drew.heap.size w3.drew W)
    (first
      | exact ⟨by rw [← HS'.out]; exact str_of HL2.out hf3r, hr3, hg3, hb3⟩
      | exact hS4)
    (first
      | (go_at_call 18; refine (load_ref2 _ _ _ _ _ _ zs _ v hm (by omega) (by omega) ?_ hzb HV.out).mono ?_; exact hr3; rintro e w' ⟨rfl, rfl⟩)
      | (go_at_call 19; refine (stored _ _ _ _ _ _ x zs _ HZ.out h0 (by omega) (by omega) (by omega) ?_ ?_ ⟨x0, x1⟩).mono ?_; exact hr3; exact hg3; rintro e w4 ⟨g4, cap4, rfl, hf4⟩; rw [HZS.out] at hf4;
          have hc4 : (convert 28 9 (.slice (some ⟨g4, 0, none⟩) len cap4)).run Try.prog w4 = .ok (.string s') w4 := (by rw [← HS'.out]; exact str_of HL2.out hf4.row);
          have hS4 : (convert 28 9 (.slice (some ⟨g2, 0, none⟩) len cap2)).run Try.prog w4 = .ok (.string s') w4 ∧ RowAt w4 g off len zs ∧ g < w4.heap.size ∧ Below w3.drew.heap.size w3.drew w4 :=
            ⟨(by rw [← HS'.out]; exact str_of HL2.out (rowAt_below (w := w3.drew) hf3r hg23 hf4.below)), rowAt_below (w := w3.drew) hr3 hg3 hf4.below, Nat.lt_of_lt_of_le hg3 hf4.below.size, hf4.below⟩)
      | (go_at_call 10; refine (zext_ref2 _ _ z _ x0 x1 HZZ.out).mono ?_; rintro e w' ⟨rfl, rfl⟩))
  go_wp2
  go_ret
  exact ⟨rfl, ((HB1.out.trans (hf3.below.mono HB1.out.size)).drew.trans (hf4.below.mono (Nat.le_trans HB1.out.size hf3.below.size)))⟩
end Go.Proofs.Ytobfofbffjcioaa
