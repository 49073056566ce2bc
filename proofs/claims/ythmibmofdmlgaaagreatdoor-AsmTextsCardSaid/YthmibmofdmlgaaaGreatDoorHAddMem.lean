import Derived.Test.YthmibmofdmlgaaaGreatDoorG04
import Derived.Test.YthmibmofdmlgaaaGreatDoorShelf
/-
  Proved here: addMemory of package asm: what a map has behind it. Conditions: the opcode is a byte; the map is one of words.
-/
namespace Go.Proofs.YthmibmofdmlgaaaGreatDoor
open Go.RowKit

theorem WordsIn.mono {w : World} {b n m : Nat} {T : List (Int × Wd)} (h : WordsIn w b n T) (hm : n ≤ m) : WordsIn w b m T := by
  obtain ⟨D, h, r⟩ := h
  exact ⟨D, h.mono hm, r⟩
theorem size_small : ∀ n : Fin 256, decide (0 ≤ szI (n.val : Int) ∧ szI (n.val : Int) < 10) = true := by decide +kernel
theorem size_in {op : Int} (h0 : 0 ≤ op) (h1 : op ≤ 255) : 0 ≤ szI op ∧ szI op < 10 := of_decide_eq_true (of_table (f := fun op => decide (0 ≤ szI op ∧ szI op < 10)) (g := fun _ => true) size_small h0 h1)
theorem itoa_small (i : Nat) (hi : i < 10) (w : World) : Calls Tryz.prog 56 #[.int .i64 i] w (Ret (.string (S [UInt8.ofNat (48 + i)])) w) :=
  (Tryz.strconv_Itoa_small i (by omega) w).mono fun e w' h => ⟨by rw [h.1, Lib.decDigits_one hi]; rfl, h.2.symm⟩

theorem parts_new (w : World) (ps : List Int) : PartsAt (w.alloc (.cells (ps.map (Value.int .u8)).toArray 74)) (some ⟨w.heap.size, 0, none⟩) ps := by
  refine .inr ⟨_, _, _, _, rfl, (MapKept.heap_alloc w (.cells (ps.map (Value.int .u8)).toArray 74)).1, fun j hj => ?_⟩
  rw [Nat.zero_add]
  simp [List.getElem?_eq_getElem hj, List.getD_eq_getElem?_getD]
theorem mem_none (w : World) (b : Nat) (op : Int) (hs : szI op = 0) : Calls Tryz.prog 40 #[.map (some b), .int .u8 op] w (Ret (.tuple #[]) w) := by
  unfold Ret
  go_enter Tryz.func40, Tryz.ntmps40
  go_wp2_with (go_at_call 55; refine (size_isa _ _).mono ?_; rintro e w' ⟨rfl, rfl⟩; rw [hs])
  refine bodyPost_ret (results_none rfl _ _ _) rfl ?_
  exact ⟨rfl, rfl⟩
set_option maxRecDepth 100000 in
theorem mem_ld (w : World) (b n : Nat) (T : List (Int × Wd)) (op : Int) (i : Nat) (h : WordsIn w b n T) (h0 : 0 ≤ op) (h1 : op ≤ 255) (hs : szI op = i) (hi : i < 10) (hz : i ≠ 0) (hc : bits .and .u8 op 7 = 1) (hn : n < 1000) :
    Calls Tryz.prog 40 #[.map (some b), .int .u8 op] w fun e w' => e = .returned (.tuple #[]) ∧ WordsIn w' b (n + 1) ((op, [108, 100, UInt8.ofNat (48 + i)], [0, 5], false) :: T) ∧ w.grownBy w' (some b) := by
  have hi0 : ((i : Int) == 0) = false := by simpa using hz
  obtain ⟨x, hx⟩ : ∃ x, UInt8.ofNat (48 + i) = x := ⟨_, rfl⟩
  have hitoa := itoa_small i hi
  rw [hx] at hitoa ⊢
  have hcat : ({ data := #[108, 100] } : ByteArray) ++ S [x] = S [108, 100, x] := S_left [108, 100] [x]
  obtain ⟨w1, r1, i1, g1⟩ := put_word (w.alloc (.cells #[.int .u8 0, .int .u8 5] 74)) b n T op [108, 100, x] (some ⟨w.heap.size, 0, none⟩) [0, 5] 2 2 false (h.alloc _) h0 h1 (parts_new _ [0, 5]) rfl hn
  have HI := Lib.hid i1
  have HG := Lib.hid ((World.grownBy_alloc w (.cells #[.int .u8 0, .int .u8 5] 74) (some b)).andThen g1 (fun _ h => .inr h))
  clear i1 g1 hx h h0 h1 hn
  go_enter Tryz.func40, Tryz.ntmps40
  go_wp2_with (first
    | (go_at_call 55; refine (size_isa _ _).mono ?_; rintro e w' ⟨rfl, rfl⟩; rw [hs])
    | (go_at_call 56; refine (hitoa _).mono ?_; rintro e w' ⟨rfl, rfl⟩))
  go_end0
  exact ⟨rfl, HI.out, HG.out⟩
set_option maxRecDepth 100000 in
theorem mem_st (w : World) (b n : Nat) (T : List (Int × Wd)) (op : Int) (i : Nat) (h : WordsIn w b n T) (h0 : 0 ≤ op) (h1 : op ≤ 255) (hs : szI op = i) (hi : i < 10) (hz : i ≠ 0) (hc : bits .and .u8 op 7 = 2) (hn : n + 1 < 1000) :
    Calls Tryz.prog 40 #[.map (some b), .int .u8 op] w fun e w' => e = .returned (.tuple #[]) ∧ WordsIn w' b (n + 2) (both T op [115, 116, UInt8.ofNat (48 + i)] [6, 1]) ∧ w.grownBy w' (some b) := by
  have hi0 : ((i : Int) == 0) = false := by simpa using hz
  obtain ⟨x, hx⟩ : ∃ x, UInt8.ofNat (48 + i) = x := ⟨_, rfl⟩
  have hitoa := itoa_small i hi
  rw [hx] at hitoa ⊢
  have hcat : ({ data := #[115, 116] } : ByteArray) ++ S [x] = S [115, 116, x] := S_left [115, 116] [x]
  have hadd := add_both (w.alloc (.cells #[.int .u8 6, .int .u8 1] 74)) b n T op [115, 116, x] (some ⟨w.heap.size, 0, none⟩) [6, 1] 2 2 (h.alloc _) h0 h1 (parts_new _ [6, 1]) rfl hn
  have hg0 := Lib.hid (World.grownBy_alloc w (.cells #[.int .u8 6, .int .u8 1] 74) (some b))
  clear hx h h0 h1 hn
  go_enter Tryz.func40, Tryz.ntmps40
  go_wp2_with (first
    | (go_at_call 55; refine (size_isa _ _).mono ?_; rintro e w' ⟨rfl, rfl⟩; rw [hs])
    | (go_at_call 56; refine (hitoa _).mono ?_; rintro e w' ⟨rfl, rfl⟩)
    | (go_at_call 38; refine hadd.mono ?_; rintro e w' ⟨rfl, hi1, hg1⟩; have HI := Lib.hid hi1; have HG := Lib.hid hg1; clear hi1 hg1 hadd))
  go_end0
  exact ⟨rfl, HI.out, hg0.out.andThen HG.out (fun _ h => .inr h)⟩
theorem mem_other (w : World) (b : Nat) (op : Int) (i : Nat) (hs : szI op = i) (hz : i ≠ 0) (hc : bits .and .u8 op 7 ≠ 1) (hc2 : bits .and .u8 op 7 ≠ 2) : Calls Tryz.prog 40 #[.map (some b), .int .u8 op] w (Ret (.tuple #[]) w) := by
  unfold Ret
  have hi0 : ((i : Int) == 0) = false := by simpa using hz
  have hd1 : (bits .and .u8 op 7 == 1) = false := by simpa using hc
  have hd2 : (bits .and .u8 op 7 == 2) = false := by simpa using hc2
  go_enter Tryz.func40, Tryz.ntmps40
  go_wp2_with (go_at_call 55; refine (size_isa _ _).mono ?_; rintro e w' ⟨rfl, rfl⟩; rw [hs])
  go_end0
  exact ⟨rfl, rfl⟩
theorem add_mem (w : World) (b n : Nat) (T : List (Int × Wd)) (op : Int) (h : WordsIn w b n T) (h0 : 0 ≤ op) (h1 : op ≤ 255) (hn : n + 1 < 1000) :
    Calls Tryz.prog 40 #[.map (some b), .int .u8 op] w fun e w' => e = .returned (.tuple #[]) ∧ WordsIn w' b (n + 2) (memStep T op) ∧ w.grownBy w' (some b) := by
  obtain ⟨z0, z1⟩ := size_in h0 h1
  obtain ⟨i, hs⟩ := Int.eq_ofNat_of_zero_le z0
  have hi : i < 10 := by omega
  unfold memStep sizeD
  by_cases hz : i = 0
  · subst hz
    refine (mem_none w b op hs).mono fun e w' h' => ?_
    obtain ⟨rfl, rfl⟩ := h'
    rw [if_pos (show szI op = 0 by simpa using hs)]
    exact ⟨rfl, h.mono (by omega), World.grownBy.refl _ _⟩
  · have hs0 : szI op ≠ 0 := by omega
    have ht : (szI op).toNat = i := by omega
    rw [if_neg hs0, ht]
    by_cases hc : bits .and .u8 op 7 = 1
    · rw [if_pos hc]
      refine (mem_ld w b n T op i h h0 h1 hs hi hz hc (by omega)).mono fun e w' h' => ?_
      exact ⟨h'.1, h'.2.1.mono (by omega), h'.2.2⟩
    · rw [if_neg hc]
      by_cases hc2 : bits .and .u8 op 7 = 2
      · rw [if_pos hc2]
        exact mem_st w b n T op i h h0 h1 hs hi hz hc2 hn
      · rw [if_neg hc2]
        refine (mem_other w b op i hs hz hc hc2).mono fun e w' h' => ?_
        obtain ⟨rfl, rfl⟩ := h'
        exact ⟨rfl, h.mono (by omega), World.grownBy.refl _ _⟩
end Go.Proofs.YthmibmofdmlgaaaGreatDoor
