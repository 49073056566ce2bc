/-
  Proved here: what Way of package narrow returns, of every condition and number. Conditions: none.
-/
import Derived.Test.YtbljijbmjccalaaW2
import Derived.Test.YtbljijbmjccalaaW4
import Derived.Test.YtbljijbmjccalaaW5
import Derived.Test.YtbljijbmjccalaaP3
import Derived.Test.YtbljijbmjccalaaP2
namespace Go.Proofs.Ytbljijbmjccalaa
open Go.RowKit
attribute [local go_sem] u_and u_or u_xor u_andNot u_add u_sub s_conv u_conv max_u min_u max_s min_s u_inc u_less s_inc s_less s_inc64 s_less64
set_option linter.unusedSimpArgs false

theorem box_1 (w : World) : (conW w 11 8).cell? ⟨w.heap.size + 1, 0, none⟩ = some (fnV 24) ∧ w.heap.size + 1 < (conW w 11 8).heap.size := by
  have h := (MapKept.heap_alloc (conW w 11 0) (.cells #[fnV 24] 40)).1
  rw [conW_call0, conW_size0] at h
  have hb : Below (conW w 11 1).heap.size (conW w 11 1) (conW w 11 8) := all_below (boxL.drop 1) (conW w 11 1)
  have hl : w.heap.size + 1 < (conW w 11 1).heap.size := by simp [conW, boxL]
  refine ⟨?_, Nat.lt_of_lt_of_le hl hb.size⟩
  rw [hb.cell hl]
  simp [World.cell?, h]
theorem box_2 (w : World) : (conW w 11 8).cell? ⟨w.heap.size + 2, 0, none⟩ = some (fnV 22) ∧ w.heap.size + 2 < (conW w 11 8).heap.size := by
  have h := (MapKept.heap_alloc (conW w 11 1) (.cells #[fnV 22] 40)).1
  rw [conW_call1, conW_size1] at h
  have hb : Below (conW w 11 2).heap.size (conW w 11 2) (conW w 11 8) := all_below (boxL.drop 2) (conW w 11 2)
  have hl : w.heap.size + 2 < (conW w 11 2).heap.size := by simp [conW, boxL]
  refine ⟨?_, Nat.lt_of_lt_of_le hl hb.size⟩
  rw [hb.cell hl]
  simp [World.cell?, h]
theorem box_3 (w : World) : (conW w 11 8).cell? ⟨w.heap.size + 3, 0, none⟩ = some (fnV 22) ∧ w.heap.size + 3 < (conW w 11 8).heap.size := by
  have h := (MapKept.heap_alloc (conW w 11 2) (.cells #[fnV 22] 40)).1
  rw [conW_call2, conW_size2] at h
  have hb : Below (conW w 11 3).heap.size (conW w 11 3) (conW w 11 8) := all_below (boxL.drop 3) (conW w 11 3)
  have hl : w.heap.size + 3 < (conW w 11 3).heap.size := by simp [conW, boxL]
  refine ⟨?_, Nat.lt_of_lt_of_le hl hb.size⟩
  rw [hb.cell hl]
  simp [World.cell?, h]
theorem box_4 (w : World) : (conW w 11 8).cell? ⟨w.heap.size + 4, 0, none⟩ = some (fnV 24) ∧ w.heap.size + 4 < (conW w 11 8).heap.size := by
  have h := (MapKept.heap_alloc (conW w 11 3) (.cells #[fnV 24] 40)).1
  rw [conW_call3, conW_size3] at h
  have hb : Below (conW w 11 4).heap.size (conW w 11 4) (conW w 11 8) := all_below (boxL.drop 4) (conW w 11 4)
  have hl : w.heap.size + 4 < (conW w 11 4).heap.size := by simp [conW, boxL]
  refine ⟨?_, Nat.lt_of_lt_of_le hl hb.size⟩
  rw [hb.cell hl]
  simp [World.cell?, h]
theorem box_5 (w : World) : (conW w 11 8).cell? ⟨w.heap.size + 5, 0, none⟩ = some (fnV 26) ∧ w.heap.size + 5 < (conW w 11 8).heap.size := by
  have h := (MapKept.heap_alloc (conW w 11 4) (.cells #[fnV 26] 40)).1
  rw [conW_call4, conW_size4] at h
  have hb : Below (conW w 11 5).heap.size (conW w 11 5) (conW w 11 8) := all_below (boxL.drop 5) (conW w 11 5)
  have hl : w.heap.size + 5 < (conW w 11 5).heap.size := by simp [conW, boxL]
  refine ⟨?_, Nat.lt_of_lt_of_le hl hb.size⟩
  rw [hb.cell hl]
  simp [World.cell?, h]
theorem box_6 (w : World) : (conW w 11 8).cell? ⟨w.heap.size + 6, 0, none⟩ = some (fnV 25) ∧ w.heap.size + 6 < (conW w 11 8).heap.size := by
  have h := (MapKept.heap_alloc (conW w 11 5) (.cells #[fnV 25] 40)).1
  rw [conW_call5, conW_size5] at h
  have hb : Below (conW w 11 6).heap.size (conW w 11 6) (conW w 11 8) := all_below (boxL.drop 6) (conW w 11 6)
  have hl : w.heap.size + 6 < (conW w 11 6).heap.size := by simp [conW, boxL]
  refine ⟨?_, Nat.lt_of_lt_of_le hl hb.size⟩
  rw [hb.cell hl]
  simp [World.cell?, h]
theorem box_7 (w : World) : (conW w 11 8).cell? ⟨w.heap.size + 7, 0, none⟩ = some (fnV 25) ∧ w.heap.size + 7 < (conW w 11 8).heap.size := by
  have h := (MapKept.heap_alloc (conW w 11 6) (.cells #[fnV 25] 40)).1
  rw [conW_call6, conW_size6] at h
  have hb : Below (conW w 11 7).heap.size (conW w 11 7) (conW w 11 8) := all_below (boxL.drop 7) (conW w 11 7)
  have hl : w.heap.size + 7 < (conW w 11 7).heap.size := by simp [conW, boxL]
  refine ⟨?_, Nat.lt_of_lt_of_le hl hb.size⟩
  rw [hb.cell hl]
  simp [World.cell?, h]
theorem box_8 (w : World) : (conW w 11 8).cell? ⟨w.heap.size + 8, 0, none⟩ = some (fnV 26) ∧ w.heap.size + 8 < (conW w 11 8).heap.size := by
  have h := (MapKept.heap_alloc (conW w 11 7) (.cells #[fnV 26] 40)).1
  rw [conW_call7, conW_size7] at h
  have hb : Below (conW w 11 8).heap.size (conW w 11 8) (conW w 11 8) := all_below (boxL.drop 8) (conW w 11 8)
  have hl : w.heap.size + 8 < (conW w 11 8).heap.size := by simp [conW, boxL]
  refine ⟨?_, Nat.lt_of_lt_of_le hl hb.size⟩
  rw [hb.cell hl]
  simp [World.cell?, h]
theorem way_16_true (wide : Bool) (x y : K) (w : World) (hg : wide = true ∨ (isSig 16 = false ∧ lowK x = true ∧ lowK y = true)) : Calls Try.prog 6 #[.int .u8 16, .bool wide, numV x, numV y, .bool true] w (Gives (backV x y (sameT x y)) w) :=
  way_20 16 wide true x y (sameT x y) 0 (fun _ => .func 20) (fun _ => .func 21) (fun _ => #[]) (fun _ => #[]) w (fun W => same_pair x y W) (fun _ => rfl) (fun _ => rfl) hg
theorem way_16_false (wide : Bool) (x y : K) (w : World) (hg : wide = true ∨ (isSig 16 = false ∧ lowK x = true ∧ lowK y = true)) : Calls Try.prog 6 #[.int .u8 16, .bool wide, numV x, numV y, .bool false] w (Gives (backV x y (diffT x y)) w) :=
  way_21 16 wide false x y (diffT x y) 0 (fun _ => .func 20) (fun _ => .func 21) (fun _ => #[]) (fun _ => #[]) w (fun W => different_pair x y W) (fun _ => rfl) (fun _ => rfl) hg
theorem way_16_low (hs : Bool) (x y : K) (w : World) (h4 : ∀ W, Calls Try.prog 13 #[pairV x y, .int .u8 16] W (Gives (.bool false) W)) : Calls Try.prog 6 #[.int .u8 16, .bool false, numV x, numV y, .bool hs] w (Gives (.tuple #[numV x, numV y, .bool true]) w) :=
  way_low 16 hs x y 0 (fun _ => .func 20) (fun _ => .func 21) (fun _ => #[]) (fun _ => #[]) w (fun _ => rfl) h4
theorem way_80_true (wide : Bool) (x y : K) (w : World) (hg : wide = true ∨ (isSig 80 = false ∧ lowK x = true ∧ lowK y = true)) : Calls Try.prog 6 #[.int .u8 80, .bool wide, numV x, numV y, .bool true] w (Gives (backV x y (diffT x y)) w) :=
  way_21 80 wide true x y (diffT x y) 1 (fun _ => .func 21) (fun _ => .func 20) (fun _ => #[]) (fun _ => #[]) w (fun W => different_pair x y W) (fun _ => rfl) (fun _ => rfl) hg
theorem way_80_false (wide : Bool) (x y : K) (w : World) (hg : wide = true ∨ (isSig 80 = false ∧ lowK x = true ∧ lowK y = true)) : Calls Try.prog 6 #[.int .u8 80, .bool wide, numV x, numV y, .bool false] w (Gives (backV x y (sameT x y)) w) :=
  way_20 80 wide false x y (sameT x y) 1 (fun _ => .func 21) (fun _ => .func 20) (fun _ => #[]) (fun _ => #[]) w (fun W => same_pair x y W) (fun _ => rfl) (fun _ => rfl) hg
theorem way_80_low (hs : Bool) (x y : K) (w : World) (h4 : ∀ W, Calls Try.prog 13 #[pairV x y, .int .u8 80] W (Gives (.bool false) W)) : Calls Try.prog 6 #[.int .u8 80, .bool false, numV x, numV y, .bool hs] w (Gives (.tuple #[numV x, numV y, .bool true]) w) :=
  way_low 80 hs x y 1 (fun _ => .func 21) (fun _ => .func 20) (fun _ => #[]) (fun _ => #[]) w (fun _ => rfl) h4
theorem way_32_true (wide : Bool) (x y : K) (w : World) (hg : wide = true ∨ (isSig 32 = false ∧ lowK x = true ∧ lowK y = true)) : Calls Try.prog 6 #[.int .u8 32, .bool wide, numV x, numV y, .bool true] w (Gives (backV x y (aboveT x y)) w) :=
  way_22 32 wide true x y (aboveT x y) 2 (fun _ => .func 22) (fun _ => .func 41) (fun _ => #[]) (fun B => #[.pointer (some ⟨B + 1, 0, none⟩)]) w (fun W => above_pair x y W) (fun _ => rfl) (fun _ => rfl) hg
theorem way_32_false (wide : Bool) (x y : K) (w : World) (hg : wide = true ∨ (isSig 32 = false ∧ lowK x = true ∧ lowK y = true)) : Calls Try.prog 6 #[.int .u8 32, .bool wide, numV x, numV y, .bool false] w (Gives (backV x y (swapT (levelT y x))) w) :=
  way_clo 32 wide false x y (swapT (levelT y x)) 2 (fun _ => .func 22) (fun _ => .func 41) (fun _ => #[]) (fun B => #[.pointer (some ⟨B + 1, 0, none⟩)]) w 1 24 box_1 (fun g W hc hl => clo_24 x y (levelT y x) g W hc hl (fun W => level_pair y x W)) (fun _ => rfl) (fun _ => rfl) hg
theorem way_32_low (hs : Bool) (x y : K) (w : World) (h4 : ∀ W, Calls Try.prog 13 #[pairV x y, .int .u8 32] W (Gives (.bool false) W)) : Calls Try.prog 6 #[.int .u8 32, .bool false, numV x, numV y, .bool hs] w (Gives (.tuple #[numV x, numV y, .bool true]) w) :=
  way_low 32 hs x y 2 (fun _ => .func 22) (fun _ => .func 41) (fun _ => #[]) (fun B => #[.pointer (some ⟨B + 1, 0, none⟩)]) w (fun _ => rfl) h4
theorem way_48_true (wide : Bool) (x y : K) (w : World) (hg : wide = true ∨ (isSig 48 = false ∧ lowK x = true ∧ lowK y = true)) : Calls Try.prog 6 #[.int .u8 48, .bool wide, numV x, numV y, .bool true] w (Gives (backV x y (levelT x y)) w) :=
  way_24 48 wide true x y (levelT x y) 3 (fun _ => .func 24) (fun _ => .func 41) (fun _ => #[]) (fun B => #[.pointer (some ⟨B + 2, 0, none⟩)]) w (fun W => level_pair x y W) (fun _ => rfl) (fun _ => rfl) hg
theorem way_48_false (wide : Bool) (x y : K) (w : World) (hg : wide = true ∨ (isSig 48 = false ∧ lowK x = true ∧ lowK y = true)) : Calls Try.prog 6 #[.int .u8 48, .bool wide, numV x, numV y, .bool false] w (Gives (backV x y (swapT (aboveT y x))) w) :=
  way_clo 48 wide false x y (swapT (aboveT y x)) 3 (fun _ => .func 24) (fun _ => .func 41) (fun _ => #[]) (fun B => #[.pointer (some ⟨B + 2, 0, none⟩)]) w 2 22 box_2 (fun g W hc hl => clo_22 x y (aboveT y x) g W hc hl (fun W => above_pair y x W)) (fun _ => rfl) (fun _ => rfl) hg
theorem way_48_low (hs : Bool) (x y : K) (w : World) (h4 : ∀ W, Calls Try.prog 13 #[pairV x y, .int .u8 48] W (Gives (.bool false) W)) : Calls Try.prog 6 #[.int .u8 48, .bool false, numV x, numV y, .bool hs] w (Gives (.tuple #[numV x, numV y, .bool true]) w) :=
  way_low 48 hs x y 3 (fun _ => .func 24) (fun _ => .func 41) (fun _ => #[]) (fun B => #[.pointer (some ⟨B + 2, 0, none⟩)]) w (fun _ => rfl) h4
theorem way_160_true (wide : Bool) (x y : K) (w : World) (hg : wide = true ∨ (isSig 160 = false ∧ lowK x = true ∧ lowK y = true)) : Calls Try.prog 6 #[.int .u8 160, .bool wide, numV x, numV y, .bool true] w (Gives (backV x y (swapT (aboveT y x))) w) :=
  way_clo 160 wide true x y (swapT (aboveT y x)) 4 (fun _ => .func 41) (fun _ => .func 24) (fun B => #[.pointer (some ⟨B + 3, 0, none⟩)]) (fun _ => #[]) w 3 22 box_3 (fun g W hc hl => clo_22 x y (aboveT y x) g W hc hl (fun W => above_pair y x W)) (fun _ => rfl) (fun _ => rfl) hg
theorem way_160_false (wide : Bool) (x y : K) (w : World) (hg : wide = true ∨ (isSig 160 = false ∧ lowK x = true ∧ lowK y = true)) : Calls Try.prog 6 #[.int .u8 160, .bool wide, numV x, numV y, .bool false] w (Gives (backV x y (levelT x y)) w) :=
  way_24 160 wide false x y (levelT x y) 4 (fun _ => .func 41) (fun _ => .func 24) (fun B => #[.pointer (some ⟨B + 3, 0, none⟩)]) (fun _ => #[]) w (fun W => level_pair x y W) (fun _ => rfl) (fun _ => rfl) hg
theorem way_160_low (hs : Bool) (x y : K) (w : World) (h4 : ∀ W, Calls Try.prog 13 #[pairV x y, .int .u8 160] W (Gives (.bool false) W)) : Calls Try.prog 6 #[.int .u8 160, .bool false, numV x, numV y, .bool hs] w (Gives (.tuple #[numV x, numV y, .bool true]) w) :=
  way_low 160 hs x y 4 (fun _ => .func 41) (fun _ => .func 24) (fun B => #[.pointer (some ⟨B + 3, 0, none⟩)]) (fun _ => #[]) w (fun _ => rfl) h4
theorem way_176_true (wide : Bool) (x y : K) (w : World) (hg : wide = true ∨ (isSig 176 = false ∧ lowK x = true ∧ lowK y = true)) : Calls Try.prog 6 #[.int .u8 176, .bool wide, numV x, numV y, .bool true] w (Gives (backV x y (swapT (levelT y x))) w) :=
  way_clo 176 wide true x y (swapT (levelT y x)) 5 (fun _ => .func 41) (fun _ => .func 22) (fun B => #[.pointer (some ⟨B + 4, 0, none⟩)]) (fun _ => #[]) w 4 24 box_4 (fun g W hc hl => clo_24 x y (levelT y x) g W hc hl (fun W => level_pair y x W)) (fun _ => rfl) (fun _ => rfl) hg
theorem way_176_false (wide : Bool) (x y : K) (w : World) (hg : wide = true ∨ (isSig 176 = false ∧ lowK x = true ∧ lowK y = true)) : Calls Try.prog 6 #[.int .u8 176, .bool wide, numV x, numV y, .bool false] w (Gives (backV x y (aboveT x y)) w) :=
  way_22 176 wide false x y (aboveT x y) 5 (fun _ => .func 41) (fun _ => .func 22) (fun B => #[.pointer (some ⟨B + 4, 0, none⟩)]) (fun _ => #[]) w (fun W => above_pair x y W) (fun _ => rfl) (fun _ => rfl) hg
theorem way_176_low (hs : Bool) (x y : K) (w : World) (h4 : ∀ W, Calls Try.prog 13 #[pairV x y, .int .u8 176] W (Gives (.bool false) W)) : Calls Try.prog 6 #[.int .u8 176, .bool false, numV x, numV y, .bool hs] w (Gives (.tuple #[numV x, numV y, .bool true]) w) :=
  way_low 176 hs x y 5 (fun _ => .func 41) (fun _ => .func 22) (fun B => #[.pointer (some ⟨B + 4, 0, none⟩)]) (fun _ => #[]) w (fun _ => rfl) h4
theorem way_96_true (wide : Bool) (x y : K) (w : World) (hg : wide = true ∨ (isSig 96 = false ∧ lowK x = true ∧ lowK y = true)) : Calls Try.prog 6 #[.int .u8 96, .bool wide, numV x, numV y, .bool true] w (Gives (backV x y (aboveST x y)) w) :=
  way_25 96 wide true x y (aboveST x y) 6 (fun _ => .func 25) (fun _ => .func 41) (fun _ => #[]) (fun B => #[.pointer (some ⟨B + 5, 0, none⟩)]) w (fun W => aboveS_pair x y W) (fun _ => rfl) (fun _ => rfl) hg
theorem way_96_false (wide : Bool) (x y : K) (w : World) (hg : wide = true ∨ (isSig 96 = false ∧ lowK x = true ∧ lowK y = true)) : Calls Try.prog 6 #[.int .u8 96, .bool wide, numV x, numV y, .bool false] w (Gives (backV x y (swapT (levelST y x))) w) :=
  way_clo 96 wide false x y (swapT (levelST y x)) 6 (fun _ => .func 25) (fun _ => .func 41) (fun _ => #[]) (fun B => #[.pointer (some ⟨B + 5, 0, none⟩)]) w 5 26 box_5 (fun g W hc hl => clo_26 x y (levelST y x) g W hc hl (fun W => levelS_pair y x W)) (fun _ => rfl) (fun _ => rfl) hg
theorem way_96_low (hs : Bool) (x y : K) (w : World) (h4 : ∀ W, Calls Try.prog 13 #[pairV x y, .int .u8 96] W (Gives (.bool false) W)) : Calls Try.prog 6 #[.int .u8 96, .bool false, numV x, numV y, .bool hs] w (Gives (.tuple #[numV x, numV y, .bool true]) w) :=
  way_low 96 hs x y 6 (fun _ => .func 25) (fun _ => .func 41) (fun _ => #[]) (fun B => #[.pointer (some ⟨B + 5, 0, none⟩)]) w (fun _ => rfl) h4
theorem way_112_true (wide : Bool) (x y : K) (w : World) (hg : wide = true ∨ (isSig 112 = false ∧ lowK x = true ∧ lowK y = true)) : Calls Try.prog 6 #[.int .u8 112, .bool wide, numV x, numV y, .bool true] w (Gives (backV x y (levelST x y)) w) :=
  way_26 112 wide true x y (levelST x y) 7 (fun _ => .func 26) (fun _ => .func 41) (fun _ => #[]) (fun B => #[.pointer (some ⟨B + 6, 0, none⟩)]) w (fun W => levelS_pair x y W) (fun _ => rfl) (fun _ => rfl) hg
theorem way_112_false (wide : Bool) (x y : K) (w : World) (hg : wide = true ∨ (isSig 112 = false ∧ lowK x = true ∧ lowK y = true)) : Calls Try.prog 6 #[.int .u8 112, .bool wide, numV x, numV y, .bool false] w (Gives (backV x y (swapT (aboveST y x))) w) :=
  way_clo 112 wide false x y (swapT (aboveST y x)) 7 (fun _ => .func 26) (fun _ => .func 41) (fun _ => #[]) (fun B => #[.pointer (some ⟨B + 6, 0, none⟩)]) w 6 25 box_6 (fun g W hc hl => clo_25 x y (aboveST y x) g W hc hl (fun W => aboveS_pair y x W)) (fun _ => rfl) (fun _ => rfl) hg
theorem way_112_low (hs : Bool) (x y : K) (w : World) (h4 : ∀ W, Calls Try.prog 13 #[pairV x y, .int .u8 112] W (Gives (.bool false) W)) : Calls Try.prog 6 #[.int .u8 112, .bool false, numV x, numV y, .bool hs] w (Gives (.tuple #[numV x, numV y, .bool true]) w) :=
  way_low 112 hs x y 7 (fun _ => .func 26) (fun _ => .func 41) (fun _ => #[]) (fun B => #[.pointer (some ⟨B + 6, 0, none⟩)]) w (fun _ => rfl) h4
theorem way_192_true (wide : Bool) (x y : K) (w : World) (hg : wide = true ∨ (isSig 192 = false ∧ lowK x = true ∧ lowK y = true)) : Calls Try.prog 6 #[.int .u8 192, .bool wide, numV x, numV y, .bool true] w (Gives (backV x y (swapT (aboveST y x))) w) :=
  way_clo 192 wide true x y (swapT (aboveST y x)) 8 (fun _ => .func 41) (fun _ => .func 26) (fun B => #[.pointer (some ⟨B + 7, 0, none⟩)]) (fun _ => #[]) w 7 25 box_7 (fun g W hc hl => clo_25 x y (aboveST y x) g W hc hl (fun W => aboveS_pair y x W)) (fun _ => rfl) (fun _ => rfl) hg
theorem way_192_false (wide : Bool) (x y : K) (w : World) (hg : wide = true ∨ (isSig 192 = false ∧ lowK x = true ∧ lowK y = true)) : Calls Try.prog 6 #[.int .u8 192, .bool wide, numV x, numV y, .bool false] w (Gives (backV x y (levelST x y)) w) :=
  way_26 192 wide false x y (levelST x y) 8 (fun _ => .func 41) (fun _ => .func 26) (fun B => #[.pointer (some ⟨B + 7, 0, none⟩)]) (fun _ => #[]) w (fun W => levelS_pair x y W) (fun _ => rfl) (fun _ => rfl) hg
theorem way_192_low (hs : Bool) (x y : K) (w : World) (h4 : ∀ W, Calls Try.prog 13 #[pairV x y, .int .u8 192] W (Gives (.bool false) W)) : Calls Try.prog 6 #[.int .u8 192, .bool false, numV x, numV y, .bool hs] w (Gives (.tuple #[numV x, numV y, .bool true]) w) :=
  way_low 192 hs x y 8 (fun _ => .func 41) (fun _ => .func 26) (fun B => #[.pointer (some ⟨B + 7, 0, none⟩)]) (fun _ => #[]) w (fun _ => rfl) h4
theorem way_208_true (wide : Bool) (x y : K) (w : World) (hg : wide = true ∨ (isSig 208 = false ∧ lowK x = true ∧ lowK y = true)) : Calls Try.prog 6 #[.int .u8 208, .bool wide, numV x, numV y, .bool true] w (Gives (backV x y (swapT (levelST y x))) w) :=
  way_clo 208 wide true x y (swapT (levelST y x)) 9 (fun _ => .func 41) (fun _ => .func 25) (fun B => #[.pointer (some ⟨B + 8, 0, none⟩)]) (fun _ => #[]) w 8 26 box_8 (fun g W hc hl => clo_26 x y (levelST y x) g W hc hl (fun W => levelS_pair y x W)) (fun _ => rfl) (fun _ => rfl) hg
theorem way_208_false (wide : Bool) (x y : K) (w : World) (hg : wide = true ∨ (isSig 208 = false ∧ lowK x = true ∧ lowK y = true)) : Calls Try.prog 6 #[.int .u8 208, .bool wide, numV x, numV y, .bool false] w (Gives (backV x y (aboveST x y)) w) :=
  way_25 208 wide false x y (aboveST x y) 9 (fun _ => .func 41) (fun _ => .func 25) (fun B => #[.pointer (some ⟨B + 8, 0, none⟩)]) (fun _ => #[]) w (fun W => aboveS_pair x y W) (fun _ => rfl) (fun _ => rfl) hg
theorem way_208_low (hs : Bool) (x y : K) (w : World) (h4 : ∀ W, Calls Try.prog 13 #[pairV x y, .int .u8 208] W (Gives (.bool false) W)) : Calls Try.prog 6 #[.int .u8 208, .bool false, numV x, numV y, .bool hs] w (Gives (.tuple #[numV x, numV y, .bool true]) w) :=
  way_low 208 hs x y 9 (fun _ => .func 41) (fun _ => .func 25) (fun B => #[.pointer (some ⟨B + 8, 0, none⟩)]) (fun _ => #[]) w (fun _ => rfl) h4
theorem way_64_true (wide : Bool) (x y : K) (w : World) (hg : wide = true ∨ (isSig 64 = false ∧ lowK x = true ∧ lowK y = true)) : Calls Try.prog 6 #[.int .u8 64, .bool wide, numV x, numV y, .bool true] w (Gives (backV x y (commonT x y)) w) :=
  way_27 64 wide true x y (commonT x y) 10 (fun _ => .func 27) (fun _ => .func 28) (fun _ => #[]) (fun _ => #[]) w (fun W => common_pair x y W) (fun _ => rfl) (fun _ => rfl) hg
theorem way_64_false (wide : Bool) (x y : K) (w : World) (hg : wide = true ∨ (isSig 64 = false ∧ lowK x = true ∧ lowK y = true)) : Calls Try.prog 6 #[.int .u8 64, .bool wide, numV x, numV y, .bool false] w (Gives (backV x y (apartT x y)) w) :=
  way_28 64 wide false x y (apartT x y) 10 (fun _ => .func 27) (fun _ => .func 28) (fun _ => #[]) (fun _ => #[]) w (fun W => apart_pair x y W) (fun _ => rfl) (fun _ => rfl) hg
theorem way_64_low (hs : Bool) (x y : K) (w : World) (h4 : ∀ W, Calls Try.prog 13 #[pairV x y, .int .u8 64] W (Gives (.bool false) W)) : Calls Try.prog 6 #[.int .u8 64, .bool false, numV x, numV y, .bool hs] w (Gives (.tuple #[numV x, numV y, .bool true]) w) :=
  way_low 64 hs x y 10 (fun _ => .func 27) (fun _ => .func 28) (fun _ => #[]) (fun _ => #[]) w (fun _ => rfl) h4
theorem four_call (op : Int) (x y : K) (w : World) : Calls Try.prog 13 #[pairV x y, .int .u8 op] w (Gives (.bool (!isSig op && (lowK x && lowK y))) w) := by
  cases h : isSig op
  · exact four_yes op x y w h
  · exact four_no op x y w h
theorem tells_yes {op : Int} {wide : Bool} {x y : K} (ho : isCond op = true) (h : tells op wide x y = true) : wide = true ∨ (isSig op = false ∧ lowK x = true ∧ lowK y = true) := by
  unfold tells at h
  rw [ho] at h
  cases wide
  · right
    simpa using h
  · exact .inl rfl
theorem tells_no {op : Int} {wide : Bool} {x y : K} (ho : isCond op = true) (h : tells op wide x y = false) : wide = false ∧ (!isSig op && (lowK x && lowK y)) = false := by
  unfold tells at h
  rw [ho] at h
  cases wide
  · exact ⟨rfl, by simpa using h⟩
  · simp at h
theorem way_num (op : Int) (wide hs : Bool) (x y : K) (w : World) : Calls Try.prog 6 #[.int .u8 op, .bool wide, numV x, numV y, .bool hs] w (Gives (wayV op wide x y hs) w) := by
  unfold wayV
  cases ho : isCond op
  · have ht : tells op wide x y = false := by unfold tells; rw [ho]; rfl
    rw [ht, if_neg Bool.false_ne_true]
    exact way_none op wide hs x y w ho
  · cases ht : tells op wide x y
    · obtain ⟨rfl, h4⟩ := tells_no ho ht
      rw [if_neg Bool.false_ne_true]
      have hf := fun W => four_call op x y W
      rw [h4] at hf
      clear h4 ht
      simp only [isCond, Bool.or_eq_true, beq_iff_eq, or_assoc] at ho
      obtain rfl | rfl | rfl | rfl | rfl | rfl | rfl | rfl | rfl | rfl | rfl := ho
      · exact way_16_low hs x y w hf
      · exact way_80_low hs x y w hf
      · exact way_32_low hs x y w hf
      · exact way_48_low hs x y w hf
      · exact way_160_low hs x y w hf
      · exact way_176_low hs x y w hf
      · exact way_64_low hs x y w hf
      · exact way_96_low hs x y w hf
      · exact way_112_low hs x y w hf
      · exact way_192_low hs x y w hf
      · exact way_208_low hs x y w hf
    · have hg := tells_yes ho ht
      rw [if_pos rfl]
      clear ht
      simp only [isCond, Bool.or_eq_true, beq_iff_eq, or_assoc] at ho
      obtain rfl | rfl | rfl | rfl | rfl | rfl | rfl | rfl | rfl | rfl | rfl := ho
      · cases hs
        · exact way_16_false wide x y w hg
        · exact way_16_true wide x y w hg
      · cases hs
        · exact way_80_false wide x y w hg
        · exact way_80_true wide x y w hg
      · cases hs
        · exact way_32_false wide x y w hg
        · exact way_32_true wide x y w hg
      · cases hs
        · exact way_48_false wide x y w hg
        · exact way_48_true wide x y w hg
      · cases hs
        · exact way_160_false wide x y w hg
        · exact way_160_true wide x y w hg
      · cases hs
        · exact way_176_false wide x y w hg
        · exact way_176_true wide x y w hg
      · cases hs
        · exact way_64_false wide x y w hg
        · exact way_64_true wide x y w hg
      · cases hs
        · exact way_96_false wide x y w hg
        · exact way_96_true wide x y w hg
      · cases hs
        · exact way_112_false wide x y w hg
        · exact way_112_true wide x y w hg
      · cases hs
        · exact way_192_false wide x y w hg
        · exact way_192_true wide x y w hg
      · cases hs
        · exact way_208_false wide x y w hg
        · exact way_208_true wide x y w hg
end Go.Proofs.Ytbljijbmjccalaa
