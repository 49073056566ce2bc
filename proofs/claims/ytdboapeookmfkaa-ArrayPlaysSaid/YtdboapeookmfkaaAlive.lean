/-
  Proved here: the document's examples of array come out. Conditions: none.
-/
import Derived.Test.YtdboapeookmfkaaArr
import Derived.Deep.RegionWith
namespace Go.Proofs.Ytdboapeookmfkaa
open Go.RowKit

theorem new_42 (w : World) : Calls Try.prog 5 #[.int .i64 4, .int .i64 2] w (GaveArr w 4 2 8) := arr_new 4 2 8 w ⟨by omega, by omega, by omega, by omega, rfl⟩
theorem new_02 (w : World) : Calls Try.prog 5 #[.int .i64 0, .int .i64 2] w (Ret (.tuple #[.pointer none, .int .i64 22]) w) := arr_not 0 2 w (by omega)
theorem str_8 : strOfNums (zeros 8) = ({ data := #[0, 0, 0, 0, 0, 0, 0, 0] } : ByteArray) := rfl
theorem alive (w : World) : Calls Try.prog 4 #[] w (fun e w' => e = .returned (.bool true) ∧ Below w.heap.size w w') := by
  go_enter Try.func4, Try.ntmps4
  go_wp2_with (first
    | (go_at_call_of 5 (Value.int .i64 4); refine (new_42 _).mono ?_; rintro e w1 ⟨rfl, hb1, ha1⟩; have HB1 := Lib.hid hb1; have HA1 := Lib.hid ha1; clear hb1 ha1)
    | (go_at_call_of 5 (Value.int .i64 0); refine (new_02 _).mono ?_; rintro e w2 ⟨rfl, rfl⟩)
    | (go_at_call 13; refine (arr_len _ _ _ HA1.out.c1).mono ?_; rintro e w2 ⟨rfl, rfl⟩)
    | (go_at_call 14; refine (arr_size _ _ _ HA1.out.c0).mono ?_; rintro e w2 ⟨rfl, rfl⟩)
    | (go_at_call 9; refine (arr_bytes _ _ _ _ _ _ _ _ (by omega) (by omega) HA1.out).mono ?_; rintro e w3 ⟨g3, cap3, rfl, hf3⟩; have hc3 := str_of (cap := cap3) (zeros_length 8) hf3.row; rw [str_8] at hc3; have HF3 := Lib.hid hf3; clear hf3))
  go_ret
  exact ⟨rfl, HB1.out.trans (HF3.out.below.mono HB1.out.size)⟩
end Go.Proofs.Ytdboapeookmfkaa
