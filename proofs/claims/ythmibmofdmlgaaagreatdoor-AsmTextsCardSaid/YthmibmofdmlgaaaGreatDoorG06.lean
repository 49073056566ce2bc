import Derived.Test.YthmibmofdmlgaaaGreatDoorG05
import Derived.Test.YthmibmofdmlgaaaGreatDoorG02
import Derived.Test.YthmibmofdmlgaaaGreatDoorHNums
/-
  Proved here: readNumber, readCount, readReg, readAhead, readOff of package asm read what textOf's parts write. Conditions: the numbers have their sizes; the library's table.
-/
namespace Go.Proofs.YthmibmofdmlgaaaGreatDoor
open Go.RowKit
set_option linter.unusedVariables false

theorem bytes_world_below (w : World) (t : ByteArray) : Below w.heap.size w (Lib.bytesWorld w 5 t) :=
  ⟨rfl, rfl, rfl, by rw [Lib.bytesWorld_size]; omega, fun j hj => Lib.bytesWorld_at_old w 5 t j hj⟩
theorem parse_call {bits : Int} {B : Nat} {n : Int} (hb : bits = 16 ∧ B = 16 ∨ bits = 32 ∧ B = 32 ∨ bits = 64 ∧ B = 64) (h : Lib.parseIntB B (Lib.itoa n) = .ok n) (hlen : (Lib.itoa n).length ≤ 100) (w : World) :
    Calls Tryz.prog 103 #[.string (S (Lib.itoa n)), .int .i64 10, .int .i64 bits] w fun e w' => e = .returned (.tuple #[.int .i64 n, .nilIface]) ∧ Below w.heap.size w w' := by
  have key : ∀ (e : Ending) (w' : World), (e = Ending.returned (.tuple #[.int .i64 n, .nilIface]) ∧ (w' = w ∨ ∃ t, w' = Lib.bytesWorld w 5 t)) → (e = Ending.returned (.tuple #[.int .i64 n, .nilIface]) ∧ Below w.heap.size w w') := by
    rintro e w' ⟨rfl, rfl | ⟨t, rfl⟩⟩
    · exact ⟨rfl, Below.refl _ _⟩
    · exact ⟨rfl, bytes_world_below w t⟩
  have hs : (S (Lib.itoa n)).size ≤ 9223372036854775806 := by rw [S_size]; omega
  rcases hb with ⟨rfl, rfl⟩ | ⟨rfl, rfl⟩ | ⟨rfl, rfl⟩
  · exact (Tryz.strconv_ParseInt_10_at16_ok _ hs n h w).mono key
  · exact (Tryz.strconv_ParseInt_10_at32_ok _ hs n h w).mono key
  · exact (Tryz.strconv_ParseInt_10_at64_ok _ hs n h w).mono key
/-- A number, and nothing below is turned. -/
def Num (v : Value) (w : World) (e : Ending) (w' : World) : Prop := e = .returned v ∧ Below w.heap.size w w'
/-- The sizes of numbers. -/
def FitB (bits : Int) (n : Int) : Prop := bits = 16 ∧ -32768 ≤ n ∧ n ≤ 32767 ∨ bits = 32 ∧ -2147483648 ≤ n ∧ n ≤ 2147483647 ∨ bits = 64 ∧ -9223372036854775808 ≤ n ∧ n ≤ 9223372036854775807
theorem FitB.bd {bits n : Int} (h : FitB bits n) : -9223372036854775808 ≤ n ∧ n ≤ 9223372036854775807 := by unfold FitB at h; omega
theorem parse_fit {bits n : Int} (h : FitB bits n) (w : World) : Calls Tryz.prog 103 #[.string (S (Lib.itoa n)), .int .i64 10, .int .i64 bits] w fun e w' => e = .returned (.tuple #[.int .i64 n, .nilIface]) ∧ Below w.heap.size w w' := by
  have hl := itoa_len n h.bd.1 (by have := h.bd.2; omega)
  rcases h with ⟨rfl, h0, h1⟩ | ⟨rfl, h0, h1⟩ | ⟨rfl, h0, h1⟩
  · exact parse_call (.inl ⟨rfl, rfl⟩) (parse16 h0 h1) (by omega) w
  · exact parse_call (.inr (.inl ⟨rfl, rfl⟩)) (parse32 h0 h1) (by omega) w
  · exact parse_call (.inr (.inr ⟨rfl, rfl⟩)) (parse64 h0 h1) (by omega) w
set_option maxRecDepth 100000 in
theorem read_number (bits n : Int) (w : World) (h : FitB bits n) (he : Env w) : Calls Tryz.prog 87 #[.string (S (Lib.itoa n)), .int .i64 bits] w (Num (.int .i64 n) w) := by
  unfold Num
  have hp := fun W => parse_fit h W
  have hf := fun W (hb : Below w.heap.size w W) => format_int n W h.bd.1 h.bd.2 (he.on hb)
  unfold Txt at hf
  obtain ⟨t, ht⟩ : ∃ t, Lib.itoa n = t := ⟨_, rfl⟩
  rw [ht] at hp hf ⊢
  have heq : ((S t).toList == (S t).toList) = true := by simp
  clear he h ht
  go_enter Tryz.func87, Tryz.ntmps87
  go_wp2_with (first
    | (go_at_call 103; refine (hp _).mono ?_; rintro e w1 ⟨rfl, hb1⟩; have HB1 := Lib.hid hb1; clear hb1 hp)
    | (go_at_call 79; refine (hf _ HB1.out).mono ?_; rintro e w2 ⟨rfl, hb2⟩; have HB2 := Lib.hid (HB1.out.trans (hb2.mono HB1.out.size)); clear hb2 hf)
    | (go_at_call 43; refine (must_yes _).mono ?_; rintro e w3 ⟨rfl, rfl⟩))
  go_ret
  exact ⟨rfl, HB2.out⟩
theorem read_count (bits n : Int) (w : World) (h : FitB bits n) (hn : 0 ≤ n) (he : Env w) : Calls Tryz.prog 89 #[.string (S (Lib.itoa n)), .int .i64 bits] w (Num (.int .i64 n) w) := by
  have hp := read_number bits n w h he
  unfold Num at hp ⊢
  obtain ⟨t, ht⟩ : ∃ t, Lib.itoa n = t := ⟨_, rfl⟩
  rw [ht] at hp ⊢
  have hd : decide (0 ≤ n) = true := by simpa using hn
  clear he h ht
  go_enter Tryz.func89, Tryz.ntmps89
  go_wp2_with (first
    | (go_at_call 87; refine hp.mono ?_; rintro e w1 ⟨rfl, hb1⟩; have HB1 := Lib.hid hb1; clear hb1 hp)
    | (go_at_call 43; refine (must_yes _).mono ?_; rintro e w3 ⟨rfl, rfl⟩))
  go_ret
  exact ⟨rfl, HB1.out⟩
end Go.Proofs.YthmibmofdmlgaaaGreatDoor

/-
  Proved here: readReg, readAhead, readOff of package asm read what regText and offText write. Conditions: the registers are at most 10, the offsets have 16 bits; the library's table.
-/
namespace Go.Proofs.YthmibmofdmlgaaaGreatDoor
open Go.RowKit
set_option linter.unusedVariables false

theorem cut_pre (c : UInt8) (t : List UInt8) (w : World) : Calls Tryz.prog 101 #[.string (S (c :: t)), .string (S [c])] w fun e w' => e = .returned (.tuple #[.string (S t), .bool true]) ∧ w' = w := by
  refine (Tryz.strings_CutPrefix (S (c :: t)) (S [c]) w).mono ?_
  rintro e w' ⟨rfl, rfl⟩
  refine ⟨?_, rfl⟩
  rw [S_data, S_data]
  simp [Lib.trimPrefix, Lib.hasPrefix, S]
theorem has_pre (c : UInt8) (t : List UInt8) (b : Bool) (hb : (t.head? == some c) = b) (w : World) : Calls Tryz.prog 102 #[.string (S t), .string (S [c])] w fun e w' => e = .returned (.bool b) ∧ w' = w := by
  refine (Tryz.strings_HasPrefix (S t) (S [c]) w).mono ?_
  rintro e w' ⟨rfl, rfl⟩
  refine ⟨?_, rfl⟩
  rw [S_data, S_data, ← hb]
  cases t with
  | nil => simp [Lib.hasPrefix]
  | cons a t =>
    simp only [Lib.hasPrefix, List.isPrefixOf, Bool.and_true, List.head?_cons]
    congr 2
    rw [Bool.eq_iff_iff]
    constructor <;> intro h <;> simp_all
set_option maxRecDepth 100000 in
theorem read_reg (r : Int) (w : World) (h0 : 0 ≤ r) (h1 : r ≤ 10) (he : Env w) : Calls Tryz.prog 85 #[.string (S (regT r))] w (Num (.int .u8 r) w) := by
  have hp := read_count 32 r w (by unfold FitB; omega) h0 he
  unfold regT
  unfold Num at hp ⊢
  obtain ⟨t, ht⟩ : ∃ t, Lib.itoa r = t := ⟨_, rfl⟩
  rw [ht] at hp ⊢
  have hc := cut_pre 114 t w
  have z0 : ({ data := #[114] } : ByteArray) = S [114] := rfl
  have hd : decide (r ≤ 10) = true := by simpa using h1
  have hw : IntKind.u8.wrap r = r := by simp [IntKind.wrap, IntKind.bits, IntKind.signed]; omega
  clear he ht
  go_enter Tryz.func85, Tryz.ntmps85
  go_wp2_with (first
    | (go_at_call 101; refine hc.mono ?_; rintro e w1 ⟨rfl, rfl⟩; clear hc)
    | (go_at_call 89; refine hp.mono ?_; rintro e w1 ⟨rfl, hb1⟩; have HB1 := Lib.hid hb1; clear hb1 hp)
    | (go_at_call 43; refine (must_yes _).mono ?_; rintro e w3 ⟨rfl, rfl⟩))
  go_ret
  exact ⟨rfl, HB1.out⟩
theorem read_ahead (o : Int) (w : World) (h0 : 0 ≤ o) (h1 : o ≤ 32767) (he : Env w) : Calls Tryz.prog 90 #[.string (S (43 :: Lib.itoa o))] w (Num (.int .i16 o) w) := by
  have hp := read_count 16 o w (by unfold FitB; omega) h0 he
  unfold Num at hp ⊢
  obtain ⟨t, ht⟩ : ∃ t, Lib.itoa o = t := ⟨_, rfl⟩
  rw [ht] at hp ⊢
  have hc := cut_pre 43 t w
  have z0 : ({ data := #[43] } : ByteArray) = S [43] := rfl
  have hw : IntKind.i16.wrap o = o := IntWalk.i16_in _ (by omega)
  clear he ht
  go_enter Tryz.func90, Tryz.ntmps90
  go_wp2_with (first
    | (go_at_call 101; refine hc.mono ?_; rintro e w1 ⟨rfl, rfl⟩; clear hc)
    | (go_at_call 89; refine hp.mono ?_; rintro e w1 ⟨rfl, hb1⟩; have HB1 := Lib.hid hb1; clear hb1 hp)
    | (go_at_call 43; refine (must_yes _).mono ?_; rintro e w3 ⟨rfl, rfl⟩))
  go_ret
  exact ⟨rfl, HB1.out⟩
theorem itoa_neg_head {o : Int} (h : o < 0) : (Lib.itoa o).head? = some 45 := by
  unfold Lib.itoa
  rw [if_pos h]
  rfl
theorem read_off (o : Int) (w : World) (h0 : -32768 ≤ o) (h1 : o ≤ 32767) (he : Env w) : Calls Tryz.prog 106 #[.string (S (offT o))] w (Num (.int .i16 o) w) := by
  unfold offT
  have z0 : ({ data := #[45] } : ByteArray) = S [45] := rfl
  have hw : IntKind.i16.wrap o = o := IntWalk.i16_in _ (by omega)
  by_cases hn : o < 0
  · rw [if_pos hn]
    have hp := read_number 16 o w (by unfold FitB; omega) he
    have hh := has_pre 45 (Lib.itoa o) true (by rw [itoa_neg_head hn]; rfl) w
    unfold Num at hp ⊢
    obtain ⟨t, ht⟩ : ∃ t, Lib.itoa o = t := ⟨_, rfl⟩
    rw [ht] at hp hh ⊢
    clear he ht
    go_enter Tryz.func106, Tryz.ntmps106
    go_wp2_with (first
      | (go_at_call 102; refine hh.mono ?_; rintro e w1 ⟨rfl, rfl⟩; clear hh)
      | (go_at_call 87; refine hp.mono ?_; rintro e w1 ⟨rfl, hb1⟩; have HB1 := Lib.hid hb1; clear hb1 hp))
    go_ret
    exact ⟨rfl, HB1.out⟩
  · rw [if_neg hn]
    have hp := read_ahead o w (by omega) h1 he
    have hh := has_pre 45 (43 :: Lib.itoa o) false (by rfl) w
    unfold Num at hp ⊢
    obtain ⟨t, ht⟩ : ∃ t, 43 :: Lib.itoa o = t := ⟨_, rfl⟩
    rw [ht] at hp hh ⊢
    clear he ht
    go_enter Tryz.func106, Tryz.ntmps106
    go_wp2_with (first
      | (go_at_call 102; refine hh.mono ?_; rintro e w1 ⟨rfl, rfl⟩; clear hh)
      | (go_at_call 90; refine hp.mono ?_; rintro e w1 ⟨rfl, hb1⟩; have HB1 := Lib.hid hb1; clear hb1 hp))
    go_ret
    exact ⟨rfl, HB1.out⟩
end Go.Proofs.YthmibmofdmlgaaaGreatDoor
