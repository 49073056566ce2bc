import Derived.Test.YthmibmofdmlgaaaGreatDoorG06
import Derived.Deep.RegionHeld
import Derived.Test.YthmibmofdmlgaaaGreatDoorHLine
/-
  Proved here: readPlace of package asm reads what placeText writes. Conditions: the register is at most 10, the offset has 16 bits; the library's table.
-/
namespace Go.Proofs.YthmibmofdmlgaaaGreatDoor
open Go.RowKit
set_option linter.unusedVariables false

theorem cut_suf (c : UInt8) (t : List UInt8) (ht : t.length ≤ 1000) (w : World) : Calls Tryz.prog 104 #[.string (S (t ++ [c])), .string (S [c])] w fun e w' => e = .returned (.tuple #[.string (S t), .bool true]) ∧ w' = w := by
  refine (Tryz.strings_CutSuffix (S (t ++ [c])) (S [c]) w (by rw [S_size]; simp; omega)).mono ?_
  rintro e w' ⟨rfl, rfl⟩
  refine ⟨?_, rfl⟩
  rw [S_data, S_data]
  have h : Lib.hasSuffix (t ++ [c]) [c] = true := by
    unfold Lib.hasSuffix
    rw [List.isSuffixOf_iff_suffix]
    exact ⟨t, rfl⟩
  unfold Lib.trimSuffix
  rw [h]
  simp [S]
theorem idx_any (chars : List UInt8) (d : UInt8) (hd : chars.contains d = true) (b : List UInt8) : ∀ a : List UInt8, (∀ c ∈ a, chars.contains c = false) → Lib.indexAny (a ++ d :: b) chars = (a.length : Int)
  | [], _ => by
    rw [List.nil_append]
    unfold Lib.indexAny
    rw [if_pos hd]
    rfl
  | c :: a, h => by
    have ih := idx_any chars d hd b a (fun x hx => h x (List.mem_cons_of_mem _ hx))
    rw [List.cons_append]
    unfold Lib.indexAny
    rw [if_neg (by rw [h c (by simp)]; simp), ih, if_neg (by simp)]
    simp
theorem itoa_pos_byte {n : Int} (h : 0 ≤ n) : ∀ c ∈ Lib.itoa n, 48 ≤ c.toNat ∧ c.toNat ≤ 57 := by
  intro c hc
  rcases itoa_byte n c hc with h1 | ⟨h1, _⟩
  · exact h1
  · omega
theorem reg_byte {r : Int} (h : 0 ≤ r) : ∀ c ∈ regT r, c.toNat < 128 ∧ ([43, 45] : List UInt8).contains c = false := by
  intro c hc
  unfold regT at hc
  rcases List.mem_cons.1 hc with rfl | hc
  · exact ⟨by decide, by decide⟩
  · have h1 := itoa_pos_byte h c hc
    refine ⟨by omega, ?_⟩
    rw [List.contains_eq_mem]
    simp only [List.mem_cons, List.not_mem_nil, or_false, decide_eq_false_iff_not]
    rintro (rfl | rfl)
    · exact absurd h1.1 (by decide)
    · exact absurd h1.1 (by decide)
theorem off_byte (o : Int) : ∀ c ∈ offT o, c.toNat < 128 := by
  intro c hc
  unfold offT at hc
  have key : ∀ c ∈ Lib.itoa o, c.toNat < 128 := by
    intro c hc
    rcases itoa_byte o c hc with h1 | ⟨_, rfl⟩
    · omega
    · decide
  split at hc
  · exact key c hc
  · rcases List.mem_cons.1 hc with rfl | hc
    · decide
    · exact key c hc
theorem off_head (o : Int) : ∃ d b, offT o = d :: b ∧ ([43, 45] : List UInt8).contains d = true := by
  unfold offT
  split
  · rename_i h
    unfold Lib.itoa
    rw [if_pos h]
    exact ⟨45, _, rfl, by decide⟩
  · exact ⟨43, _, rfl, by decide⟩
theorem idx_place {r o : Int} (h : 0 ≤ r) (hl : (regT r ++ offT o).length ≤ 1000) (w : World) : Calls Tryz.prog 105 #[.string (S (regT r ++ offT o)), .string (S [43, 45])] w fun e w' => e = .returned (.int .i64 ((regT r).length : Int)) ∧ Below w.heap.size w w' := by
  have hb : ∀ (j : Nat) b, (regT r ++ offT o)[j]? = some b → b.toNat < 128 := by
    intro j b hj
    rcases List.mem_append.1 (List.mem_of_getElem? hj) with h1 | h1
    · exact (reg_byte h b h1).1
    · exact off_byte o b h1
  refine (Tryz.strings_IndexAny_laid (S (regT r ++ offT o)) (S [43, 45]) w (by rw [S_size]; omega) (by rw [S_size]; decide) hb ?_).mono ?_
  · intro j b hj
    have := List.mem_of_getElem? hj
    rw [S_data] at this
    simp only [List.mem_cons, List.not_mem_nil, or_false] at this
    rcases this with rfl | rfl <;> decide
  · rintro e w' ⟨rfl, hw⟩
    refine ⟨?_, hw⟩
    rw [S_data, S_data]
    obtain ⟨d, b, hd, hc⟩ := off_head o
    rw [hd, idx_any _ d hc b _ (fun c hc => (reg_byte h c hc).2)]
theorem S_take (a b : List UInt8) : (S (a ++ b)).extract 0 a.length = S a := by
  apply ByteArray.ext
  simp [S]
theorem S_drop (a b : List UInt8) : (S (a ++ b)).extract a.length (S (a ++ b)).size = S b := by
  apply ByteArray.ext
  simp [S, ByteArray.size]
set_option maxRecDepth 100000 in
theorem read_place (r o : Int) (w : World) (h0 : 0 ≤ r) (h1 : r ≤ 10) (o0 : -32768 ≤ o) (o1 : o ≤ 32767) (he : Env w) : Calls Tryz.prog 91 #[.string (S (placeT r o))] w fun e w' => e = .returned (.tuple #[.int .u8 r, .int .i16 o]) ∧ Below w.heap.size w w' := by
  have hl := placeT_len r o h0 (by omega) o0 o1
  unfold placeT at hl ⊢
  have hreg := fun W (hb : Below w.heap.size w W) => read_reg r W h0 h1 (he.on hb)
  have hoff := fun W (hb : Below w.heap.size w W) => read_off o W o0 o1 (he.on hb)
  have hidx := idx_place (r := r) (o := o) h0 (by simp at hl ⊢; omega) w
  have htk := S_take (regT r) (offT o)
  have hdr := S_drop (regT r) (offT o)
  have hass : regT r ++ (offT o ++ [93]) = (regT r ++ offT o) ++ [93] := by simp
  rw [hass] at hl ⊢
  have hll : (regT r).length ≤ (S (regT r ++ offT o)).size := by rw [S_size]; simp
  have hl2 : (regT r ++ offT o).length ≤ 1000 := by simp at hl ⊢; omega
  have hl3 : (S (regT r ++ offT o)).size ≤ 1000 := by rw [S_size]; exact hl2
  unfold Num at hreg hoff
  obtain ⟨t, ht⟩ : ∃ t, regT r ++ offT o = t := ⟨_, rfl⟩
  obtain ⟨u, hu⟩ : ∃ u, regT r = u := ⟨_, rfl⟩
  obtain ⟨v, hv⟩ : ∃ v, offT o = v := ⟨_, rfl⟩
  rw [ht] at hidx htk hdr hll hl2 hl3 ⊢
  rw [hu] at hidx htk hdr hll hreg
  rw [hv] at hdr hoff
  have hc1 := cut_pre 91 (t ++ [93]) w
  have hc2 := cut_suf 93 t hl2 w
  have z0 : ({ data := #[91] } : ByteArray) = S [91] := rfl
  have z1 : ({ data := #[93] } : ByteArray) = S [93] := rfl
  have z2 : ({ data := #[43, 45] } : ByteArray) = S [43, 45] := rfl
  obtain ⟨k, hk⟩ : ∃ k, u.length = k := ⟨_, rfl⟩
  rw [hk] at hidx htk hdr hll
  have hd : decide (0 ≤ (k : Int)) = true := by simp
  clear he ht hu hv hass hl hl2 hk
  go_enter Tryz.func91, Tryz.ntmps91
  go_wp2_with (first
    | (go_at_call 101; refine hc1.mono ?_; rintro e w1 ⟨rfl, hw⟩; rw [hw]; clear hw hc1)
    | (go_at_call 104; refine hc2.mono ?_; rintro e w1 ⟨rfl, hw⟩; rw [hw]; clear hw hc2)
    | (go_at_call 105; refine hidx.mono ?_; rintro e w1 ⟨rfl, hb1⟩; have HB1 := Lib.hid hb1; clear hb1 hidx)
    | (go_at_call 43; refine (must_yes _).mono ?_; rintro e w3 ⟨rfl, rfl⟩))
  have hS1 := HB1.out.drew
  go_region_held (fun W => Below w.heap.size w W)
    (first | exact hS1 | exact hS2 | exact hS3 | assumption)
    (first
      | (go_at_call 85; refine (hreg _ (by assumption)).mono ?_; rintro e w2 ⟨rfl, hb2⟩; have hS2 := Below.trans (show Below w.heap.size w _ by assumption) (hb2.mono (Below.size (by assumption))); clear hb2 hreg)
      | (go_at_call 106; refine (hoff _ (by assumption)).mono ?_; rintro e w3 ⟨rfl, hb3⟩; have hS3 := Below.trans (show Below w.heap.size w _ by assumption) (hb3.mono (Below.size (by assumption))); clear hb3 hoff))
  all_goals
    go_wp2
    go_ret2
    exact ⟨rfl, by assumption⟩
end Go.Proofs.YthmibmofdmlgaaaGreatDoor
