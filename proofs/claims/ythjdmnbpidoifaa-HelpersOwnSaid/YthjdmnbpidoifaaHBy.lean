/-
  Proved here: what By of package helpers gives; what the program's package does, put together. Conditions: the name is a string.
-/
import Derived.Test.YthjdmnbpidoifaaHOf
import Derived.Deep.QuietTactic
import Derived.BigQuiet
namespace Go.Proofs.Ythjdmnbpidoifaa
open Go.RowKit Go.MapKept

theorem by_clos16 (name : ByteArray) (k : Nat) (a1 a2 : Option Addr) (n1 n2 : Nat) (r : Int) (h : Nat) (w : World) (hn : w.cell? ⟨h, 0, none⟩ = some (.string name)) :
    Calls Try.prog 17 #[.agg #[.string (hnameB k), .slice a1 n1 n1, .slice a2 n2 n2, .int .u8 r], .pointer (some ⟨h, 0, none⟩)] w (Tells (.bool ((hnameB k).toList == name.toList)) w) := by
  obtain ⟨b, hb⟩ : ∃ b, ((hnameB k).toList == name.toList) = b := ⟨_, rfl⟩
  rw [hb]
  have hlt := World.block_lt_of_cell? w _ hn
  generalize hnameB k = nm at hb ⊢
  go_enter Try.func17, Try.ntmps17
  go_wp2
  go_ret
  exact ⟨rfl, (Below.refl _ _).alloc (Nat.le_refl _) _⟩
theorem by_found {name : ByteArray} {i : Nat} (hno : ∀ j, j < i → isHelp name j = false) (hi : i < 13) (hp : isHelp name i = true) : byH name = i + 1 := by
  have e : (List.range 13).find? (isHelp name) = some i := by
    rw [List.find?_eq_some_iff_getElem]
    refine ⟨hp, i, by simpa using hi, by simp, fun j hj => ?_⟩
    simp [hno j hj]
  unfold byH
  rw [e]
theorem by_none {name : ByteArray} (hno : ∀ j, j < 13 → isHelp name j = false) : byH name = 0 := by
  have e : (List.range 13).find? (isHelp name) = none := by
    rw [List.find?_eq_none]
    intro j hj
    simp [hno j (by simpa using hj)]
  unfold byH
  rw [e]
theorem no_more16 {name : ByteArray} {i : Nat} (hno : ∀ j, j < i → isHelp name j = false) (hp : isHelp name i = false) : ∀ j, j < i + 1 → isHelp name j = false := by
  intro j hj
  by_cases h : j = i
  · rw [h]; exact hp
  · exact hno j (by omega)
theorem HMap.keep {w w1 : World} {b : Nat} (hb : Below w.heap.size w w1) (h : HMap w b) : HMap w1 b := (hb.block b (Array.getElem?_eq_some_iff.1 h).1).trans h
theorem ret_num {a b : Int} (h : a = b) : Ending.returned (.int .i64 a) = .returned (.int .i64 b) := by rw [h]
theorem first16 (name : ByteArray) (b h : Nat) (w : World) (hm : HMap w b) (hn : w.cell? ⟨h, 0, none⟩ = some (.string name)) : Calls Try.prog 16 #[.map (some b), .func (.func 17) #[] #[.pointer (some ⟨h, 0, none⟩)]] w (Tells (.int .i64 (byH name)) w) := by
  have hbl : b < w.heap.size := (Array.getElem?_eq_some_iff.1 hm).1
  have hhl : h < w.heap.size := World.block_lt_of_cell? w _ hn
  obtain ⟨y, hy⟩ : ∃ y, byH name = y := ⟨_, rfl⟩
  rw [hy]
  have HY := Lib.hid hy
  have HL := Lib.hid hbl
  have HH := Lib.hid hhl
  have HM := Lib.hid hm
  have HN := Lib.hid hn
  clear hy hbl hhl hm hn
  go_enter Try.func16, Try.ntmps16
  go_wp2
  go_loopw [5] (fun v w1 => ∃ k : Nat, 1 ≤ k ∧ k ≤ 14 ∧ v = .int .i64 k ∧ (∀ j, j < k - 1 → isHelp name j = false) ∧ Below w.heap.size w w1) (fun v _ => 14 - (intOf v).toNat)
  case atStart => exact ⟨1, by omega, by omega, rfl, fun j hj => absurd hj (by omega), Below.refl _ _⟩
  case round =>
    obtain ⟨k, k1, k2, rfl, hno, hb⟩ := hrel
    have HNO := Lib.hid hno
    have HB := Lib.hid hb
    clear hno hb
    have hm1 := HMap.keep HB.out HM.out
    have hn1 := (HB.out.cell (p := ⟨h, 0, none⟩) HH.out).trans HN.out
    have hln := len16 hm1
    by_cases hlt : k ≤ 13
    · have hlk := look_yes hm1 k k1 hlt false
      simp only [Bool.false_eq_true, if_false] at hlk
      unfold descV slP at hlk
      have hcl := fun a1 a2 n1 n2 r => by_clos16 name k a1 a2 n1 n2 r h _ hn1
      obtain ⟨p, hp⟩ : ∃ p, isHelp name (k - 1) = p := ⟨_, rfl⟩
      have hp2 : ((hnameB k).toList == name.toList) = p := by rw [← hp, isHelp, show k - 1 + 1 = k by omega]
      rw [hp2] at hcl
      have HP := Lib.hid hp
      generalize hnameB k = nm at hlk hcl
      have HC := Lib.hid hcl
      clear hp hp2 hm1 hn1 hcl
      cases p
      · go_wp2_with (go_at_call 17; refine (HC.out _ _ _ _ _).mono ?_; rintro e w2 ⟨rfl, hb2⟩; have HB2 := Lib.hid hb2; clear hb2)
        go_roundw
        case rel => exact ⟨k + 1, by omega, by omega, by go_num, by rw [show k + 1 - 1 = k - 1 + 1 by omega]; exact no_more16 HNO.out HP.out, HB.out.trans (HB2.out.mono HB.out.size)⟩
        case measure => simp [intOf]; omega
      · have HF := Lib.hid (by_found HNO.out (by omega) HP.out)
        go_wp2_with (go_at_call 17; refine (HC.out _ _ _ _ _).mono ?_; rintro e w2 ⟨rfl, hb2⟩; have HB2 := Lib.hid hb2; clear hb2)
        go_ret
        exact ⟨ret_num (by rw [← HY.out, HF.out]; omega), HB.out.trans (HB2.out.mono HB.out.size)⟩
    · obtain rfl : k = 14 := by omega
      have HF := Lib.hid (by_none HNO.out)
      clear hm1 hn1
      go_wp2
      go_ret
      exact ⟨ret_num (by rw [← HY.out, HF.out]; rfl), HB.out⟩
theorem by16 (name : ByteArray) (w : World) : Calls Try.prog 13 #[.string name] w (Tells (.int .i64 (byH name)) w) := by
  generalize hy : byH name = y
  have HF := Lib.hid (first16 name)
  rw [hy] at HF
  clear hy
  obtain ⟨b, hb0⟩ : ∃ b, w.heap.size + 1 = b := ⟨_, rfl⟩
  go_enter Try.func13, Try.ntmps13
  go_wp2_with (first
    | (go_at_call 14; refine (all_call _).mono ?_; rintro e W ⟨rfl, hm⟩; obtain ⟨hc, hf⟩ := boxed hm.below; have hc0 := hc 0; have hbx := hm.box; have HB := Lib.hid (below_box hm.below); rw [World.size_alloc, hb0] at hbx ⊢; have HX := Lib.hid (show HMap W b from hbx); have HC0 := Lib.hid hc0; clear hm hc hf hbx hc0)
    | (go_at_call 16; refine (HF.out b _ _ HX.out HC0.out).mono ?_; rintro e w2 ⟨rfl, hb2⟩; have HB2 := Lib.hid hb2; clear hb2))
  go_ret
  exact ⟨rfl, HB.out.trans (HB2.out.mono HB.out.size)⟩
/-- What the program's package does. -/
theorem acts16 : Acts16 := ⟨of_yes16, of_no16, count16, suits_yes16, suits_no16, by16⟩
end Go.Proofs.Ythjdmnbpidoifaa
