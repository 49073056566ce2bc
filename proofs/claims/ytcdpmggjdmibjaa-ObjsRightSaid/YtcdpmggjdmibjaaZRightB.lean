/-
  Proved here: what Right of package objs gives. Conditions: a context that reads as one.
-/
import Derived.Test.YtcdpmggjdmibjaaZRight
namespace Go.Proofs.Ytcdpmggjdmibjaa
open Go.RowKit

theorem right_none {c : Cx} (h : ¬ (1 ≤ c.hook ∧ c.hook ≤ 16)) : rightB c = false := by
  unfold rightB lettH
  rw [if_neg h]
  rfl
theorem right_objs {c : Cx} (h : c.objs.all typeB = false) : rightB c = false := by
  unfold rightB
  rw [h]
  simp
theorem right_is {c : Cx} {kk : Nat} (hk : c.hook = kk) (h1 : 1 ≤ kk) (h2 : kk ≤ 16) (h8 : c.objs.length ≤ 8) (ho : c.objs.all typeB = true) : rightB c = (List.range 8).all fun i => wordB c.objs (lettB kk) (c.words.getD i 0) i := by
  have hl : lettH c.hook = lettB kk := by unfold lettH; rw [hk, if_pos (by omega)]; rfl
  have h0 := (lettB_pos kk h1 h2).1
  unfold rightB
  rw [hl, decide_eq_true (by omega), decide_eq_true h8, ho]
  simp
theorem right17_no (C : Array Value) (c : Cx) (w : World) (hx : CxX w C c) (h : ¬ (1 ≤ c.hook ∧ c.hook ≤ 16)) : Calls Try.prog 8 #[.agg C] w (Tells (.bool (rightB c)) w) := by
  rw [right_none h]
  have hc0 := (box_cells w C 26 0).trans hx.c0
  generalize c.hook = hook at h hc0
  have HH := Lib.hid h
  clear h hx
  go_enter Try.func8, Try.ntmps8
  go_wp2_with (go_at_call 21; refine (of_no hook _ HH.out).mono ?_; rintro e w1 ⟨rfl, hb1⟩; have HB := Lib.hid (below_box hb1); clear hb1)
  go_ret
  exact ⟨rfl, HB.out.alloc HB.out.size _⟩
theorem right17_yes (C : Array Value) (c : Cx) (kk : Nat) (w : World) (hx : CxX w C c) (h1 : 1 ≤ kk) (h2 : kk ≤ 16) (hk : c.hook = kk) : Calls Try.prog 8 #[.agg C] w (Tells (.bool (rightB c)) w) := by
  have hc0 := (box_cells w C 26 0).trans hx.c0
  rw [hk] at hc0
  obtain ⟨a, k, h9, hrow⟩ := hx.c9
  have hbw := hx.bw
  have hbo := hx.bo
  unfold maxLen at hbo
  obtain ⟨n, hn⟩ : ∃ n, c.objs.length = n := ⟨_, rfl⟩
  obtain ⟨R, hR⟩ : ∃ R, rightB c = R := ⟨_, rfl⟩
  have hb0 : Below w.heap.size w (w.alloc (.cells C 26)) := (Below.refl _ _).alloc (Nat.le_refl _) _
  have hc9 := (box_cells w C 26 9).trans h9
  have hcw : ∀ i, i < 8 → (w.alloc (.cells C 26)).cell? ⟨w.heap.size, 1 + i, none⟩ = some (.int .u64 (c.words.getD i 0)) := fun i hi => (box_cells w C 26 (1 + i)).trans (hx.cw i hi)
  have HW := Lib.hid hbw
  have HC := Lib.hid hcw
  have HR := Lib.hid hR
  have HROW := Lib.hid (hrow.stay hb0)
  have HK := Lib.hid hk
  rw [hn] at hbo hc9
  rw [hR]
  have HN := Lib.hid hn
  clear hR hn hbw hcw hx h9 hrow hk hb0
  go_enter Try.func8, Try.ntmps8
  go_upto_region 2 with (go_at_call 21; refine (of_yes kk _ h1 h2).mono ?_; rintro e w1 ⟨p, rfl, hp, hr, hb1⟩; generalize hkl : (kindL kk).length = L; have HKL := Lib.hid hkl; have HP := Lib.hid hr; have HB := Lib.hid hb1; clear hb1 hr hp hkl)
  have hb2 : Below (w.alloc (.cells C 26)).heap.size (w.alloc (.cells C 26)) (w1.alloc (.cells #[.string (nameB kk), .slice (some ⟨p, 0, none⟩) L L, .int .u64 (mostI kk)] 55)) := HB.out.alloc HB.out.size _
  have hd1 : (w1.alloc (.cells #[.string (nameB kk), .slice (some ⟨p, 0, none⟩) L L, .int .u64 (mostI kk)] 55)).cell? ⟨w1.heap.size, 1, none⟩ = some (.slice (some ⟨p, 0, none⟩) L L) := box_cells w1 _ 55 1
  have hp2 := (Below.heap_alloc w1 (.cells #[.string (nameB kk), .slice (some ⟨p, 0, none⟩) L L, .int .u64 (mostI kk)] 55) p (Array.getElem?_eq_some_iff.1 HP.out).1).trans HP.out
  obtain ⟨W2, hW2⟩ : ∃ W2, w1.alloc (.cells #[.string (nameB kk), .slice (some ⟨p, 0, none⟩) L L, .int .u64 (mostI kk)] 55) = W2 := ⟨_, rfl⟩
  rw [hW2] at hb2 hd1 hp2 ⊢
  have hrow2 := HROW.out.stay hb2
  have hc92 : W2.cell? ⟨w.heap.size, 9, none⟩ = some (.slice a n k) := (hb2.cell (p := ⟨w.heap.size, 9, none⟩) (by simp)).trans hc9
  have hcap : Capt W2 w1.heap.size w.heap.size kk c := ⟨⟨p, by rw [hd1, HKL.out], hp2⟩, fun i hi => (hb2.cell (p := ⟨w.heap.size, 1 + i, none⟩) (by simp)).trans (HC.out i hi), ⟨a, k, by rw [hc92, HN.out], hrow2⟩⟩
  have HCAP := Lib.hid hcap
  have HB2 := Lib.hid (below_box hb2)
  have HROW2 := Lib.hid hrow2
  clear hcap hb2 hrow2 hd1 hp2 hW2 HP HB HROW HC hc0 hc9
  by_cases h8 : n ≤ 8
  · have hcn := fun W (hr : ObRow W a c.objs) => containsNo_call c.objs a k W hr (by rw [HN.out]; exact h8)
    rw [HN.out] at hcn
    cases ho : c.objs.all typeB
    · have HF := Lib.hid (HR.out.symm.trans (right_objs ho))
      rw [ho] at hcn
      have HCN := Lib.hid hcn
      clear ho hcn hbo
      go_wp2_with (go_at_call 22; refine (HCN.out _ HROW2.out).mono ?_; rintro e w3 ⟨rfl, hb3⟩; have HB3 := Lib.hid hb3; clear hb3)
      go_ret
      exact ⟨by rw [HF.out]; rfl, HB2.out.trans (HB3.out.mono HB2.out.size)⟩
    · have hri := right_is HK.out h1 h2 (by rw [HN.out]; exact h8) ho
      rw [HR.out] at hri
      have HRI := Lib.hid hri
      have hsy := fun W (hc : Capt W w1.heap.size w.heap.size kk c) => says_right w1.heap.size w.heap.size kk c W hc h1 h2 HW.out (by rw [HN.out]; exact h8) ho
      have HSY := Lib.hid hsy
      rw [ho] at hcn
      have HCN := Lib.hid hcn
      clear ho hcn hri hbo hsy
      go_wp2_with (first
        | (go_at_call 22; refine (HCN.out _ HROW2.out).mono ?_; rintro e w3 ⟨rfl, hb3⟩; have HB3 := Lib.hid hb3; clear hb3)
        | (go_at_call 24; refine (allWords_call _ _ _ _ (HSY.out _ (HCAP.out.stay HB3.out))).mono ?_; rintro e w4 ⟨rfl, hb4⟩; have HB4 := Lib.hid hb4; clear hb4; rw [← HRI.out]))
      go_ret
      exact ⟨rfl, (HB2.out.trans (HB3.out.mono HB2.out.size)).trans (HB4.out.mono (Nat.le_trans HB2.out.size HB3.out.size))⟩
  · have HF := Lib.hid (HR.out.symm.trans (right_len (by rw [HN.out]; exact h8)))
    clear hbo
    go_wp2
    go_ret
    exact ⟨by rw [HF.out]; rfl, HB2.out⟩
theorem right17 (C : Array Value) (c : Cx) (w : World) (hx : CxX w C c) : Calls Try.prog 8 #[.agg C] w (Tells (.bool (rightB c)) w) := by
  by_cases h : 1 ≤ c.hook ∧ c.hook ≤ 16
  · obtain ⟨kk, hk⟩ := Int.eq_ofNat_of_zero_le (show 0 ≤ c.hook by omega)
    exact right17_yes C c kk w hx (by omega) (by omega) hk
  · exact right17_no C c w hx h
end Go.Proofs.Ytcdpmggjdmibjaa
