/-
  Proved here: what Word of package objs gives. Conditions: a context that reads as one.
-/
import Derived.Test.YtcdpmggjdmibjaaZLoad
namespace Go.Proofs.Ytcdpmggjdmibjaa
open Go.RowKit

def noWord : Value := .tuple #[.int .u64 0, .int .i64 (-1), .bool false]
theorem right_at {c : Cx} {i : Nat} (h : rightB c = true) (hi : i < 8) : c.objs.length ≤ 8 ∧ wordB c.objs (lettH c.hook) (c.words.getD i 0) i = true := by
  unfold rightB at h
  simp only [Bool.and_eq_true, decide_eq_true_eq, List.all_eq_true, List.mem_range] at h
  exact ⟨h.1.1.2, h.2 i hi⟩
theorem word_small {objs : List Kob} {z x : Int} (h : wordZ objs z x = true) (hz : z ≠ 110) (h8 : objs.length ≤ 8) : x ≤ 8 := by
  unfold wordZ at h
  rw [if_neg (by simpa using hz)] at h
  by_cases hx : x = 0
  · omega
  · rw [if_neg (by simpa using hx)] at h
    simp only [Bool.and_eq_true, decide_eq_true_eq] at h
    omega
attribute [local go_sem ↓] loadCx_veil
theorem word_none17 (C : Array Value) (c : Cx) (i : Int) (w : World) (hx : CxX w C c) (h : ¬ (1 ≤ c.hook ∧ c.hook ≤ 16)) : Calls Try.prog 10 #[.agg C, .int .i64 i] w (Tells noWord w) := by
  have hc0 := (box_cells w C 26 0).trans hx.c0
  generalize c.hook = hook at h hc0
  have HK := Lib.hid (kind_none hook i · h)
  clear h hx
  go_enter Try.func10, Try.ntmps10
  go_wp2_with (go_at_call 27; refine (HK.out _).mono ?_; rintro e w1 ⟨rfl, hb1⟩; have HB := Lib.hid (below_box hb1); clear hb1)
  go_ret3
  exact ⟨rfl, HB.out⟩
theorem word_out17 (C : Array Value) (c : Cx) (kk : Nat) (i : Int) (w : World) (hx : CxX w C c) (h1 : 1 ≤ kk) (h2 : kk ≤ 16) (hk : c.hook = kk) (h : ¬ (0 ≤ i ∧ i < (kindL kk).length)) : Calls Try.prog 10 #[.agg C, .int .i64 i] w (Tells noWord w) := by
  have hc0 := (box_cells w C 26 0).trans hx.c0
  rw [hk] at hc0
  have HK := Lib.hid (kind_out kk i · h1 h2 h)
  clear h hx
  go_enter Try.func10, Try.ntmps10
  go_wp2_with (go_at_call 27; refine (HK.out _).mono ?_; rintro e w1 ⟨rfl, hb1⟩; have HB := Lib.hid (below_box hb1); clear hb1)
  go_ret3
  exact ⟨rfl, HB.out⟩
theorem word_in17 (C : Array Value) (c : Cx) (kk i : Nat) (w : World) (hx : CxX w C c) (h1 : 1 ≤ kk) (h2 : kk ≤ 16) (hk : c.hook = kk) (h : i < (lettB kk).size) : Calls Try.prog 10 #[.agg C, .int .i64 i] w (Tells (wordV c i) w) := by
  have hc0 := (box_cells w C 26 0).trans hx.c0
  rw [hk] at hc0
  have hl5 := (lettB_pos kk h1 h2).2
  have hlen := kind_len kk h1 h2
  obtain ⟨hkl, hz⟩ := kind_lett kk i h1 h2 h
  have hkc := fun w => kind_yes kk i w h1 h2 (by omega)
  rw [hkl] at hkc
  have hlh : lettH c.hook = lettB kk := by unfold lettH; rw [hk, if_pos (by omega)]; rfl
  have hcw := (box_cells w C 26 (1 + i)).trans (hx.cw i (by omega))
  have hxb := hx.bw i
  have hld := fun (W : World) (hb : Below (w.alloc (.cells C 26)).heap.size (w.alloc (.cells C 26)) W) => run_loadCx W w.heap.size C 26 (0, 0) ((hb.block w.heap.size (by simp)).trans (heap_alloc_new _ _)) hx.size
  have hrc := fun (W : World) (hb : Below w.heap.size w W) => right17 C c W (hx.stay hb)
  have hwv : wordV c i = if rightB c = true then (if byteAt (lettB kk) i = 110 then .tuple #[.int .u64 (c.words.getD i 0), .int .i64 (-1), .bool true] else .tuple #[.int .u64 0, .int .i64 (c.words.getD i 0 - 1), .bool true]) else noWord := by
    unfold wordV noWord
    rw [hlh, Int.toNat_natCast]
    by_cases hr : rightB c = true
    · rw [if_pos ⟨hr, by omega, by omega⟩, if_pos hr]
    · rw [if_neg (fun hh => hr hh.1), if_neg hr]
  rw [hwv]
  have hsm := fun (hr : rightB c = true) (hne : byteAt (lettB kk) i ≠ 110) => by
    obtain ⟨h8, hwb⟩ := right_at (i := i) hr (by omega)
    rw [hlh, wordB_in h] at hwb
    exact word_small hwb hne h8
  obtain ⟨z, hzz⟩ : ∃ z, byteAt (lettB kk) i = z := ⟨_, rfl⟩
  rw [hzz] at hz hkc hsm ⊢
  obtain ⟨kd, hkd⟩ : ∃ kd, lettI z = kd := ⟨_, rfl⟩
  rw [hkd] at hkc
  have hk0 : (kd == 0) = (z == 110) := by rw [← hkd]; rcases hz with rfl | rfl | rfl | rfl <;> rfl
  obtain ⟨x, hxx⟩ : ∃ x, c.words.getD i 0 = x := ⟨_, rfl⟩
  rw [hxx] at hcw hxb hsm ⊢
  have HLD := Lib.hid hld
  have HRC := Lib.hid hrc
  have HKC := Lib.hid hkc
  have HCW := Lib.hid hcw
  have hib : i < 8 := by omega
  unfold noWord
  cases hR : rightB c
  · rw [if_neg (by simp)]
    have HR := Lib.hid hR
    clear hld hrc hkc hcw hwv hsm hkd hxx hzz hz hk0 hkl hlen hlh hx hk h1 h2 h hR
    go_enter Try.func10, Try.ntmps10
    go_wp2_with (first
      | (go_at_call 27; refine (HKC.out _).mono ?_; rintro e w1 ⟨rfl, hb1⟩; have hl1 := HLD.out _ hb1; have HB := Lib.hid hb1; clear hb1)
      | (go_at_call 8; refine (HRC.out _ (below_box HB.out)).mono ?_; rintro e w2 ⟨rfl, hb2⟩; rw [HR.out]; have HB2 := Lib.hid hb2; clear hb2))
    go_ret3
    exact ⟨rfl, (below_box HB.out).trans (HB2.out.mono (below_box HB.out).size)⟩
  · rw [if_pos rfl]
    have HR := Lib.hid hR
    have hsm1 := hsm hR
    clear hld hrc hkc hcw hwv hsm hkd hxx hzz hz hkl hlen hlh hx hk h1 h2 h hR
    by_cases hz110 : z = 110
    · rw [if_pos hz110]
      have hkz : (kd == 0) = true := by rw [hk0, hz110]; rfl
      clear hk0 hsm1
      go_enter Try.func10, Try.ntmps10
      go_upto_if 22 with (first
        | (go_at_call 27; refine (HKC.out _).mono ?_; rintro e w1 ⟨rfl, hb1⟩; have hl1 := HLD.out _ hb1; have HB := Lib.hid hb1; clear hb1)
        | (go_at_call 8; refine (HRC.out _ (below_box HB.out)).mono ?_; rintro e w2 ⟨rfl, hb2⟩; rw [HR.out]; have HB2 := Lib.hid hb2; clear hb2))
      have hcw2 := (HB2.out.cell (p := ⟨w.heap.size, 1 + i, none⟩) (by have := HB.out.size; simp at this ⊢; omega)).trans ((HB.out.cell (p := ⟨w.heap.size, 1 + i, none⟩) (by simp)).trans HCW.out)
      go_wp2
      go_ret3
      exact ⟨rfl, (below_box HB.out).trans (HB2.out.mono (below_box HB.out).size)⟩
    · rw [if_neg hz110]
      have hkz : (kd == 0) = false := by rw [hk0]; simpa using hz110
      have hx8 := hsm1 hz110
      have e1 : IntKind.i64.wrap x = x := IntWalk.i64_in _ (by omega)
      have e2 : IntKind.i64.wrap (x - 1) = x - 1 := IntWalk.i64_in _ (by omega)
      clear hk0 hsm1
      go_enter Try.func10, Try.ntmps10
      go_upto_if 22 with (first
        | (go_at_call 27; refine (HKC.out _).mono ?_; rintro e w1 ⟨rfl, hb1⟩; have hl1 := HLD.out _ hb1; have HB := Lib.hid hb1; clear hb1)
        | (go_at_call 8; refine (HRC.out _ (below_box HB.out)).mono ?_; rintro e w2 ⟨rfl, hb2⟩; rw [HR.out]; have HB2 := Lib.hid hb2; clear hb2))
      have hcw2 := (HB2.out.cell (p := ⟨w.heap.size, 1 + i, none⟩) (by have := HB.out.size; simp at this ⊢; omega)).trans ((HB.out.cell (p := ⟨w.heap.size, 1 + i, none⟩) (by simp)).trans HCW.out)
      go_wp2
      go_quiet (fail)
      go_wp2
      go_ret3
      exact ⟨rfl, ((below_box HB.out).trans (HB2.out.mono (below_box HB.out).size)).trans ((below_drewN _ _).mono (Nat.le_trans (below_box HB.out).size HB2.out.size))⟩
theorem word17 (C : Array Value) (c : Cx) (i : Int) (w : World) (hx : CxX w C c) : Calls Try.prog 10 #[.agg C, .int .i64 i] w (Tells (wordV c i) w) := by
  by_cases h : 1 ≤ c.hook ∧ c.hook ≤ 16
  · obtain ⟨kk, hk⟩ := Int.eq_ofNat_of_zero_le (show 0 ≤ c.hook by omega)
    have hlh : lettH c.hook = lettB kk := by unfold lettH; rw [hk, if_pos (by omega)]; rfl
    have hlen := kind_len kk (by omega) (by omega)
    by_cases hi : 0 ≤ i ∧ i < (kindL kk).length
    · obtain ⟨j, rfl⟩ := Int.eq_ofNat_of_zero_le hi.1
      exact word_in17 C c kk j w hx (by omega) (by omega) hk (by omega)
    · have e : wordV c i = noWord := by
        unfold wordV
        rw [if_neg (fun hh => hi ⟨hh.2.1, by rw [hlen]; rw [hlh] at hh; exact hh.2.2⟩)]
        rfl
      rw [e]
      exact word_out17 C c kk i w hx (by omega) (by omega) hk hi
  · have e : wordV c i = noWord := by
      unfold wordV
      rw [right_none h, if_neg (by simp)]
      rfl
    rw [e]
    exact word_none17 C c i w hx h
end Go.Proofs.Ytcdpmggjdmibjaa
