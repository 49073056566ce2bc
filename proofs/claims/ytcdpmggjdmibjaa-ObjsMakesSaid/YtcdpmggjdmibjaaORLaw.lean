/-
  Proved here: the law ObjsRight walked, over whatever package keeps the contracts. Conditions: Acts17.
-/
import Derived.Test.YtcdpmggjdmibjaaOAlive
import Derived.Deep.RegionWith
import Derived.Deep.RegionHeld
namespace Go.Proofs.Ytcdpmggjdmibjaa
open Go.RowKit

def TrueB (w : World) (e : Ending) (w' : World) : Prop := e = .returned (.bool true) ∧ Below w.heap.size w w'
/-- A context's box, and what it leads to. -/
structure Held (w W : World) (C : Array Value) (c : Cx) : Prop where
  below : Below w.heap.size w W
  box : W.heap[w.heap.size]? = some (.cells C 26 (0, 0))
  cx : CxX W C c
theorem Held.stay {w W W' : World} {C : Array Value} {c : Cx} (h : Held w W C c) (hb : Below W.heap.size W W') : Held w W' C c :=
  ⟨h.below.trans (hb.mono h.below.size), (hb.block _ (Array.getElem?_eq_some_iff.1 h.box).1).trans h.box, h.cx.stay hb⟩
theorem Held.ld {w W : World} {C : Array Value} {c : Cx} (h : Held w W C c) : (loadCxV (.pointer (some ⟨w.heap.size, 0, none⟩))).run Try.prog W = .ok (.agg C) W := run_loadCx W w.heap.size C 26 (0, 0) h.box h.cx.size
theorem Held.new {w : World} {C : Array Value} {c : Cx} (h : CxX w C c) : Held w (w.alloc (.cells C 26)) C c :=
  ⟨(Below.refl _ _).alloc (Nat.le_refl _) _, heap_alloc_new _ _, h.stay ((Below.refl _ _).alloc (Nat.le_refl _) _)⟩
theorem Held.cell {w W : World} {C : Array Value} {c : Cx} (h : Held w W C c) (j : Nat) : W.cell? ⟨w.heap.size, j, none⟩ = C[j]? := cell_of_row _ _ _ _ _ _ h.box
theorem Held.drew {w W : World} {C : Array Value} {c : Cx} (h : Held w W C c) : Held w W.drew C c := h.stay (Below.refl _ _).drew
theorem right_parts {c : Cx} (h : rightB c = true) : 0 < (lettH c.hook).size ∧ c.objs.length ≤ 8 ∧ ∀ i, i < 8 → wordB c.objs (lettH c.hook) (c.words.getD i 0) i = true := by
  unfold rightB at h
  simp only [Bool.and_eq_true, decide_eq_true_eq, List.all_eq_true, List.mem_range] at h
  exact ⟨h.1.1.1, h.1.1.2, h.2⟩
theorem right_hook {c : Cx} (h : rightB c = true) : 1 ≤ c.hook ∧ c.hook ≤ 16 := by
  have h0 := (right_parts h).1
  unfold lettH at h0
  split at h0
  · assumption
  · exact absurd h0 (by decide)
theorem word_bd {c : Cx} (h : rightB c = true) {j : Nat} (hj : j < (lettH c.hook).size) (hz : ¬ byteAt (lettH c.hook) j = 110) : c.words.getD j 0 ≤ 8 := by
  obtain ⟨-, h8, hw⟩ := right_parts h
  have h5 := lettH_len c.hook
  have hw := hw j (by omega)
  have hb : byteAt (lettH c.hook) j = ((lettH c.hook)[j].toNat : Int) := by unfold byteAt; rw [dif_pos hj]
  rw [hb] at hz
  by_cases hx : c.words.getD j 0 = 0
  · omega
  · by_cases hf : c.words.getD j 0 ≤ c.objs.length
    · omega
    · rw [word_far hj (by simpa using hz) (by simpa using hx) hf] at hw
      cases hw
def nameH (hook : Int) : ByteArray := if 1 ≤ hook ∧ hook ≤ 16 then nameB hook.toNat else ⟨#[]⟩
def mostH (hook : Int) : Int := if 1 ≤ hook ∧ hook ≤ 16 then mostI hook.toNat else 0
/-- The document's Row of any number. -/
theorem row_all (hook : Int) (w : World) : Calls Try.prog 11 #[.int .i64 hook] w (Tells (.tuple #[.string (nameH hook), .string (lettH hook), .int .u64 (mostH hook)]) w) := by
  by_cases h : 1 ≤ hook ∧ hook ≤ 16
  · have e : hook = ((hook.toNat : Nat) : Int) := by omega
    have hr := row_yes hook.toNat w (by omega) (by omega)
    unfold nameH lettH mostH
    rw [if_pos h, if_pos h, if_pos h]
    rw [← e] at hr
    exact hr
  · have hr := row_no hook w h
    unfold nameH lettH mostH
    rw [if_neg h, if_neg h, if_neg h]
    exact hr
theorem byte_at {s : ByteArray} {j : Nat} (h : j < s.size) : (s[j].toNat : Int) = byteAt s j := by unfold byteAt; rw [dif_pos h]
theorem held_step {w W W' : World} {C : Array Value} {c : Cx} (h : Hid (Held w W C c)) (hb : Below W.heap.size W W') : Hid (Held w W' C c) := Lib.hid (h.out.stay hb)
attribute [local go_sem ↓] loadCx_veil
set_option maxHeartbeats 1000000 in
set_option maxRecDepth 100000 in
theorem right_law (A : Acts17) (C : Array Value) (c : Cx) (i : Int) (w : World) (hx : CxX w C c) (hi : -9223372036854775808 ≤ i ∧ i ≤ 9223372036854775807) : Calls Try.prog 3 #[.agg C, .int .i64 i] w (TrueB w) := by
  have HH := Lib.hid (Held.new hx)
  obtain ⟨R, hR⟩ : ∃ R, rightB c = R := ⟨_, rfl⟩
  have HR := Lib.hid hR
  have HX0 := Lib.hid hx.c0
  have HXW := Lib.hid hx.cw
  have HBW := Lib.hid hx.bw
  clear hx hR
  go_enter Try.func3, Try.ntmps3
  go_wp2_with fail
  refine (alive17 A _).mono ?_
  rintro e w1 ⟨rfl, hb1⟩
  have H1 := Lib.hid (HH.out.stay hb1)
  clear hb1 HH
  have hld := H1.out.ld
  go_wp2_with fail
  refine (great_law C c _ H1.out.cx).mono ?_
  rintro e w2 ⟨g, rfl, hb2⟩
  have H2 := Lib.hid (H1.out.stay hb2)
  clear hb2 hld
  cases g
  · go_upto_region 5 with fail
    go_cut [19] (fun x wx => x = .bool false ∧ Held w wx C c)
    case first =>
      have hS0 := H2.out.drew.ld
      have hT0 := Lib.hid H2.out.drew
      go_region_held (fun W => (loadCxV (.pointer (some ⟨w.heap.size, 0, none⟩))).run Try.prog W = .ok (.agg C) W ∧ Hid (Held w W C c))
        (first
          | exact ⟨hS0, hT0⟩
          | exact ⟨hL3, hT3⟩)
        (first
          | (go_at_call 8; refine (A.right C c _ (Held.cx (w := w) (Hid.out (by assumption)))).mono ?_; rintro e w3 ⟨rfl, hb3⟩; rw [HR.out]; have hT3 := held_step (w := w) (C := C) (c := c) (by assumption) hb3; have hL3 := hT3.out.ld; clear hb3)
          | (go_at_call 9; refine (right_ref C c _ (Held.cx (w := w) (Hid.out (by assumption)))).mono ?_; rintro e w3 ⟨rfl, hb3⟩; rw [HR.out]; have hT3 := held_step (w := w) (C := C) (c := c) (by assumption) hb3; have hL3 := hT3.out.ld; clear hb3))
      go_wp2_with fail
      go_meet
      case rel => exact ⟨by simp, Hid.out (by assumption)⟩
    obtain ⟨rfl, hh⟩ := hcut
    have H3 := Lib.hid hh
    have hld := H3.out.ld
    clear hh H2 H1
    go_wp2_with fail
    have hwd := A.word C c i wc H3.out.cx hi
    obtain ⟨ws, hws⟩ : ∃ ws, lettH c.hook = ws := ⟨_, rfl⟩
    have hws5 := lettH_len c.hook
    rw [hws] at hws5
    have HWS := Lib.hid hws
    by_cases hv : R = true ∧ 0 ≤ i ∧ i < ws.size
    · obtain ⟨rfl, i0, i1⟩ := hv
      obtain ⟨j, rfl⟩ := Int.eq_ofNat_of_zero_le i0
      have hj : j < ws.size := by omega
      have hjb : j < 8 := by omega
      obtain ⟨x, hx⟩ : ∃ x, c.words.getD j 0 = x := ⟨_, rfl⟩
      have hxw := HXW.out j hjb
      have hxb := HBW.out j
      rw [hx] at hxw hxb
      have hzz := byte_at hj
      by_cases hz : byteAt ws j = 110
      · have hwv : wordV c (j : Int) = .tuple #[.int .u64 x, .int .i64 (-1), .bool true] := by
          unfold wordV
          rw [hws, Int.toNat_natCast, if_pos ⟨HR.out, by omega, by omega⟩, if_pos hz, hx]
        rw [hwv] at hwd
        rw [hz] at hzz
        have HWD := Lib.hid hwd
        clear hwv hwd hws hx hz i0
        refine HWD.out.mono ?_
        rintro e w4 ⟨rfl, hb4⟩
        have H4 := Lib.hid (H3.out.stay hb4)
        have hc0 := (H4.out.cell 0).trans HX0.out
        clear hb4 hld
        go_wp2_with fail
        refine (row_all c.hook _).mono ?_
        rintro e w5 ⟨rfl, hb5⟩
        rw [HWS.out]
        have H5 := Lib.hid (H4.out.stay hb5)
        have hld5 := H5.out.ld
        clear hb5 hc0
        go_wp2_with fail
        refine (right_ref C c _ H5.out.cx).mono ?_
        rintro e w6 ⟨rfl, hb6⟩
        rw [HR.out]
        have H6 := Lib.hid (H5.out.stay hb6)
        clear hb6 hld5
        have hcw := (H6.out.cell (1 + j)).trans hxw
        clear hxw
        go_wp2
        go_ret
        exact ⟨rfl, H6.out.below⟩
      · have hx8 : x ≤ 8 := by rw [← hx]; exact word_bd HR.out (by rw [hws]; exact hj) (by rw [hws]; exact hz)
        have hwv : wordV c (j : Int) = .tuple #[.int .u64 0, .int .i64 (x - 1), .bool true] := by
          unfold wordV
          rw [hws, Int.toNat_natCast, if_pos ⟨HR.out, by omega, by omega⟩, if_neg hz, hx]
        rw [hwv] at hwd
        have hzb : (byteAt ws j == 110) = false := by simpa using hz
        rw [← hzz] at hzb
        have HWD := Lib.hid hwd
        clear hwv hwd hws hx hz i0 hzz
        refine HWD.out.mono ?_
        rintro e w4 ⟨rfl, hb4⟩
        have H4 := Lib.hid (H3.out.stay hb4)
        have hc0 := (H4.out.cell 0).trans HX0.out
        clear hb4 hld
        go_wp2_with fail
        refine (row_all c.hook _).mono ?_
        rintro e w5 ⟨rfl, hb5⟩
        rw [HWS.out]
        have H5 := Lib.hid (H4.out.stay hb5)
        have hld5 := H5.out.ld
        clear hb5 hc0
        go_wp2_with fail
        refine (right_ref C c _ H5.out.cx).mono ?_
        rintro e w6 ⟨rfl, hb6⟩
        rw [HR.out]
        have H6 := Lib.hid (H5.out.stay hb6)
        clear hb6 hld5
        have hcw := (H6.out.cell (1 + j)).trans hxw
        clear hxw
        go_wp2
        go_ret
        exact ⟨rfl, H6.out.below⟩
    · have hwv : wordV c i = .tuple #[.int .u64 0, .int .i64 (-1), .bool false] := by
        unfold wordV
        rw [hws, if_neg (by rw [HR.out]; exact hv)]
      rw [hwv] at hwd
      have HWD := Lib.hid hwd
      have HV := Lib.hid hv
      clear hwv hwd hws hv
      refine HWD.out.mono ?_
      rintro e w4 ⟨rfl, hb4⟩
      have H4 := Lib.hid (H3.out.stay hb4)
      have hc0 := (H4.out.cell 0).trans HX0.out
      clear hb4 hld
      go_wp2_with fail
      refine (row_all c.hook _).mono ?_
      rintro e w5 ⟨rfl, hb5⟩
      rw [HWS.out]
      have H5 := Lib.hid (H4.out.stay hb5)
      have hld5 := H5.out.ld
      clear hb5 hc0
      go_wp2_with fail
      refine (right_ref C c _ H5.out.cx).mono ?_
      rintro e w6 ⟨rfl, hb6⟩
      rw [HR.out]
      have H6 := Lib.hid (H5.out.stay hb6)
      clear hb6 hld5
      cases R
      · go_wp2
        go_ret
        exact ⟨rfl, H6.out.below⟩
      · by_cases i0 : i < 0
        · go_wp2
          go_ret
          exact ⟨rfl, H6.out.below⟩
        · have i1 : (ws.size : Int) ≤ i := by
            have h := HV.out
            apply Int.not_lt.1
            intro hlt
            exact h ⟨rfl, by omega, hlt⟩
          go_wp2
          go_ret
          exact ⟨rfl, H6.out.below⟩
  · go_wp2
    go_ret
    exact ⟨rfl, H2.out.below⟩
end Go.Proofs.Ytcdpmggjdmibjaa
