/-
  Proved here: what Make of package objs gives of as many parts as the hook has words. Conditions: as in the text before.
-/
import Derived.Test.YtcdpmggjdmibjaaZMake
namespace Go.Proofs.Ytcdpmggjdmibjaa
open Go.RowKit

attribute [local go_sem ↓] loadCx_veil loadPt_veil stoCx_veil
set_option maxHeartbeats 2000000 in
set_option maxRecDepth 100000 in
theorem make_all (hook now : Int) (l : List Pt) (a : Option Addr) (k kk : Nat) (w : World) (h1 : 1 ≤ kk) (h2 : kk ≤ 16) (hk : hook = kk) (hl : l.length = (kindL kk).length) (hrow : PtRow w a l) (hup : Ups l l.length) : Calls Try.prog 19 #[.int .i64 hook, .int .u64 now, .slice a l.length k] w (MadeQ hook now l w) := by
  have hlh : lettH hook = lettB kk := by unfold lettH; rw [hk, if_pos (by omega)]; rfl
  have hlb := kind_len kk h1 h2
  have hl5 := lettB_pos kk h1 h2
  have hkd : ∀ i, i < l.length → ∃ z, byteAt (lettH hook) i = z ∧ (kindL kk).getD i 0 = lettI z ∧ (lettI z == 0) = (z == 110) := fun i hi => by
    obtain ⟨e1, e2⟩ := kind_lett kk i h1 h2 (by omega)
    rw [hlh]
    refine ⟨_, rfl, e1, ?_⟩
    rcases e2 with e | e | e | e <;> rw [e] <;> rfl
  have hsz : (lettH hook).size = l.length := by rw [hlh]; omega
  obtain ⟨n, hn⟩ : ∃ n, l.length = n := ⟨_, rfl⟩
  have hn5 : n ≤ 5 := by omega
  have hn1 : 0 < n := by omega
  rw [hn] at hl ⊢
  have HKD := Lib.hid hkd
  have HSZ := Lib.hid hsz
  have HN := Lib.hid hn
  have HROW := Lib.hid hrow
  have HUP := Lib.hid hup
  have hof := fun W => of_yes kk W h1 h2
  have HK := Lib.hid hof
  have HL := Lib.hid hl.symm
  have hz0 := heap_alloc_new w (.cells zeroC 26)
  have hb0 : Below w.heap.size w (w.alloc (.cells zeroC 26)) := (Below.refl _ _).alloc (Nat.le_refl _) _
  obtain ⟨W1, hW1⟩ : ∃ W1, w.alloc (.cells zeroC 26) = W1 := ⟨_, rfl⟩
  rw [hW1] at hz0 hb0
  have hlt := (Array.getElem?_eq_some_iff.1 hz0).1
  have HW1 := Lib.hid hW1
  have HZ0 := Lib.hid hz0
  have HB0 := Lib.hid hb0
  clear hW1 hz0 hb0 hn hlh hlb hl5 hkd hsz hof hl hrow hup
  unfold zeroC at HW1
  subst hk
  go_enter Try.func19, Try.ntmps19
  go_upto_region 1 with fail
  rw [HW1.out]
  go_upto_region 2 with (go_at_call 21; refine (HK.out _).mono ?_; rintro e w1 ⟨p, rfl, hp, hr, hb1⟩; rw [HL.out]; have HP := Lib.hid hr; have HB1 := Lib.hid hb1; clear hb1 hr hp)
  have hb2 : Below W1.heap.size W1 (w1.alloc (.cells #[.string (nameB kk), .slice (some ⟨p, 0, none⟩) n n, .int .u64 (mostI kk)] 55)) := HB1.out.alloc HB1.out.size _
  have hd2 := heap_alloc_new w1 (.cells #[.string (nameB kk), .slice (some ⟨p, 0, none⟩) n n, .int .u64 (mostI kk)] 55)
  have hp2 := (Below.heap_alloc w1 (.cells #[.string (nameB kk), .slice (some ⟨p, 0, none⟩) n n, .int .u64 (mostI kk)] 55) p (Array.getElem?_eq_some_iff.1 HP.out).1).trans HP.out
  obtain ⟨D, hD⟩ : ∃ D, w1.heap.size = D := ⟨_, rfl⟩
  obtain ⟨W2, hW2⟩ : ∃ W2, w1.alloc (.cells #[.string (nameB kk), .slice (some ⟨p, 0, none⟩) n n, .int .u64 (mostI kk)] 55) = W2 := ⟨_, rfl⟩
  rw [hW2] at hb2 hd2 hp2 ⊢
  rw [hD] at hd2 ⊢
  have hz2 := (hb2.block w.heap.size hlt).trans HZ0.out
  have hbe2 : Bes W2 w.heap.size D p kk := ⟨hz2, by rw [HL.out]; exact hd2, hp2⟩
  have hd1 : W2.cell? ⟨D, 1, none⟩ = some (.slice (some ⟨p, 0, none⟩) n n) := by rw [cell_of_row _ _ _ _ _ _ hd2]; rfl
  have HB2 := Lib.hid (HB0.out.trans (hb2.mono HB0.out.size))
  have HBE2 := Lib.hid hbe2
  have hltW2 : w.heap.size < W2.heap.size := (Array.getElem?_eq_some_iff.1 hz2).1
  clear hz2 hb2 hp2 hbe2 hW2 hD hd2 HB1 HP HB0 HZ0 HW1
  have hput : ∀ W : World, (stoCxV (.pointer (some ⟨W.heap.size, 0, none⟩)) (.agg #[.int .i64 kk, .int .u64 0, .int .u64 0, .int .u64 0, .int .u64 0, .int .u64 0, .int .u64 0, .int .u64 0, .int .u64 0, .slice none 0 0, .int .u64 now])).run Try.prog (W.alloc (.cells #[.int .i64 0, .int .u64 0, .int .u64 0, .int .u64 0, .int .u64 0, .int .u64 0, .int .u64 0, .int .u64 0, .int .u64 0, .slice none 0 0, .int .u64 0] 26)) = .ok () (W.alloc (.cells (ctxCells kk (fun _ => 0) (.slice none 0 0) now) 26)) := fun W => by
    have h := run_stoCx (W.alloc (.cells zeroC 26)) W.heap.size zeroC (ctxCells kk (fun _ => 0) (.slice none 0 0) now) 26 (heap_alloc_new _ _) rfl rfl (ctx_one _ _ _ _ _ _)
    rw [World.setRow_alloc_new] at h
    exact h
  go_upto_region 5 with fail
  have hmk0 : Mk w (W2.alloc (.cells (ctxCells kk (fun _ => 0) (.slice none 0 0) now) 26)) W2.heap.size kk now (wsI l 0) (.slice none 0 0) (objsOf (l.take 0)) := ⟨by rw [heap_alloc_new]; rfl, ⟨[], World.ownsRow_nil _ _ _ _, fun i hi => absurd hi (Nat.not_lt_zero _)⟩, HB2.out.size, HB2.out.alloc HB2.out.size _⟩
  have hbe3 := HBE2.out.stay ((Below.refl _ _).alloc (Nat.le_refl _) (.cells (ctxCells kk (fun _ => 0) (.slice none 0 0) now) 26))
  obtain ⟨G, hG⟩ : ∃ G, W2.heap.size = G := ⟨_, rfl⟩
  obtain ⟨W3, hW3⟩ : ∃ W3, W2.alloc (.cells (ctxCells kk (fun _ => 0) (.slice none 0 0) now) 26) = W3 := ⟨_, rfl⟩
  rw [hW3, hG] at hmk0
  rw [hW3] at hbe3 ⊢
  rw [hG] at hltW2 ⊢
  have hRG : w.heap.size ≠ G := by omega
  have HMK0 := Lib.hid hmk0
  have HBE3 := Lib.hid hbe3
  have HRG := Lib.hid hRG
  clear hmk0 hbe3 hG hW3 hltW2 hRG HB2 HBE2 hput hd1 HK
  go_wp2
  go_loopw [34] (fun x W => ∃ i : Nat, i ≤ n ∧ x = .int .i64 i ∧ (∀ j, j < i → isN (l.getD j default) = (byteAt (lettH kk) j == 110)) ∧ (∃ v, Mk w W G kk now (wsI l i) v (objsOf (l.take i))) ∧ Bes W w.heap.size D p kk) (fun x _ => n - (intOf x).toNat)
  case atStart => exact ⟨0, by omega, rfl, fun j hj => absurd hj (Nat.not_lt_zero _), ⟨_, HMK0.out⟩, HBE3.out⟩
  case round =>
    obtain ⟨i, hi, rfl, hnum, hmk, hbe⟩ := hrel
    have HNUM := Lib.hid hnum
    have HMK := Lib.hid hmk
    have HBE := Lib.hid hbe
    clear hnum hmk hbe
    by_cases hlt2 : i < n
    · have hb := HMK.out.choose_spec.b
      obtain ⟨q, off, rfl, -, hr⟩ := HROW.out.stay hb (by rw [HN.out]; omega)
      obtain ⟨X, hX, hcs⟩ := hr i (by rw [HN.out]; exact hlt2)
      have hldP : (loadPtV (.pointer (some ⟨q, off + i * 16, none⟩))).run Try.prog wr = .ok (.agg X) wr := run_loadPt hX.size (fun j hj => by rw [Nat.add_assoc]; exact hcs j hj)
      have hput := put_part hX
      have hsz := hX.size
      have HX := Lib.hid (hX.stay ((Below.refl _ _).alloc (Nat.le_refl _) (.cells X 49)))
      clear hb hr hcs hX
      go_upto_region 8 with fail
      obtain ⟨z, hz, hkz, hz0⟩ := HKD.out i (by rw [HN.out]; exact hlt2)
      obtain ⟨pt, hpt⟩ : ∃ pt, l.getD i default = pt := ⟨_, rfl⟩
      rw [hpt] at HX
      obtain ⟨b0, hb0⟩ : ∃ b, isN pt = b := ⟨_, rfl⟩
      obtain ⟨kd, hkd⟩ : ∃ kd, lettI z = kd := ⟨_, rfl⟩
      rw [hkd] at hkz hz0
      have hal : Below wr.heap.size wr (wr.alloc (.cells X 49)) := (Below.refl _ _).alloc (Nat.le_refl _) _
      have hbes := HBE.out.stay hal
      have hmk4 : ∃ v, Mk w (wr.alloc (.cells X 49)) G kk now (wsI l i) v (objsOf (l.take i)) := ⟨_, HMK.out.choose_spec.stay hal⟩
      have hbx : ∀ j, (wr.alloc (.cells X 49)).cell? ⟨wr.heap.size, j, none⟩ = X[j]? := fun j => box_cells wr X 49 j
      have hlt4 : wr.heap.size < (wr.alloc (.cells X 49)).heap.size := by simp
      obtain ⟨W4, hW4⟩ : ∃ W4, wr.alloc (.cells X 49) = W4 := ⟨_, rfl⟩
      rw [hW4] at HX hbes hmk4 hbx hlt4 ⊢
      have hc1 : W4.cell? ⟨D, 1, none⟩ = some (.slice (some ⟨p, 0, none⟩) n n) := by rw [cell_of_row _ _ _ _ _ _ hbes.des, ← HL.out]; rfl
      have hc2 := word_cell hbes.kin (j := i) (by rw [HL.out]; exact hlt2)
      rw [hkz] at hc2
      have hx1 := Wd.cell hc1
      have hx2 := Wd.cell hc2
      have hld : ∀ x : Wd W4, (loadPtV (.pointer (some ⟨wr.heap.size, 0, none⟩))).run Try.prog x.at_ = .ok (.agg X) x.at_ := fun x => run_loadPt hsz (fun j _ => by rw [Nat.zero_add]; exact (x.below.cell (p := ⟨wr.heap.size, j, none⟩) hlt4).trans (hbx j))
      have hin := fun x : Wd W4 => isNum_call X pt x.at_ (HX.out.stay x.below)
      have hin2 : ∀ x : Wd W4, Calls Try.prog 35 #[.agg X] x.at_ (Tells (.bool b0) x.at_) := fun x => by rw [← hb0]; exact hin x
      have HIN := Lib.hid hin2
      have HBES := Lib.hid hbes
      have HMK4 := Lib.hid hmk4
      have HZ := Lib.hid (And.intro hz (And.intro hb0 hpt))
      have HZ0 := Lib.hid hz0
      clear hin hin2 hc1 hc2 hbes hmk4 hbx hW4 hldP hput hz hb0 hpt hz0 hkz hal HMK HBE hkd
      refine wp_region_grow W4 (Below.refl _ _) (by kernel_rfl) (by kernel_rfl) ?_
      repeat (go_big_quiet_step (first | (go_at_call 35; exact Wd.call _ (HIN.out _))))
      refine wpQuiet_nil ?_
      intro _ hw'
      obtain ⟨x5, hw''⟩ := hw'
      subst hw''
      have hbes5 := HBES.out.stay x5.below
      have hld5 := hld x5
      have HX5 := Lib.hid (HX.out.stay x5.below)
      have HM5 := Lib.hid (show ∃ v, Mk w x5.at_ G kk now (wsI l i) v (objsOf (l.take i)) from ⟨_, HMK4.out.choose_spec.stay x5.below⟩)
      have HB5 := Lib.hid hbes5
      generalize x5.at_ = W5 at hbes5 hld5 HX5 HM5 HB5 ⊢
      clear hx1 hx2 hld HBES HMK4 HX HIN
      cases heq : b0 == (kd == 0)
      · have hne : (b0 != (kd == 0)) = true := by unfold bne; rw [heq]; rfl
        have hres := hbes5.res
        have hst := run_stoCx W5 w.heap.size zeroC zeroC 26 hres rfl rfl (by decide +kernel)
        have hz3 := setRow_heap W5 w.heap.size zeroC zeroC 26 (0, 0) hres
        have hb3 : Below w.heap.size w (W5.setRow w.heap.size zeroC) := below_setRow HM5.out.choose_spec.b (Nat.le_refl _) _
        have hm0 : mayB kk l = false := may_not_num (i := i) (by rw [HN.out]; exact hlt2) (by
          rw [HZ.out.2.2, HZ.out.2.1, HZ.out.1, ← HZ0.out]
          intro e
          rw [e] at heq
          simp at heq)
        have HM0 := Lib.hid hm0
        have HZ3 := Lib.hid hz3
        have HB3 := Lib.hid hb3
        clear hres hz3 hb3 hm0 hbes5 hld5 heq
        unfold zeroC at hst
        go_wp2
        refine bodyPost_ret (results_make _ _ w.heap.size zeroC false (by rfl) (by rfl) HZ3.out rfl) rfl (.inr ⟨HM0.out, rfl, HB3.out⟩)
      · have hne : (b0 != (kd == 0)) = false := by unfold bne; rw [heq]; rfl
        have hb0 : b0 = (kd == 0) := by simpa using heq
        have hnum1 : ∀ j, j < i + 1 → isN (l.getD j default) = (byteAt (lettH kk) j == 110) := by
          intro j hj
          by_cases e : j = i
          · rw [e, HZ.out.2.2, HZ.out.2.1, HZ.out.1, ← HZ0.out, hb0]
          · exact HNUM.out j (by omega)
        have HNUM1 := Lib.hid hnum1
        obtain ⟨v5, hm5⟩ := HM5.out
        have hlen5 := objsOf_len (l.take i)
        rw [List.length_take] at hlen5
        have had := add17 X pt i W5 hm5 HX5.out (by omega) (by omega) (by have := HUP.out i (by rw [HN.out]; exact hlt2); rwa [HZ.out.2.2] at this)
        have e1 := addW_take (l := l) (i := i) (by rw [HN.out]; exact hlt2)
        have e2 := addO_take (l := l) (i := i) (by rw [HN.out]; exact hlt2)
        rw [HZ.out.2.2] at e1 e2
        rw [e1, e2] at had
        have HAD := Lib.hid had
        have HBX := Lib.hid hm5.box
        clear hnum1 hm5 hlen5 had e1 e2 hbes5 hb0 heq
        go_wp2_with (go_at_call 36; refine HAD.out.mono ?_; rintro e w6 ⟨v6, rfl, hm6, hbe6⟩; have HM6 := Lib.hid hm6; have HBE6 := Lib.hid hbe6; clear hm6 hbe6)
        go_roundw
        case rel => exact ⟨i + 1, by omega, by go_num, HNUM1.out, ⟨_, HM6.out⟩, HB5.out.beside HBE6.out HRG.out HBX.out⟩
        case measure => simp [intOf]; omega
    · obtain rfl : i = n := by omega
      obtain ⟨v, hm⟩ := HMK.out
      have hall : objsOf (l.take i) = objsOf l := by rw [← HN.out, List.take_length]
      have hob := objsOf_len l
      rw [hall] at hm
      have hrow0 := HROW.out (by rw [HN.out]; omega)
      have hnb : ∀ j, j < l.length → 0 ≤ (l.getD j default).num ∧ (l.getD j default).num ≤ 18446744073709551615 := fun j hj => by
        obtain ⟨q, off, -, -, hr⟩ := hrow0
        obtain ⟨X, hX, -⟩ := hr j hj
        exact hX.bn
      have hcx := hm.cx (fun j _ => ws_in hnb (by rw [HN.out]; omega) i j) (by rw [HN.out] at hob; omega)
      have hmade := is_made kk now l
      have hrb : rightB ⟨kk, (List.range 8).map (wsI l i), objsOf l, now⟩ = mayB kk l := by
        have := made_same hmade (by rw [HSZ.out, HN.out]; omega) HSZ.out (by rw [HN.out]; exact HNUM.out)
        rwa [HN.out] at this
      rw [HN.out] at hmade
      have hrc := right17 _ _ wr hcx
      rw [hrb] at hrc
      obtain ⟨a0, c0, rfl⟩ := hm.shape
      obtain ⟨C, hC⟩ : ∃ C, ctxCells kk (wsI l i) (.slice a0 (objsOf l).length c0) now = C := ⟨_, rfl⟩
      have hone := ctx_one kk now (wsI l i) a0 (objsOf l).length c0
      have hszC : C.size = 11 := by rw [← hC]; rfl
      have hbox := hm.box
      rw [hC] at hcx hrc hbox hone
      have hld := run_loadCx wr G C 26 (0, 0) hbox hszC
      have HMM := Lib.hid hm
      have HCX := Lib.hid hcx
      have HRC := Lib.hid hrc
      have HMADE := Lib.hid hmade
      have HC := Lib.hid hC
      have hbes := HBE.out
      clear hm hall hob hrow0 hnb hcx hmade hrb hrc hbox hC HMK HBE HROW
      cases hmay : mayB kk l
      · have HMAY := Lib.hid hmay
        go_upto_region 13 with (go_at_call 8; refine HRC.out.mono ?_; rintro e w7 ⟨rfl, hb7⟩; rw [HMAY.out]; have HB7 := Lib.hid hb7; clear hb7)
        have hz7 := (hbes.stay HB7.out).res
        have hst := run_stoCx w7 w.heap.size zeroC zeroC 26 hz7 rfl rfl (by decide +kernel)
        have hz3 := setRow_heap w7 w.heap.size zeroC zeroC 26 (0, 0) hz7
        have hb3 : Below w.heap.size w (w7.setRow w.heap.size zeroC) := below_setRow (HMM.out.b.trans (HB7.out.mono HMM.out.b.size)) (Nat.le_refl _) _
        have HZ3 := Lib.hid hz3
        have HB3 := Lib.hid hb3
        clear hz7 hz3 hb3 hld hbes hone
        unfold zeroC at hst
        go_wp2
        refine bodyPost_ret (results_make _ _ w.heap.size zeroC false (by rfl) (by rfl) HZ3.out rfl) rfl (.inr ⟨HMAY.out, rfl, HB3.out⟩)
      · have HMAY := Lib.hid hmay
        go_upto_region 14 with (go_at_call 8; refine HRC.out.mono ?_; rintro e w7 ⟨rfl, hb7⟩; rw [HMAY.out]; have HB7 := Lib.hid hb7; clear hb7)
        have hz7 := (hbes.stay HB7.out).res
        have hm7 := HMM.out.stay HB7.out
        have hbx7 := hm7.box
        rw [HC.out] at hbx7
        have hld7 := run_loadCx w7 G C 26 (0, 0) hbx7 hszC
        have hst := run_stoCx w7 w.heap.size zeroC C 26 hz7 rfl hszC hone
        have hz3 := setRow_heap w7 w.heap.size zeroC C 26 (0, 0) hz7
        have hm8 := hm7.other (C := C) hz7 HRG.out (Nat.le_refl _)
        have hcx8 : CxX (w7.setRow w.heap.size C) C ⟨kk, (List.range 8).map (wsI l i), objsOf l, now⟩ := by
          refine ⟨HCX.out.size, HCX.out.c0, HCX.out.cw, ?_, HCX.out.c10, HCX.out.bw, HCX.out.bo⟩
          refine ⟨a0, c0, ?_, hm8.objs.row⟩
          rw [← HC.out]
          rfl
        have HZ3 := Lib.hid hz3
        have HB3 := Lib.hid hm8.b
        have HCX8 := Lib.hid hcx8
        clear hz7 hz3 hm7 hm8 hbx7 hcx8 hld hbes hone
        go_wp2
        refine bodyPost_ret (results_make _ _ w.heap.size C true (by rfl) (by rfl) HZ3.out hszC) rfl (.inl ⟨HMAY.out, C, _, rfl, HCX8.out, HMADE.out, HB3.out⟩)
theorem make17 (hook now : Int) (l : List Pt) (a : Option Addr) (k : Nat) (w : World) (hrow : PtRow w a l) (hup : Ups l l.length) : Calls Try.prog 19 #[.int .i64 hook, .int .u64 now, .slice a l.length k] w (MadeQ hook now l w) := by
  by_cases h : 1 ≤ hook ∧ hook ≤ 16
  · obtain ⟨kk, hk⟩ := Int.eq_ofNat_of_zero_le (show 0 ≤ hook by omega)
    by_cases hl : l.length = (kindL kk).length
    · exact make_all hook now l a k kk w (by omega) (by omega) hk hl hrow hup
    · exact make_len hook now l a k kk w (by omega) (by omega) hk hl
  · exact make_none hook now l a k w h
theorem acts17 : Acts17 where
  right := right17
  word := fun C c i w hx _ => word17 C c i w hx
  load := fun X o at_ n w hx ha _ => load17 X o at_ n w hx ha
  make_yes := fun hook now l a k w hrow _ hup _ _ hm => (make17 hook now l a k w hrow hup).mono fun _ _ h => by
    rcases h with ⟨_, h⟩ | ⟨h, _⟩
    · exact h
    · rw [hm] at h; cases h
  make_no := fun hook now l a k w hrow _ hup _ _ hm => (make17 hook now l a k w hrow hup).mono fun _ _ h => by
    rcases h with ⟨h, _⟩ | ⟨_, h⟩
    · rw [hm] at h; cases h
    · exact h
end Go.Proofs.Ytcdpmggjdmibjaa
