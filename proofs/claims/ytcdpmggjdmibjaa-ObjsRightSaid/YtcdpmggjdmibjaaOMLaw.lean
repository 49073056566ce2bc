/-
  Proved here: the law ObjsMakes walked, over whatever package keeps the contracts. Conditions: Acts17.
-/
import Derived.Test.YtcdpmggjdmibjaaOMEnd
import Derived.Deep.RegionWith
import Derived.Deep.RegionHeld
import Derived.OwnWalk
namespace Go.Proofs.Ytcdpmggjdmibjaa
open Go.RowKit
set_option linter.unusedSimpArgs false

/-- May a context be made, as far as the first i parts tell? -/
def mayT (ws : ByteArray) (l : List Pt) (i : Nat) : Bool := decide (0 < ws.size) && decide (ws.size = l.length) && (List.range i).all fun j => suitB (byteAt ws j) (l.getD j default)
theorem mayT_succ (ws : ByteArray) (l : List Pt) (i : Nat) : mayT ws l (i + 1) = (mayT ws l i && suitB (byteAt ws i) (l.getD i default)) := by
  unfold mayT
  rw [List.range_succ, List.all_append]
  simp only [List.all_cons, List.all_nil, Bool.and_true, Bool.and_assoc]
theorem mayT_size {ws : ByteArray} {l : List Pt} {i : Nat} (h : mayT ws l i = true) : ws.size = l.length := by
  unfold mayT at h
  simp only [Bool.and_eq_true, decide_eq_true_eq] at h
  exact h.1.2
theorem mayB_T (hook : Int) (l : List Pt) : mayB hook l = mayT (lettH hook) l l.length := rfl
theorem objsOf_succ {l : List Pt} {i : Nat} (hi : i < l.length) : (objsOf (l.take (i + 1))).length = (objsOf (l.take i)).length + if isObj (l.getD i default) = true then 1 else 0 := by
  have e : l.take (i + 1) = l.take i ++ [l.getD i default] := by
    rw [List.take_succ_eq_append_getElem hi, List.getD_eq_getElem?_getD, List.getElem?_eq_getElem hi]
    rfl
  rw [e]
  unfold objsOf
  rw [List.filter_append, List.map_append, List.length_append]
  congr 1
  cases h : isObj (l.getD i default) <;> simp only [List.filter_cons, List.filter_nil, h] <;> rfl
theorem suit_eval {p : Pt} {nul hs : Bool} {t z : Int} (h1 : p.null = nul) (h2 : p.has = hs) (h3 : p.obj.typ = t) : suitB z p = (if (z == 110) = true then !nul && !hs else if nul = true then z == 109 else hs && ((z == 116 && t == 1) || (z != 116 && t == 2))) := by
  unfold suitB
  rw [h1, h2, h3]
  simp
theorem Ups.more {l : List Pt} {i : Nat} (h : Ups l i) (h2 : (l.getD i default).obj.up.length ≤ 50) : Ups l (i + 1) := by
  intro j hj
  by_cases e : j = i
  · rw [e]; exact h2
  · exact h j (by omega)
attribute [local go_sem ↓] loadCx_veil loadObj_veil loadPt_veil buildOb_veil
set_option maxHeartbeats 4000000 in
set_option maxRecDepth 100000 in
theorem makes_law (A : Acts17) (hook now : Int) (l : List Pt) (a : Option Addr) (k : Nat) (w : World) (hrow : PtRow w a l) (hk : l.length ≤ maxLen) (hh : -9223372036854775808 ≤ hook ∧ hook ≤ 9223372036854775807) (hn : 0 ≤ now ∧ now ≤ 18446744073709551615) :
    Calls Try.prog 5 #[.int .i64 hook, .int .u64 now, .slice a l.length k] w (TrueB w) := by
  obtain ⟨n, hnl⟩ : ∃ n, l.length = n := ⟨_, rfl⟩
  unfold maxLen at hk
  rw [hnl] at hk ⊢
  obtain ⟨ws, hws⟩ : ∃ ws, lettH hook = ws := ⟨_, rfl⟩
  have hws5 := lettH_len hook
  rw [hws] at hws5
  have HNL := Lib.hid hnl
  have HWS := Lib.hid hws
  have HROW := Lib.hid hrow
  clear hnl hws hrow
  by_cases h20 : 20 < n
  · go_enter Try.func5, Try.ntmps5
    go_wp2_with fail
    refine (alive17 A _).mono ?_
    rintro e w1 ⟨rfl, hb1⟩
    have H1 := Lib.hid hb1
    clear hb1
    go_wp2
    go_ret
    exact ⟨rfl, H1.out⟩
  go_enter Try.func5, Try.ntmps5
  go_wp2_with fail
  refine (alive17 A _).mono ?_
  rintro e w1 ⟨rfl, hb1⟩
  have H1 := Lib.hid hb1
  clear hb1
  go_wp2_with fail
  refine (row_all hook _).mono ?_
  rintro e w2 ⟨rfl, hb2⟩
  rw [HWS.out]
  have H2 := Lib.hid (H1.out.trans (hb2.mono H1.out.size))
  clear hb2 H1
  go_upto_region 6 with fail
  go_cut [10] (fun x wx => x = .bool (mayT ws l 0) ∧ wx = w2)
  case first =>
    as_aux_lemma =>
    by_cases h0 : 0 < ws.size
    · have hfull := ba_pos h0
      by_cases hsz : ws.size = n
      · go_wp2_with fail
        go_meet
        case rel => exact ⟨by unfold mayT; rw [HNL.out]; simp [hsz]; omega, rfl⟩
      · have hsb : ((ws.size : Int) == (n : Int)) = false := by simp; omega
        go_wp2_with fail
        go_meet
        case rel => exact ⟨by unfold mayT; rw [HNL.out]; simp [hsz], rfl⟩
    · have he : ws.toList.isEmpty = true := by
        rw [ByteArray.toList_eq]
        have hz : ws.data.toList.length = 0 := by show ws.size = 0; omega
        rw [List.eq_nil_of_length_eq_zero hz]
        rfl
      go_wp2_with fail
      go_meet
      case rel => exact ⟨by unfold mayT; simp [h0], rfl⟩
  case rest =>
    obtain ⟨rfl, hw⟩ := hcut
    subst hw
    go_wp2
    go_loopw [10, 11, 12] (fun mb v x W => ∃ i : Nat, i ≤ n ∧ x = .int .i64 i ∧ mb = .bool (mayT ws l i) ∧ OwnO w W v (objsOf (l.take i)).length ∧ Ups l i) (fun _ _ x _ => n - (intOf x).toNat)
    case atStart => exact ⟨0, by omega, rfl, rfl, ⟨H2.out, [], World.ownsRow_nil _ _ _ _⟩, fun j hj => absurd hj (Nat.not_lt_zero _)⟩
    case round =>
      obtain ⟨i, hi, rfl, rfl, ho, hu⟩ := hrel
      have HO := Lib.hid ho
      have HU := Lib.hid hu
      clear ho H2 hu
      by_cases hlt : i < n
      · obtain ⟨p, off, rfl, -, hr⟩ := HROW.out.stay HO.out.below (by rw [HNL.out]; omega)
        obtain ⟨X, hX, hcs⟩ := hr i (by rw [HNL.out]; exact hlt)
        have hldP : (loadPtV (.pointer (some ⟨p, off + i * 16, none⟩))).run Try.prog wr = .ok (.agg X) wr := run_loadPt hX.size (fun j hj => by rw [Nat.add_assoc]; exact hcs j hj)
        have hput := put_part hX
        have hsz := hX.size
        obtain ⟨Y, hY, hYX⟩ := hX.xo
        obtain ⟨a2, k2, h12, -⟩ := hY.x12
        have c0 := (box_cells wr X 49 0).trans hX.x0
        have c1 := (box_cells wr X 49 1).trans hX.x1
        have c2 := ((box_cells wr X 49 2).trans (hYX 0 (by omega))).trans hY.x0
        have c13 := ((box_cells wr X 49 13).trans (hYX 11 (by omega))).trans hY.x11
        have c14 := ((box_cells wr X 49 14).trans (hYX 12 (by omega))).trans h12
        have hldO : (loadObjV (.pointer (some ⟨wr.heap.size, 2, none⟩))).run Try.prog (wr.alloc (.cells X 49)) = .ok (.agg Y) (wr.alloc (.cells X 49)) := run_loadOb hY.size (fun j hj => (box_cells wr X 49 (2 + j)).trans (hYX j hj))
        have hbY := run_buildOb (wr.alloc (.cells X 49)) Y hY.size
        have hbp := hY.bp
        have hbu := hY.bu
        unfold maxLen at hbp hbu
        obtain ⟨nul, hnul⟩ : ∃ b, (l.getD i default).null = b := ⟨_, rfl⟩
        obtain ⟨hs, hhs⟩ : ∃ b, (l.getD i default).has = b := ⟨_, rfl⟩
        obtain ⟨t, ht⟩ : ∃ t, (l.getD i default).obj.typ = t := ⟨_, rfl⟩
        have hob := objsOf_succ (l := l) (i := i) (by rw [HNL.out]; exact hlt)
        have hio : isObj (l.getD i default) = (!nul && hs) := by unfold isObj; rw [hnul, hhs]
        rw [hio] at hob
        have hsu := fun z => suit_eval (z := z) hnul hhs ht
        have hsucc := mayT_succ ws l i
        rw [hsu] at hsucc
        rw [hnul] at c0
        rw [hhs] at c1
        rw [ht] at c2
        generalize (l.getD i default).obj.path = s at c13 hbp
        have hups := fun h => HU.out.more (i := i) h
        generalize (l.getD i default).obj.up.length = u at c14 hbu hups
        have HUPS := Lib.hid hups
        clear hups
        have HOB := Lib.hid hob
        have HSUCC := Lib.hid hsucc
        have HMS := Lib.hid (fun h => mayT_size (ws := ws) (l := l) (i := i) h)
        have HY := Lib.hid (hY.stay ((Below.refl _ _).alloc (Nat.le_refl _) (.cells X 49)))
        have HO1 := Lib.hid (HO.out.stay ((Below.refl _ _).alloc (Nat.le_refl _) (.cells X 49)))
        have hm20 : (objsOf (l.take i)).length ≤ 20 := by have := objsOf_len (l.take i); rw [List.length_take] at this; omega
        generalize (objsOf (l.take i)).length = m at HOB HO1 hm20
        clear hr hX hcs hY hYX h12 hnul hhs ht hob hio hsu hsucc
        by_cases h200 : 200 < s.size
        · go_wp2
          go_ret
          exact ⟨rfl, HO1.out.below⟩
        by_cases h50 : 50 < u
        · go_wp2
          go_ret
          exact ⟨rfl, HO1.out.below⟩
        go_upto_region 14 with fail
        obtain ⟨W1, hW1⟩ : ∃ W1, wr.alloc (.cells X 49) = W1 := ⟨_, rfl⟩
        rw [hW1] at c0 c1 c2 c13 c14 hldO hbY HY HO1
        rw [hW1]
        have hlt1 : wr.heap.size < W1.heap.size := by rw [← hW1]; simp
        have hne1 : u11.ownBlock ≠ some wr.heap.size := by
          intro e
          obtain ⟨xs, hxs⟩ := HO.out.own
          have := (hxs.lt _ e).2
          omega
        have HLT := Lib.hid hlt1
        have HNE := Lib.hid hne1
        clear hW1 hlt1 hne1
        go_cut [69] (fun x wx => x = .bool (!nul && hs) ∧ wx = W1)
        case first =>
          as_aux_lemma =>
          cases nul <;> cases hs <;> (
            go_wp2_with fail
            go_meet
            case rel => exact ⟨rfl, rfl⟩)
        case rest =>
          obtain ⟨rfl, hw⟩ := hcut
          have hw := hw.symm
          subst hw
          go_upto_if 69 with fail
          generalize hm2 : (objsOf (l.take (i + 1))).length = m2 at HOB
          go_cut [11] (fun v wx => OwnO w wx v m2 ∧ wx.heap[wr.heap.size]? = W1.heap[wr.heap.size]?)
          case first =>
            as_aux_lemma =>
            cases nul <;> cases hs
            · have hob := HOB.out
              simp at hob
              subst hob
              go_wp2_with fail
              go_meet
              case rel => exact ⟨HO1.out, rfl⟩
            · have hob := HOB.out
              simp at hob
              subst hob
              go_wp2_with (at_builtin; refine wpList_obj rfl _ _ rfl HO1.out HY.out rfl rfl (by omega) ?_; intro v5 w5 ho5 hk5)
              go_meet
              case rel => exact ⟨ho5, hk5 _ HLT.out HNE.out⟩
            · have hob := HOB.out
              simp at hob
              subst hob
              go_wp2_with fail
              go_meet
              case rel => exact ⟨HO1.out, rfl⟩
            · have hob := HOB.out
              simp at hob
              subst hob
              go_wp2_with fail
              go_meet
              case rel => exact ⟨HO1.out, rfl⟩
          case rest =>
            obtain ⟨ho2, hbx⟩ := hcut
            have cc0 := (World.cell?_of_block (w := W1) (a := ⟨wr.heap.size, 0, none⟩) hbx).trans c0
            have cc1 := (World.cell?_of_block (w := W1) (a := ⟨wr.heap.size, 1, none⟩) hbx).trans c1
            have cc2 := (World.cell?_of_block (w := W1) (a := ⟨wr.heap.size, 2, none⟩) hbx).trans c2
            have HO2 := Lib.hid ho2
            have HM2 := Lib.hid hm2
            clear c0 c1 c2 c13 c14 hldO hbY ho2 hbx hldP hput hm2
            cases hM : mayT ws l i
            · have HM := Lib.hid hM
              have hnx : mayT ws l (i + 1) = false := by rw [HSUCC.out, HM.out]; first | rfl | simp [bne]
              have HNX := Lib.hid hnx
              clear hnx
              go_wp2
              go_roundw
              case rel => exact ⟨i + 1, by omega, by go_num, by rw [HNX.out], by rw [HM2.out]; exact HO2.out, HUPS.out (by omega)⟩
              case measure => simp [intOf]; omega
            · have HM := Lib.hid hM
              have hsz2 : ws.size = n := (HMS.out hM).trans HNL.out
              have hzz := byte_at (s := ws) (j := i) (by omega)
              generalize byteAt ws i = z at hzz HSUCC
              cases z110 : z == 110
              · have HZ := Lib.hid z110
                cases nul
                · cases hs
                  · have z116n : (z != 116) = !(z == 116) := rfl
                    clear z116n
                    have hnx : mayT ws l (i + 1) = false := by rw [HSUCC.out, HM.out, HZ.out]; first | rfl | simp [bne, HZ.out]
                    have HNX := Lib.hid hnx
                    clear hnx
                    go_wp2
                    go_roundw
                    case rel => exact ⟨i + 1, by omega, by go_num, by rw [HNX.out], by rw [HM2.out]; exact HO2.out, HUPS.out (by omega)⟩
                    case measure => simp [intOf]; omega
                  · cases z116 : z == 116
                    · have hB := Lib.hid z116
                      have z116n : (z != 116) = true := by unfold bne; rw [z116]; rfl
                      cases t2 : t == 2
                      · have hC := Lib.hid t2
                        have hnx : mayT ws l (i + 1) = false := by rw [HSUCC.out, HM.out, HZ.out, hB.out, hC.out]; first | rfl | simp [bne, HZ.out, hB.out, hC.out]
                        have HNX := Lib.hid hnx
                        clear hnx
                        go_wp2
                        go_roundw
                        case rel => exact ⟨i + 1, by omega, by go_num, by rw [HNX.out], by rw [HM2.out]; exact HO2.out, HUPS.out (by omega)⟩
                        case measure => simp [intOf]; omega
                      · have hC := Lib.hid t2
                        have hnx : mayT ws l (i + 1) = true := by rw [HSUCC.out, HM.out, HZ.out, hB.out, hC.out]; first | rfl | simp [bne, HZ.out, hB.out, hC.out]
                        have HNX := Lib.hid hnx
                        clear hnx
                        go_wp2
                        go_roundw
                        case rel => exact ⟨i + 1, by omega, by go_num, by rw [HNX.out], by rw [HM2.out]; exact HO2.out, HUPS.out (by omega)⟩
                        case measure => simp [intOf]; omega
                    · have hB := Lib.hid z116
                      have z116n : (z != 116) = false := by unfold bne; rw [z116]; rfl
                      cases t1 : t == 1
                      · have hC := Lib.hid t1
                        have hnx : mayT ws l (i + 1) = false := by rw [HSUCC.out, HM.out, HZ.out, hB.out, hC.out]; first | rfl | simp [bne, HZ.out, hB.out, hC.out]
                        have HNX := Lib.hid hnx
                        clear hnx
                        go_wp2
                        go_roundw
                        case rel => exact ⟨i + 1, by omega, by go_num, by rw [HNX.out], by rw [HM2.out]; exact HO2.out, HUPS.out (by omega)⟩
                        case measure => simp [intOf]; omega
                      · have hC := Lib.hid t1
                        have hnx : mayT ws l (i + 1) = true := by rw [HSUCC.out, HM.out, HZ.out, hB.out, hC.out]; first | rfl | simp [bne, HZ.out, hB.out, hC.out]
                        have HNX := Lib.hid hnx
                        clear hnx
                        go_wp2
                        go_roundw
                        case rel => exact ⟨i + 1, by omega, by go_num, by rw [HNX.out], by rw [HM2.out]; exact HO2.out, HUPS.out (by omega)⟩
                        case measure => simp [intOf]; omega
                · cases z109 : z == 109
                  · have hB := Lib.hid z109
                    have hnx : mayT ws l (i + 1) = false := by rw [HSUCC.out, HM.out, HZ.out, hB.out]; first | rfl | simp [bne, HZ.out, hB.out]
                    have HNX := Lib.hid hnx
                    clear hnx
                    go_wp2
                    go_roundw
                    case rel => exact ⟨i + 1, by omega, by go_num, by rw [HNX.out], by rw [HM2.out]; exact HO2.out, HUPS.out (by omega)⟩
                    case measure => simp [intOf]; omega
                  · have hB := Lib.hid z109
                    have hnx : mayT ws l (i + 1) = true := by rw [HSUCC.out, HM.out, HZ.out, hB.out]; first | rfl | simp [bne, HZ.out, hB.out]
                    have HNX := Lib.hid hnx
                    clear hnx
                    go_wp2
                    go_roundw
                    case rel => exact ⟨i + 1, by omega, by go_num, by rw [HNX.out], by rw [HM2.out]; exact HO2.out, HUPS.out (by omega)⟩
                    case measure => simp [intOf]; omega
              · have HZ := Lib.hid z110
                cases nul
                · cases hs
                  · skip
                    have hnx : mayT ws l (i + 1) = true := by rw [HSUCC.out, HM.out, HZ.out]; first | rfl | simp [bne, HZ.out]
                    have HNX := Lib.hid hnx
                    clear hnx
                    go_wp2
                    go_roundw
                    case rel => exact ⟨i + 1, by omega, by go_num, by rw [HNX.out], by rw [HM2.out]; exact HO2.out, HUPS.out (by omega)⟩
                    case measure => simp [intOf]; omega
                  · skip
                    have hnx : mayT ws l (i + 1) = false := by rw [HSUCC.out, HM.out, HZ.out]; first | rfl | simp [bne, HZ.out]
                    have HNX := Lib.hid hnx
                    clear hnx
                    go_wp2
                    go_roundw
                    case rel => exact ⟨i + 1, by omega, by go_num, by rw [HNX.out], by rw [HM2.out]; exact HO2.out, HUPS.out (by omega)⟩
                    case measure => simp [intOf]; omega
                · skip
                  have hnx : mayT ws l (i + 1) = false := by rw [HSUCC.out, HM.out, HZ.out]; first | rfl | simp [bne, HZ.out]
                  have HNX := Lib.hid hnx
                  clear hnx
                  go_wp2
                  go_roundw
                  case rel => exact ⟨i + 1, by omega, by go_num, by rw [HNX.out], by rw [HM2.out]; exact HO2.out, HUPS.out (by omega)⟩
                  case measure => simp [intOf]; omega
      · obtain rfl : n = i := by omega
        have hall : objsOf (l.take n) = objsOf l := by rw [← HNL.out, List.take_length]
        have ho := HO.out
        rw [hall] at ho
        obtain ⟨ao, co, rfl⟩ := ho.shape
        have HO3 := Lib.hid ho
        have hobl := objsOf_len l
        rw [HNL.out] at hobl
        generalize hmo : (objsOf l).length = m at HO3 hobl
        have HMO := Lib.hid hmo
        clear ho hall HO hmo
        have hrow := HROW.out.stay HO3.out.below
        have hmt : mayB hook l = mayT ws l n := by rw [mayB_T, HWS.out, HNL.out]
        cases hM : mayT ws l n
        · have hmk := A.make_no hook now l a k wr hrow (by rw [HNL.out]; omega) (by rw [HNL.out]; exact HU.out) hh hn (hmt.trans hM)
          rw [HNL.out] at hmk
          unfold zeroC at hmk
          have HMK := Lib.hid hmk
          clear hmk hmt hrow
          go_wp2_with fail
          refine HMK.out.mono ?_
          rintro e w3 ⟨rfl, hb3⟩
          have HB3 := Lib.hid (HO3.out.below.trans (hb3.mono HO3.out.below.size))
          clear hb3
          go_wp2
          go_ret
          exact ⟨rfl, HB3.out.alloc HB3.out.size _⟩
        · have hmk := A.make_yes hook now l a k wr hrow (by rw [HNL.out]; omega) (by rw [HNL.out]; exact HU.out) hh hn (hmt.trans hM)
          rw [HNL.out] at hmk
          have HMK := Lib.hid hmk
          have HMB := Lib.hid (hmt.trans hM)
          clear hmk hmt hrow
          go_wp2_with fail
          refine HMK.out.mono ?_
          rintro e w3 ⟨C, cx, rfl, hC, hmd, hb3⟩
          have hput := put_ctx hC
          have hsz := hC.size
          obtain ⟨a9, k9, h9, h9r⟩ := hC.c9
          have hol : cx.objs.length = m := by rw [hmd.objs, HMO.out]
          rw [hol] at h9
          have d0 := (box_cells w3 C 26 0).trans hC.c0
          have d9 := (box_cells w3 C 26 9).trans h9
          have d10 := (box_cells w3 C 26 10).trans hC.c10
          rw [hmd.hook] at d0
          rw [hmd.now] at d10
          have HH := Lib.hid (Held.new hC)
          have hld := HH.out.ld
          have HR := Lib.hid (made_right hmd HMB.out)
          have HMD := Lib.hid hmd
          have HC9 := Lib.hid h9
          have HB3 := Lib.hid (HO3.out.below.trans (hb3.mono HO3.out.below.size))
          clear hb3 hC hmd h9 hol
          go_wp2_with fail
          refine (right_ref C cx _ HH.out.cx).mono ?_
          rintro e w4 ⟨rfl, hb4⟩
          rw [HR.out]
          have H4 := Lib.hid (HH.out.stay hb4)
          clear hb4 hld d0 d9 d10 hput HH
          have hrow9 : ObRow w3 a9 (objsOf l) := by rw [← HMD.out.objs]; exact h9r
          have HROW9 := Lib.hid hrow9
          clear h9r hrow9
          have hn20 : n ≤ 20 := by omega
          have hm20 : m ≤ 20 := by omega
          clear h20 hobl
          go_wp2
          go_loopw [16, 17] (fun kk v W => ∃ i : Nat, i ≤ n ∧ v = .int .i64 i ∧ kk = .int .i64 ((objsOf (l.take i)).length : Nat) ∧ Hid (Held w3 W C cx)) (fun _ v _ => n - (intOf v).toNat)
          case atStart => exact ⟨0, by omega, rfl, rfl, H4⟩
          case round =>
            obtain ⟨i, hi, rfl, rfl, HW⟩ := hrel
            by_cases hlt : i < n
            · have hbw := HB3.out.trans (HW.out.below.mono HB3.out.size)
              obtain ⟨p, off, rfl, hpw, hr⟩ := HROW.out.stay hbw (by rw [HNL.out]; omega)
              obtain ⟨X, hX, hcs⟩ := hr i (by rw [HNL.out]; exact hlt)
              obtain ⟨Y, hY, hYX⟩ := hX.xo
              obtain ⟨nul, hnul⟩ : ∃ b, (l.getD i default).null = b := ⟨_, rfl⟩
              obtain ⟨hs, hhs⟩ : ∃ b, (l.getD i default).has = b := ⟨_, rfl⟩
              obtain ⟨z, hz⟩ : ∃ z, (l.getD i default).num = z := ⟨_, rfl⟩
              have hob := objsOf_succ (l := l) (i := i) (by rw [HNL.out]; exact hlt)
              have hio : isObj (l.getD i default) = (!nul && hs) := by unfold isObj; rw [hnul, hhs]
              rw [hio] at hob
              have hk20 : (objsOf (l.take i)).length ≤ 20 := by have := objsOf_len (l.take i); rw [List.length_take] at this; omega
              have hlti : i < l.length := by rw [HNL.out]; exact hlt
              have hw := A.word C cx i wr HW.out.cx (by omega)
              rw [word_made HMD.out HMB.out hlti hnul hhs rfl hz] at hw
              have htk := fun h => objsOf_take_lt (l := l) hlti h
              rw [hio, HMO.out] at htk
              have c0 := (hcs 0 (by omega)).trans hX.x0
              have c1 := (hcs 1 (by omega)).trans hX.x1
              have c15 := (hcs 15 (by omega)).trans hX.x15
              rw [hnul] at c0
              rw [hhs] at c1
              rw [hz] at c15
              have hzb := hX.bn
              rw [hz] at hzb
              have e0 : off + (i * 16 + 0) = off + i * 16 := by omega
              have e1 : off + (i * 16 + 1) = off + i * 16 + 1 := by omega
              have e15 : off + (i * 16 + 15) = off + i * 16 + 15 := by omega
              rw [e0] at c0
              rw [e1] at c1
              rw [e15] at c15
              have cy : ∀ j, j < 13 → wr.cell? ⟨p, off + i * 16 + 2 + j, none⟩ = Y[j]? := by
                intro j hj
                have h := (hcs (2 + j) (by omega)).trans (hYX j hj)
                have e : off + (i * 16 + (2 + j)) = off + i * 16 + 2 + j := by omega
                rw [e] at h
                exact h
              clear e0 e1 e15
              generalize hkk : (objsOf (l.take i)).length = kk at hob hw htk hk20
              have HOB := Lib.hid hob
              have HTK := Lib.hid htk
              have HCY := Lib.hid cy
              have HYY := Lib.hid hY
              have HWD := Lib.hid hw
              have HC0 := Lib.hid c0
              have HC1 := Lib.hid c1
              have HC15 := Lib.hid c15
              have hld := HW.out.ld
              clear hr hX hcs hYX hob htk hw cy hY hio c0 c1 c15 hbw
              go_wp2_with fail
              refine HWD.out.mono ?_
              rintro e w5 ⟨rfl, hb5⟩
              have c0 := (hb5.cell (p := ⟨p, off + i * 16, none⟩) hpw).trans HC0.out
              have c1 := (hb5.cell (p := ⟨p, off + i * 16 + 1, none⟩) hpw).trans HC1.out
              have c15 := (hb5.cell (p := ⟨p, off + i * 16 + 15, none⟩) hpw).trans HC15.out
              have H5 := Lib.hid (HW.out.stay hb5)
              clear hld
              cases nul
              · cases hs
                · have hob := HOB.out
                  simp at hob
                  clear hb5
                  go_wp2
                  exact ⟨⟨i + 1, by omega, by go_num, by rw [hob], H5⟩, by simp [intOf]; omega⟩
                · have hob := HOB.out
                  simp at hob
                  obtain ⟨hkm, hgo⟩ := HTK.out rfl
                  obtain ⟨p9, o9, rfl, hp9, hr9⟩ := HROW9.out.stay H5.out.below (by rw [HMO.out]; omega)
                  obtain ⟨X9, hX9, hcs9⟩ := hr9 kk (by rw [HMO.out]; exact hkm)
                  rw [hgo] at hX9
                  have hTw : Twin w3 w5 C cx p9 (o9 + kk * 13) p (off + i * 16 + 2) X9 Y (l.getD i default).obj := ⟨H5.out, hp9, Nat.lt_of_lt_of_le hpw hb5.size, fun j hj => by rw [Nat.add_assoc]; exact hcs9 j hj, fun j hj => (hb5.cell (p := ⟨p, off + i * 16 + 2 + j, none⟩) hpw).trans (HCY.out j hj), hX9, HYY.out.stay hb5⟩
                  generalize (l.getD i default).obj = ob at hTw
                  have hT0 := twin_step (Lib.hid hTw) (Below.refl _ _).drew
                  have hS0 := twin_four hT0 HC9.out
                  have HOB2 := Lib.hid hob
                  clear hb5 hgo hr9 hX9 hcs9 hTw hob
                  go_upto_region 38 with fail
                  go_region_held (fun W => W.cell? ⟨w3.heap.size, 9, none⟩ = some (.slice (some ⟨p9, o9, none⟩) m k9) ∧ (loadObjV (.pointer (some ⟨p9, o9 + kk * 13, none⟩))).run Try.prog W = .ok (.agg X9) W ∧ (loadObjV (.pointer (some ⟨p, off + i * 16 + 2, none⟩))).run Try.prog W = .ok (.agg Y) W ∧ Hid (Twin w3 W C cx p9 (o9 + kk * 13) p (off + i * 16 + 2) X9 Y ob))
                    (first
                      | exact hS0
                      | exact hT3)
                    ((go_at_call 20; refine (same_refl X9 Y ob _ (Twin.ox (Hid.out (by assumption))) (Twin.oy (Hid.out (by assumption)))).mono ?_; rintro e w6 ⟨rfl, hb6⟩; have hA6 := twin_step (w := w3) (C := C) (c := cx) (p9 := p9) (o9 := o9 + kk * 13) (p := p) (o := off + i * 16 + 2) (X := X9) (Y := Y) (ob := ob) (by assumption) hb6; have hT3 := twin_four hA6 HC9.out; clear hb6))
                  go_wp2
                  exact ⟨⟨i + 1, by omega, by go_num, by rw [HOB2.out]; go_num, Lib.hid (Twin.held (Hid.out (by assumption)))⟩, by simp [intOf]; omega⟩
              · have hob := HOB.out
                simp at hob
                clear hb5
                go_wp2
                exact ⟨⟨i + 1, by omega, by go_num, by rw [hob], H5⟩, by simp [intOf]; omega⟩
            · obtain rfl : n = i := by omega
              go_wp2
              go_ret
              exact ⟨rfl, HB3.out.trans (HW.out.below.mono HB3.out.size)⟩
end Go.Proofs.Ytcdpmggjdmibjaa
