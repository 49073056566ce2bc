/-
  Proved here: the law OwnedApart returns true, over whatever memory of the program's maps keeps its contracts. Conditions: the contracts.
-/
import Derived.Test.YtenjdgoammaiiaaHSl14
import Derived.Deep.QuietTactic
import Derived.BigQuiet
namespace Go.Proofs.Ytenjdgoammaiiaa
open Go.RowKit
set_option maxRecDepth 100000

set_option maxHeartbeats 4000000 in
theorem law_apart {PS : OwMem} (w : World) (a0 : Option Addr) (cp0 : Nat) (ds : List Df) (A0 : Option Addr) (len cap0 : Nat) (kx Mx : Int) (b1 b2 : Option Addr) (n1 p1 n2 p2 : Nat) (ky vy : List Int) (ix gx fx Kx Tx Cx : Int) (ac : Acts14 PS) (al : ∀ w, Calls Try.prog 5 #[] w (fun e w' => e = .returned (.bool true) ∧ Below w.heap.size w w')) (hds : DfsIn w a0 ds) (hdl : ds.length ≤ 60) (hm : mayL ds = true) (hl : len ≤ maxLen) (ho : OpsIn w A0 len) (hx : OpV w kx b1 n1 p1 b2 n2 p2 ky vy) (hn1 : n1 ≤ 100) (hn2 : n2 ≤ 100) :
    Calls Try.prog 4 #[.slice a0 ds.length cp0, .slice A0 len cap0, .agg #[.int .u8 kx, .int .i64 Mx, .slice b1 n1 p1, .slice b2 n2 p2, .int .i64 ix, .int .i64 gx, .int .u64 fx, .int .i64 Kx, .int .i64 Tx, .int .u8 Cx]] w (LawPost w) := by
  unfold maxLen at hl
  obtain ⟨i0, hi0, hz0, hz1, hz2⟩ := info_parts str_info9
  have hb0 := box_below w (.cells #[.int .u8 kx, .int .i64 Mx, .slice b1 n1 p1, .slice b2 n2 p2, .int .i64 ix, .int .i64 gx, .int .u64 fx, .int .i64 Kx, .int .i64 Tx, .int .u8 Cx] 37)
  have hop : Op14 (w.alloc (.cells #[.int .u8 kx, .int .i64 Mx, .slice b1 n1 p1, .slice b2 n2 p2, .int .i64 ix, .int .i64 gx, .int .u64 fx, .int .i64 Kx, .int .i64 Tx, .int .u8 Cx] 37)) w.heap.size kx Mx (.slice b1 n1 p1) (.slice b2 n2 p2) ix gx fx Kx Tx Cx := ⟨by simp [go_sem], by simp [go_sem], by simp [go_sem], by simp [go_sem], by simp [go_sem], by simp [go_sem], by simp [go_sem], by simp [go_sem], by simp [go_sem], by simp [go_sem]⟩
  have hlt : w.heap.size < (w.alloc (.cells #[.int .u8 kx, .int .i64 Mx, .slice b1 n1 p1, .slice b2 n2 p2, .int .i64 ix, .int .i64 gx, .int .u64 fx, .int .i64 Kx, .int .i64 Tx, .int .u8 Cx] 37)).heap.size := by simp
  have hds1 := hds.stay hb0
  have ho1 := ho.stay hb0
  have hx1 := hx.stay hb0
  obtain ⟨W1, hW1⟩ : ∃ W1, w.alloc (.cells #[.int .u8 kx, .int .i64 Mx, .slice b1 n1 p1, .slice b2 n2 p2, .int .i64 ix, .int .i64 gx, .int .u64 fx, .int .i64 Kx, .int .i64 Tx, .int .u8 Cx] 37) = W1 := ⟨_, rfl⟩
  obtain ⟨bx, hbx⟩ : ∃ bx, w.heap.size = bx := ⟨_, rfl⟩
  rw [hW1] at hb0 hop hlt hds1 ho1 hx1
  have HB0 := Lib.hid hb0
  rw [hbx] at hop hlt
  have HBX := Lib.hid (show ∀ W : World, Below W1.heap.size W1 W → Op14 W bx kx Mx (.slice b1 n1 p1) (.slice b2 n2 p2) ix gx fx Kx Tx Cx from fun W hb => hop.kept (hb.block bx hlt))
  have HO := Lib.hid ho1
  have HA := Lib.hid ac
  have HD := Lib.hid (And.intro hds1 hm)
  have HX := Lib.hid hx1
  clear ho ac hds hm hb0 hop hlt hds1 ho1 hx1 hx
  go_enter Try.func4, Try.ntmps4
  go_upto_region 1 with fail
  clear hW1 hbx
  go_wp2_with (first
    | (go_at_call 5; refine (al _).mono ?_; rintro e w1 ⟨rfl, hb1⟩; have HB1 := Lib.hid hb1; have HD1 := Lib.hid (HD.out.1.stay hb1); clear hb1)
    | (go_at_call 6; refine (ow_may ds a0 cp0 _ HD1.out (by omega)).mono ?_; rintro e w3 ⟨he, hb3⟩; rw [HD.out.2] at he; subst he; have HB3 := Lib.hid (HB1.out.trans (hb3.mono HB1.out.size)); have HD3 := Lib.hid (HD1.out.stay hb3); have y2 := (HBX.out _ HB3.out).c2; have y3 := (HBX.out _ HB3.out).c3; clear hb3)
    | (go_at_call 7; refine (HA.out.new HD3.out HD.out.2).mono ?_; rintro e w2 ⟨h, D, rfl, hp2, hb2, hD2⟩; have HB2 := Lib.hid hb2; have HP2 := Lib.hid hp2; have HDD := Lib.hid hD2; have HD2 := Lib.hid (HD3.out.stay hb2); clear hb2 hp2 hD2; unfold ptrV)
    | (go_at_call 8; refine (ow_new ds a0 cp0 _ HD2.out HD.out.2).mono ?_; rintro e w4 ⟨O, S, rfl, hf4, hb4, hS4⟩; have HF4 := Lib.hid hf4; have HB4 := Lib.hid hb4; have HS4 := Lib.hid hS4; clear hf4 hb4 hS4; unfold ptrV))
  have hkn : K0 PS W1 w4 D S h O (ds.map newM) := by
    have z2 := HB2.out.size
    have z3 := HB3.out.size
    refine ⟨HA.out.stay HP2.out HB4.out, HF4.out, (HB3.out.trans (HB2.out.mono z3)).trans (HB4.out.mono (by omega)), fun b hb => Nat.le_trans (by omega) (HDD.out b hb), fun b hs => ?_, fun b hb hs => ?_, Turned.refl _ _, fun _ h => .inl h, fun _ h => .inl h⟩
    · have h2 := HS4.out b hs
      omega
    · have h1 := HA.out.lt HP2.out b hb
      have h2 := HS4.out b hs
      omega
  have HKN := Lib.hid hkn
  clear hkn HB1 HB2 HB3 HP2 HDD HF4 HB4 HS4 HD1 HD2 HD3 y2 y3
  go_loopw [10] (fun i wr => ∃ (k : Nat) (D S : Nat → Prop) (st : List MSt), k ≤ len ∧ k ≤ 40 ∧ i = .int .i64 k ∧ K0 PS W1 wr D S h O st ∧ st.length = ds.length) (fun i _ => 40 - (intOf i).toNat)
  case atStart => exact ⟨0, D, S, _, by omega, by omega, rfl, HKN.out, by simp⟩
  case round =>
    obtain ⟨k, D, S, st, hk, hk60, rfl, hkn, hsl⟩ := hrel
    have HK := Lib.hid hkn
    clear hkn HKN
    by_cases hlt : k < len ∧ k < 40
    · obtain ⟨hlt, hlt60⟩ := hlt
      have hO := HO.out
      rcases hO with h0 | ⟨g, off, rfl, hg, hops⟩
      · omega
      obtain ⟨kd, M, a1, l1, c1, a2, l2, c2, kz, vz, id, gn, fl, K, T, C, hop, hov⟩ := hops k hlt
      have m1 := hov.m1
      have m2 := hov.m2
      unfold maxLen at m1 m2
      have hb := HK.out.b
      have hc : ∀ i, i < 10 → wr.cell? ⟨g, off + k * 10 + i, none⟩ = (opCells kd M (.slice a1 l1 c1) (.slice a2 l2 c2) id gn fl K T C)[i]? := fun i hi => (hb.cell (p := ⟨g, off + k * 10 + i, none⟩) hg).trans (hop i hi)
      have x0 : wr.cell? ⟨g, off + k * 10, none⟩ = some (.int .u8 kd) := hc 0 (by omega)
      have x1 : wr.cell? ⟨g, off + k * 10 + 1, none⟩ = some (.int .i64 M) := hc 1 (by omega)
      have x2 : wr.cell? ⟨g, off + k * 10 + 2, none⟩ = some (.slice a1 l1 c1) := hc 2 (by omega)
      have x3 : wr.cell? ⟨g, off + k * 10 + 3, none⟩ = some (.slice a2 l2 c2) := hc 3 (by omega)
      have x4 : wr.cell? ⟨g, off + k * 10 + 4, none⟩ = some (.int .i64 id) := hc 4 (by omega)
      have x5 : wr.cell? ⟨g, off + k * 10 + 5, none⟩ = some (.int .i64 gn) := hc 5 (by omega)
      have x6 : wr.cell? ⟨g, off + k * 10 + 6, none⟩ = some (.int .u64 fl) := hc 6 (by omega)
      have x7 : wr.cell? ⟨g, off + k * 10 + 7, none⟩ = some (.int .i64 K) := hc 7 (by omega)
      have x8 : wr.cell? ⟨g, off + k * 10 + 8, none⟩ = some (.int .i64 T) := hc 8 (by omega)
      have x9 : wr.cell? ⟨g, off + k * 10 + 9, none⟩ = some (.int .u8 C) := hc 9 (by omega)
      have HOV := Lib.hid hov
      clear hop hb hops hov hc
      by_cases g1 : 100 < l1
      · as_aux_lemma =>
        go_wp2
        go_ret
        exact ⟨rfl, HB0.out.trans (HK.out.b.mono HB0.out.size)⟩
      by_cases g2 : 100 < l2
      · as_aux_lemma =>
        go_wp2
        go_ret
        exact ⟨rfl, HB0.out.trans (HK.out.b.mono HB0.out.size)⟩
      go_wp2_with (go_at_call 11; refine (do_ok (W := W1) HA.out HK.out.p HK.out.r HK.out.b HK.out.dW HK.out.rW HK.out.dR HOV.out.k1 HOV.out.y1 HOV.out.k2 (by rw [HOV.out.z1]; omega) (by rw [HOV.out.z2]; omega) HOV.out.bd).mono ?_; rintro e w6 ⟨rfl, D6, S6, st6, hk6, hpt6⟩; have hsl6 := hpt6.1.trans hsl; have HK6 := Lib.hid hk6.k0; clear hk6 hpt6)
      go_roundw
      case rel => exact ⟨k + 1, D6, S6, st6, by omega, by omega, by go_num, HK6.out, hsl6⟩
      case measure => simp [intOf]; omega
    · have hend : k = len ∨ k = 40 := by omega
      obtain ⟨wB, rfl⟩ : ∃ x, x = wr := ⟨_, rfl⟩
      have hDl : ∀ b, D b → b < wB.heap.size := fun b hb => HA.out.lt HK.out.p b hb
      have hSl : ∀ b, S b → b < wB.heap.size := fun b hb => HK.out.r.lt b hb
      have HDS := Lib.hid (And.intro hDl hSl)
      clear hDl hSl hlt
      have hend2 : (k < len ∧ k = 40) ∨ k = len := by omega
      clear hend hk hk60
      rcases hend2 with ⟨hlt1, rfl⟩ | rfl
      all_goals
        as_aux_lemma =>
        go_wp2_with fail
        go_loopw [11, 12] (fun v m wr => ∃ q : Nat, q ≤ ds.length ∧ m = .int .i64 q ∧ Below wB.heap.size wB wr ∧ wr.ownsRow wB.heap.size 9 1 v (16 * q) (strsOf st (16 * q))) (fun _ m _ => ds.length - (intOf m).toNat)
        case atStart => exact ⟨0, by omega, rfl, Below.refl _ _, World.ownsRow_nil _ _ _ _⟩
        case round =>
          obtain ⟨q, hq, rfl, hbw, how⟩ := hrel
          have HBW := Lib.hid hbw
          have HOW := Lib.hid how
          clear hbw how
          by_cases hlt : q < ds.length
          · go_wp2_with fail
            go_loopw [11, 13] (fun v m wr => ∃ r : Nat, r ≤ 16 ∧ m = .int .i64 r ∧ Below wB.heap.size wB wr ∧ wr.ownsRow wB.heap.size 9 1 v (16 * q + r) (strsOf st (16 * q + r))) (fun _ m _ => 16 - (intOf m).toNat)
            case atStart => exact ⟨0, by omega, rfl, HBW.out, HOW.out⟩
            case round =>
              obtain ⟨r, hr, rfl, hbw, how⟩ := hrel
              have HBV := Lib.hid hbw
              have HOV := Lib.hid how
              clear hbw how HBW HOW
              by_cases hr16 : r < 16
              · obtain ⟨str, hstr⟩ : ∃ x, strOfNums (slotZ st q r) = x := ⟨_, rfl⟩
                have HSN := Lib.hid (strsOf_snoc st q r hr16)
                have HSTR := Lib.hid hstr
                clear hstr
                go_wp2_with (first
                  | (go_at_call 13; refine (slot_any HA.out (HK.out.stay HA.out HBV.out).p (m := q) (k := r) (by omega)).mono ?_; rintro e w7 ⟨v7, b7, rfl, hk7, hb7⟩; have hc7 := key_str hk7; rw [HSTR.out] at hc7; have HB7 := Lib.hid (HBV.out.trans (hb7.mono HBV.out.size)); have HO7 := Lib.hid (own_belowS HOV.out hb7); clear hk7 hb7)
                  | (at_builtin; refine wpList_append_own_at _ rfl _ _ 42 rfl wB.heap.size 9 i0 _ 1 16 Try.underlying42 hi0 hz0 hz1 hz2 rfl (by omega) _ (16 * q + r) _ rfl (HO7.out.alloc _) ⟨w7.heap.size, 0, none⟩ 1 1 [.string str] rfl rfl (cell_one_new _ _ _) (fun u hu => by simp at hu; subst hu; rfl) (by unfold maxLen; omega) (by omega) (Nat.le_trans HB7.out.size (by simp)) ?_; intro v1 w8 hown hgr _ _; have HO8 := Lib.hid hown; have HG8 := Lib.hid hgr; clear hown hgr))
                go_roundw
                case rel =>
                  refine ⟨r + 1, by omega, by go_num, ((HB7.out.alloc HB7.out.size _).grown HG8.out (Nat.le_trans HB7.out.size (by simp)) (fun b hb => (HO7.out.lt b hb).1)), ?_⟩
                  rw [HSN.out, HSTR.out]
                  exact HO8.out
                case measure => simp [intOf]; omega
              · obtain rfl : r = 16 := by omega
                go_wp2_with fail
                go_roundw
                case rel => exact ⟨q + 1, by omega, by go_num, HBV.out, HOV.out⟩
                case measure => simp [intOf]; omega
          · obtain rfl : q = ds.length := by omega
            have y := HBX.out _ (HK.out.b.trans (HBW.out.mono HK.out.b.size))
            have y0 := y.c0
            have y1 := y.c1
            have y2 := y.c2
            have y3 := y.c3
            have y4 := y.c4
            have y5 := y.c5
            have y6 := y.c6
            have y7 := y.c7
            have y8 := y.c8
            have y9 := y.c9
            have HK5 := Lib.hid (HK.out.stay HA.out HBW.out)
            clear y
            go_wp2_with (go_at_call 11; refine (do_ok (W := W1) HA.out HK5.out.p HK5.out.r HK5.out.b HK5.out.dW HK5.out.rW HK5.out.dR HX.out.k1 HX.out.y1 HX.out.k2 (by rw [HX.out.z1]; omega) (by rw [HX.out.z2]; omega) HX.out.bd).mono ?_; rintro e w6 ⟨rfl, D6, S6, st6, hk6, hpt6⟩; have hsl6 := hpt6.1.trans hsl; have HPT := Lib.hid hpt6; have hwas := was_turn HOW.out hk6 HDS.out.1 HDS.out.2; have HK6 := Lib.hid hk6.k0; clear hk6 hpt6)
            obtain ⟨aw, cw, rfl, hcw⟩ := hwas
            have HCW := Lib.hid hcw
            clear hcw HK HK5 HOW HBW HDS y0 y1 y2 y3 y4 y5 y6 y7 y8 y9
            go_loopw [16] (fun m wr => ∃ q : Nat, q ≤ ds.length ∧ m = .int .i64 q ∧ Below w6.heap.size w6 wr) (fun m _ => ds.length - (intOf m).toNat)
            case atStart => exact ⟨0, by omega, rfl, Below.refl _ _⟩
            case round =>
              obtain ⟨q, hq, rfl, hbw⟩ := hrel
              have HBW := Lib.hid hbw
              clear hbw
              by_cases hlt : q < ds.length
              · go_wp2_with fail
                go_loopw [17] (fun m wr => ∃ r : Nat, r ≤ 16 ∧ m = .int .i64 r ∧ Below w6.heap.size w6 wr) (fun m _ => 16 - (intOf m).toNat)
                case atStart => exact ⟨0, by omega, rfl, HBW.out⟩
                case round =>
                  obtain ⟨r, hr, rfl, hbw⟩ := hrel
                  have HBV := Lib.hid hbw
                  clear hbw HBW
                  by_cases hr16 : r < 16
                  · obtain ⟨g9, haw, hg9, hc9⟩ := HCW.out q r hr16 (by omega)
                    subst haw
                    obtain ⟨str, hstr⟩ : ∃ x, strOfNums (slotZ st q r) = x := ⟨_, rfl⟩
                    rw [hstr] at hc9
                    have HSTR := Lib.hid hstr
                    have HC9 := Lib.hid (And.intro hg9 hc9)
                    clear hstr hg9 hc9
                    have hT1 : (16 * (q : Int) + (r : Int)).toNat = 16 * q + r := by omega
                    by_cases hM : (q : Int) = Mx
                    · have d1 : ((q : Int) == Mx) = true := by simpa using hM
                      have d2 : decide ((q : Int) = Mx) = true := by simpa using hM
                      have d3 : ((q : Int) != Mx) = false := by simpa using hM
                      clear hM
                      as_aux_lemma =>
                      go_upto_region 32 with (go_at_call 13; refine (slot_any HA.out (HK6.out.stay HA.out HBV.out).p (m := q) (k := r) (by omega)).mono ?_; rintro e w7 ⟨v7, b7, rfl, hk7, hb7⟩; have HY7 := Lib.hid hk7; have HB7 := Lib.hid (HBV.out.trans (hb7.mono HBV.out.size)); clear hk7 hb7)
                      have Q1 := Lib.hid (HBX.out _ ((HK6.out.b.trans (HB7.out.mono HK6.out.b.size)))).c1
                      have x1 := Q1.out
                      go_quiet (fail)
                      all_goals
                        go_wp2_with fail
                        go_roundw
                        case rel => exact ⟨r + 1, by omega, by go_num, bdrewN HB7.out _⟩
                        case measure => simp [intOf]; omega
                    · have hst : strOfNums (slotZ st6 q r) = str := by rw [slotZ_part HPT.out hM]; exact HSTR.out
                      have HST := Lib.hid hst
                      have d1 : ((q : Int) == Mx) = false := by simpa using hM
                      have d2 : decide ((q : Int) = Mx) = false := by simpa using hM
                      have d3 : ((q : Int) != Mx) = true := by simpa using hM
                      clear hst hM
                      as_aux_lemma =>
                      go_upto_region 32 with (go_at_call 13; refine (slot_any HA.out (HK6.out.stay HA.out HBV.out).p (m := q) (k := r) (by omega)).mono ?_; rintro e w7 ⟨v7, b7, rfl, hk7, hb7⟩; have HY7 := Lib.hid hk7; have HB7 := Lib.hid (HBV.out.trans (hb7.mono HBV.out.size)); clear hk7 hb7)
                      have Q1 := Lib.hid (And.intro (HBX.out _ ((HK6.out.b.trans (HB7.out.mono HK6.out.b.size)))).c1 ((HB7.out.cell (p := ⟨g9, 16 * q + r, none⟩) HC9.out.1).trans HC9.out.2))
                      have hcv : ∀ m, (convert 32 9 v7).run Try.prog (w7.drewN m) = .ok (.string str) (w7.drewN m) := fun m => by
                        have e := key_str (HY7.out.stay rfl (bdrewN (Below.refl _ _) m))
                        rwa [HST.out] at e
                      have x1 := Q1.out.1
                      have x2 := Q1.out.2
                      have i1 : (0 : Int) ≤ 16 * (q : Int) + (r : Int) := by omega
                      have i2 : 16 * (q : Int) + (r : Int) < ((16 * ds.length : Nat) : Int) := by omega
                      have i3 : 16 * (q : Int) + (r : Int) < 16 * (ds.length : Int) := by omega
                      go_quiet (fail)
                      all_goals
                        go_wp2_with fail
                        go_roundw
                        case rel => exact ⟨r + 1, by omega, by go_num, bdrewN HB7.out _⟩
                        case measure => simp [intOf]; omega
                  · obtain rfl : r = 16 := by omega
                    go_wp2_with fail
                    go_roundw
                    case rel => exact ⟨q + 1, by omega, by go_num, HBV.out⟩
                    case measure => simp [intOf]; omega
              · obtain rfl : q = ds.length := by omega
                go_wp2_with fail
                go_ret
                exact ⟨rfl, HB0.out.trans ((HK6.out.b.trans (HBW.out.mono HK6.out.b.size)).mono HB0.out.size)⟩
end Go.Proofs.Ytenjdgoammaiiaa
