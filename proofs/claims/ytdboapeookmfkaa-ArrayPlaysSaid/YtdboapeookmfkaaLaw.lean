/-
  Proved here: the law ArrayPlays returns true, for whatever was drawn. Conditions: none.
-/
import Derived.Test.YtdboapeookmfkaaPut
import Derived.RegionTactic
import Derived.BigRegion
import Derived.Deep.RegionHeld3
import Derived.Deep.RegionWith
import Derived.Deep.DeepCutAuto
namespace Go.Proofs.Ytdboapeookmfkaa
open Go.RowKit

/-- What Slot told: the slot's bytes, or nothing. -/
def Told (G s n : Nat) (K : Int) (b ok : Value) : Prop :=
  (∃ q p : Nat, K = q ∧ q < n ∧ Hid (q * s = p) ∧ b = .slice (some ⟨G, p, none⟩) s s ∧ ok = .bool true) ∨ (¬ (0 ≤ K ∧ K < n) ∧ b = .slice none 0 0 ∧ ok = .bool false)
/-- Is there such a place? -/
def inB (s n : Nat) (K T : Int) : Bool := decide (0 ≤ K ∧ K < n) && decide (0 ≤ T ∧ T < s)
theorem inB_yes {s n q : Nat} {T : Int} (hq : q < n) : inB s n q T = (decide (0 ≤ T) && decide (T < s)) := by
  simp [inB, hq, Bool.decide_and]
theorem inB_no {s n : Nat} {K T : Int} (h : ¬ (0 ≤ K ∧ K < n)) : inB s n K T = false := by
  simp only [inB, decide_eq_false h, Bool.false_and]
theorem inB_true {s n : Nat} {K T : Int} (h : inB s n K T = true) : 0 ≤ K ∧ K < n ∧ 0 ≤ T ∧ T < s := by
  simpa [inB, and_assoc] using h
theorem inB_false {s n : Nat} {K T : Int} (h : inB s n K T = false) : ¬ (0 ≤ K ∧ K < n ∧ 0 ≤ T ∧ T < s) := by
  rintro ⟨a, b, c, d⟩
  simp [inB, a, b, c, d] at h

def LawPost (W : World) (e : Ending) (w : World) : Prop := e = .returned (.bool true) ∧ Below W.heap.size W w
set_option maxRecDepth 100000 in
theorem law_not (s n t : Int) (w : World) (A : Option Addr) (len cap : Nat) (h : ¬ (1 ≤ s ∧ s ≤ 32 ∧ 1 ≤ n ∧ n ≤ 16)) :
    Calls Try.prog 3 #[.int .i64 s, .int .i64 n, .slice A len cap, .int .u8 t] w (LawPost w) := by
  have hm : mayB s n = false := by
    cases e : mayB s n
    · rfl
    · exact absurd (may_yes e) h
  go_enter Try.func3, Try.ntmps3
  go_wp2_with (first
    | (go_at_call 4; refine (alive _).mono ?_; rintro e w1 ⟨rfl, hb1⟩; have HB1 := Lib.hid hb1; clear hb1)
    | (go_at_call 5; refine (arr_not _ _ _ h).mono ?_; rintro e w2 ⟨rfl, rfl⟩)
    | (go_at_call 6; refine (ref_may _ _ _).mono ?_; rintro e w2 ⟨rfl, rfl⟩))
  go_ret
  exact ⟨rfl, HB1.out⟩
set_option maxRecDepth 100000 in
set_option maxHeartbeats 4000000 in
theorem law_may (s n L : Nat) (t : Int) (w : World) (A0 : Option Addr) (len cap0 : Nat) (hd : Dim s n L) (hl : len ≤ maxLen) (ho : OpsAt w A0 len) (t0 : 0 ≤ t ∧ t ≤ 255) :
    Calls Try.prog 3 #[.int .i64 s, .int .i64 n, .slice A0 len cap0, .int .u8 t] w (LawPost w) := by
  have hm : mayB s n = true := by
    obtain ⟨a, b, c, d, _⟩ := hd
    simp [mayB]; omega
  have s0 := hd.s0
  have s1 := hd.s1
  have n0 := hd.n0
  have n1 := hd.n1
  unfold maxLen at hl
  have HD := Lib.hid hd
  have HO := Lib.hid ho
  clear hd ho
  go_enter Try.func3, Try.ntmps3
  go_wp2_with (first
    | (go_at_call 4; refine (alive _).mono ?_; rintro e w1 ⟨rfl, hb1⟩; have HB1 := Lib.hid hb1; clear hb1)
    | (go_at_call 5; refine (arr_new _ _ _ _ HD.out).mono ?_; rintro e w2 ⟨rfl, hb2, ha2⟩; have HB2 := Lib.hid hb2; have HA2 := Lib.hid ha2; clear hb2 ha2)
    | (go_at_call 6; refine (ref_may _ _ _).mono ?_; rintro e w2 ⟨rfl, rfl⟩)
    | (go_at_call 7; refine (ref_new _ _ _ s1 n1).mono ?_; rintro e w3 ⟨R, v, gs, rfl, hn3⟩; have HN3 := Lib.hid hn3; clear hn3))
  have ha2 := HA2.out
  have hb2 := HB2.out
  have hn3 := HN3.out
  have hb1 := HB1.out
  obtain ⟨B, cap, rfl, hRB, hrf⟩ := rf_of_new hn3 HD.out
  have hz1 := hb1.size
  have hz2 := hb2.size
  have hz3 := hn3.below.size
  have hb3 : Below w2.heap.size w2 w3 := hn3.below.mono hn3.at_
  have hst : St w w3 (w1.heap.size + 1) w1.heap.size R B cap s n L gs (zeros L) (zeros L) :=
    ⟨ha2.stay hb3, hrf, (hb1.trans (hb2.mono hz1)).trans (hb3.mono (by omega))⟩
  have hRa := hn3.at_
  have hAl := ha2.ltA
  have hap : Apart w (w1.heap.size + 1) w1.heap.size R B n gs :=
    ⟨by omega, by omega, fun k hk => by have := hn3.lo k hk; omega, by omega, by omega, fun k hk => by have := hn3.lo k hk; omega, fun k hk => by have := hn3.lo k hk; omega⟩
  obtain ⟨G, hG⟩ : ∃ G, w1.heap.size = G := ⟨_, rfl⟩
  obtain ⟨A, hA⟩ : ∃ A, G + 1 = A := ⟨_, rfl⟩
  rw [hG, hA] at hst hap
  rw [hG, hA]
  have HST := Lib.hid hst
  have HAP := Lib.hid hap
  clear hst hap hA hG ha2 hb2 hn3 hb1 HB1 HB2 HA2 HN3 hrf hz1 hz2 hz3 hb3 hRa hAl hRB
  go_loopw [12, 13, 14] (fun c x i wr => ∃ (k : Nat) (zs : List Int), k ≤ len ∧ k ≤ 60 ∧ i = .int .i64 k ∧ Know w wr A G R B cap s n L gs zs zs c x) (fun _ _ i _ => 60 - (intOf i).toNat)
  case atStart => exact ⟨0, _, by omega, by omega, rfl, HST.out, .inl rfl⟩
  case round =>
    obtain ⟨k, zs, hk, hk60, rfl, hkn⟩ := hrel
    have HK := Lib.hid hkn
    clear hkn HST
    by_cases hlt : k < len ∧ k < 60
    · obtain ⟨hlt, hlt60⟩ := hlt
      have hT : 0 ≤ t % 40 ∧ t % 40 ≤ 39 := by omega
      go_upto_if 58 with fail
      go_cut [12, 13] (fun c x wx => Know w wx A G R B cap s n L gs zs zs c x)
      case first =>
        by_cases he : ((k : Int) == t % 40) = true
        · go_wp2_with (first
            | (go_at_call 8; refine (arr_copy _ _ _ _ _ _ _ _ HD.out.pos (by have := HD.out.le; omega) HK.out.1.arr).mono ?_; rintro e w4 ⟨A4, G4, C4, rfl, hb4, hA4, hG4, ha4⟩; have hst4 := HK.out.1.stay s0 n0 hb4; have hcs4 := CopySt.new HK.out.1 s0 ha4 hA4 hG4; have HST4 := Lib.hid hst4; have HCS4 := Lib.hid hcs4; clear hb4 hA4 hG4 ha4 hst4 hcs4)
            | (go_at_call 9; refine (arr_bytes _ _ _ _ _ _ _ _ HD.out.pos (by have := HD.out.le; omega) HST4.out.arr).mono ?_; rintro e w5 ⟨g5, cap5, rfl, hf5⟩; have hc5 := str_of (cap := cap5) HST4.out.arr.len hf5.row; have HF5 := Lib.hid hf5; clear hf5))
          go_meet
          case rel => exact ⟨HST4.out.stay s0 n0 HF5.out.below, HCS4.out.stay HF5.out.below⟩
        · have he2 : ((k : Int) == t % 40) = false := by simpa using he
          clear he
          go_wp2_with fail
          go_meet
          case rel => exact HK.out
      case rest =>
        have hO := HO.out
        rcases hO with h0 | ⟨g, off, rfl, hg, hops⟩
        · omega
        obtain ⟨K, T, C, hop⟩ := hops k hlt
        have hb := hcut.1.below
        obtain ⟨k0, k1, k2, bK, bT, bC⟩ := hop.below hg hb
        have HOP := Lib.hid hop
        have HC := Lib.hid hcut
        clear hop hcut hops hb HO HK
        go_upto_region 17 with fail
        go_cut [15, 16] (fun b ok wx => Know w wx A G R B cap s n L gs zs zs u12 u13 ∧ Told G s n K b ok)
        case first =>
          as_aux_lemma =>
          by_cases hK : 0 ≤ K ∧ K < n
          · obtain ⟨hK0, hK1⟩ := hK
            obtain ⟨q, rfl⟩ := Int.eq_ofNat_of_zero_le hK0
            have hq : q < n := by omega
            go_wp2_with (go_at_call 10; refine (slot_yes _ _ _ _ _ _ _ _ _ HD.out HC.out.1.arr hq rfl).mono ?_; rintro e w4 ⟨rfl, hb4⟩; have HB4 := Lib.hid hb4; clear hb4)
            go_meet
            case rel => exact ⟨HC.out.stay HD.out HB4.out, .inl ⟨q, _, rfl, hq, rfl, rfl, rfl⟩⟩
          · go_wp2_with (go_at_call 10; refine (slot_no _ _ _ _ HC.out.1.arr.c1 hK).mono ?_; rintro e w4 ⟨rfl, hb4⟩; have HB4 := Lib.hid hb4; clear hb4)
            go_meet
            case rel => exact ⟨HC.out.stay HD.out HB4.out, .inr ⟨hK, rfl, rfl⟩⟩
        case rest =>
          obtain ⟨hk4, hT4⟩ := hcut
          clear k0 k1 k2
          obtain ⟨k0, k1, k2, _, _, _⟩ := HOP.out.below hg hk4.1.below
          have HK4 := Lib.hid hk4
          have HT4 := Lib.hid hT4
          clear hk4 hT4 HC
          go_upto_region 18 with fail
          go_cut [108] (fun v wx => v = .bool false ∧ wx = wc)
          case first =>
            as_aux_lemma =>
            have hT4 := HT4.out
            rcases hT4 with ⟨q, p, rfl, hq, HP, rfl, rfl⟩ | ⟨hno, rfl, rfl⟩
            · go_wp2_with fail
              go_meet
              case rel => exact ⟨rfl, rfl⟩
            · by_cases hK0 : 0 ≤ K
              · have hK1 : ¬ K < n := by omega
                go_wp2_with fail
                go_meet
                case rel => exact ⟨by simp, rfl⟩
              · go_wp2_with fail
                go_meet
                case rel => exact ⟨rfl, rfl⟩
          case rest =>
            obtain ⟨rfl, rfl⟩ := hcut
            go_upto_region 20 with fail
            go_cut [126] (fun v wx => ∃ bb, v = .bool bb ∧ Hid (inB s n K T = bb) ∧ wx = wc)
            case first =>
              as_aux_lemma =>
              have hT4 := HT4.out
              rcases hT4 with ⟨q, p, rfl, hq, HP, rfl, rfl⟩ | ⟨hno, rfl, rfl⟩
              · by_cases hT0 : 0 ≤ T
                · by_cases hT1 : T < s
                  all_goals
                    go_wp2_with fail
                    go_meet
                    case rel => exact ⟨_, rfl, Lib.hid (by rw [inB_yes hq, Bool.eq_iff_iff]; simp <;> omega), rfl⟩
                · go_wp2_with fail
                  go_meet
                  case rel => exact ⟨_, rfl, Lib.hid (by rw [inB_yes hq, Bool.eq_iff_iff]; simp <;> omega), rfl⟩
              · go_wp2_with fail
                go_meet
                case rel => exact ⟨_, rfl, Lib.hid (inB_no hno), rfl⟩
            case rest =>
              obtain ⟨bb, rfl, HIN, rfl⟩ := hcut
              go_upto_if 126 with fail
              go_cut [] (fun wx => Know w wx A G R B cap s n L gs (putO zs s n K T C) zs u12 u13)
              case first =>
                as_aux_lemma =>
                have hT4 := HT4.out
                cases bb
                · have hno := inB_false HIN.out
                  go_wp2_with fail
                  go_meet
                  case rel => rw [putO_no hno]; exact HK4.out
                · obtain ⟨a1, a2, a3, a4⟩ := inB_true HIN.out
                  rcases hT4 with ⟨q, p, rfl, hq, HP, rfl, rfl⟩ | ⟨hno, rfl, rfl⟩
                  · obtain ⟨r, rfl⟩ := Int.eq_ofNat_of_zero_le a3
                    have hr : r < s := by omega
                    have hps := HD.out.at hq
                    rw [HP.out] at hps
                    have hcell := HK4.out.1.arr.row (p + r) (by omega)
                    have hfree := HK4.out.1.arr.free (p + r)
                    rw [Nat.zero_add] at hcell
                    go_wp2_with fail
                    go_region
                    go_wp2_with fail
                    go_meet
                    case rel =>
                      rw [putO_yes hq hr, HP.out]
                      exact (HK4.out.putA HAP.out (p := p + r) (by omega)).drew HD.out
                  · exact absurd ⟨a1, a2⟩ hno
              case rest =>
                clear k0 k1 k2
                obtain ⟨k0, k1, k2, _, _, _⟩ := HOP.out.below hg hcut.1.below
                obtain ⟨ys, hys⟩ : ∃ ys, putO zs s n K T C = ys := ⟨_, rfl⟩
                have HYS := Lib.hid hys
                rw [hys] at hcut
                have HKY := Lib.hid hcut
                clear hys hcut HK4
                go_upto_region 22 with fail
                go_cut [] (fun wx => Know w wx A G R B cap s n L gs ys zs u12 u13)
                case first =>
                  as_aux_lemma =>
                  have hT4 := HT4.out
                  rcases hT4 with ⟨q, p, rfl, hq, HP, rfl, rfl⟩ | ⟨hno, rfl, rfl⟩
                  · go_wp2_with (at_builtin; refine wpList_junk HKY.out HD.out hq HP.out rfl _ _ rfl rfl rfl ?_; intro v6 w6 hk6; have HK6 := Lib.hid hk6; clear hk6)
                    go_frame
                    go_meet
                    case rel => exact HK6.out
                  · go_wp2_with (at_builtin; refine wpList_junk0 HKY.out HD.out rfl _ _ rfl rfl rfl ?_; intro v6 w6 hk6; have HK6 := Lib.hid hk6; clear hk6)
                    go_frame
                    go_meet
                    case rel => exact HK6.out
                case rest =>
                  clear k0 k1 k2
                  obtain ⟨k0, k1, k2, _, _, _⟩ := HOP.out.below hg hcut.1.below
                  have HK6 := Lib.hid hcut
                  clear hcut HKY HT4
                  go_upto_region 23 with fail
                  go_cut [] (fun wx => Know w wx A G R B cap s n L gs ys ys u12 u13)
                  case first =>
                    as_aux_lemma =>
                    have hk6d := HK6.out.drew HD.out
                    go_region_held3 (fun W => W.cell? ⟨g, off + k * 3, none⟩ = some (.int .i64 K) ∧ W.cell? ⟨g, off + k * 3 + 1, none⟩ = some (.int .i64 T) ∧ W.cell? ⟨g, off + k * 3 + 2, none⟩ = some (.int .u8 C))
                      (first | exact ⟨d0, d1, d2⟩ | exact ⟨k0, k1, k2⟩)
                      ((go_at_call 11; refine (write_any hk6d HAP.out HD.out _ _ _).mono ?_; rintro e w7 ⟨rfl, hk7⟩; obtain ⟨d0, d1, d2, _, _, _⟩ := HOP.out.below hg hk7.1.below))
                    go_wp2_with fail
                    go_meet
                    case rel =>
                      rw [HYS.out] at hk7
                      exact hk7
                  case rest =>
                    have HK7 := Lib.hid hcut
                    clear hcut
                    obtain ⟨str, hstr⟩ : ∃ x, strOfNums ys = x := ⟨_, rfl⟩
                    have HSTR := Lib.hid hstr
                    clear hstr
                    go_upto_region 24 with fail
                    go_cut [165] (fun v wx => v = .bool false ∧ Know w wx A G R B cap s n L gs ys ys u12 u13)
                    case first =>
                      as_aux_lemma =>
                      have hk7d := HK7.out.drew HD.out
                      have HK7D := Lib.hid hk7d
                      clear hk7d
                      go_region_with (first
                        | (go_at_call 9; refine (arr_bytes _ _ _ _ _ _ _ _ HD.out.pos (by have := HD.out.le; omega) HK7D.out.1.arr).mono ?_; rintro e w8 ⟨g8, cap8, rfl, hf8⟩; have hc8 := str_of (cap := cap8) HK7D.out.1.arr.len hf8.row; rw [HSTR.out] at hc8; have HK8 := Lib.hid (HK7D.out.stay HD.out hf8.below); have HF8 := Lib.hid hf8; clear hf8)
                        | (go_at_call 12; refine (ref_bytes _ _ _ _ _ _ _ _ _ HD.out HK8.out.1.rf).mono ?_; rintro e w9 ⟨g9, cap9, rfl, hf9⟩; have hc9 := str_of (cap := cap9) HK8.out.1.rf.len hf9.row; rw [HSTR.out] at hc9; have hc89 := str_of (cap := cap8) HK7D.out.1.arr.len (rowAt_below HF8.out.row (cell_block_lt (HF8.out.row 0 HD.out.pos)) hf9.below); rw [HSTR.out] at hc89; have HK9 := Lib.hid (HK8.out.stay HD.out hf9.below); clear hf9))
                      all_goals
                        go_wp2_with fail
                        go_meet
                        case rel => exact ⟨rfl, HK9.out⟩
                    case rest =>
                      obtain ⟨rfl, hk9⟩ := hcut
                      have HK9 := Lib.hid hk9
                      clear hk9
                      go_wp2
                      go_roundw
                      case rel => exact ⟨k + 1, ys, by omega, by omega, by go_num, HK9.out⟩
                      case measure => simp [intOf]; omega
    · have hend : k = len ∨ k = 60 := by omega
      have hcs := HK.out.2
      rcases hcs with rfl | ⟨A2, G2, C2, z2, rfl, rfl, ha2, h2, h3, h4⟩
      · by_cases hlt1 : k < len
        all_goals
          as_aux_lemma =>
          go_wp2_with (first
            | (go_at_call 13; refine (arr_len _ _ _ HK.out.1.arr.c1).mono ?_; rintro e w9 ⟨rfl, rfl⟩)
            | (go_at_call 14; refine (arr_size _ _ _ HK.out.1.arr.c0).mono ?_; rintro e w9 ⟨rfl, rfl⟩))
          go_ret
          exact ⟨rfl, HK.out.1.below⟩
      · clear h2 h3 h4
        obtain ⟨str, hstr⟩ : ∃ x, strOfNums z2 = x := ⟨_, rfl⟩
        have HSTR := Lib.hid hstr
        rw [hstr]
        have HA2 := Lib.hid ha2
        clear hstr ha2
        by_cases hlt1 : k < len
        all_goals
          as_aux_lemma =>
          go_wp2_with (first
            | (go_at_call 13; refine (arr_len _ _ _ HK.out.1.arr.c1).mono ?_; rintro e w9 ⟨rfl, rfl⟩)
            | (go_at_call 14; refine (arr_size _ _ _ HK.out.1.arr.c0).mono ?_; rintro e w9 ⟨rfl, rfl⟩)
            | (go_at_call 9; refine (arr_bytes _ _ _ _ _ _ _ _ HD.out.pos (by have := HD.out.le; omega) HA2.out).mono ?_; rintro e w8 ⟨g8, cap8, rfl, hf8⟩; have hc8 := str_of (cap := cap8) HA2.out.len hf8.row; rw [HSTR.out] at hc8; have HF8 := Lib.hid hf8; clear hf8))
          go_ret
          exact ⟨rfl, HK.out.1.below.trans (HF8.out.below.mono HK.out.1.below.size)⟩
end Go.Proofs.Ytdboapeookmfkaa
