/-
  Proved here: the law LocalPlays returns true, over whatever memory of the program's storage keeps its contracts. Conditions: the contracts.
-/
import Derived.Test.YtijhoiheieighaaKn12
import Derived.LoopTactic
import Derived.RegionTactic
import Derived.BigRegion
import Derived.Deep.CutBlock
namespace Go.Proofs.Ytijhoiheieighaa
open Go.RowKit

set_option maxRecDepth 100000 in
set_option maxHeartbeats 4000000 in
theorem law_may {PS : StMem} (s n L : Nat) (t : Int) (w : World) (A0 : Option Addr) (len cap0 : Nat) (ac : Acts12 PS s n L) (al : ∀ w, Calls Try.prog 6 #[] w (fun e w' => e = .returned (.bool true) ∧ Below w.heap.size w w')) (hd : Dim s n L) (hl : len ≤ maxLen) (ho : OpsIn w A0 len) (t0 : 0 ≤ t ∧ t ≤ 255) :
    Calls Try.prog 3 #[.int .i64 s, .int .i64 n, .slice A0 len cap0, .int .u8 t] w (LawPost w) := by
  have hm : mayB s n = true := by
    obtain ⟨a, b, c, d, _⟩ := hd
    simp [mayB]; omega
  have s0 := hd.s0
  have s1 := hd.s1
  have n0 := hd.n0
  have n1 := hd.n1
  unfold maxLen at hl
  have HD := Lib.hid hd
  have HO := Lib.hid ho
  have HA := Lib.hid ac
  clear hd ho ac
  go_enter Try.func3, Try.ntmps3
  go_wp2_with (first
    | (go_at_call 6; refine (al _).mono ?_; rintro e w1 ⟨rfl, hb1⟩; have HB1 := Lib.hid hb1; clear hb1)
    | (go_at_call 7; refine (HA.out.new _).mono ?_; rintro e w2 ⟨h, D, G, rfl, hp2, hb2, hD2⟩; have HB2 := Lib.hid hb2; have HP2 := Lib.hid hp2; have HDD := Lib.hid hD2; clear hb2 hp2 hD2)
    | (go_at_call 8; refine (ref_may _ _ _).mono ?_; rintro e w3 ⟨rfl, rfl⟩)
    | (go_at_call 9; refine (lo_new _ _ _ _ HD.out).mono ?_; rintro e w4 ⟨H, rfl, S, hf4, hb4, hS4⟩; have HF4 := Lib.hid hf4; have HB4 := Lib.hid hb4; have HS4 := Lib.hid hS4; clear hf4 hb4 hS4))
  have hkn : Kn PS w w4 D S h G H s n L [] (zeros L) [] (zeros L) := by
    have z1 := HB1.out.size
    have z2 := HB2.out.size
    refine ⟨HA.out.stay HP2.out HB4.out, HF4.out, (HB1.out.trans (HB2.out.mono z1)).trans (HB4.out.mono (by omega)), fun b hb => Nat.le_trans z1 (HDD.out b hb), fun b hb hs => ?_, fun b hs => ?_⟩
    · have h1 := HA.out.lt HP2.out b hb
      have h2 := HS4.out b hs
      omega
    · have h2 := HS4.out b hs
      omega
  have HKN := Lib.hid hkn
  clear hkn HB1 HB2 HP2 HDD HF4 HB4 HS4
  go_loopw [12, 13, 14, 15] (fun c x q i wr => ∃ (k : Nat) (D S : Nat → Prop) (G : Nat) (os : List Ob) (zs : List Int), k ≤ len ∧ k ≤ 60 ∧ i = .int .i64 k ∧ Kn PS w wr D S h G H s n L os zs os zs ∧ CopyK PS wr D S c x q) (fun _ _ _ i _ => 60 - (intOf i).toNat)
  case atStart => exact ⟨0, D, S, G, _, _, by omega, by omega, rfl, HKN.out, .inl rfl⟩
  case round =>
    obtain ⟨k, D, S, G, os, zs, hk, hk60, rfl, hkn, hck⟩ := hrel
    have HK := Lib.hid hkn
    have HC := Lib.hid hck
    clear hkn hck HKN
    by_cases hlt : k < len ∧ k < 60
    · obtain ⟨hlt, hlt60⟩ := hlt
      have hT : 0 ≤ t % 40 ∧ t % 40 ≤ 39 := by omega
      have hO := HO.out
      rcases hO with h0 | ⟨g, off, rfl, hg, hops⟩
      · omega
      obtain ⟨kd, x, y, K1, T1, C1, hop⟩ := hops k hlt
      have hb := HK.out.b
      have x0 := (hb.cell (p := ⟨g, off + k * 6, none⟩) hg).trans hop.c0
      have x1 := (hb.cell (p := ⟨g, off + k * 6 + 1, none⟩) hg).trans hop.c1
      have x2 := (hb.cell (p := ⟨g, off + k * 6 + 2, none⟩) hg).trans hop.c2
      have x3 := (hb.cell (p := ⟨g, off + k * 6 + 3, none⟩) hg).trans hop.c3
      have x4 := (hb.cell (p := ⟨g, off + k * 6 + 4, none⟩) hg).trans hop.c4
      have x5 := (hb.cell (p := ⟨g, off + k * 6 + 5, none⟩) hg).trans hop.c5
      have HOP := Lib.hid hop
      clear hop hb hops
      go_upto_if 68 with fail
      have hrd : Rd PS w (wr.alloc (.cells #[.int .u8 kd, .int .i64 x, .int .i64 y, .int .i64 K1, .int .i64 T1, .int .u8 C1] 34)) D S h G H s n L os zs os zs wr.heap.size kd x y K1 T1 C1 u12 u13 u14 := by
        have hb : Below wr.heap.size wr (wr.alloc (.cells #[.int .u8 kd, .int .i64 x, .int .i64 y, .int .i64 K1, .int .i64 T1, .int .u8 C1] 34)) := (Below.refl _ _).alloc (Nat.le_refl _) _
        refine ⟨HK.out.stay HA.out HD.out hb, HC.out.stay HA.out hb, ⟨by simp [go_sem], by simp [go_sem], by simp [go_sem], by simp [go_sem], by simp [go_sem], by simp [go_sem]⟩, fun hd => ?_, fun hs => ?_, by simp⟩
        · have := HA.out.lt HK.out.p _ hd; omega
        · have := HK.out.r.lt HD.out _ hs; omega
      obtain ⟨W5, hW5⟩ : ∃ W5, wr.alloc (.cells #[.int .u8 kd, .int .i64 x, .int .i64 y, .int .i64 K1, .int .i64 T1, .int .u8 C1] 34) = W5 := ⟨_, rfl⟩
      obtain ⟨bx, hbx⟩ : ∃ bx, wr.heap.size = bx := ⟨_, rfl⟩
      rw [hW5, hbx] at hrd
      rw [hW5, hbx]
      have HR := Lib.hid hrd
      clear hrd hW5 hbx x0 x1 x2 x3 x4 x5 HK HC
      go_cut [12, 13, 14] (fun c z q wx => Rd PS w wx D S h G H s n L os zs os zs bx kd x y K1 T1 C1 c z q)
      case first =>
        as_aux_lemma =>
        by_cases he : ((k : Int) == t % 40) = true
        · go_wp2_with (first
            | (go_at_call 10; refine (HA.out.copy HR.out.kn.p).mono ?_; rintro e w6 ⟨h2, D2, G2, rfl, hp6, hb6, hd6⟩; have HP6 := Lib.hid hp6; have HD6 := Lib.hid hd6; have HR6 := Lib.hid (HR.out.stay HA.out HD.out hb6); clear hp6 hb6 hd6)
            | (go_at_call 11; refine ((HA.out.bytes HR6.out.kn.p)).mono ?_; rintro e w7 ⟨g7, cap7, rfl, hf7⟩; have hc7 := str_of (cap := cap7) (HA.out.zlen HR6.out.kn.p) hf7.row; have HP7 := Lib.hid (HA.out.stay HP6.out hf7.below); have HR7 := Lib.hid (HR6.out.stay HA.out HD.out hf7.below); clear hf7)
            | (go_at_call 12; refine ((HA.out.len HR7.out.kn.p)).mono ?_; rintro e w8 ⟨rfl, hb8⟩; have HP8 := Lib.hid (HA.out.stay HP7.out hb8); have HR8 := Lib.hid (HR7.out.stay HA.out HD.out hb8); clear hb8))
          go_meet
          case rel =>
            have hh := HR8.out
            refine ⟨hh.kn, .inr ⟨h2, D2, G2, os, zs, rfl, rfl, rfl, HP8.out, fun b hb hd => ?_, fun b hb hs => ?_⟩, hh.bo, hh.bD, hh.bR, hh.lt⟩
            · have := HD6.out b hb; have := HA.out.lt HR.out.kn.p b hd; omega
            · have := HD6.out b hb; have := HR.out.kn.r.lt HD.out b hs; omega
        · have he2 : ((k : Int) == t % 40) = false := by simpa using he
          clear he
          go_wp2_with fail
          go_meet
          case rel => exact HR.out
      case rest =>
        have HR11 := Lib.hid hcut
        clear hcut HR
        have y0 := HR11.out.bo.c0
        go_upto_block 2 with fail
        go_cut [] (fun wx => ∃ (D S : Nat → Prop) (G : Nat) (os : List Ob) (zs : List Int), Kn PS w wx D S h G H s n L os zs os zs ∧ CopyK PS wx D S u12 u13 u14)
        case first =>
          have y1 := HR11.out.bo.c1
          have y2 := HR11.out.bo.c2
          by_cases m2 : (kd.tmod 4 == 2) = true
          · go_upto_region 25 with fail
            obtain ⟨dr, hdr⟩ : ∃ dr, dropR os zs s (x, y) = dr := ⟨_, rfl⟩
            have HDR := Lib.hid hdr
            clear hdr
            go_cut [119] (fun v wx => v = .bool false ∧ ∃ (D S : Nat → Prop) (G : Nat) (os : List Ob) (zs : List Int), Kn PS w wx D S h G H s n L os zs os zs ∧ CopyK PS wx D S u12 u13 u14)
            case first =>
              as_aux_lemma =>
              have HR12 := Lib.hid (HR11.out.stay HA.out HD.out (Below.refl _ _).drew)
              have Q1 := Lib.hid (And.intro HR12.out.bo.c1 HR12.out.bo.c2)
              go_region_held (fun W => W.cell? ⟨bx, 1, none⟩ = some (.int .i64 x) ∧ W.cell? ⟨bx, 2, none⟩ = some (.int .i64 y)) (first | with_reducible exact Q3.out | with_reducible exact Q2.out | exact Q1.out) (first
                | (go_at_call 13; refine (HA.out.drop (o := (x, y)) HR12.out.kn.p).mono ?_; rintro e w6 ⟨D6, G6, he, hp6, ht6, hd6⟩; rw [HDR.out] at he hp6; subst he; have HR6 := Lib.hid (HR12.out.prog HA.out HD.out ht6 hp6 hd6); have Q2 := Lib.hid (And.intro HR6.out.bo.c1 HR6.out.bo.c2); clear hp6 ht6 hd6)
                | (go_at_call 14; refine (lo_drop (o := (x, y)) HR6.out.kn.r HD.out).mono ?_; rintro e w7 ⟨S7, he, hf7, ht7, hs7⟩; rw [HDR.out] at he hf7; subst he; have HR7 := Lib.hid (HR6.out.refs HA.out ht7 hf7 hs7); have Q3 := Lib.hid (And.intro HR7.out.bo.c1 HR7.out.bo.c2); clear hf7 ht7 hs7))
              all_goals
                go_wp2_with fail
                go_meet
                case rel => exact ⟨rfl, D6, S7, _, _, _, HR7.out.kn, HR7.out.ck⟩
            case rest =>
              obtain ⟨rfl, hx⟩ := hcut
              have HX := Lib.hid hx
              clear hx
              go_wp2_with fail
              go_meet
              case rel => exact HX.out
          · have m2f : (kd.tmod 4 == 2) = false := by simpa using m2
            clear m2
            by_cases m3 : (kd.tmod 4 == 3) = true
            · have y3 := HR11.out.bo.c3
              by_cases hK : 0 ≤ K1 ∧ K1 < n
              · obtain ⟨hK0, hK1⟩ := hK
                obtain ⟨q, rfl⟩ := Int.eq_ofNat_of_zero_le hK0
                have hq : q < n := by omega
                by_cases hT0 : 0 ≤ T1
                · by_cases hT1 : T1 < s
                  · obtain ⟨r, rfl⟩ := Int.eq_ofNat_of_zero_le hT0
                    have hr : r < s := by omega
                    as_aux_lemma =>
                    go_upto_region 33 with (go_at_call 15; refine (HA.out.slotYes HR11.out.kn.p hq).mono ?_; rintro e w6 ⟨rfl, hb6⟩; have HR6 := Lib.hid (HR11.out.stay HA.out HD.out hb6); have y3 := HR6.out.bo.c3; have y4 := HR6.out.bo.c4; have y5 := HR6.out.bo.c5; obtain ⟨hxx, hfz⟩ := HA.out.byte HR6.out.kn.p (place_lt HD.out hq hr); clear hb6)
                    have hst : Rd PS w (w6.setCell ⟨G, q * s + r, none⟩ (.int .u8 C1)).drew D S h G H s n L os (putO zs s n q r C1) os zs bx kd x y q r C1 u12 u13 u14 := by
                      rw [putO_yes hq hr]
                      exact (HR6.out.prog HA.out HD.out ((Turned.refl D w6).set (a := ⟨G, q * s + r, none⟩) (.inl (HA.out.inG HR6.out.kn.p)) _) (HA.out.put HR6.out.kn.p (place_lt HD.out hq hr)) (fun b hb => .inl hb)).stay HA.out HD.out (Below.refl _ _).drew
                    have HRS := Lib.hid hst
                    clear hst
                    obtain ⟨R8, hpd8⟩ := HRS.out.kn.r.pdr
                    have HPD := Lib.hid hpd8
                    have w0 := hpd8.h1
                    have w2 := HRS.out.bo.c3
                    have w3 := HRS.out.bo.c4
                    have w4 := HRS.out.bo.c5
                    clear hpd8
                    go_region_held (fun W => W.cell? ⟨H, 1, none⟩ = some (.pointer (some ⟨R8, 0, none⟩)) ∧ W.cell? ⟨bx, 3, none⟩ = some (.int .i64 q) ∧ W.cell? ⟨bx, 4, none⟩ = some (.int .i64 r) ∧ W.cell? ⟨bx, 5, none⟩ = some (.int .u8 C1)) (first | with_reducible exact ⟨v0, v2, v3, v4⟩ | exact ⟨w0, w2, w3, w4⟩)
                      ((go_at_call 16; refine (lo_write HPD.out HD.out _ _ _).mono ?_; rintro e w8 ⟨rfl, hf8, ht8⟩; have HR8 := Lib.hid (HRS.out.refs HA.out ht8 hf8.pd (fun b hb => .inl hb)); have v0 := hf8.h1; have v2 := HR8.out.bo.c3; have v3 := HR8.out.bo.c4; have v4 := HR8.out.bo.c5; clear hf8 ht8))
                    all_goals
                      go_wp2_with fail
                      go_meet
                      case rel => exact ⟨D, S, G, os, putO zs s n q r C1, HR8.out.kn, HR8.out.ck⟩
                  · as_aux_lemma =>
                    go_upto_region 33 with (go_at_call 15; refine (HA.out.slotYes HR11.out.kn.p hq).mono ?_; rintro e w6 ⟨rfl, hb6⟩; have HR6 := Lib.hid (HR11.out.stay HA.out HD.out hb6); have y3 := HR6.out.bo.c3; have y4 := HR6.out.bo.c4; have y5 := HR6.out.bo.c5; clear hb6)
                    have hst : Rd PS w w6.drew D S h G H s n L os (putO zs s n q T1 C1) os zs bx kd x y q T1 C1 u12 u13 u14 := by
                      rw [putO_no (by omega)]
                      exact HR6.out.stay HA.out HD.out (Below.refl _ _).drew
                    have HRS := Lib.hid hst
                    clear hst
                    obtain ⟨R8, hpd8⟩ := HRS.out.kn.r.pdr
                    have HPD := Lib.hid hpd8
                    have w0 := hpd8.h1
                    have w2 := HRS.out.bo.c3
                    have w3 := HRS.out.bo.c4
                    have w4 := HRS.out.bo.c5
                    clear hpd8
                    go_region_held (fun W => W.cell? ⟨H, 1, none⟩ = some (.pointer (some ⟨R8, 0, none⟩)) ∧ W.cell? ⟨bx, 3, none⟩ = some (.int .i64 q) ∧ W.cell? ⟨bx, 4, none⟩ = some (.int .i64 T1) ∧ W.cell? ⟨bx, 5, none⟩ = some (.int .u8 C1)) (first | with_reducible exact ⟨v0, v2, v3, v4⟩ | exact ⟨w0, w2, w3, w4⟩)
                      ((go_at_call 16; refine (lo_write HPD.out HD.out _ _ _).mono ?_; rintro e w8 ⟨rfl, hf8, ht8⟩; have HR8 := Lib.hid (HRS.out.refs HA.out ht8 hf8.pd (fun b hb => .inl hb)); have v0 := hf8.h1; have v2 := HR8.out.bo.c3; have v3 := HR8.out.bo.c4; have v4 := HR8.out.bo.c5; clear hf8 ht8))
                    all_goals
                      go_wp2_with fail
                      go_meet
                      case rel => exact ⟨D, S, G, os, putO zs s n q T1 C1, HR8.out.kn, HR8.out.ck⟩
                · as_aux_lemma =>
                  go_upto_region 33 with (go_at_call 15; refine (HA.out.slotYes HR11.out.kn.p hq).mono ?_; rintro e w6 ⟨rfl, hb6⟩; have HR6 := Lib.hid (HR11.out.stay HA.out HD.out hb6); have y3 := HR6.out.bo.c3; have y4 := HR6.out.bo.c4; have y5 := HR6.out.bo.c5; clear hb6)
                  have hst : Rd PS w w6.drew D S h G H s n L os (putO zs s n q T1 C1) os zs bx kd x y q T1 C1 u12 u13 u14 := by
                    rw [putO_no (by omega)]
                    exact HR6.out.stay HA.out HD.out (Below.refl _ _).drew
                  have HRS := Lib.hid hst
                  clear hst
                  obtain ⟨R8, hpd8⟩ := HRS.out.kn.r.pdr
                  have HPD := Lib.hid hpd8
                  have w0 := hpd8.h1
                  have w2 := HRS.out.bo.c3
                  have w3 := HRS.out.bo.c4
                  have w4 := HRS.out.bo.c5
                  clear hpd8
                  go_region_held (fun W => W.cell? ⟨H, 1, none⟩ = some (.pointer (some ⟨R8, 0, none⟩)) ∧ W.cell? ⟨bx, 3, none⟩ = some (.int .i64 q) ∧ W.cell? ⟨bx, 4, none⟩ = some (.int .i64 T1) ∧ W.cell? ⟨bx, 5, none⟩ = some (.int .u8 C1)) (first | with_reducible exact ⟨v0, v2, v3, v4⟩ | exact ⟨w0, w2, w3, w4⟩)
                    ((go_at_call 16; refine (lo_write HPD.out HD.out _ _ _).mono ?_; rintro e w8 ⟨rfl, hf8, ht8⟩; have HR8 := Lib.hid (HRS.out.refs HA.out ht8 hf8.pd (fun b hb => .inl hb)); have v0 := hf8.h1; have v2 := HR8.out.bo.c3; have v3 := HR8.out.bo.c4; have v4 := HR8.out.bo.c5; clear hf8 ht8))
                  all_goals
                    go_wp2_with fail
                    go_meet
                    case rel => exact ⟨D, S, G, os, putO zs s n q T1 C1, HR8.out.kn, HR8.out.ck⟩
              · by_cases hK0 : 0 ≤ K1
                · have hK1 : (n : Int) ≤ K1 := by omega
                  as_aux_lemma =>
                  go_upto_region 33 with (go_at_call 15; refine (HA.out.slotNo HR11.out.kn.p hK).mono ?_; rintro e w6 ⟨rfl, hb6⟩; have HR6 := Lib.hid (HR11.out.stay HA.out HD.out hb6); have y3 := HR6.out.bo.c3; have y4 := HR6.out.bo.c4; have y5 := HR6.out.bo.c5; clear hb6)
                  have hst : Rd PS w w6.drew D S h G H s n L os (putO zs s n K1 T1 C1) os zs bx kd x y K1 T1 C1 u12 u13 u14 := by
                    rw [putO_no (by omega)]
                    exact HR6.out.stay HA.out HD.out (Below.refl _ _).drew
                  have HRS := Lib.hid hst
                  clear hst
                  obtain ⟨R8, hpd8⟩ := HRS.out.kn.r.pdr
                  have HPD := Lib.hid hpd8
                  have w0 := hpd8.h1
                  have w2 := HRS.out.bo.c3
                  have w3 := HRS.out.bo.c4
                  have w4 := HRS.out.bo.c5
                  clear hpd8
                  go_region_held (fun W => W.cell? ⟨H, 1, none⟩ = some (.pointer (some ⟨R8, 0, none⟩)) ∧ W.cell? ⟨bx, 3, none⟩ = some (.int .i64 K1) ∧ W.cell? ⟨bx, 4, none⟩ = some (.int .i64 T1) ∧ W.cell? ⟨bx, 5, none⟩ = some (.int .u8 C1)) (first | with_reducible exact ⟨v0, v2, v3, v4⟩ | exact ⟨w0, w2, w3, w4⟩)
                    ((go_at_call 16; refine (lo_write HPD.out HD.out _ _ _).mono ?_; rintro e w8 ⟨rfl, hf8, ht8⟩; have HR8 := Lib.hid (HRS.out.refs HA.out ht8 hf8.pd (fun b hb => .inl hb)); have v0 := hf8.h1; have v2 := HR8.out.bo.c3; have v3 := HR8.out.bo.c4; have v4 := HR8.out.bo.c5; clear hf8 ht8))
                  all_goals
                    go_wp2_with fail
                    go_meet
                    case rel => exact ⟨D, S, G, os, putO zs s n K1 T1 C1, HR8.out.kn, HR8.out.ck⟩
                · as_aux_lemma =>
                  go_upto_region 33 with (go_at_call 15; refine (HA.out.slotNo HR11.out.kn.p hK).mono ?_; rintro e w6 ⟨rfl, hb6⟩; have HR6 := Lib.hid (HR11.out.stay HA.out HD.out hb6); have y3 := HR6.out.bo.c3; have y4 := HR6.out.bo.c4; have y5 := HR6.out.bo.c5; clear hb6)
                  have hst : Rd PS w w6.drew D S h G H s n L os (putO zs s n K1 T1 C1) os zs bx kd x y K1 T1 C1 u12 u13 u14 := by
                    rw [putO_no (by omega)]
                    exact HR6.out.stay HA.out HD.out (Below.refl _ _).drew
                  have HRS := Lib.hid hst
                  clear hst
                  obtain ⟨R8, hpd8⟩ := HRS.out.kn.r.pdr
                  have HPD := Lib.hid hpd8
                  have w0 := hpd8.h1
                  have w2 := HRS.out.bo.c3
                  have w3 := HRS.out.bo.c4
                  have w4 := HRS.out.bo.c5
                  clear hpd8
                  go_region_held (fun W => W.cell? ⟨H, 1, none⟩ = some (.pointer (some ⟨R8, 0, none⟩)) ∧ W.cell? ⟨bx, 3, none⟩ = some (.int .i64 K1) ∧ W.cell? ⟨bx, 4, none⟩ = some (.int .i64 T1) ∧ W.cell? ⟨bx, 5, none⟩ = some (.int .u8 C1)) (first | with_reducible exact ⟨v0, v2, v3, v4⟩ | exact ⟨w0, w2, w3, w4⟩)
                    ((go_at_call 16; refine (lo_write HPD.out HD.out _ _ _).mono ?_; rintro e w8 ⟨rfl, hf8, ht8⟩; have HR8 := Lib.hid (HRS.out.refs HA.out ht8 hf8.pd (fun b hb => .inl hb)); have v0 := hf8.h1; have v2 := HR8.out.bo.c3; have v3 := HR8.out.bo.c4; have v4 := HR8.out.bo.c5; clear hf8 ht8))
                  all_goals
                    go_wp2_with fail
                    go_meet
                    case rel => exact ⟨D, S, G, os, putO zs s n K1 T1 C1, HR8.out.kn, HR8.out.ck⟩
            · have m3f : (kd.tmod 4 == 3) = false := by simpa using m3
              clear m3
              as_aux_lemma =>
              obtain ⟨cb, hcb⟩ : ∃ cb : Bool, (kd.tmod 4 == 1) = cb := ⟨_, rfl⟩
              have HCB := Lib.hid hcb
              obtain ⟨gr, hgr⟩ : ∃ gr, getR os zs s n (x, y) cb = gr := ⟨_, rfl⟩
              have HGR := Lib.hid hgr
              clear hgr
              go_wp2_with (first
                | (go_at_call 17; refine (HA.out.get (o := (x, y)) (c := cb) HR11.out.kn.p).mono ?_; rintro e w6 ⟨D6, he, hp6, ht6, hd6⟩; rw [HGR.out] at he hp6; subst he; have HR6 := Lib.hid (HR11.out.prog HA.out HD.out ht6 hp6 hd6); have z0 := HR6.out.bo.c0; have z1 := HR6.out.bo.c1; have z2 := HR6.out.bo.c2; clear hp6 ht6 hd6)
                | (go_at_call 18; refine (lo_get (o := (x, y)) (c := cb) HR6.out.kn.r HD.out).mono ?_; rintro e w7 ⟨S7, he, hf7, ht7, hs7⟩; rw [HGR.out] at he hf7; subst he; have HR7 := Lib.hid (HR6.out.refs HA.out ht7 hf7 hs7); clear hf7 ht7 hs7))
              go_meet
              case rel => exact ⟨D6, S7, _, _, _, HR7.out.kn, HR7.out.ck⟩
        case rest =>
          obtain ⟨D9, S9, G9, os9, zs9, hkn9, hck9⟩ := hcut
          obtain ⟨R9, B9, cap9, kv9, gs9, hlf9, hS9⟩ := hkn9.r
          have HK9 := Lib.hid hkn9
          have HC9 := Lib.hid hck9
          have HL9 := Lib.hid hlf9
          clear hkn9 hck9 HR11 hlf9 hS9
          go_wp2_with (go_at_call 19; refine (same_yes _ HD.out HA.out HK9.out.p HL9.out).mono ?_; rintro e w9 ⟨rfl, hb9⟩; have HK10 := Lib.hid (HK9.out.stay HA.out HD.out hb9); have HC10 := Lib.hid (HC9.out.stay HA.out hb9); clear hb9)
          go_roundw
          case rel => exact ⟨k + 1, D9, S9, G9, os9, zs9, by omega, by omega, by go_num, HK10.out, HC10.out⟩
          case measure => simp [intOf]; omega
    · have hend : k = len ∨ k = 60 := by omega
      have hck := HC.out
      rcases hck with rfl | ⟨h2, D2, G2, os2, zs2, rfl, rfl, rfl, hp2, -, -⟩
      · by_cases hlt1 : k < len
        all_goals
          as_aux_lemma =>
          go_wp2
          go_ret
          exact ⟨rfl, HK.out.b⟩
      · have HP2 := Lib.hid hp2
        obtain ⟨str, hstr⟩ : ∃ x, strOfNums zs2 = x := ⟨_, rfl⟩
        have HSTR := Lib.hid hstr
        rw [hstr]
        clear hp2 hstr
        by_cases hlt1 : k < len
        all_goals
          as_aux_lemma =>
          go_wp2_with (first
            | (go_at_call 11; refine ((HA.out.bytes HP2.out)).mono ?_; rintro e w7 ⟨g7, cap7, rfl, hf7⟩; have hc7 := str_of (cap := cap7) (HA.out.zlen HP2.out) hf7.row; rw [HSTR.out] at hc7; have HP7 := Lib.hid (HA.out.stay HP2.out hf7.below); have HB7 := Lib.hid hf7.below; clear hf7)
            | (go_at_call 12; refine ((HA.out.len HP7.out)).mono ?_; rintro e w8 ⟨rfl, hb8⟩; have HB8 := Lib.hid hb8; clear hb8))
          go_ret
          exact ⟨rfl, (HK.out.b.trans (HB7.out.mono HK.out.b.size)).trans (HB8.out.mono (Nat.le_trans HK.out.b.size HB7.out.size))⟩
end Go.Proofs.Ytijhoiheieighaa
