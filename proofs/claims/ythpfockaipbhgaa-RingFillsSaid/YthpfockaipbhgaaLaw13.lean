/-
  Proved here: the law RingPlays returns true, over whatever memory of the program's ring keeps its contracts. Conditions: the contracts.
-/
import Derived.Test.YthpfockaipbhgaaKn13
namespace Go.Proofs.Ythpfockaipbhgaa
open Go.RowKit

theorem rg_new (w : World) (room : Int) : DR (w.alloc (.cells #[.int .i64 room, .int .i64 0, .slice none 0 0] 32)) (fun b => b = w.heap.size) w.heap.size room 0 [] := by
  have hn : (w.alloc (.cells #[.int .i64 room, .int .i64 0, .slice none 0 0] 32)).heap[w.heap.size]? = some (.cells #[.int .i64 room, .int .i64 0, .slice none 0 0] 32 (0, 0)) := heap_alloc_new w _
  refine ⟨.slice none 0 0, fun _ => 0, ⟨?_, ?_, ?_, fun j => ?_, ⟨[], World.ownsRow_nil _ _ _ _, fun i hi => by simp at hi⟩, by simp [Value.ownBlock], fun i hi => by simp at hi, fun i hi => by simp at hi, fun i j hi => by simp at hi, fun i hi => by simp at hi, fun i hi => by simp at hi, fun i hi => by simp at hi, by simp⟩, fun b => ⟨fun h => .inl h, ?_⟩⟩
  · unfold World.cell?; simp only [hn]; rfl
  · unfold World.cell?; simp only [hn]; rfl
  · unfold World.cell?; simp only [hn]; rfl
  · unfold World.frozen?; simp only [hn]; simp
  · rintro (h | h | ⟨i, hi, -⟩)
    · exact h
    · cases h
    · simp at hi
set_option maxRecDepth 100000 in
set_option maxHeartbeats 4000000 in
theorem law_may {PS : RgMem} (room t : Int) (w : World) (A0 : Option Addr) (len cap0 : Nat) (ac : Acts13 PS) (al : ∀ w, Calls Try.prog 6 #[] w (fun e w' => e = .returned (.bool true) ∧ Below w.heap.size w w')) (hrm : 1 ≤ room ∧ room ≤ 256) (hl : len ≤ maxLen) (ho : OpsIn w A0 len) (t0 : 0 ≤ t ∧ t ≤ 255) :
    Calls Try.prog 3 #[.int .i64 room, .slice A0 len cap0, .int .u8 t] w (LawPost w) := by
  obtain ⟨r1, r2⟩ := hrm
  unfold maxLen at hl
  have HO := Lib.hid ho
  have HA := Lib.hid ac
  clear ho ac
  go_enter Try.func3, Try.ntmps3
  go_wp2_with (first
    | (go_at_call 6; refine (al _).mono ?_; rintro e w1 ⟨rfl, hb1⟩; have HB1 := Lib.hid hb1; clear hb1)
    | (go_at_call 7; refine (HA.out.new ⟨r1, r2⟩).mono ?_; rintro e w2 ⟨h, D, rfl, hp2, hb2, hD2⟩; have HB2 := Lib.hid hb2; have HP2 := Lib.hid hp2; have HDD := Lib.hid hD2; clear hb2 hp2 hD2)
    | (go_at_call 8; refine (HA.out.room HP2.out).mono ?_; rintro e w3 ⟨rfl, hb3⟩; have HP3 := Lib.hid (HA.out.stay HP2.out hb3); have HB3 := Lib.hid hb3; clear hb3))
  have hkn : Kn PS w (w3.alloc (.cells #[.int .i64 room, .int .i64 0, .slice none 0 0] 32)) D (fun b => b = w3.heap.size) h w3.heap.size room 0 0 [] [] := by
    have z1 := HB1.out.size
    have z2 := HB2.out.size
    have z3 := HB3.out.size
    have hba : Below w3.heap.size w3 (w3.alloc (.cells #[.int .i64 room, .int .i64 0, .slice none 0 0] 32)) := (Below.refl _ _).alloc (Nat.le_refl _) _
    refine ⟨HA.out.stay HP3.out hba, rg_new w3 room, ((HB1.out.trans (HB2.out.mono z1)).trans (HB3.out.mono (by omega))).trans (hba.mono (by omega)), fun b hb => Nat.le_trans z1 (HDD.out b hb), fun b hb hs => ?_, fun b hs => ?_⟩
    · have h1 := HA.out.lt HP3.out b hb
      omega
    · omega
  obtain ⟨W4, hW4⟩ : ∃ W4, w3.alloc (.cells #[.int .i64 room, .int .i64 0, .slice none 0 0] 32) = W4 := ⟨_, rfl⟩
  obtain ⟨H, hH⟩ : ∃ H, w3.heap.size = H := ⟨_, rfl⟩
  rw [hW4, hH] at hkn
  rw [hW4, hH]
  have HKN := Lib.hid hkn
  clear hkn HB1 HB2 HP2 HDD HB3 HP3 hW4 hH
  go_loopw [10, 11, 12] (fun c x i wr => ∃ (k : Nat) (D S : Nat → Prop) (dr : Int) (rs : List Rc), k ≤ len ∧ k ≤ 80 ∧ i = .int .i64 k ∧ Kn PS w wr D S h H room dr dr rs rs ∧ CopyK PS wr D S c x ∧ Pu rs room dr k) (fun _ _ i _ => 80 - (intOf i).toNat)
  case atStart => exact ⟨0, D, _, 0, [], by omega, by omega, rfl, HKN.out, .inl rfl, ⟨by simp [usedR, usedT]; omega, by simp, by omega, by omega⟩⟩
  case round =>
    obtain ⟨k, D, S, dr, rs, hk, hk60, rfl, hkn, hck, hpu⟩ := hrel
    have HK := Lib.hid hkn
    have HC := Lib.hid hck
    have HPU := Lib.hid hpu
    clear hkn hck HKN hpu
    by_cases hlt : k < len ∧ k < 80
    · obtain ⟨hlt, hlt60⟩ := hlt
      have hT : 0 ≤ t % 40 ∧ t % 40 ≤ 39 := by omega
      have hO := HO.out
      rcases hO with h0 | ⟨g, off, rfl, hg, hops⟩
      · omega
      obtain ⟨kd, ow, n, id, C, hop⟩ := hops k hlt
      have hb := HK.out.b
      have x0 := (hb.cell (p := ⟨g, off + k * 5, none⟩) hg).trans hop.c0
      have x1 := (hb.cell (p := ⟨g, off + k * 5 + 1, none⟩) hg).trans hop.c1
      have x2 := (hb.cell (p := ⟨g, off + k * 5 + 2, none⟩) hg).trans hop.c2
      have x3 := (hb.cell (p := ⟨g, off + k * 5 + 3, none⟩) hg).trans hop.c3
      have x4 := (hb.cell (p := ⟨g, off + k * 5 + 4, none⟩) hg).trans hop.c4
      have HOP := Lib.hid hop
      clear hop hb hops
      go_upto_if 71 with fail
      have hrd : Rd PS w (wr.alloc (.cells #[.int .u8 kd, .int .i64 ow, .int .i64 n, .int .i64 id, .int .u8 C] 34)) D S h H room dr dr rs rs wr.heap.size kd ow n id C u10 u11 := by
        have hb : Below wr.heap.size wr (wr.alloc (.cells #[.int .u8 kd, .int .i64 ow, .int .i64 n, .int .i64 id, .int .u8 C] 34)) := (Below.refl _ _).alloc (Nat.le_refl _) _
        refine ⟨HK.out.stay HA.out hb, HC.out.stay HA.out hb, ⟨by simp [go_sem], by simp [go_sem], by simp [go_sem], by simp [go_sem], by simp [go_sem]⟩, fun hd => ?_, fun hs => ?_, by simp⟩
        · have := HA.out.lt HK.out.p _ hd; omega
        · have := HK.out.r.lt _ hs; omega
      obtain ⟨W5, hW5⟩ : ∃ W5, wr.alloc (.cells #[.int .u8 kd, .int .i64 ow, .int .i64 n, .int .i64 id, .int .u8 C] 34) = W5 := ⟨_, rfl⟩
      obtain ⟨bx, hbx⟩ : ∃ bx, wr.heap.size = bx := ⟨_, rfl⟩
      rw [hW5, hbx] at hrd
      rw [hW5, hbx]
      have HR := Lib.hid hrd
      clear hrd hW5 hbx x0 x1 x2 x3 x4 HK HC
      go_cut [10, 11] (fun c z wx => Rd PS w wx D S h H room dr dr rs rs bx kd ow n id C c z)
      case first =>
        as_aux_lemma =>
        by_cases he : ((k : Int) == t % 40) = true
        · go_wp2_with (first
            | (go_at_call 9; refine (HA.out.copy HR.out.kn.p).mono ?_; rintro e w6 ⟨h2, D2, rfl, hp6, hb6, hd6⟩; have HP6 := Lib.hid hp6; have HD6 := Lib.hid hd6; have HR6 := Lib.hid (HR.out.stay HA.out hb6); clear hp6 hb6 hd6)
            | (go_at_call 10; refine ((HA.out.bytes HR6.out.kn.p)).mono ?_; rintro e w7 ⟨g7, cap7, rfl, hs7, hb7⟩; have hc7 := hs7.str; have HP7 := Lib.hid (HA.out.stay HP6.out hb7); have HR7 := Lib.hid (HR6.out.stay HA.out hb7); clear hs7 hb7))
          go_meet
          case rel =>
            have hh := HR7.out
            refine ⟨hh.kn, .inr ⟨h2, D2, room, dr, rs, rfl, rfl, HP7.out, fun b hb hd => ?_, fun b hb hs => ?_⟩, hh.bo, hh.bD, hh.bR, hh.lt⟩
            · have := HD6.out b hb; have := HA.out.lt HR.out.kn.p b hd; omega
            · have := HD6.out b hb; have := HR.out.kn.r.lt b hs; omega
        · have he2 : ((k : Int) == t % 40) = false := by simpa using he
          clear he
          go_wp2_with fail
          go_meet
          case rel => exact HR.out
      case rest =>
        have HR11 := Lib.hid hcut
        clear hcut HR
        have y0 := HR11.out.bo.c0
        go_upto_block 2 with fail
        go_cut [] (fun wx => ∃ (D S : Nat → Prop) (dr : Int) (rs : List Rc), Kn PS w wx D S h H room dr dr rs rs ∧ CopyK PS wx D S u10 u11 ∧ Pu rs room dr (k + 1))
        case first =>
          have y1 := HR11.out.bo.c1
          have y2 := HR11.out.bo.c2
          have y3 := HR11.out.bo.c3
          by_cases m2 : (kd.tmod 6 == 2) = true
          · go_upto_region 24 with fail
            go_cut [125] (fun v wx => v = .bool false ∧ ∃ (D S : Nat → Prop) (dr : Int) (rs : List Rc), Kn PS w wx D S h H room dr dr rs rs ∧ CopyK PS wx D S u10 u11 ∧ Pu rs room dr (k + 1))
            case first =>
              as_aux_lemma =>
              obtain ⟨hb, hhb⟩ : ∃ b, hasR rs id = b := ⟨_, rfl⟩
              have HHB := Lib.hid hhb
              clear hhb
              have HR12 := Lib.hid (HR11.out.stay HA.out (Below.refl _ _).drew)
              have Q1 := Lib.hid HR12.out.bo.c3
              go_region_held (fun W => W.cell? ⟨bx, 3, none⟩ = some (.int .i64 id)) (first | with_reducible exact Q3.out | with_reducible exact Q2.out | exact Q1.out) (first
                | (go_at_call 11; refine (HA.out.commit HR12.out.kn.p).mono ?_; rintro e w6 ⟨D6, he, hp6, ht6, hd6⟩; rw [HHB.out] at he; subst he; have HR6 := Lib.hid (HR12.out.prog HA.out ht6 hp6 hd6); have Q2 := Lib.hid HR6.out.bo.c3; clear hp6 ht6 hd6)
                | (go_at_call 12; refine (rg_end HR6.out.kn.r _ _).mono ?_; rintro e w7 ⟨he, hf7, ht7⟩; rw [HHB.out] at he; subst he; have HR7 := Lib.hid (HR6.out.refs HA.out ht7 hf7 (fun b hb => .inl hb)); have Q3 := Lib.hid HR7.out.bo.c3; clear hf7 ht7))
              all_goals
                go_wp2_with fail
                go_meet
                case rel => exact ⟨by simp, D6, S, dr, _, HR7.out.kn, HR7.out.ck, HPU.out.end_⟩
            case rest =>
              obtain ⟨rfl, hx⟩ := hcut
              have HX := Lib.hid hx
              clear hx
              go_wp2_with fail
              go_meet
              case rel => exact HX.out
          · have m2f : (kd.tmod 6 == 2) = false := by simpa using m2
            clear m2
            by_cases m3 : (kd.tmod 6 == 3) = true
            · go_upto_region 27 with fail
              go_cut [136] (fun v wx => v = .bool false ∧ ∃ (D S : Nat → Prop) (dr : Int) (rs : List Rc), Kn PS w wx D S h H room dr dr rs rs ∧ CopyK PS wx D S u10 u11 ∧ Pu rs room dr (k + 1))
              case first =>
                as_aux_lemma =>
                obtain ⟨hb, hhb⟩ : ∃ b, hasR rs id = b := ⟨_, rfl⟩
                have HHB := Lib.hid hhb
                clear hhb
                have HR12 := Lib.hid (HR11.out.stay HA.out (Below.refl _ _).drew)
                have Q1 := Lib.hid HR12.out.bo.c3
                go_region_held (fun W => W.cell? ⟨bx, 3, none⟩ = some (.int .i64 id)) (first | with_reducible exact Q3.out | with_reducible exact Q2.out | exact Q1.out) (first
                  | (go_at_call 13; refine (HA.out.discard HR12.out.kn.p).mono ?_; rintro e w6 ⟨D6, he, hp6, ht6, hd6⟩; rw [HHB.out] at he; subst he; have HR6 := Lib.hid (HR12.out.prog HA.out ht6 hp6 hd6); have Q2 := Lib.hid HR6.out.bo.c3; clear hp6 ht6 hd6)
                  | (go_at_call 12; refine (rg_end HR6.out.kn.r _ _).mono ?_; rintro e w7 ⟨he, hf7, ht7⟩; rw [HHB.out] at he; subst he; have HR7 := Lib.hid (HR6.out.refs HA.out ht7 hf7 (fun b hb => .inl hb)); have Q3 := Lib.hid HR7.out.bo.c3; clear hf7 ht7))
                all_goals
                  go_wp2_with fail
                  go_meet
                  case rel => exact ⟨by simp, D6, S, dr, _, HR7.out.kn, HR7.out.ck, HPU.out.end_⟩
              case rest =>
                obtain ⟨rfl, hx⟩ := hcut
                have HX := Lib.hid hx
                clear hx
                go_wp2_with fail
                go_meet
                case rel => exact HX.out
            · have m3f : (kd.tmod 6 == 3) = false := by simpa using m3
              clear m3
              by_cases m4 : (kd.tmod 6 == 4) = true
              · as_aux_lemma =>
                obtain ⟨q, hq⟩ : ∃ q, drainR rs = q := ⟨_, rfl⟩
                have hql : q.1.length ≤ 1000 := by
                  rw [← hq]
                  have := drain_len rs
                  have := HPU.out.len
                  omega
                have HQ := Lib.hid hq
                have HQL := Lib.hid hql
                have hpd := HPU.out.drain
                rw [hq] at hpd
                have HPD := Lib.hid hpd
                obtain ⟨l, ms⟩ := q
                clear hq hql hpd
                go_wp2_with (first
                  | (go_at_call 15; refine (HA.out.drain HR11.out.kn.p).mono ?_; rintro e w6 ⟨D6, a6, c6, he, ha6, hp6, ht6, hd6⟩; rw [HQ.out] at he ha6 hp6; subst he; have HR6 := Lib.hid (HR11.out.prog HA.out ht6 hp6 hd6); have HA6 := Lib.hid ha6; clear ha6 hp6 ht6 hd6)
                  | (go_at_call 16; refine (rg_drain HR6.out.kn.r).mono ?_; rintro e w7 ⟨a7, c7, he, ha7, hf7, ht7⟩; rw [HQ.out] at he ha7 hf7; subst he; have HR7 := Lib.hid (HR6.out.refs HA.out ht7 hf7 (fun b hb => .inl hb)); have HA7 := Lib.hid ha7; have HA67 := Lib.hid (HA6.out.kept ht7.size (fun b hb hl => ht7.block b hl (fun hs => by
                      rcases hb with hb | hb
                      · exact HR11.out.kn.dR b hb hs
                      · have := HR11.out.kn.r.lt b hs; omega))); clear ha7 hf7 ht7)
                  | (go_at_call 14; refine (rg_audits _ _ _ _ _ _ _ _ HA67.out HA7.out HQL.out).mono ?_; rintro e w8 ⟨rfl, hb8⟩; have HR8 := Lib.hid (HR7.out.stay HA.out hb8); clear hb8))
                go_meet
                case rel => exact ⟨D6, S, dr, ms, HR8.out.kn, HR8.out.ck, HPD.out⟩
              · have m4f : (kd.tmod 6 == 4) = false := by simpa using m4
                clear m4
                by_cases m5 : (kd.tmod 6 == 5) = true
                · by_cases hh : hasR rs id = true
                  · obtain ⟨i, rfl, hi⟩ := hasR_in hh
                    have HH := Lib.hid hh
                    obtain ⟨zs, hzs⟩ : ∃ zs, (rget rs i).b = zs := ⟨_, rfl⟩
                    have HZ := Lib.hid hzs
                    have HI := Lib.hid hi
                    clear hh hzs hi
                    by_cases hn0 : 0 ≤ n
                    · obtain ⟨j, rfl⟩ := Int.eq_ofNat_of_zero_le hn0
                      by_cases hjl : j < zs.length
                      · as_aux_lemma =>
                        go_upto_region 34 with (go_at_call 17; refine (HA.out.recYes HR11.out.kn.p HH.out).mono ?_; rintro e w6 ⟨G, p, c6, rfl, hDG, hb6, hGl, hr6, hf6, hW⟩; rw [HZ.out] at hr6 hf6 hW ⊢; have HR6 := Lib.hid (HR11.out.stay HA.out hb6); clear hb6)
                        obtain ⟨kv6, gs6, hlf6, hS6⟩ := HR6.out.kn.r
                        have HL6 := Lib.hid hlf6
                        clear hlf6 hS6 y1 y2 y3
                        have y2 := HR6.out.bo.c2
                        have y3 := HR6.out.bo.c3
                        have y4 := HR6.out.bo.c4
                        have hx6 := hr6 j hjl
                        have hz6 := hf6 j hjl
                        have hjn : (j : Int) < (zs.length : Int) := by omega
                        have hR7 := HR6.out.prog HA.out ((Turned.refl D w6).set (a := ⟨G, p + j, none⟩) (.inl hDG) (.int .u8 C)) (hW _ (zs.set j C) (by simp) (wrote_one hr6 rfl hjl)) (fun b hb => .inl hb)
                        have HR7 := Lib.hid hR7
                        clear hr6 hf6 hW hDG hGl hR7
                        go_upto_region 38 with (go_at_call 18; refine (rg_has HL6.out _).mono ?_; rintro e w7 ⟨he, hw⟩; rw [HH.out] at he; subst he; subst hw)
                        obtain ⟨W7, hW7⟩ : ∃ W7, w6.setCell ⟨G, p + j, none⟩ (.int .u8 C) = W7 := ⟨_, rfl⟩
                        rw [hW7] at HR7
                        rw [hW7]
                        clear hW7 hx6 hz6 y2 y3 y4
                        have HR8 := Lib.hid (HR7.out.stay HA.out (Below.refl _ _).drew)
                        obtain ⟨kv8, gs8, hlf8, hS8⟩ := HR8.out.kn.r
                        have c2 := hlf8.h2
                        obtain ⟨a8, c8, he8, hrow8⟩ := hlf8.shape
                        obtain ⟨g8, rfl, -, -, hcs8⟩ := hrow8.at_ (by have := HI.out; omega)
                        rw [he8] at c2
                        obtain ⟨-, -, d2, -⟩ := hcs8 i HI.out
                        have hx8 := hlf8.data i HI.out j (by rw [HZ.out]; exact hjl)
                        have hz8 := hlf8.free i HI.out j
                        have hwr := hlf8.wrote HI.out (wrote_one (x := C) (j := j) (hlf8.data i HI.out) rfl (by rw [HZ.out]; exact hjl)) (by simp)
                        rw [HZ.out] at d2 hx8 hwr
                        rw [Nat.zero_add] at hx8 hwr
                        have hpu2 := HPU.out.put (zs := zs.set j C) HI.out (by rw [HZ.out]; simp)
                        have HPU2 := Lib.hid hpu2
                        have hdr : DR (W7.drew.setCell ⟨gs8 i, j, none⟩ (.int .u8 C)) S H room dr (rs.set i { rget rs i with b := zs.set j C }) := ⟨kv8, gs8, hwr, fun b => by rw [hS8 b, List.length_set]⟩
                        have hR9 := HR8.out.refs HA.out ((Turned.refl S W7.drew).set (a := ⟨gs8 i, j, none⟩) (.inl ((hS8 _).2 (.inr (.inr ⟨i, HI.out, rfl⟩)))) (.int .u8 C)) hdr (fun b hb => .inl hb)
                        have HR9 := Lib.hid hR9
                        have hil : (i : Int) < (rs.length : Int) := by have := HI.out; omega
                        obtain ⟨N, hN⟩ : ∃ N, rs.length = N := ⟨_, rfl⟩
                        rw [hN] at c2 hil
                        have z2 := HR8.out.bo.c2
                        have z3 := HR8.out.bo.c3
                        have z4 := HR8.out.bo.c4
                        obtain ⟨od, hod⟩ : ∃ o, zs.getD j 0 = o := ⟨_, rfl⟩
                        rw [hod] at hx8
                        clear hrow8 hcs8 hwr hpu2 hdr hR9 he8 hlf8 hS8 hN hod
                        go_region
                        all_goals
                          go_wp2_with fail
                          go_meet
                          case rel => exact ⟨D, S, dr, _, HR9.out.kn, HR9.out.ck, HPU2.out⟩
                      · have hjn : (zs.length : Int) ≤ (j : Int) := by omega
                        as_aux_lemma =>
                        go_upto_region 34 with (go_at_call 17; refine (HA.out.recYes HR11.out.kn.p HH.out).mono ?_; rintro e w6 ⟨G, p, c6, rfl, hDG, hb6, hGl, hr6, hf6, hW⟩; rw [HZ.out] at hr6 hf6 hW ⊢; have HR6 := Lib.hid (HR11.out.stay HA.out hb6); clear hb6 hr6 hf6 hW hDG hGl)
                        obtain ⟨kv6, gs6, hlf6, hS6⟩ := HR6.out.kn.r
                        have HL6 := Lib.hid hlf6
                        clear hlf6 hS6 y1 y2 y3
                        have y2 := HR6.out.bo.c2
                        have y3 := HR6.out.bo.c3
                        go_wp2_with (go_at_call 18; refine (rg_has HL6.out _).mono ?_; rintro e w7 ⟨he, hw⟩; rw [HH.out] at he; subst he; subst hw)
                        go_meet
                        case rel => exact ⟨D, S, dr, rs, HR6.out.kn, HR6.out.ck, HPU.out.more⟩
                    · as_aux_lemma =>
                      go_upto_region 34 with (go_at_call 17; refine (HA.out.recYes HR11.out.kn.p HH.out).mono ?_; rintro e w6 ⟨G, p, c6, rfl, hDG, hb6, hGl, hr6, hf6, hW⟩; rw [HZ.out] at hr6 hf6 hW ⊢; have HR6 := Lib.hid (HR11.out.stay HA.out hb6); clear hb6 hr6 hf6 hW hDG hGl)
                      obtain ⟨kv6, gs6, hlf6, hS6⟩ := HR6.out.kn.r
                      have HL6 := Lib.hid hlf6
                      clear hlf6 hS6 y1 y2 y3
                      have y2 := HR6.out.bo.c2
                      have y3 := HR6.out.bo.c3
                      go_wp2_with (go_at_call 18; refine (rg_has HL6.out _).mono ?_; rintro e w7 ⟨he, hw⟩; rw [HH.out] at he; subst he; subst hw)
                      go_meet
                      case rel => exact ⟨D, S, dr, rs, HR6.out.kn, HR6.out.ck, HPU.out.more⟩
                  · have hhf : hasR rs id = false := by simpa using hh
                    have HH := Lib.hid hhf
                    clear hh hhf
                    as_aux_lemma =>
                    go_upto_region 34 with (go_at_call 17; refine (HA.out.recNo HR11.out.kn.p HH.out).mono ?_; rintro e w6 ⟨rfl, hb6⟩; have HR6 := Lib.hid (HR11.out.stay HA.out hb6); clear hb6)
                    obtain ⟨kv6, gs6, hlf6, hS6⟩ := HR6.out.kn.r
                    have HL6 := Lib.hid hlf6
                    clear hlf6 hS6 y1 y2 y3
                    have y2 := HR6.out.bo.c2
                    have y3 := HR6.out.bo.c3
                    go_wp2_with (go_at_call 18; refine (rg_has HL6.out _).mono ?_; rintro e w7 ⟨he, hw⟩; rw [HH.out] at he; subst he; subst hw)
                    go_meet
                    case rel => exact ⟨D, S, dr, rs, HR6.out.kn, HR6.out.ck, HPU.out.more⟩
                · have m5f : (kd.tmod 6 == 5) = false := by simpa using m5
                  clear m5
                  as_aux_lemma =>
                  obtain ⟨q, hq⟩ : ∃ q, resR rs room ow n = q := ⟨_, rfl⟩
                  have HQ := Lib.hid hq
                  have hpr := HPU.out.res (o := ow) (n := n)
                  rw [hq] at hpr
                  have HPR := Lib.hid hpr
                  have b1 := HPU.out.d0
                  have b2 := HPU.out.d1
                  have b3 := HPU.out.len
                  have hbd : 0 ≤ dr ∧ dr ≤ 100000 ∧ rs.length + 1 ≤ 1000 := by omega
                  have HBD := Lib.hid hbd
                  have HRM := Lib.hid (show 0 ≤ room ∧ room ≤ 256 by omega)
                  obtain ⟨qa, qd, ms⟩ := q
                  clear hq hpr b1 b2 b3 hbd
                  by_cases hqa : 0 ≤ qa
                  · have hv : resV (qa, qd, ms) = .tuple #[.int .i64 qa, .bool true] := by simp [resV, hqa, show ¬ qa < 0 by omega]
                    have HV := Lib.hid hv
                    clear hv
                    go_wp2_with (first
                      | (go_at_call 19; refine (HA.out.reserve HR11.out.kn.p HBD.out.1 HBD.out.2.1 HBD.out.2.2).mono ?_; rintro e w6 ⟨D6, he, hp6, ht6, hd6⟩; rw [HQ.out] at he hp6; rw [HV.out] at he; subst he; have HR6 := Lib.hid (HR11.out.prog HA.out ht6 hp6 hd6); have z1 := HR6.out.bo.c1; have z2 := HR6.out.bo.c2; clear hp6 ht6 hd6)
                      | (go_at_call 20; refine (rg_reserve HR6.out.kn.r ⟨HBD.out.1, HBD.out.2.1⟩ HRM.out HBD.out.2.2 _ _).mono ?_; rintro e w7 ⟨S7, he, hf7, ht7, hs7⟩; rw [HQ.out] at he hf7; subst he; have HR7 := Lib.hid (HR6.out.refs HA.out ht7 hf7 hs7); clear hf7 ht7 hs7))
                    go_meet
                    case rel => exact ⟨D6, S7, _, ms, HR7.out.kn, HR7.out.ck, HPR.out⟩
                  · have hqn : qa < 0 := by omega
                    have hv : resV (qa, qd, ms) = .tuple #[.int .i64 0, .bool false] := by simp [resV, hqa, hqn]
                    have HV := Lib.hid hv
                    clear hv
                    go_wp2_with (first
                      | (go_at_call 19; refine (HA.out.reserve HR11.out.kn.p HBD.out.1 HBD.out.2.1 HBD.out.2.2).mono ?_; rintro e w6 ⟨D6, he, hp6, ht6, hd6⟩; rw [HQ.out] at he hp6; rw [HV.out] at he; subst he; have HR6 := Lib.hid (HR11.out.prog HA.out ht6 hp6 hd6); have z1 := HR6.out.bo.c1; have z2 := HR6.out.bo.c2; clear hp6 ht6 hd6)
                      | (go_at_call 20; refine (rg_reserve HR6.out.kn.r ⟨HBD.out.1, HBD.out.2.1⟩ HRM.out HBD.out.2.2 _ _).mono ?_; rintro e w7 ⟨S7, he, hf7, ht7, hs7⟩; rw [HQ.out] at he hf7; subst he; have HR7 := Lib.hid (HR6.out.refs HA.out ht7 hf7 hs7); clear hf7 ht7 hs7))
                    go_meet
                    case rel => exact ⟨D6, S7, _, ms, HR7.out.kn, HR7.out.ck, HPR.out⟩
        case rest =>
          obtain ⟨D9, S9, dr9, rs9, hkn9, hck9, hpu9⟩ := hcut
          obtain ⟨kv9, gs9, hlf9, hS9⟩ := hkn9.r
          have HK9 := Lib.hid hkn9
          have HC9 := Lib.hid hck9
          have HL9 := Lib.hid hlf9
          have HP9 := Lib.hid hpu9
          have hu := hpu9.used
          obtain ⟨u, hue⟩ : ∃ u, usedR rs9 = u := ⟨_, rfl⟩
          rw [hue] at hu
          have HU9 := Lib.hid hue
          clear hkn9 hck9 HR11 hlf9 hS9 hpu9 hue
          go_wp2_with (first
            | (go_at_call 21; refine (same_yes _ HA.out HK9.out.p HL9.out).mono ?_; rintro e w9 ⟨rfl, hb9⟩; have HK10 := Lib.hid (HK9.out.stay HA.out hb9); have HC10 := Lib.hid (HC9.out.stay HA.out hb9); clear hb9)
            | (go_at_call 22; refine (HA.out.used HK10.out.p).mono ?_; rintro e w10 ⟨he, hb10⟩; rw [HU9.out] at he; subst he; have HK11 := Lib.hid (HK10.out.stay HA.out hb10); have HC11 := Lib.hid (HC10.out.stay HA.out hb10); clear hb10))
          go_roundw
          case rel => exact ⟨k + 1, D9, S9, dr9, rs9, by omega, by omega, by go_num, HK11.out, HC11.out, HP9.out⟩
          case measure => simp [intOf]; omega
    · have hend : k = len ∨ k = 80 := by omega
      have hck := HC.out
      rcases hck with rfl | ⟨h2, D2, room2, dr2, rs2, rfl, rfl, hp2, -, -⟩
      · by_cases hlt1 : k < len
        all_goals
          as_aux_lemma =>
          go_wp2
          go_ret
          exact ⟨rfl, HK.out.b⟩
      · have HP2 := Lib.hid hp2
        obtain ⟨str, hstr⟩ : ∃ x, strOfNums (bytesR rs2) = x := ⟨_, rfl⟩
        have HSTR := Lib.hid hstr
        rw [hstr]
        clear hp2 hstr
        by_cases hlt1 : k < len
        all_goals
          as_aux_lemma =>
          go_wp2_with (go_at_call 10; refine ((HA.out.bytes HP2.out)).mono ?_; rintro e w7 ⟨g7, cap7, rfl, hs7, hb7⟩; have hc7 := hs7.str; rw [HSTR.out] at hc7; have HB7 := Lib.hid hb7; clear hs7 hb7)
          go_ret
          exact ⟨rfl, HK.out.b.trans (HB7.out.mono HK.out.b.size)⟩
end Go.Proofs.Ythpfockaipbhgaa
