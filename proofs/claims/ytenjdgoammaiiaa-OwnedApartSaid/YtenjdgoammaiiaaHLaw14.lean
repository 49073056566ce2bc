/-
  Proved here: the law OwnedPlays returns true, over whatever memory of the program's maps keeps its contracts. Conditions: the contracts.
-/
import Derived.Test.YtenjdgoammaiiaaHKn14
namespace Go.Proofs.Ytenjdgoammaiiaa
open Go.RowKit
set_option maxRecDepth 100000

set_option maxHeartbeats 4000000 in
theorem law_may {PS : OwMem} (t : Int) (w : World) (a0 : Option Addr) (cp0 : Nat) (ds : List Df) (A0 : Option Addr) (len cap0 : Nat) (ac : Acts14 PS) (al : ∀ w, Calls Try.prog 5 #[] w (fun e w' => e = .returned (.bool true) ∧ Below w.heap.size w w')) (hds : DfsIn w a0 ds) (hdl : ds.length ≤ 60) (hm : mayL ds = true) (hl : len ≤ maxLen) (ho : OpsIn w A0 len) (t0 : 0 ≤ t ∧ t ≤ 255) :
    Calls Try.prog 3 #[.slice a0 ds.length cp0, .slice A0 len cap0, .int .u8 t] w (LawPost w) := by
  unfold maxLen at hl
  have HO := Lib.hid ho
  have HA := Lib.hid ac
  have HD := Lib.hid (And.intro hds hm)
  clear ho ac hds hm
  go_enter Try.func3, Try.ntmps3
  go_wp2_with (first
    | (go_at_call 5; refine (al _).mono ?_; rintro e w1 ⟨rfl, hb1⟩; have HB1 := Lib.hid hb1; have HD1 := Lib.hid (HD.out.1.stay hb1); clear hb1)
    | (go_at_call 6; refine (ow_may ds a0 cp0 _ HD1.out (by omega)).mono ?_; rintro e w3 ⟨he, hb3⟩; rw [HD.out.2] at he; subst he; have HB3 := Lib.hid hb3; have HD3 := Lib.hid (HD1.out.stay hb3); clear hb3)
    | (go_at_call 7; refine (HA.out.new HD3.out HD.out.2).mono ?_; rintro e w2 ⟨h, D, rfl, hp2, hb2, hD2⟩; have HB2 := Lib.hid hb2; have HP2 := Lib.hid hp2; have HDD := Lib.hid hD2; have HD2 := Lib.hid (HD3.out.stay hb2); clear hb2 hp2 hD2; unfold ptrV)
    | (go_at_call 8; refine (ow_new ds a0 cp0 _ HD2.out HD.out.2).mono ?_; rintro e w4 ⟨O, S, rfl, hf4, hb4, hS4⟩; have HF4 := Lib.hid hf4; have HB4 := Lib.hid hb4; have HS4 := Lib.hid hS4; clear hf4 hb4 hS4; unfold ptrV))
  have hkn : K0 PS w w4 D S h O (ds.map newM) := by
    have z1 := HB1.out.size
    have z2 := HB2.out.size
    have z3 := HB3.out.size
    refine ⟨HA.out.stay HP2.out HB4.out, HF4.out, ((HB1.out.trans (HB3.out.mono z1)).trans (HB2.out.mono (by omega))).trans (HB4.out.mono (by omega)), fun b hb => Nat.le_trans (by omega) (HDD.out b hb), fun b hs => ?_, fun b hb hs => ?_, Turned.refl _ _, fun _ h => .inl h, fun _ h => .inl h⟩
    · have h2 := HS4.out b hs
      omega
    · have h1 := HA.out.lt HP2.out b hb
      have h2 := HS4.out b hs
      omega
  have HKN := Lib.hid hkn
  clear hkn HB1 HB2 HB3 HP2 HDD HF4 HB4 HS4 HD1 HD2 HD3
  go_loopw [10, 11, 12] (fun c x i wr => ∃ (k : Nat) (D S : Nat → Prop) (st : List MSt), k ≤ len ∧ k ≤ 60 ∧ i = .int .i64 k ∧ K0 PS w wr D S h O st ∧ CopyK PS wr D S c x) (fun _ _ i _ => 60 - (intOf i).toNat)
  case atStart => exact ⟨0, D, S, _, by omega, by omega, rfl, HKN.out, .inl rfl⟩
  case round =>
    obtain ⟨k, D, S, st, hk, hk60, rfl, hkn, hck⟩ := hrel
    have HK := Lib.hid hkn
    have HC := Lib.hid hck
    clear hkn hck HKN
    by_cases hlt : k < len ∧ k < 60
    · obtain ⟨hlt, hlt60⟩ := hlt
      have hT : 0 ≤ t % 40 ∧ t % 40 ≤ 39 := by omega
      have hO := HO.out
      rcases hO with h0 | ⟨g, off, rfl, hg, hops⟩
      · omega
      obtain ⟨kd, M, a1, l1, c1, a2, l2, c2, kz, vz, id, gn, fl, K, T, C, hop, hov⟩ := hops k hlt
      have m1 := hov.m1
      have m2 := hov.m2
      unfold maxLen at m1 m2
      have hb := HK.out.b
      have hc : ∀ i, i < 10 → wr.cell? ⟨g, off + k * 10 + i, none⟩ = (opCells kd M (.slice a1 l1 c1) (.slice a2 l2 c2) id gn fl K T C)[i]? := fun i hi => (hb.cell (p := ⟨g, off + k * 10 + i, none⟩) hg).trans (hop i hi)
      have x2 : wr.cell? ⟨g, off + k * 10 + 2, none⟩ = some (.slice a1 l1 c1) := hc 2 (by omega)
      have x3 : wr.cell? ⟨g, off + k * 10 + 3, none⟩ = some (.slice a2 l2 c2) := hc 3 (by omega)
      have HOV := Lib.hid hov
      have HOP := Lib.hid hop
      clear hop hb hops hov hc
      by_cases g1 : 100 < l1
      · as_aux_lemma =>
        go_wp2
        go_ret
        exact ⟨rfl, HK.out.b⟩
      by_cases g2 : 100 < l2
      · as_aux_lemma =>
        go_wp2
        go_ret
        exact ⟨rfl, HK.out.b⟩
      go_upto_if 66 with fail
      go_cut [10, 11] (fun c z wx => K0 PS w wx D S h O st ∧ CopyK PS wx D S c z)
      case first =>
        as_aux_lemma =>
        by_cases he : ((k : Int) == t % 40) = true
        · go_wp2_with (first
            | (go_at_call 9; refine (HA.out.copy HK.out.p).mono ?_; rintro e w6 ⟨h2, D2, rfl, hp6, hb6, hd6⟩; have HP6 := Lib.hid hp6; have HD6 := Lib.hid hd6; have HK6 := Lib.hid (HK.out.stay HA.out hb6); clear hp6 hb6 hd6; unfold ptrV)
            | (go_at_call 10; refine ((HA.out.bytes HK6.out.p)).mono ?_; rintro e w7 ⟨v7, rfl, hk7, hb7⟩; have hc7 := key_str hk7; have HP7 := Lib.hid (HA.out.stay HP6.out hb7); have HK7 := Lib.hid (HK6.out.stay HA.out hb7); clear hk7 hb7))
          go_meet
          case rel =>
            refine ⟨HK7.out, .inr ⟨h2, D2, st, rfl, rfl, HP7.out, fun b hb hd => ?_, fun b hb hs => ?_⟩⟩
            · have := HD6.out b hb; have := HA.out.lt HK.out.p b hd; omega
            · have := HD6.out b hb; have := HK.out.r.lt b hs; omega
        · have he2 : ((k : Int) == t % 40) = false := by simpa using he
          clear he
          go_wp2_with fail
          go_meet
          case rel => exact ⟨HK.out, HC.out⟩
      case rest =>
        obtain ⟨hk9, hc9⟩ := hcut
        have HK9 := Lib.hid hk9
        have HC9 := Lib.hid hc9
        clear hk9 hc9 HK HC x2 x3
        have hcl : ∀ W : World, Below w.heap.size w W → W.cell? ⟨g, off + k * 10, none⟩ = some (.int .u8 kd) ∧ W.cell? ⟨g, off + k * 10 + 1, none⟩ = some (.int .i64 M) ∧ W.cell? ⟨g, off + k * 10 + 2, none⟩ = some (.slice a1 l1 c1) ∧ W.cell? ⟨g, off + k * 10 + 3, none⟩ = some (.slice a2 l2 c2) ∧ W.cell? ⟨g, off + k * 10 + 4, none⟩ = some (.int .i64 id) ∧ W.cell? ⟨g, off + k * 10 + 5, none⟩ = some (.int .i64 gn) ∧ W.cell? ⟨g, off + k * 10 + 6, none⟩ = some (.int .u64 fl) ∧ W.cell? ⟨g, off + k * 10 + 7, none⟩ = some (.int .i64 K) ∧ W.cell? ⟨g, off + k * 10 + 8, none⟩ = some (.int .i64 T) ∧ W.cell? ⟨g, off + k * 10 + 9, none⟩ = some (.int .u8 C) := by
          intro W hb
          have hc : ∀ i, i < 10 → W.cell? ⟨g, off + k * 10 + i, none⟩ = (opCells kd M (.slice a1 l1 c1) (.slice a2 l2 c2) id gn fl K T C)[i]? := fun i hi => (hb.cell (p := ⟨g, off + k * 10 + i, none⟩) hg).trans (HOP.out i hi)
          exact ⟨hc 0 (by omega), hc 1 (by omega), hc 2 (by omega), hc 3 (by omega), hc 4 (by omega), hc 5 (by omega), hc 6 (by omega), hc 7 (by omega), hc 8 (by omega), hc 9 (by omega)⟩
        have HCL := Lib.hid hcl
        clear hcl
        go_upto_region 19 with fail
        go_cut [88] (fun v wx => v = .bool false ∧ ∃ (D S : Nat → Prop) (st : List MSt), K0 PS w wx D S h O st ∧ CopyK PS wx D S u10 u11)
        case first =>
          as_aux_lemma =>
          have HK12 := Lib.hid (HK9.out.stay HA.out (Below.refl _ _).drew)
          have HC12 := Lib.hid (HC9.out.stay HA.out (Below.refl _ _).drew)
          have Q1 := Lib.hid (HCL.out _ HK12.out.b)
          go_region_held (fun W => W.cell? ⟨g, off + k * 10, none⟩ = some (.int .u8 kd) ∧ W.cell? ⟨g, off + k * 10 + 1, none⟩ = some (.int .i64 M) ∧ W.cell? ⟨g, off + k * 10 + 2, none⟩ = some (.slice a1 l1 c1) ∧ W.cell? ⟨g, off + k * 10 + 3, none⟩ = some (.slice a2 l2 c2) ∧ W.cell? ⟨g, off + k * 10 + 4, none⟩ = some (.int .i64 id) ∧ W.cell? ⟨g, off + k * 10 + 5, none⟩ = some (.int .i64 gn) ∧ W.cell? ⟨g, off + k * 10 + 6, none⟩ = some (.int .u64 fl) ∧ W.cell? ⟨g, off + k * 10 + 7, none⟩ = some (.int .i64 K) ∧ W.cell? ⟨g, off + k * 10 + 8, none⟩ = some (.int .i64 T) ∧ W.cell? ⟨g, off + k * 10 + 9, none⟩ = some (.int .u8 C)) (first | with_reducible exact Q4.out | with_reducible exact Q3.out | with_reducible exact Q2.out | exact Q1.out) (first
            | (go_at_call 11; refine (do_ok (W := w) HA.out HK12.out.p HK12.out.r HK12.out.b HK12.out.dW HK12.out.rW HK12.out.dR HOV.out.k1 HOV.out.y1 HOV.out.k2 (by rw [HOV.out.z1]; omega) (by rw [HOV.out.z2]; omega) HOV.out.bd).mono ?_; rintro e w6 ⟨rfl, D6, S6, st6, hk6, -⟩; have HC6 := Lib.hid (HC12.out.turn HA.out hk6); have HK6 := Lib.hid hk6.k0; obtain ⟨str, hstr⟩ : ∃ x, strOfNums (bytesS st6) = x := ⟨_, rfl⟩; have HSTR := Lib.hid hstr; have Q2 := Lib.hid (HCL.out _ HK6.out.b); clear hk6 hstr)
            | (go_at_call 10; refine ((HA.out.bytes HK6.out.p)).mono ?_; rintro e w7 ⟨v7, rfl, hk7, hb7⟩; have hc7 := key_str hk7; rw [HSTR.out] at hc7; have HY7 := Lib.hid hk7; have HK7 := Lib.hid (HK6.out.stay HA.out hb7); have HC7 := Lib.hid (HC6.out.stay HA.out hb7); have Q3 := Lib.hid (HCL.out _ HK7.out.b); clear hk7 hb7)
            | (go_at_call 12; refine ((rd_bytes HK7.out.r (HA.out.four HK7.out.p) (HA.out.ok HK7.out.p))).mono ?_; rintro e w8 ⟨v8, rfl, hk8, hb8⟩; have hc8 := key_str hk8; rw [HSTR.out] at hc8; have hc78 := key_str (HY7.out.stay rfl hb8); rw [HSTR.out] at hc78; have HK8 := Lib.hid (HK7.out.stay HA.out hb8); have HC8 := Lib.hid (HC7.out.stay HA.out hb8); have Q4 := Lib.hid (HCL.out _ HK8.out.b); clear hk8 hb8))
          all_goals
            go_wp2_with fail
            go_meet
            case rel => exact ⟨by simp, D6, S6, st6, HK8.out, HC8.out⟩
        case rest =>
          obtain ⟨rfl, D9, S9, st9, hk9, hc9⟩ := hcut
          have HK10 := Lib.hid hk9
          have HC10 := Lib.hid hc9
          clear hk9 hc9
          go_wp2_with fail
          go_roundw
          case rel => exact ⟨k + 1, D9, S9, st9, by omega, by omega, by go_num, HK10.out, HC10.out⟩
          case measure => simp [intOf]; omega
    · have hend : k = len ∨ k = 60 := by omega
      have hck := HC.out
      rcases hck with rfl | ⟨h2, D2, st2, rfl, rfl, hp2, -, -⟩
      · by_cases hlt1 : k < len
        all_goals
          as_aux_lemma =>
          go_wp2
          go_ret
          exact ⟨rfl, HK.out.b⟩
      · have HP2 := Lib.hid hp2
        obtain ⟨str, hstr⟩ : ∃ x, strOfNums (bytesS st2) = x := ⟨_, rfl⟩
        have HSTR := Lib.hid hstr
        rw [hstr]
        clear hp2 hstr
        by_cases hlt1 : k < len
        all_goals
          as_aux_lemma =>
          go_wp2_with (first
            | (go_at_call 10; refine ((HA.out.bytes HP2.out)).mono ?_; rintro e w7 ⟨v7, rfl, hk7, hb7⟩; have hc7 := key_str hk7; rw [HSTR.out] at hc7; have HB7 := Lib.hid hb7; clear hk7 hb7))
          go_ret
          exact ⟨rfl, HK.out.b.trans (HB7.out.mono HK.out.b.size)⟩
end Go.Proofs.Ytenjdgoammaiiaa
