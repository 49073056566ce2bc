/-
  Proved here: the law HashPlays returns true, over whatever memory of the program's map keeps its contracts. Conditions: the contracts.
-/
import Derived.Test.YtcociipcimdjjaaActs
import Derived.LoopTactic
import Derived.RegionTactic
import Derived.BigRegion
import Derived.Deep.RegionWith
import Derived.Deep.RegionHeld
import Derived.Deep.DeepCutAuto
import Derived.Deep.CutBlock
namespace Go.Proofs.Ytcociipcimdjjaa
open Go.RowKit

/-- What Find told. -/
def FoundV (ks : List ByteArray) (key : Nat) (kz : List Int) (a b : Value) : Prop :=
  (kz.length = key ∧ ∃ i : Nat, ks.findIdx? (· = strOfNums kz) = some i ∧ a = .int .i64 i ∧ b = .bool true) ∨ ((kz.length = key → ks.findIdx? (· = strOfNums kz) = none) ∧ a = .int .i64 0 ∧ b = .bool false)
/-- What the document's Find told. -/
def FoundR (ks : List ByteArray) (key : Nat) (kz : List Int) (a : Value) : Prop := a = .int .i64 (if kz.length = key then findK ks (strOfNums kz) else -1)
/-- The bytes behind a write. -/
def putO (zs : List Int) (s n : Nat) (K T C : Int) : List Int := if 0 ≤ K ∧ K < n ∧ 0 ≤ T ∧ T < s then zs.set (K.toNat * s + T.toNat) C else zs
theorem putO_yes {zs : List Int} {s n q t : Nat} {C : Int} (hq : q < n) (ht : t < s) : putO zs s n q t C = zs.set (q * s + t) C := by
  unfold putO
  rw [if_pos (by omega)]
  rfl
theorem putO_no {zs : List Int} {s n : Nat} {K T C : Int} (h : ¬ (0 ≤ K ∧ K < n ∧ 0 ≤ T ∧ T < s)) : putO zs s n K T C = zs := if_neg h
theorem write_ref {wr : World} {H K R B cap key s n L : Nat} {gs : Nat → Nat} {ms : List ByteArray} {ys : List Int} (h : Hf wr H K R B cap key s n L gs ms ys) (hd : Dim s n L) (K1 T1 C1 : Int) :
    Calls Try.prog 17 #[.pointer (some ⟨R, 0, none⟩), .int .i64 K1, .int .i64 T1, .int .u8 C1] wr (fun e w' => e = .returned (.tuple #[]) ∧ Hf w' H K R B cap key s n L gs ms (putO ys s n K1 T1 C1) ∧ Turned (PutS K n gs) wr w') := by
  by_cases hin : 0 ≤ K1 ∧ K1 < n ∧ 0 ≤ T1 ∧ T1 < s
  · obtain ⟨a1, a2, a3, a4⟩ := hin
    obtain ⟨q, rfl⟩ := Int.eq_ofNat_of_zero_le a1
    obtain ⟨t, rfl⟩ := Int.eq_ofNat_of_zero_le a3
    have hq : q < n := by omega
    have ht : t < s := by omega
    rw [putO_yes hq ht]
    refine (write_yes _ _ _ _ _ _ _ _ _ _ _ _ h.rf hq ht).mono ?_
    rintro e w' ⟨rfl, rfl⟩
    exact ⟨rfl, h.putA hq ht (hd.at hq), (Turned.refl _ _).set (a := ⟨gs q, t, none⟩) (.inr ⟨q, hq, rfl⟩) _⟩
  · rw [putO_no hin]
    refine (write_no _ _ _ _ _ _ _ _ _ _ _ _ h.rf hin).mono ?_
    rintro e w' ⟨rfl, rfl⟩
    exact ⟨rfl, h, Turned.refl _ _⟩
def LawPost (W : World) (e : Ending) (w : World) : Prop := e = .returned (.bool true) ∧ Below W.heap.size W w
/-- The operations' row. -/
def OpsIn (w : World) (A : Option Addr) (len : Nat) : Prop := len = 0 ∨ ∃ g off, A = some ⟨g, off, none⟩ ∧ g < w.heap.size ∧ ∀ j, j < len → ∃ kd v1 v2 l1 l2 kz vz fl K T C, OpAt w g (off + j * 7) kd v1 v2 l1 l2 kz vz fl K T C
theorem mayH_of {key s n L : Nat} (hd : Dim s n L) (h1 : 1 ≤ key) (h8 : key ≤ 8) : mayH key s n = true := by
  obtain ⟨a, b, c, d, _⟩ := hd
  simp [mayH, mayB]; omega
set_option maxRecDepth 100000 in
set_option maxHeartbeats 4000000 in
theorem law_may {PS : MapMem} (key s n L : Nat) (t : Int) (w : World) (A0 : Option Addr) (len cap0 : Nat) (ac : Acts PS key s n L) (al : ∀ w, Calls Try.prog 5 #[] w (fun e w' => e = .returned (.bool true) ∧ Below w.heap.size w w')) (hd : Dim s n L) (k1 : 1 ≤ key) (k8 : key ≤ 8) (hl : len ≤ maxLen) (ho : OpsIn w A0 len) (t0 : 0 ≤ t ∧ t ≤ 255) :
    Calls Try.prog 3 #[.int .i64 key, .int .i64 s, .int .i64 n, .slice A0 len cap0, .int .u8 t] w (LawPost w) := by
  have hm := mayH_of hd k1 k8
  have s0 := hd.s0
  have n0 := hd.n0
  have n1 := hd.n1
  unfold maxLen at hl
  have HD := Lib.hid hd
  have HO := Lib.hid ho
  have HA := Lib.hid ac
  clear hd ho ac
  go_enter Try.func3, Try.ntmps3
  go_wp2_with (first
    | (go_at_call 5; refine (al _).mono ?_; rintro e w1 ⟨rfl, hb1⟩; have HB1 := Lib.hid hb1; clear hb1)
    | (go_at_call 6; refine (HA.out.new _).mono ?_; rintro e w2 ⟨h, D, rfl, hp2, hb2, hD2⟩; have HB2 := Lib.hid hb2; have HP2 := Lib.hid hp2; have HDD := Lib.hid hD2; clear hb2 hp2 hD2)
    | (go_at_call 7; refine (ref_mayH _ _ _ _).mono ?_; rintro e w3 ⟨rfl, rfl⟩)
    | (go_at_call 8; refine (ref_newH _ _ _ _ _ HD.out).mono ?_; rintro e w4 ⟨H, K, R, B, cap, gs, rfl, hf4, hb4, q1, q2, q3, q4, q5⟩; have HF4 := Lib.hid hf4; have HB4 := Lib.hid hb4; have HQ := Lib.hid (And.intro q1 (And.intro q2 (And.intro q3 (And.intro q4 q5)))); clear hf4 hb4 q1 q2 q3 q4 q5))
  have hkn : Kn PS w w4 D h H K R B cap key s n L gs (noKeys n) (zeros L) (noKeys n) (zeros L) := by
    have z1 := HB1.out.size
    have z2 := HB2.out.size
    have z4 := HB4.out.size
    obtain ⟨q1, q2, q3, q4, q5⟩ := HQ.out
    have hr : ∀ b, RefS H K R B n gs b → w2.heap.size ≤ b := by
      rintro b (rfl | rfl | rfl | rfl | ⟨i, hi, rfl⟩)
      · exact q1
      · exact q2
      · exact q3
      · exact q4
      · exact q5 i hi
    refine ⟨HA.out.kept HP2.out (fun b hb => HB4.out.block b (HA.out.lt HP2.out b hb)), HF4.out, (HB1.out.trans (HB2.out.mono z1)).trans (HB4.out.mono (by omega)), fun b hb => ?_, fun b hb hs => ?_, fun b hs => ?_⟩
    · exact Nat.le_trans z1 (HDD.out b hb)
    · have h1 := HA.out.lt HP2.out b hb
      have h2 := hr b hs
      omega
    · have h2 := hr b hs
      omega
  have HKN := Lib.hid hkn
  clear hkn HB1 HB2 HP2 HDD HF4 HB4 HQ
  go_loopw [14, 15, 16, 17] (fun c x q i wr => ∃ (k : Nat) (D : Nat → Prop) (ks : List ByteArray) (zs : List Int), k ≤ len ∧ k ≤ 60 ∧ i = .int .i64 k ∧ Kn PS w wr D h H K R B cap key s n L gs ks zs ks zs ∧ CopyK PS wr D (RefS H K R B n gs) c x q) (fun _ _ _ i _ => 60 - (intOf i).toNat)
  case atStart => exact ⟨0, D, _, _, by omega, by omega, rfl, HKN.out, .inl rfl⟩
  case round =>
    obtain ⟨k, D, ks, zs, hk, hk60, rfl, hkn, hck⟩ := hrel
    have HK := Lib.hid hkn
    have HC := Lib.hid hck
    clear hkn hck HKN
    by_cases hlt : k < len ∧ k < 60
    · obtain ⟨hlt, hlt60⟩ := hlt
      have hT : 0 ≤ t % 40 ∧ t % 40 ≤ 39 := by omega
      have hO := HO.out
      rcases hO with h0 | ⟨g, off, rfl, hg, hops⟩
      · omega
      obtain ⟨kd, v1, v2, l1, l2, kz, vz, fl, K1, T1, C1, hop⟩ := hops k hlt
      have hb := HK.out.b
      have x0 := (hb.cell (p := ⟨g, off + k * 7, none⟩) hg).trans hop.c0
      have x1 := (hb.cell (p := ⟨g, off + k * 7 + 1, none⟩) hg).trans hop.c1
      have x2 := (hb.cell (p := ⟨g, off + k * 7 + 2, none⟩) hg).trans hop.c2
      have x3 := (hb.cell (p := ⟨g, off + k * 7 + 3, none⟩) hg).trans hop.c3
      have x4 := (hb.cell (p := ⟨g, off + k * 7 + 4, none⟩) hg).trans hop.c4
      have x5 := (hb.cell (p := ⟨g, off + k * 7 + 5, none⟩) hg).trans hop.c5
      have x6 := (hb.cell (p := ⟨g, off + k * 7 + 6, none⟩) hg).trans hop.c6
      obtain ⟨ka1, kc1, rfl⟩ := hop.s1
      obtain ⟨ka2, kc2, rfl⟩ := hop.s2
      have HOP := Lib.hid hop
      clear hop hb hops
      go_upto_if 76 with fail
      have hrd : Rd PS w (wr.alloc (.cells #[.int .u8 kd, .slice ka1 l1 kc1, .slice ka2 l2 kc2, .int .u64 fl, .int .i64 K1, .int .i64 T1, .int .u8 C1] 34)) D h H K R B cap key s n L gs ks zs ks zs wr.heap.size kd (.slice ka1 l1 kc1) (.slice ka2 l2 kc2) fl K1 T1 C1 u14 u15 u16 := by
        have hb : Below wr.heap.size wr (wr.alloc (.cells #[.int .u8 kd, .slice ka1 l1 kc1, .slice ka2 l2 kc2, .int .u64 fl, .int .i64 K1, .int .i64 T1, .int .u8 C1] 34)) := (Below.refl _ _).alloc (Nat.le_refl _) _
        refine ⟨HK.out.stay HA.out HD.out hb, HC.out.stay HA.out hb, ⟨by simp [go_sem], by simp [go_sem], by simp [go_sem], by simp [go_sem], by simp [go_sem], by simp [go_sem], by simp [go_sem]⟩, fun hd => ?_, fun hs => ?_, by simp⟩
        · have := HA.out.lt HK.out.p _ hd; omega
        · have := HK.out.r.ltS HD.out _ hs; omega
      obtain ⟨W5, hW5⟩ : ∃ W5, wr.alloc (.cells #[.int .u8 kd, .slice ka1 l1 kc1, .slice ka2 l2 kc2, .int .u64 fl, .int .i64 K1, .int .i64 T1, .int .u8 C1] 34) = W5 := ⟨_, rfl⟩
      obtain ⟨bx, hbx⟩ : ∃ bx, wr.heap.size = bx := ⟨_, rfl⟩
      rw [hW5, hbx] at hrd
      rw [hW5, hbx]
      have HR := Lib.hid hrd
      clear hrd hW5 hbx x0 x1 x2 x3 x4 x5 x6 HK HC
      go_cut [14, 15, 16] (fun c x q wx => Rd PS w wx D h H K R B cap key s n L gs ks zs ks zs bx kd (.slice ka1 l1 kc1) (.slice ka2 l2 kc2) fl K1 T1 C1 c x q)
      case first =>
        as_aux_lemma =>
        by_cases he : ((k : Int) == t % 40) = true
        · go_wp2_with (first
            | (go_at_call 9; refine (HA.out.copy HR.out.kn.p).mono ?_; rintro e w6 ⟨h2, D2, rfl, hp6, hb6, hd6⟩; have HP6 := Lib.hid hp6; have HD6 := Lib.hid hd6; have HR6 := Lib.hid (HR.out.stay HA.out HD.out hb6); clear hp6 hb6 hd6)
            | (go_at_call 10; refine (((HA.out.tells D).bytes HR6.out.kn.p)).mono ?_; rintro e w7 ⟨g7, cap7, rfl, hf7⟩; have hc7 := str_of (cap := cap7) ((HA.out.tells D).zlen HR6.out.kn.p) hf7.row; have HP7 := Lib.hid ((HA.out.tells D2).stay HP6.out hf7.below); have HR7 := Lib.hid (HR6.out.stay HA.out HD.out hf7.below); clear hf7)
            | (go_at_call 11; refine (((HA.out.tells D).len HR7.out.kn.p)).mono ?_; rintro e w8 ⟨rfl, hb8⟩; have HP8 := Lib.hid ((HA.out.tells D2).stay HP7.out hb8); have HR8 := Lib.hid (HR7.out.stay HA.out HD.out hb8); clear hb8))
          go_meet
          case rel =>
            have hh := HR8.out
            refine ⟨hh.kn, .inr ⟨h2, D2, ks, zs, rfl, rfl, rfl, HP8.out, fun b hb hd => ?_, fun b hb hs => ?_⟩, hh.bo, hh.bD, hh.bR, hh.lt⟩
            · have := HD6.out b hb; have := HA.out.lt HR.out.kn.p b hd; omega
            · have := HD6.out b hb; have := HR.out.kn.r.ltS HD.out b hs; omega
        · have he2 : ((k : Int) == t % 40) = false := by simpa using he
          clear he
          go_wp2_with fail
          go_meet
          case rel => exact HR.out
      case rest =>
        have HR9 := Lib.hid hcut
        clear hcut HR
        have y1 := HR9.out.bo.c1
        go_upto_region 19 with fail
        go_cut [19, 20] (fun a b wx => FoundV ks key kz a b ∧ Rd PS w wx D h H K R B cap key s n L gs ks zs ks zs bx kd (.slice ka1 l1 kc1) (.slice ka2 l2 kc2) fl K1 T1 C1 u14 u15 u16)
        case first =>
          as_aux_lemma =>
          by_cases e1 : kz.length = key
          · cases hf : ks.findIdx? (· = strOfNums kz) with
            | some i =>
              have HF := Lib.hid hf
              clear hf
              go_wp2_with (go_at_call 12; refine ((HA.out.tells D).find HR9.out.kn.p (HOP.out.k1.below HR9.out.kn.b) (.inr (by rw [HOP.out.z1]; exact HOP.out.b1))).mono ?_; rintro e w6 ⟨he, hb6⟩; rw [if_pos e1, HF.out] at he; subst he; have HR6 := Lib.hid (HR9.out.stay HA.out HD.out hb6); clear hb6)
              go_meet
              case rel => exact ⟨.inl ⟨e1, i, HF.out, rfl, rfl⟩, HR6.out⟩
            | none =>
              have HF := Lib.hid hf
              clear hf
              go_wp2_with (go_at_call 12; refine ((HA.out.tells D).find HR9.out.kn.p (HOP.out.k1.below HR9.out.kn.b) (.inr (by rw [HOP.out.z1]; exact HOP.out.b1))).mono ?_; rintro e w6 ⟨he, hb6⟩; rw [if_pos e1, HF.out] at he; subst he; have HR6 := Lib.hid (HR9.out.stay HA.out HD.out hb6); clear hb6)
              go_meet
              case rel => exact ⟨.inr ⟨fun _ => HF.out, rfl, rfl⟩, HR6.out⟩
          · go_wp2_with (go_at_call 12; refine ((HA.out.tells D).find HR9.out.kn.p (HOP.out.k1.below HR9.out.kn.b) (.inr (by rw [HOP.out.z1]; exact HOP.out.b1))).mono ?_; rintro e w6 ⟨he, hb6⟩; rw [if_neg e1] at he; subst he; have HR6 := Lib.hid (HR9.out.stay HA.out HD.out hb6); clear hb6)
            go_meet
            case rel => exact ⟨.inr ⟨fun e => absurd e e1, rfl, rfl⟩, HR6.out⟩
        case rest =>
          obtain ⟨hfv, hr10⟩ := hcut
          have HFV := Lib.hid hfv
          have HR10 := Lib.hid hr10
          clear hfv hr10 HR9 y1
          have y1 := HR10.out.bo.c1
          go_upto_region 20 with fail
          go_cut [21] (fun a wx => FoundR ks key kz a ∧ Rd PS w wx D h H K R B cap key s n L gs ks zs ks zs bx kd (.slice ka1 l1 kc1) (.slice ka2 l2 kc2) fl K1 T1 C1 u14 u15 u16)
          case first =>
            as_aux_lemma =>
            obtain ⟨fv, hfv⟩ : ∃ fv, (if kz.length = key then findK ks (strOfNums kz) else -1) = fv := ⟨_, rfl⟩
            have HF := Lib.hid hfv
            clear hfv
            go_wp2_with (go_at_call 13; refine (find_any _ _ _ _ _ _ _ _ _ _ _ _ _ _ _ HR10.out.kn.r n1 n0 k1 (HOP.out.k1.below HR10.out.kn.b)).mono ?_; rintro e w6 ⟨he, hb6⟩; rw [HF.out] at he; subst he; have HR6 := Lib.hid (HR10.out.stay HA.out HD.out hb6); clear hb6)
            go_meet
            case rel => exact ⟨by rw [FoundR, HF.out], HR6.out⟩
          case rest =>
            obtain ⟨hfr, hr11⟩ := hcut
            have HFR := Lib.hid hfr
            have HR11 := Lib.hid hr11
            clear hfr hr11 HR10 y1
            go_upto_region 21 with fail
            go_cut [114] (fun v wx => v = .bool false ∧ wx = wc)
            case first =>
              as_aux_lemma =>
              have hfv := HFV.out
              have hfr := HFR.out
              unfold FoundR at hfr
              rcases hfv with ⟨e1, i, e2, rfl, rfl⟩ | ⟨e1, rfl, rfl⟩
              · rw [if_pos e1, findK_some e2] at hfr
                subst hfr
                clear e2
                go_wp2_with fail
                go_meet
                case rel => exact ⟨rfl, rfl⟩
              · have e3 : u21 = .int .i64 (-1) := by
                  rw [hfr]
                  by_cases e4 : kz.length = key
                  · rw [if_pos e4, findK_none (e1 e4)]
                  · rw [if_neg e4]
                subst e3
                clear hfr e1
                go_wp2_with fail
                go_meet
                case rel => exact ⟨rfl, rfl⟩
            case rest =>
              obtain ⟨rfl, rfl⟩ := hcut
              clear HFV HFR
              have y0 := HR11.out.bo.c0
              go_upto_block 2 with fail
              go_cut [] (fun wx => ∃ (D : Nat → Prop) (ks : List ByteArray) (zs : List Int), Kn PS w wx D h H K R B cap key s n L gs ks zs ks zs ∧ CopyK PS wx D (RefS H K R B n gs) u14 u15 u16)
              case first =>
                have y1 := HR11.out.bo.c1
                by_cases m2 : (kd.tmod 4 == 2) = true
                · go_upto_region 29 with fail
                  obtain ⟨de, hde⟩ : ∃ de, dropE ks key kz = de := ⟨_, rfl⟩
                  have HDE := Lib.hid hde
                  clear hde
                  go_cut [158] (fun v wx => v = .bool false ∧ ∃ (D : Nat → Prop) (ks : List ByteArray) (zs : List Int), Kn PS w wx D h H K R B cap key s n L gs ks zs ks zs ∧ CopyK PS wx D (RefS H K R B n gs) u14 u15 u16)
                  case first =>
                    as_aux_lemma =>
                    have HR12 := Lib.hid (HR11.out.stay HA.out HD.out (Below.refl _ _).drew)
                    have z1 := HR12.out.bo.c1
                    go_region_held (fun W => W.cell? ⟨bx, 1, none⟩ = some (.slice ka1 l1 kc1)) (first | with_reducible exact z3 | with_reducible exact z2 | exact z1) (first
                      | (go_at_call 14; refine (HA.out.drop HR12.out.kn.p HOP.out.z1 HOP.out.b1 (HOP.out.k1.below HR12.out.kn.b)).mono ?_; rintro e w6 ⟨D6, he, hp6, ht6, hd6⟩; rw [HDE.out] at he; subst he; have HR6 := Lib.hid (HR12.out.prog HA.out HD.out ht6 hp6 hd6); have z2 := HR6.out.bo.c1; clear hp6 ht6 hd6)
                      | (go_at_call 15; refine (drop_ref _ _ _ _ _ _ _ _ _ _ _ _ _ _ _ _ _ HR6.out.kn.r n1 n0 s0 k1 HOP.out.z1 (HOP.out.k1.below HR6.out.kn.b)).mono ?_; rintro e w7 ⟨he, hf7, ht7⟩; rw [HDE.out] at he; subst he; have HR7 := Lib.hid (HR6.out.refs HA.out (ht7.more (fun b hb => .inl hb)) hf7); have z3 := HR7.out.bo.c1; clear hf7 ht7))
                    all_goals
                      go_wp2_with fail
                      go_meet
                      case rel => exact ⟨rfl, D6, _, _, HR7.out.kn, HR7.out.ck⟩
                  case rest =>
                    obtain ⟨rfl, hx⟩ := hcut
                    have HX := Lib.hid hx
                    clear hx
                    go_wp2_with fail
                    go_meet
                    case rel => exact HX.out
                · have m2f : (kd.tmod 4 == 2) = false := by simpa using m2
                  clear m2
                  by_cases m3 : (kd.tmod 4 == 3) = true
                  · have y4 := HR11.out.bo.c4
                    by_cases hK : 0 ≤ K1 ∧ K1 < n
                    · obtain ⟨hK0, hK1⟩ := hK
                      obtain ⟨q, rfl⟩ := Int.eq_ofNat_of_zero_le hK0
                      have hq : q < n := by omega
                      by_cases hT0 : 0 ≤ T1
                      · by_cases hT1 : T1 < s
                        · obtain ⟨r, rfl⟩ := Int.eq_ofNat_of_zero_le hT0
                          have hr : r < s := by omega
                          as_aux_lemma =>
                          go_upto_region 37 with (go_at_call 16; refine (HA.out.slotYes HR11.out.kn.p hq).mono ?_; rintro e w6 ⟨G, p, rfl, hb6, hDG, hsl⟩; have HR6 := Lib.hid (HR11.out.stay HA.out HD.out hb6); have y4 := HR6.out.bo.c4; have y5 := HR6.out.bo.c5; have y6 := HR6.out.bo.c6; obtain ⟨hfz, ⟨xx, hxx⟩, -⟩ := hsl r hr; have HSL := Lib.hid hsl; clear hb6 hsl)
                          have hst : Rd PS w (w6.setCell ⟨G, p + r, none⟩ (.int .u8 C1)).drew D h H K R B cap key s n L gs ks (putO zs s n q r C1) ks zs bx kd (.slice ka1 l1 kc1) (.slice ka2 l2 kc2) fl q r C1 u14 u15 u16 := by
                            rw [putO_yes hq hr]
                            exact (HR6.out.prog HA.out HD.out ((Turned.refl D w6).set (a := ⟨G, p + r, none⟩) hDG _) ((HSL.out r hr).2.2 C1) (fun b hb => .inl hb)).stay HA.out HD.out (Below.refl _ _).drew
                          have HRS := Lib.hid hst
                          clear hst
                          have w0 := HRS.out.kn.r.h2
                          have w4 := HRS.out.bo.c4
                          have w5 := HRS.out.bo.c5
                          have w6' := HRS.out.bo.c6
                          go_region_held (fun W => W.cell? ⟨H, 2, none⟩ = some (.pointer (some ⟨R, 0, none⟩)) ∧ W.cell? ⟨bx, 4, none⟩ = some (.int .i64 q) ∧ W.cell? ⟨bx, 5, none⟩ = some (.int .i64 r) ∧ W.cell? ⟨bx, 6, none⟩ = some (.int .u8 C1)) (first | with_reducible exact ⟨v0, v4, v5, v6⟩ | exact ⟨w0, w4, w5, w6'⟩)
                            ((go_at_call 17; refine (write_ref HRS.out.kn.r HD.out _ _ _).mono ?_; rintro e w8 ⟨rfl, hf8, ht8⟩; have HR8 := Lib.hid (HRS.out.refs HA.out ht8 hf8); have v0 := HR8.out.kn.r.h2; have v4 := HR8.out.bo.c4; have v5 := HR8.out.bo.c5; have v6 := HR8.out.bo.c6; clear hf8 ht8))
                          all_goals
                            go_wp2_with fail
                            go_meet
                            case rel => exact ⟨D, ks, putO zs s n q r C1, HR8.out.kn, HR8.out.ck⟩
                        · as_aux_lemma =>
                          go_upto_region 37 with (go_at_call 16; refine (HA.out.slotYes HR11.out.kn.p hq).mono ?_; rintro e w6 ⟨G, p, rfl, hb6, hDG, hsl⟩; have HR6 := Lib.hid (HR11.out.stay HA.out HD.out hb6); have y4 := HR6.out.bo.c4; have y5 := HR6.out.bo.c5; have y6 := HR6.out.bo.c6;  have HSL := Lib.hid hsl; clear hb6 hsl)
                          have hst : Rd PS w w6.drew D h H K R B cap key s n L gs ks (putO zs s n q T1 C1) ks zs bx kd (.slice ka1 l1 kc1) (.slice ka2 l2 kc2) fl q T1 C1 u14 u15 u16 := by
                            rw [putO_no (by omega)]
                            exact HR6.out.stay HA.out HD.out (Below.refl _ _).drew
                          have HRS := Lib.hid hst
                          clear hst
                          have w0 := HRS.out.kn.r.h2
                          have w4 := HRS.out.bo.c4
                          have w5 := HRS.out.bo.c5
                          have w6' := HRS.out.bo.c6
                          go_region_held (fun W => W.cell? ⟨H, 2, none⟩ = some (.pointer (some ⟨R, 0, none⟩)) ∧ W.cell? ⟨bx, 4, none⟩ = some (.int .i64 q) ∧ W.cell? ⟨bx, 5, none⟩ = some (.int .i64 T1) ∧ W.cell? ⟨bx, 6, none⟩ = some (.int .u8 C1)) (first | with_reducible exact ⟨v0, v4, v5, v6⟩ | exact ⟨w0, w4, w5, w6'⟩)
                            ((go_at_call 17; refine (write_ref HRS.out.kn.r HD.out _ _ _).mono ?_; rintro e w8 ⟨rfl, hf8, ht8⟩; have HR8 := Lib.hid (HRS.out.refs HA.out ht8 hf8); have v0 := HR8.out.kn.r.h2; have v4 := HR8.out.bo.c4; have v5 := HR8.out.bo.c5; have v6 := HR8.out.bo.c6; clear hf8 ht8))
                          all_goals
                            go_wp2_with fail
                            go_meet
                            case rel => exact ⟨D, ks, putO zs s n q T1 C1, HR8.out.kn, HR8.out.ck⟩
                      · as_aux_lemma =>
                        go_upto_region 37 with (go_at_call 16; refine (HA.out.slotYes HR11.out.kn.p hq).mono ?_; rintro e w6 ⟨G, p, rfl, hb6, hDG, hsl⟩; have HR6 := Lib.hid (HR11.out.stay HA.out HD.out hb6); have y4 := HR6.out.bo.c4; have y5 := HR6.out.bo.c5; have y6 := HR6.out.bo.c6;  have HSL := Lib.hid hsl; clear hb6 hsl)
                        have hst : Rd PS w w6.drew D h H K R B cap key s n L gs ks (putO zs s n q T1 C1) ks zs bx kd (.slice ka1 l1 kc1) (.slice ka2 l2 kc2) fl q T1 C1 u14 u15 u16 := by
                          rw [putO_no (by omega)]
                          exact HR6.out.stay HA.out HD.out (Below.refl _ _).drew
                        have HRS := Lib.hid hst
                        clear hst
                        have w0 := HRS.out.kn.r.h2
                        have w4 := HRS.out.bo.c4
                        have w5 := HRS.out.bo.c5
                        have w6' := HRS.out.bo.c6
                        go_region_held (fun W => W.cell? ⟨H, 2, none⟩ = some (.pointer (some ⟨R, 0, none⟩)) ∧ W.cell? ⟨bx, 4, none⟩ = some (.int .i64 q) ∧ W.cell? ⟨bx, 5, none⟩ = some (.int .i64 T1) ∧ W.cell? ⟨bx, 6, none⟩ = some (.int .u8 C1)) (first | with_reducible exact ⟨v0, v4, v5, v6⟩ | exact ⟨w0, w4, w5, w6'⟩)
                          ((go_at_call 17; refine (write_ref HRS.out.kn.r HD.out _ _ _).mono ?_; rintro e w8 ⟨rfl, hf8, ht8⟩; have HR8 := Lib.hid (HRS.out.refs HA.out ht8 hf8); have v0 := HR8.out.kn.r.h2; have v4 := HR8.out.bo.c4; have v5 := HR8.out.bo.c5; have v6 := HR8.out.bo.c6; clear hf8 ht8))
                        all_goals
                          go_wp2_with fail
                          go_meet
                          case rel => exact ⟨D, ks, putO zs s n q T1 C1, HR8.out.kn, HR8.out.ck⟩
                    · by_cases hK0 : 0 ≤ K1
                      · have hK1 : (n : Int) ≤ K1 := by omega
                        as_aux_lemma =>
                        go_upto_region 37 with (go_at_call 16; refine (HA.out.slotNo HR11.out.kn.p hK).mono ?_; rintro e w6 ⟨rfl, hb6⟩; have HR6 := Lib.hid (HR11.out.stay HA.out HD.out hb6); have y4 := HR6.out.bo.c4; have y5 := HR6.out.bo.c5; have y6 := HR6.out.bo.c6; clear hb6)
                        have hst : Rd PS w w6.drew D h H K R B cap key s n L gs ks (putO zs s n K1 T1 C1) ks zs bx kd (.slice ka1 l1 kc1) (.slice ka2 l2 kc2) fl K1 T1 C1 u14 u15 u16 := by
                          rw [putO_no (by omega)]
                          exact HR6.out.stay HA.out HD.out (Below.refl _ _).drew
                        have HRS := Lib.hid hst
                        clear hst
                        have w0 := HRS.out.kn.r.h2
                        have w4 := HRS.out.bo.c4
                        have w5 := HRS.out.bo.c5
                        have w6' := HRS.out.bo.c6
                        go_region_held (fun W => W.cell? ⟨H, 2, none⟩ = some (.pointer (some ⟨R, 0, none⟩)) ∧ W.cell? ⟨bx, 4, none⟩ = some (.int .i64 K1) ∧ W.cell? ⟨bx, 5, none⟩ = some (.int .i64 T1) ∧ W.cell? ⟨bx, 6, none⟩ = some (.int .u8 C1)) (first | with_reducible exact ⟨v0, v4, v5, v6⟩ | exact ⟨w0, w4, w5, w6'⟩)
                          ((go_at_call 17; refine (write_ref HRS.out.kn.r HD.out _ _ _).mono ?_; rintro e w8 ⟨rfl, hf8, ht8⟩; have HR8 := Lib.hid (HRS.out.refs HA.out ht8 hf8); have v0 := HR8.out.kn.r.h2; have v4 := HR8.out.bo.c4; have v5 := HR8.out.bo.c5; have v6 := HR8.out.bo.c6; clear hf8 ht8))
                        all_goals
                          go_wp2_with fail
                          go_meet
                          case rel => exact ⟨D, ks, putO zs s n K1 T1 C1, HR8.out.kn, HR8.out.ck⟩
                      · as_aux_lemma =>
                        go_upto_region 37 with (go_at_call 16; refine (HA.out.slotNo HR11.out.kn.p hK).mono ?_; rintro e w6 ⟨rfl, hb6⟩; have HR6 := Lib.hid (HR11.out.stay HA.out HD.out hb6); have y4 := HR6.out.bo.c4; have y5 := HR6.out.bo.c5; have y6 := HR6.out.bo.c6; clear hb6)
                        have hst : Rd PS w w6.drew D h H K R B cap key s n L gs ks (putO zs s n K1 T1 C1) ks zs bx kd (.slice ka1 l1 kc1) (.slice ka2 l2 kc2) fl K1 T1 C1 u14 u15 u16 := by
                          rw [putO_no (by omega)]
                          exact HR6.out.stay HA.out HD.out (Below.refl _ _).drew
                        have HRS := Lib.hid hst
                        clear hst
                        have w0 := HRS.out.kn.r.h2
                        have w4 := HRS.out.bo.c4
                        have w5 := HRS.out.bo.c5
                        have w6' := HRS.out.bo.c6
                        go_region_held (fun W => W.cell? ⟨H, 2, none⟩ = some (.pointer (some ⟨R, 0, none⟩)) ∧ W.cell? ⟨bx, 4, none⟩ = some (.int .i64 K1) ∧ W.cell? ⟨bx, 5, none⟩ = some (.int .i64 T1) ∧ W.cell? ⟨bx, 6, none⟩ = some (.int .u8 C1)) (first | with_reducible exact ⟨v0, v4, v5, v6⟩ | exact ⟨w0, w4, w5, w6'⟩)
                          ((go_at_call 17; refine (write_ref HRS.out.kn.r HD.out _ _ _).mono ?_; rintro e w8 ⟨rfl, hf8, ht8⟩; have HR8 := Lib.hid (HRS.out.refs HA.out ht8 hf8); have v0 := HR8.out.kn.r.h2; have v4 := HR8.out.bo.c4; have v5 := HR8.out.bo.c5; have v6 := HR8.out.bo.c6; clear hf8 ht8))
                        all_goals
                          go_wp2_with fail
                          go_meet
                          case rel => exact ⟨D, ks, putO zs s n K1 T1 C1, HR8.out.kn, HR8.out.ck⟩
                  · have m3f : (kd.tmod 4 == 3) = false := by simpa using m3
                    clear m3
                    as_aux_lemma =>
                    have y2 := HR11.out.bo.c2
                    have y3 := HR11.out.bo.c3
                    have hf0 := HOP.out.bf
                    have ho1 : Off D (.slice ka1 l1 kc1) := off_of HOP.out.k1 HR11.out.kn.dW
                    have ho2 : Off D (.slice ka2 l2 kc2) := off_of HOP.out.k2 HR11.out.kn.dW
                    have ho3 : Off (RefS H K R B n gs) (.slice ka2 l2 kc2) := off_of HOP.out.k2 HR11.out.kn.rW
                    have HO1 := Lib.hid ho1
                    have HO2 := Lib.hid ho2
                    have HO3 := Lib.hid ho3
                    obtain ⟨r, hr⟩ : ∃ r, putR ks zs key s kz vz fl = r := ⟨_, rfl⟩
                    have HPR := Lib.hid hr
                    clear ho1 ho2 ho3 hr
                    go_wp2_with (first
                      | (go_at_call 18; refine (HA.out.put HR11.out.kn.p (HOP.out.k1.below HR11.out.kn.b) (HOP.out.k2.below HR11.out.kn.b) HO1.out HO2.out hf0.1 hf0.2).mono ?_; rintro e w6 ⟨D6, he, hp6, ht6, hd6⟩; rw [HPR.out] at he hp6; subst he; have HR6 := Lib.hid (HR11.out.prog HA.out HD.out ht6 hp6 hd6); have z1 := HR6.out.bo.c1; have z2 := HR6.out.bo.c2; have z3 := HR6.out.bo.c3; clear hp6 ht6 hd6)
                      | (go_at_call 19; refine (put_ref _ _ _ _ _ _ _ _ _ _ _ _ _ _ _ _ _ _ HD.out HR6.out.kn.r k1 (HOP.out.k1.below HR6.out.kn.b) (HOP.out.k2.below HR6.out.kn.b) (fun a len c e h0 hs => HO3.out a len c e h0 (putS_ref _ hs))).mono ?_; rintro e w7 ⟨he, hf7, ht7⟩; rw [HPR.out] at he hf7; subst he; have HR7 := Lib.hid (HR6.out.refs HA.out ht7 hf7); clear hf7 ht7))
                    go_meet
                    case rel => exact ⟨D6, _, _, HR7.out.kn, HR7.out.ck⟩
              case rest =>
                obtain ⟨D9, ks9, zs9, hkn9, hck9⟩ := hcut
                have HK9 := Lib.hid hkn9
                have HC9 := Lib.hid hck9
                clear hkn9 hck9 HR11
                go_wp2_with (go_at_call 20; refine (same_yes _ HD.out k1 (HA.out.tells D9) HK9.out.p HK9.out.r).mono ?_; rintro e w9 ⟨rfl, hb9⟩; have HK10 := Lib.hid (HK9.out.stay HA.out HD.out hb9); have HC10 := Lib.hid (HC9.out.stay HA.out hb9); clear hb9)
                go_roundw
                case rel => exact ⟨k + 1, D9, ks9, zs9, by omega, by omega, by go_num, HK10.out, HC10.out⟩
                case measure => simp [intOf]; omega
    · have hend : k = len ∨ k = 60 := by omega
      have hck := HC.out
      rcases hck with rfl | ⟨h2, D2, ks2, zs2, rfl, rfl, rfl, hp2, -, -⟩
      · by_cases hlt1 : k < len
        all_goals
          as_aux_lemma =>
          go_wp2
          go_ret
          exact ⟨rfl, HK.out.b⟩
      · have HP2 := Lib.hid hp2
        obtain ⟨str, hstr⟩ : ∃ x, strOfNums zs2 = x := ⟨_, rfl⟩
        have HSTR := Lib.hid hstr
        rw [hstr]
        clear hp2 hstr
        by_cases hlt1 : k < len
        all_goals
          as_aux_lemma =>
          go_wp2_with (first
            | (go_at_call 10; refine (((HA.out.tells D2).bytes HP2.out)).mono ?_; rintro e w7 ⟨g7, cap7, rfl, hf7⟩; have hc7 := str_of (cap := cap7) ((HA.out.tells D2).zlen HP2.out) hf7.row; rw [HSTR.out] at hc7; have HP7 := Lib.hid ((HA.out.tells D2).stay HP2.out hf7.below); have HB7 := Lib.hid hf7.below; clear hf7)
            | (go_at_call 11; refine (((HA.out.tells D2).len HP7.out)).mono ?_; rintro e w8 ⟨rfl, hb8⟩; have HB8 := Lib.hid hb8; clear hb8))
          go_ret
          exact ⟨rfl, (HK.out.b.trans (HB7.out.mono HK.out.b.size)).trans (HB8.out.mono (Nat.le_trans HK.out.b.size HB7.out.size))⟩
end Go.Proofs.Ytcociipcimdjjaa
