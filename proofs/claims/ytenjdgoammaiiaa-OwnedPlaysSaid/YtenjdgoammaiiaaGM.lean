/-
  Proved here: what Update and Slot of the program's maps do. Conditions: as each lemma says.
-/
import Derived.Test.YtenjdgoammaiiaaGL
namespace Go.Proofs.Ytenjdgoammaiiaa
open Go.RowKit
set_option maxRecDepth 100000
attribute [local go_sem] ta_aa ta_ah ta_al ta_ha ta_hh ta_hl ta_la ta_lh ta_ll ta_na ta_nh ta_nl

theorem copy_arr {w : World} {A G C s n L q : Nat} {zs vz : List Int} {a2 : Option Addr} {c2 : Nat} (H : Arr w A G s n L C zs) (hd : Dim s n L) (ha : KeyAt w (.slice a2 s c2) vz) (hl : vz.length = s) (hq : q < n) (ty : TypeId) :
    (Builtin.copy_ #[32, 32] ty #[.slice (some ⟨G, q * s, none⟩) s s, .slice a2 s c2]).run Try.prog w = .ok (goInt s) (w.setCells G (q * s) (u8s vz)) := by
  have hs0 := hd.s0
  have hat := hd.at hq
  obtain ⟨g2, o2, rfl, hr⟩ : ∃ g2 o2, a2 = some ⟨g2, o2, none⟩ ∧ RowAt w g2 o2 s vz := by
    generalize hv : Value.slice a2 s c2 = x at ha
    cases ha with
    | empty a c => injection hv with _ h2 _; omega
    | row g off ln c kz h1 hr hg =>
      injection hv with h1 h2 _
      exact ⟨g, off, h1, by rw [h2]; exact hr⟩
  have hrun := run_copy_cells (P := Try.prog) w 32 32 ty 5 G (q * s) s s ⟨g2, o2, none⟩ s c2 (u8s vz) Try.underlying32 (by kernel_rfl) (by rw [u8s_length, hl]; simp)
    (fun j u hu => by rw [add_lit]; exact u8s_cells hl hr j u hu) (fun j hj => by
      rw [u8s_length, hl] at hj
      have := H.row (q * s + j) (by omega)
      rw [Nat.zero_add] at this
      rw [this]; rfl) (fun j _ => H.free _) u8s_one
  rw [u8s_length, hl] at hrun
  exact hrun
/-- An array, updated. -/
def UpdQ (A G C s n : Nat) (r : Int × MSt) (W : World) (e : Ending) (w : World) : Prop := e = .returned (.int .i64 r.1) ∧ ∃ zs, r.2 = .arr s n zs ∧ Arr w A G s n (s * n) C zs ∧ Turned (fun b => b = G) W w
theorem upd_arr {w : World} {A G C s n : Nat} {zs : List Int} {v1 v2 : Value} {kz vz : List Int} {fl : Int} (H : Arr w A G s n (s * n) C zs) (hd : Dim s n (s * n)) (hc : s * n ≤ C) (hv1 : KeyAt w v1 kz) (hb : IsBytes kz) (hv2 : KeyAt w v2 vz) :
    Calls Try.prog 35 #[.pointer (some ⟨A, 0, none⟩), v1, v2, .int .u64 fl] w (UpdQ A G C s n (updA (idxA n kz) s n zs vz fl) w) := by
  have hlt := idxA_lt n kz
  have HI := Lib.hid (slot_num H hd.n1 hv1 hb)
  obtain ⟨ak, ck, rfl⟩ := keyLen hv1
  obtain ⟨a2, c2, rfl⟩ := keyLen hv2
  have HH := Lib.hid H
  have HD := Lib.hid hd
  have HC := Lib.hid hc
  have HV2 := Lib.hid hv2
  have HS := Lib.hid H.c0
  generalize idxA n kz = ix at HI hlt ⊢
  clear H hd hc hv1 hb hv2
  unfold Ret at *
  by_cases h0 : ix < 0
  · have hu : updA ix s n zs vz fl = (22, .arr s n zs) := by unfold updA; rw [if_pos (.inl h0)]
    rw [hu]
    rw [if_pos h0, decide_eq_false (by omega)] at HI
    clear hu
    go_enter Try.func35, Try.ntmps35
    go_wp2_with (go_at_call 37; refine HI.out.mono ?_; rintro e w1 ⟨rfl, rfl⟩)
    go_ret
    exact ⟨rfl, zs, rfl, HH.out, Turned.refl _ _⟩
  · rw [if_neg h0, decide_eq_true (by omega)] at HI
    obtain ⟨k, rfl⟩ := Int.eq_ofNat_of_zero_le (show 0 ≤ ix by omega)
    have hk : k < n := by omega
    by_cases hl : vz.length = s
    · rw [hl] at HV2
      rw [hl]
      by_cases h2 : 2 < fl
      · have hu : updA k s n zs vz fl = (22, .arr s n zs) := by unfold updA; rw [if_pos (.inr (.inr h2))]
        have h2d : decide (2 < fl) = true := decide_eq_true h2
        have hsb : ((s : Int) != s) = false := by simp
        rw [hu]
        clear hu h2 h0 hlt
        go_enter Try.func35, Try.ntmps35
        go_wp2_with (first
          | (go_at_call 37; refine HI.out.mono ?_; rintro e w1 ⟨rfl, rfl⟩)
          | (go_at_call 61; refine (arr_size _ _ _ HS.out).mono ?_; rintro e w' ⟨rfl, rfl⟩))
        go_ret
        exact ⟨rfl, zs, rfl, HH.out, Turned.refl _ _⟩
      · have h2d : decide (2 < fl) = false := decide_eq_false h2
        by_cases h1 : fl = 1
        · have hu : updA k s n zs vz fl = (17, .arr s n zs) := by unfold updA; rw [if_neg (by omega), if_pos h1]
          have h1d : (fl == 1) = true := by simpa using h1
          rw [hu]
          clear hu h2 h0 hlt h1
          go_enter Try.func35, Try.ntmps35
          go_wp2_with (first
            | (go_at_call 37; refine HI.out.mono ?_; rintro e w1 ⟨rfl, rfl⟩)
            | (go_at_call 61; refine (arr_size _ _ _ HS.out).mono ?_; rintro e w' ⟨rfl, rfl⟩))
          go_ret
          exact ⟨rfl, zs, rfl, HH.out, Turned.refl _ _⟩
        · have hu : updA k s n zs vz fl = (0, .arr s n (putN zs (k * s) vz s)) := by unfold updA; rw [if_neg (by omega), if_neg h1]; simp
          have h1d : (fl == 1) = false := by simpa using h1
          rw [hu]
          have HK := Lib.hid hk
          have HL := Lib.hid hl
          clear hu h2 h0 hlt h1 hk hl
          go_enter Try.func35, Try.ntmps35
          go_wp2_with (first
            | (go_at_call 37; refine HI.out.mono ?_; rintro e w1 ⟨rfl, rfl⟩)
            | (go_at_call 61; refine (arr_size _ _ _ HS.out).mono ?_; rintro e w' ⟨rfl, rfl⟩)
            | (go_at_call 62; refine (slotC_yes _ _ _ _ _ _ _ _ _ _ HD.out HC.out HH.out HK.out rfl).mono ?_; rintro e w5 ⟨rfl, hb5⟩; have HX5 := Lib.hid (HH.out.stay hb5); have HT5 := Lib.hid (Turned.of (S := fun b => b = G) hb5); have hcp := copy_arr HX5.out HD.out (HV2.out.stay rfl hb5) HL.out HK.out 3; clear hb5))
          go_ret
          refine ⟨rfl, _, rfl, ?_, turned_setCells (S := fun b => b = G) G rfl _ _ HT5.out⟩
          rw [putN_setL zs (k * s) vz s (by rw [HL.out]; exact Nat.le_refl _), List.take_of_length_le (by rw [HL.out]; exact Nat.le_refl _)]
          exact HX5.out.puts vz (by rw [HL.out]; exact HD.out.at HK.out)
    · have hu : updA k s n zs vz fl = (22, .arr s n zs) := by unfold updA; rw [if_pos (.inr (.inl hl))]
      have hsb : ((vz.length : Int) != s) = true := by simp; omega
      rw [hu]
      clear hu hlt h0 hl
      go_enter Try.func35, Try.ntmps35
      go_wp2_with (first
        | (go_at_call 37; refine HI.out.mono ?_; rintro e w1 ⟨rfl, rfl⟩)
        | (go_at_call 61; refine (arr_size _ _ _ HS.out).mono ?_; rintro e w' ⟨rfl, rfl⟩))
      go_ret
      exact ⟨rfl, zs, rfl, HH.out, Turned.refl _ _⟩
section
variable {w w' : World} {h : Nat} {a1 a2 : Option Addr} {c1 c2 : Nat} {pv : Nat → Value} {Ss : Nat → Nat → Prop} {st : List MSt} {D : Nat → Prop}
theorem pw_update_no {m : Int} {p v1 v2 : Value} {fl : Int} (HS : Calls Try.prog 34 #[ptrV h, .int .i64 m] w (Ret p w)) (hp : (∃ q, p = .iface 102 q) ∨ p = .nilIface) :
    Calls Try.prog 14 #[ptrV h, .int .i64 m, v1, v2, .int .u64 fl] w (fun e w' => e = .returned (.int .i64 22) ∧ Below w.heap.size w w') := by
  have HS := Lib.hid HS
  unfold ptrV Ret at *
  rcases hp with ⟨q, rfl⟩ | rfl
  all_goals
    go_enter Try.func14, Try.ntmps14
    go_wp2_with (go_at_call 34; refine HS.out.mono ?_; rintro e w1 ⟨rfl, rfl⟩)
    go_ret
    exact ⟨rfl, Below.refl _ _⟩
theorem off_part {S : Nat → Prop} {v : Value} (h : Off D v) (hS : ∀ b, S b → D b) : Off S v := fun a len c e h0 hs => h a len c e h0 (hS _ hs)
theorem pw_update {m : Int} {v1 v2 : Value} {kz vz : List Int} {fl : Int} (H : Pw w h a1 a2 c1 c2 pv Ss st) (hD : ∀ b, D b ↔ PwS h a1 a2 Ss st.length b) (hv1 : KeyAt w v1 kz) (hb : IsBytes kz) (hv2 : KeyAt w v2 vz) (ho1 : Off D v1) (ho2 : Off D v2) :
    Calls Try.prog 14 #[ptrV h, .int .i64 m, v1, v2, .int .u64 fl] w (ProgQ PwM D h (.int .i64 (opR 22 (updM kz vz fl) st m).1) (opR 22 (updM kz vz fl) st m).2 w) := by
  by_cases hm : 0 ≤ m ∧ m < st.length
  · obtain ⟨q, rfl⟩ := Int.eq_ofNat_of_zero_le hm.1
    have hq : q < st.length := by omega
    have HS := pw_slots_in H hq
    have hpd := H.pd q hq
    have hoff : ∀ v, Off D v → Off (Ss q) v := fun v ho => off_part ho fun b hb => (hD b).2 (.inr (.inr (.inr ⟨q, hq, hb⟩)))
    obtain ⟨x, hx⟩ : ∃ x, st.getD q .ring = x := ⟨_, rfl⟩
    rw [hx] at hpd
    obtain ⟨p, hpv⟩ : ∃ p, pv q = p := ⟨_, rfl⟩
    rw [hpv] at hpd HS
    cases hpd with
    | @arr A G C s n zs hd ha hc hS =>
      rw [opR_in hq hx]
      unfold updM
      simp only
      have HI := Lib.hid (upd_arr (fl := fl) ha hd hc hv1 hb hv2)
      obtain ⟨ak, ck, rfl⟩ := keyLen hv1
      obtain ⟨a2', c2', rfl⟩ := keyLen hv2
      have HS := Lib.hid HS
      have HH := Lib.hid H
      have HP := Lib.hid hpv
      have HX := Lib.hid hx
      have HDI := Lib.hid (And.intro hd hc)
      have HSS := Lib.hid hS
      have HDD := Lib.hid hD
      clear H hx hd ha hc hS hv1 hv2 hb hpv hD ho1 ho2 hoff
      generalize updA (idxA n kz) s n zs vz fl = r at HI ⊢
      obtain ⟨r1, x2⟩ := r
      unfold Ret ptrV UpdQ at *
      simp only at HI ⊢
      go_enter Try.func14, Try.ntmps14
      go_wp2_with (first
        | (go_at_call 34; refine HS.out.mono ?_; rintro e w1 ⟨rfl, rfl⟩)
        | (go_at_call 35; refine HI.out.mono ?_; rintro e w1 ⟨rfl, zs2, hr1, ha1, ht1⟩; have HR1 := Lib.hid hr1; have HA1 := Lib.hid ha1; have HT1 := Lib.hid ht1; clear hr1 ha1 ht1))
      go_ret
      rw [HR1.out]
      obtain ⟨hd, hc⟩ := HDI.out
      exact HH.out.progq HDD.out hq (S2 := Ss q) (by rw [HP.out]; exact .arr hd HA1.out hc HSS.out) (by rw [HX.out]; rfl) (by rw [HX.out]; rfl) (by rw [HX.out]; rfl) (by rw [HX.out]; rfl) rfl (HT1.out.more fun b hb => (HSS.out b).2 (.inr hb)) fun b hb => .inl hb
    | @hash h2 A G C M v2' len l Dm key s n ks zs hd hk hk8 HM hS =>
      rw [opR_in hq hx]
      unfold updM
      simp only
      have HI := Lib.hid (hm_put (fl := fl) HM hS hd hk (by unfold maxLen; omega) hv1 hv2 (hoff _ ho1) (hoff _ ho2))
      obtain ⟨ak, ck, rfl⟩ := keyLen hv1
      obtain ⟨a2', c2', rfl⟩ := keyLen hv2
      have HS := Lib.hid HS
      have HH := Lib.hid H
      have HP := Lib.hid hpv
      have HX := Lib.hid hx
      have HDI := Lib.hid (And.intro hd (And.intro hk hk8))
      have HDD := Lib.hid hD
      clear H hx hd HM hS hv1 hv2 hb hpv hk hk8 hD ho1 ho2 hoff
      generalize putR ks zs key s kz vz fl = r at HI ⊢
      obtain ⟨r1, r2, ks2, zs2⟩ := r
      unfold Ret ptrV PutP at *
      simp only at HI ⊢
      go_enter Try.func14, Try.ntmps14
      go_wp2_with (first
        | (go_at_call 34; refine HS.out.mono ?_; rintro e w1 ⟨rfl, rfl⟩)
        | (go_at_call 36; refine HI.out.mono ?_; rintro e w1 ⟨D2, rfl, hp1, ht1, hD1⟩; have HP1 := Lib.hid hp1; have HT1 := Lib.hid ht1; have HD1 := Lib.hid hD1; clear hp1 ht1 hD1))
      go_ret
      obtain ⟨A', G', C', M', v', len', l', Dm', H', hD'⟩ := HP1.out
      obtain ⟨hd, hk, hk8⟩ := HDI.out
      exact HH.out.progq HDD.out hq (S2 := D2) (by rw [HP.out]; exact .hash hd hk hk8 H' hD') (by rw [HX.out]; rfl) (by rw [HX.out]; rfl) (by rw [HX.out]; rfl) (by rw [HX.out]; rfl) rfl HT1.out HD1.out
    | @loc h2 A G C v2 kd s n os zs hd hk HM hS =>
      rw [opR_same (no := 22) (f := updM kz vz fl) hq hx rfl]
      exact (pw_update_no HS (.inl ⟨_, rfl⟩)).mono fun e w' ⟨he, hb⟩ => H.same hD hb he
    | ring hS =>
      rw [opR_same (no := 22) (f := updM kz vz fl) hq hx rfl]
      exact (pw_update_no HS (.inr rfl)).mono fun e w' ⟨he, hb⟩ => H.same hD hb he
  · rw [opR_out hm]
    exact (pw_update_no (pw_slots_out H hm) (.inr rfl)).mono fun e w' ⟨he, hb⟩ => H.same hD hb he
end
end Go.Proofs.Ytenjdgoammaiiaa

/-
  Proved here: what Slot of the program's maps tells. Conditions: as each lemma says.
-/
namespace Go.Proofs.Ytenjdgoammaiiaa
open Go.RowKit
set_option maxRecDepth 100000

theorem Pw.put {w w' : World} {h : Nat} {a1 a2 : Option Addr} {c1 c2 : Nat} {pv : Nat → Value} {Ss : Nat → Nat → Prop} {st : List MSt} (H : Pw w h a1 a2 c1 c2 pv Ss st) {q : Nat} (hq : q < st.length) {x : MSt} (hx : PdM w' (Ss q) (pv q) x) (hk : x.kind = (st.getD q .ring).kind) (hy : x.key = (st.getD q .ring).key) (hv : x.val = (st.getD q .ring).val) (hm : x.max = (st.getD q .ring).max)
    (ht : Turned (Ss q) w w') : Pw w' h a1 a2 c1 c2 pv Ss (st.set q x) := by
  have h1 := H.turn hq hx hk hy hv hm ht (fun b hb => .inl hb)
  have e : (fun m => if m = q then Ss q else Ss m) = Ss := by
    funext m
    by_cases e : m = q
    · rw [if_pos e, e]
    · rw [if_neg e]
  rw [e] at h1
  exact h1
theorem m_slot_a (q : Option Addr) (w : World) : (method 277 90 (.pointer q) "Slot").run Try.prog w = .ok (62, .pointer q) w := by kernel_rfl
theorem m_slot_h (q : Option Addr) (w : World) : (method 277 92 (.pointer q) "Slot").run Try.prog w = .ok (111, .pointer q) w := by kernel_rfl
theorem m_slot_l (q : Option Addr) (w : World) : (method 277 102 (.pointer q) "Slot").run Try.prog w = .ok (114, .pointer q) w := by kernel_rfl
theorem m_bytes_a (q : Option Addr) (w : World) : (method 277 90 (.pointer q) "Bytes").run Try.prog w = .ok (70, .pointer q) w := by kernel_rfl
theorem m_bytes_h (q : Option Addr) (w : World) : (method 277 92 (.pointer q) "Bytes").run Try.prog w = .ok (109, .pointer q) w := by kernel_rfl
theorem m_bytes_l (q : Option Addr) (w : World) : (method 277 102 (.pointer q) "Bytes").run Try.prog w = .ok (112, .pointer q) w := by kernel_rfl
attribute [local go_sem] m_slot_a m_slot_h m_slot_l
/-- Slot by whatever tells it. -/
theorem pw_slot_by {w : World} {h : Nat} {m k : Int} {p : Value} {q : Option Addr} {Q : Ending → World → Prop} (HS : Calls Try.prog 34 #[ptrV h, .int .i64 m] w (Ret p w))
    (hp : (p = .iface 90 (.pointer q) ∧ Calls Try.prog 62 #[.pointer q, .int .i64 k] w Q) ∨ (p = .iface 92 (.pointer q) ∧ Calls Try.prog 111 #[.pointer q, .int .i64 k] w Q) ∨ (p = .iface 102 (.pointer q) ∧ Calls Try.prog 114 #[.pointer q, .int .i64 k] w Q))
    (hQ : ∀ e w', Q e w' → ∃ v1 v2, e = .returned (.tuple #[v1, v2])) : Calls Try.prog 13 #[ptrV h, .int .i64 m, .int .i64 k] w Q := by
  have HS := Lib.hid HS
  have HQ := Lib.hid hQ
  unfold ptrV Ret at *
  clear hQ
  rcases hp with ⟨rfl, h1⟩ | ⟨rfl, h1⟩ | ⟨rfl, h1⟩
  · have HI := Lib.hid h1
    clear h1
    go_enter Try.func13, Try.ntmps13
    go_wp2_with (first
      | (go_at_call 34; refine HS.out.mono ?_; rintro e w1 ⟨rfl, rfl⟩)
      | (go_at_call 62; refine HI.out.mono ?_; intro e w1 he; obtain ⟨v1, v2, rfl⟩ := HQ.out _ _ he; have HE := Lib.hid he; clear he))
    exact HE.out
  · have HI := Lib.hid h1
    clear h1
    go_enter Try.func13, Try.ntmps13
    go_wp2_with (first
      | (go_at_call 34; refine HS.out.mono ?_; rintro e w1 ⟨rfl, rfl⟩)
      | (go_at_call 111; refine HI.out.mono ?_; intro e w1 he; obtain ⟨v1, v2, rfl⟩ := HQ.out _ _ he; have HE := Lib.hid he; clear he))
    exact HE.out
  · have HI := Lib.hid h1
    clear h1
    go_enter Try.func13, Try.ntmps13
    go_wp2_with (first
      | (go_at_call 34; refine HS.out.mono ?_; rintro e w1 ⟨rfl, rfl⟩)
      | (go_at_call 114; refine HI.out.mono ?_; intro e w1 he; obtain ⟨v1, v2, rfl⟩ := HQ.out _ _ he; have HE := Lib.hid he; clear he))
    exact HE.out
theorem pw_slot_nil {w : World} {h : Nat} {m k : Int} (HS : Calls Try.prog 34 #[ptrV h, .int .i64 m] w (Ret .nilIface w)) :
    Calls Try.prog 13 #[ptrV h, .int .i64 m, .int .i64 k] w (fun e w' => e = .returned (.tuple #[.slice none 0 0, .bool false]) ∧ Below w.heap.size w w') := by
  have HS := Lib.hid HS
  unfold ptrV Ret at *
  go_enter Try.func13, Try.ntmps13
  go_wp2_with (go_at_call 34; refine HS.out.mono ?_; rintro e w1 ⟨rfl, rfl⟩)
  go_ret2
  exact ⟨rfl, Below.refl _ _⟩
section
variable {w w' : World} {h : Nat} {a1 a2 : Option Addr} {c1 c2 : Nat} {pv : Nat → Value} {Ss : Nat → Nat → Prop} {st : List MSt} {D : Nat → Prop}
theorem pw_slot_out {m k : Int} (H : Pw w h a1 a2 c1 c2 pv Ss st) (hno : ¬ (0 ≤ m ∧ m < (st.length : Int) ∧ 0 ≤ k ∧ k < ((st.getD m.toNat .ring).max : Int))) :
    Calls Try.prog 13 #[ptrV h, .int .i64 m, .int .i64 k] w (fun e w' => e = .returned (.tuple #[.slice none 0 0, .bool false]) ∧ Below w.heap.size w w') := by
  by_cases hm : 0 ≤ m ∧ m < st.length
  · obtain ⟨q, rfl⟩ := Int.eq_ofNat_of_zero_le hm.1
    have hq : q < st.length := by omega
    have HS := pw_slots_in H hq
    have hpd := H.pd q hq
    rw [Int.toNat_natCast] at hno
    obtain ⟨x, hx⟩ : ∃ x, st.getD q .ring = x := ⟨_, rfl⟩
    rw [hx] at hpd hno
    obtain ⟨p, hpv⟩ : ∃ p, pv q = p := ⟨_, rfl⟩
    rw [hpv] at hpd HS
    cases hpd with
    | @arr A G C s n zs hd ha hc hS =>
      exact pw_slot_by HS (.inl ⟨rfl, slotC_no _ _ _ _ ha.c1 (fun e => hno ⟨by omega, by omega, e.1, e.2⟩)⟩) fun e w' h => ⟨_, _, h.1⟩
    | @hash h2 A G C M v2 len l Dm key s n ks zs hd hk hk8 HM hS =>
      exact pw_slot_by HS (.inr (.inl ⟨rfl, hm_slot_no HM (fun e => hno ⟨by omega, by omega, e.1, e.2⟩)⟩)) fun e w' h => ⟨_, _, h.1⟩
    | @loc h2 A G C v2 kd s n os zs hd hk HM hS =>
      exact pw_slot_by HS (.inr (.inr ⟨rfl, lm_slot_no HM (fun e => hno ⟨by omega, by omega, e.1, e.2⟩)⟩)) fun e w' h => ⟨_, _, h.1⟩
    | ring hS => exact pw_slot_nil HS
  · exact pw_slot_nil (pw_slots_out H hm)
/-- A slot's bytes. -/
def SlotM (D : Nat → Prop) (h q k : Nat) (st : List MSt) (W : World) (e : Ending) (w' : World) : Prop := ∃ g o C, e = .returned (.tuple #[.slice (some ⟨g, o, none⟩) (st.getD q .ring).val C, .bool true]) ∧ Below W.heap.size W w' ∧ D g ∧ ∀ j, j < (st.getD q .ring).val → w'.cell? ⟨g, o + j, none⟩ = some (.int .u8 ((st.getD q .ring).zs.getD (k * (st.getD q .ring).val + j) 0)) ∧ w'.frozen? ⟨g, o + j, none⟩ = false ∧
    ∀ c : Int, PwM (w'.setCell ⟨g, o + j, none⟩ (.int .u8 c)) D h (st.set q ((st.getD q .ring).put ((st.getD q .ring).zs.set (k * (st.getD q .ring).val + j) c)))
theorem slot_m {q k G C s : Nat} {x : MSt} {e : Ending} (H : Pw w h a1 a2 c1 c2 pv Ss st) (hD : ∀ b, D b ↔ PwS h a1 a2 Ss st.length b) (hq : q < st.length) (hx : st.getD q .ring = x) (hs : x.val = s) (he : e = .returned (.tuple #[.slice (some ⟨G, k * s, none⟩) s C, .bool true])) (hb : Below w.heap.size w w') (hG : Ss q G)
    (hc : ∀ j, j < s → w'.cell? ⟨G, k * s + j, none⟩ = some (.int .u8 (x.zs.getD (k * s + j) 0)) ∧ w'.frozen? ⟨G, k * s + j, none⟩ = false ∧ ∀ c : Int, PdM (w'.setCell ⟨G, k * s + j, none⟩ (.int .u8 c)) (Ss q) (pv q) (x.put (x.zs.set (k * s + j) c)))
    (hp : ∀ z, (x.put z).kind = x.kind ∧ (x.put z).key = x.key ∧ (x.put z).val = x.val ∧ (x.put z).max = x.max) : SlotM D h q k st w e w' := by
  subst hs
  unfold SlotM
  rw [hx]
  refine ⟨G, k * x.val, C, he, hb, (hD G).2 (.inr (.inr (.inr ⟨q, hq, hG⟩))), fun j hj => ?_⟩
  obtain ⟨h1, h2, h3⟩ := hc j hj
  refine ⟨h1, h2, fun c => ?_⟩
  obtain ⟨p1, p2, p3, p4⟩ := hp (x.zs.set (k * x.val + j) c)
  have H' := H.stay hb
  refine ⟨a1, a2, c1, c2, pv, Ss, H'.put hq (h3 c) (by rw [hx]; exact p1) (by rw [hx]; exact p2) (by rw [hx]; exact p3) (by rw [hx]; exact p4) ((Turned.refl _ _).set (a := ⟨G, k * x.val + j, none⟩) hG _), ?_⟩
  rw [List.length_set]
  exact hD
theorem pw_slot_in {q k : Nat} (H : Pw w h a1 a2 c1 c2 pv Ss st) (hD : ∀ b, D b ↔ PwS h a1 a2 Ss st.length b) (hq : q < st.length) (hk : k < (st.getD q .ring).max) :
    Calls Try.prog 13 #[ptrV h, .int .i64 (q : Int), .int .i64 (k : Int)] w (SlotM D h q k st w) := by
  have HS := pw_slots_in H hq
  have hpd := H.pd q hq
  obtain ⟨x, hx⟩ : ∃ x, st.getD q .ring = x := ⟨_, rfl⟩
  rw [hx] at hpd hk
  obtain ⟨p, hpv⟩ : ∃ p, pv q = p := ⟨_, rfl⟩
  rw [hpv] at hpd HS
  cases hpd with
  | @arr A G C s n zs hd ha hc hS =>
    have hk : k < n := hk
    have hat := hd.at hk
    refine (pw_slot_by HS (.inl ⟨rfl, slotC_yes _ _ _ _ _ _ _ _ _ _ hd hc ha hk rfl⟩) fun e w' h => ⟨_, _, h.1⟩).mono ?_
    rintro e w1 ⟨he, hb⟩
    have h1 := ha.stay hb
    refine slot_m (s := s) H hD hq hx rfl he hb ((hS G).2 (.inr rfl)) (fun j hj => ⟨?_, h1.free _, fun c => ?_⟩) fun z => ⟨rfl, rfl, rfl, rfl⟩
    · have := h1.row (k * s + j) (by omega)
      rw [Nat.zero_add] at this
      exact this
    · rw [hpv]
      exact .arr hd (h1.put (by omega)) hc hS
  | @hash h2 A G C M v2 len l Dm key s n ks zs hd hk1 hk8 HM hS =>
    have hk : k < n := hk
    have hat := hd.at hk
    refine (pw_slot_by HS (.inr (.inl ⟨rfl, hm_slot_yes HM hd hk⟩)) fun e w' h => ⟨_, _, h.1⟩).mono ?_
    rintro e w1 ⟨he, hb⟩
    have h1 := HM.stay hb
    refine slot_m (s := s) H hD hq hx rfl he hb ((hS G).2 (.inr (.inr (.inl rfl)))) (fun j hj => ⟨?_, h1.ar.free _, fun c => ?_⟩) fun z => ⟨rfl, rfl, rfl, rfl⟩
    · have := h1.ar.row (k * s + j) (by omega)
      rw [Nat.zero_add] at this
      exact this
    · rw [hpv]
      exact .hash hd hk1 hk8 (h1.put1 hd (by omega)) hS
  | @loc h2 A G C v2 kd s n os zs hd hk1 HM hS =>
    have hk : k < n := hk
    have hat := hd.at hk
    refine (pw_slot_by HS (.inr (.inr ⟨rfl, lm_slot_yes HM hd hk⟩)) fun e w' h => ⟨_, _, h.1⟩).mono ?_
    rintro e w1 ⟨he, hb⟩
    have h1 := HM.stay hb
    refine slot_m (s := s) H hD hq hx rfl he hb ((hS G).2 (.inr (.inr (.inl rfl)))) (fun j hj => ⟨?_, h1.ar.free _, fun c => ?_⟩) fun z => ⟨rfl, rfl, rfl, rfl⟩
    · have := h1.ar.row (k * s + j) (by omega)
      rw [Nat.zero_add] at this
      exact this
    · rw [hpv]
      exact .loc hd hk1 (h1.put1 hd (by omega)) hS
  | ring hS => exact absurd hk (Nat.not_lt_zero _)
end
end Go.Proofs.Ytenjdgoammaiiaa
