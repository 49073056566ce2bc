/-
  Proved here: what Put of the program's map does, way by way. Conditions: as each lemma says.
-/
import Derived.Test.YtenjdgoammaiiaaGG
namespace Go.Proofs.Ytenjdgoammaiiaa
open Go.RowKit
set_option maxRecDepth 100000

theorem keyAt_turned {S : Nat → Prop} {w w' : World} {v : Value} {kz : List Int} (h : KeyAt w v kz) (ht : Turned S w w') (ho : Off S v) : KeyAt w' v kz := by
  cases h with
  | empty a c => exact .empty a c
  | row g off len c kz hl hr hg =>
    refine .row g off len c kz hl (fun j hj => ?_) (fun h0 => Nat.lt_of_lt_of_le (hg h0) ht.size)
    have h0 : 0 < len := by omega
    exact (World.cell?_of_block (w := w) (a := ⟨g, off + j, none⟩) (ht.block g (hg h0) (ho _ _ _ rfl h0))).trans (hr j hj)
theorem copy_run {w : World} {h A G C M : Nat} {v : Value} {len : Nat} {l : List Int} {Dm : DataW Unit} {key s n L q : Nat} {ks : List ByteArray} {zs vz : List Int} {a2 : Option Addr} {c2 : Nat} (H : Hm w h A G C M v len l Dm key s n L ks zs) (hd : Dim s n L)
    (ha : KeyAt w (.slice a2 s c2) vz) (hl : vz.length = s) (hq : q < n) (ty : TypeId) :
    (Builtin.copy_ #[32, 32] ty #[.slice (some ⟨G, q * s, none⟩) s s, .slice a2 s c2]).run Try.prog w = .ok (goInt s) (w.setCells G (q * s) (u8s vz)) := by
  have hs0 := hd.s0
  have hat := hd.at hq
  obtain ⟨g2, o2, rfl, hr⟩ : ∃ g2 o2, a2 = some ⟨g2, o2, none⟩ ∧ RowAt w g2 o2 s vz := by
    generalize hv : Value.slice a2 s c2 = x at ha
    cases ha with
    | empty a c => injection hv with _ h2 _; omega
    | row g off ln c kz h1 hr hg =>
      injection hv with h1 h2 _
      exact ⟨g, off, h1, by rw [h2]; exact hr⟩
  have hrun := run_copy_cells (P := Try.prog) w 32 32 ty 5 G (q * s) s s ⟨g2, o2, none⟩ s c2 (u8s vz) Try.underlying32 (by kernel_rfl) (by rw [u8s_length, hl]; simp)
    (fun j u hu => by rw [add_lit]; exact u8s_cells hl hr j u hu) (fun j hj => by
      rw [u8s_length, hl] at hj
      have := H.ar.row (q * s + j) (by omega)
      rw [Nat.zero_add] at this
      rw [this]; rfl) (fun j _ => H.ar.free _) u8s_one
  rw [u8s_length, hl] at hrun
  exact hrun
section
variable {h A G C M : Nat} {v : Value} {len : Nat} {l : List Int} {Dm : DataW Unit} {key s n L : Nat} {ks : List ByteArray} {zs : List Int}
set_option maxHeartbeats 2000000 in
theorem put_exist {w : World} {D : Nat → Prop} {a1 a2 : Option Addr} {c1 c2 : Nat} {kz vz : List Int} {fl : Int} {y : ByteArray} {i : Nat} (H : Hm w h A G C M v len l Dm key s n L ks zs) (hD : ∀ b, D b ↔ HmS h A G M v b) (hd : Dim s n L) (hm : key ≤ maxLen) (hkz : kz.length = key) (hvz : vz.length = s) (ha1 : KeyAt w (.slice a1 key c1) kz) (ha2 : KeyAt w (.slice a2 s c2) vz) (ho1 : Off D (.slice a1 key c1)) (ho2 : Off D (.slice a2 s c2))
    (hy : strOfNums kz = y) (hf2 : fl ≤ 2) (hs : slotOf ks y = some i) (hfl : fl = 1) :
    Calls Try.prog 36 #[.pointer (some ⟨h, 0, none⟩), .slice a1 key c1, .slice a2 s c2, .int .u64 fl] w (fun e w' => e = .returned (.tuple #[.int .i64 0, .int .i64 17]) ∧ Below w.heap.size w w') := by
  have c0 := H.h0
  have c1' := H.h1
  have c2' := H.h2
  have HS := Lib.hid H.ar.c0
  have h2d : decide (2 < fl) = false := by simpa using hf2
  have hcv : ∀ m, (convert 32 9 (.slice a1 key c1)).run Try.prog (w.drewN m) = .ok (.string (strOfNums kz)) (w.drewN m) := fun m => conv_key (key_drewN ha1 m)
  have hlk2 : ∀ m, (Instr.lookup 122 (.map (some M)) (.string (strOfNums kz)) true).run Try.prog (w.drewN m) = .ok (lookV (slotOf ks (strOfNums kz))) (w.drewN m) := fun m => look_run (w := w.drewN m) H.ow H.ag (by rw [strOfNums_size]; omega)
  rw [hy] at hcv hlk2
  have HH := Lib.hid H
  have HD := Lib.hid hD
  have HDM := Lib.hid hd
  have HK1 := Lib.hid ha1
  have HKV := Lib.hid ha2
  have HO1 := Lib.hid ho1
  have HOF := Lib.hid ho2
  have HVL := Lib.hid hvz
  have HKL := Lib.hid hkz
  have HY := Lib.hid hy
  subst hfl
  have HSL := Lib.hid hs
  rw [hs] at hlk2
  unfold lookV at hlk2
  simp only [Option.isSome_some] at hlk2
  clear hs
  clear H hD hd ha1 ha2 ho1 ho2 hvz hkz hy hf2
  go_enter Try.func36, Try.ntmps36
  go_wp2_with (go_at_call 61; refine (arr_size _ _ _ HS.out).mono ?_; rintro e w' ⟨rfl, rfl⟩)
  go_quiet (fail)
  go_wp2_with (go_at_call 63; refine (len_free _ _ _ _).mono ?_; rintro e w' ⟨rfl, rfl⟩)
  all_goals
    go_ret2
    exact ⟨rfl, bdrewN (Below.refl _ _) _⟩
set_option maxHeartbeats 2000000 in
theorem put_enoent {w : World} {D : Nat → Prop} {a1 a2 : Option Addr} {c1 c2 : Nat} {kz vz : List Int} {fl : Int} {y : ByteArray} (H : Hm w h A G C M v len l Dm key s n L ks zs) (hD : ∀ b, D b ↔ HmS h A G M v b) (hd : Dim s n L) (hm : key ≤ maxLen) (hkz : kz.length = key) (hvz : vz.length = s) (ha1 : KeyAt w (.slice a1 key c1) kz) (ha2 : KeyAt w (.slice a2 s c2) vz) (ho1 : Off D (.slice a1 key c1)) (ho2 : Off D (.slice a2 s c2))
    (hy : strOfNums kz = y) (hf2 : fl ≤ 2) (hs : slotOf ks y = none) (hfl : fl = 2) :
    Calls Try.prog 36 #[.pointer (some ⟨h, 0, none⟩), .slice a1 key c1, .slice a2 s c2, .int .u64 fl] w (fun e w' => e = .returned (.tuple #[.int .i64 0, .int .i64 2]) ∧ Below w.heap.size w w') := by
  have c0 := H.h0
  have c1' := H.h1
  have c2' := H.h2
  have HS := Lib.hid H.ar.c0
  have h2d : decide (2 < fl) = false := by simpa using hf2
  have hcv : ∀ m, (convert 32 9 (.slice a1 key c1)).run Try.prog (w.drewN m) = .ok (.string (strOfNums kz)) (w.drewN m) := fun m => conv_key (key_drewN ha1 m)
  have hlk2 : ∀ m, (Instr.lookup 122 (.map (some M)) (.string (strOfNums kz)) true).run Try.prog (w.drewN m) = .ok (lookV (slotOf ks (strOfNums kz))) (w.drewN m) := fun m => look_run (w := w.drewN m) H.ow H.ag (by rw [strOfNums_size]; omega)
  rw [hy] at hcv hlk2
  have HH := Lib.hid H
  have HD := Lib.hid hD
  have HDM := Lib.hid hd
  have HK1 := Lib.hid ha1
  have HKV := Lib.hid ha2
  have HO1 := Lib.hid ho1
  have HOF := Lib.hid ho2
  have HVL := Lib.hid hvz
  have HKL := Lib.hid hkz
  have HY := Lib.hid hy
  subst hfl
  have HSL := Lib.hid hs
  rw [hs] at hlk2
  unfold lookV at hlk2
  simp only [Option.isSome_none] at hlk2
  clear hs
  clear H hD hd ha1 ha2 ho1 ho2 hvz hkz hy hf2
  go_enter Try.func36, Try.ntmps36
  go_wp2_with (go_at_call 61; refine (arr_size _ _ _ HS.out).mono ?_; rintro e w' ⟨rfl, rfl⟩)
  go_quiet (fail)
  go_wp2_with (go_at_call 63; refine (len_free _ _ _ _).mono ?_; rintro e w' ⟨rfl, rfl⟩)
  all_goals
    go_ret2
    exact ⟨rfl, bdrewN (Below.refl _ _) _⟩
set_option maxHeartbeats 2000000 in
theorem put_full {w : World} {D : Nat → Prop} {a1 a2 : Option Addr} {c1 c2 : Nat} {kz vz : List Int} {fl : Int} {y : ByteArray} (H : Hm w h A G C M v len l Dm key s n L ks zs) (hD : ∀ b, D b ↔ HmS h A G M v b) (hd : Dim s n L) (hm : key ≤ maxLen) (hkz : kz.length = key) (hvz : vz.length = s) (ha1 : KeyAt w (.slice a1 key c1) kz) (ha2 : KeyAt w (.slice a2 s c2) vz) (ho1 : Off D (.slice a1 key c1)) (ho2 : Off D (.slice a2 s c2))
    (hy : strOfNums kz = y) (hf2 : fl ≤ 2) (hs : slotOf ks y = none) (hfl : ¬ fl = 2) (hl0 : len = 0) :
    Calls Try.prog 36 #[.pointer (some ⟨h, 0, none⟩), .slice a1 key c1, .slice a2 s c2, .int .u64 fl] w (fun e w' => e = .returned (.tuple #[.int .i64 0, .int .i64 28]) ∧ Below w.heap.size w w') := by
  have c0 := H.h0
  have c1' := H.h1
  have c2' := H.h2
  have HS := Lib.hid H.ar.c0
  have h2d : decide (2 < fl) = false := by simpa using hf2
  have hcv : ∀ m, (convert 32 9 (.slice a1 key c1)).run Try.prog (w.drewN m) = .ok (.string (strOfNums kz)) (w.drewN m) := fun m => conv_key (key_drewN ha1 m)
  have hlk2 : ∀ m, (Instr.lookup 122 (.map (some M)) (.string (strOfNums kz)) true).run Try.prog (w.drewN m) = .ok (lookV (slotOf ks (strOfNums kz))) (w.drewN m) := fun m => look_run (w := w.drewN m) H.ow H.ag (by rw [strOfNums_size]; omega)
  rw [hy] at hcv hlk2
  have HH := Lib.hid H
  have HD := Lib.hid hD
  have HDM := Lib.hid hd
  have HK1 := Lib.hid ha1
  have HKV := Lib.hid ha2
  have HO1 := Lib.hid ho1
  have HOF := Lib.hid ho2
  have HVL := Lib.hid hvz
  have HKL := Lib.hid hkz
  have HY := Lib.hid hy
  subst hl0
  obtain ⟨av, cv, hv⟩ := H.fr.shape
  have c3 := H.fr.c
  rw [hv] at c3
  have hfn : (fl == 2) = false := by simpa using hfl
  clear hv hfl
  have HSL := Lib.hid hs
  rw [hs] at hlk2
  unfold lookV at hlk2
  simp only [Option.isSome_none] at hlk2
  clear hs
  clear H hD hd ha1 ha2 ho1 ho2 hvz hkz hy hf2
  go_enter Try.func36, Try.ntmps36
  go_wp2_with (go_at_call 61; refine (arr_size _ _ _ HS.out).mono ?_; rintro e w' ⟨rfl, rfl⟩)
  go_quiet (fail)
  go_wp2_with (go_at_call 63; refine (len_free _ _ _ _).mono ?_; rintro e w' ⟨rfl, rfl⟩)
  all_goals
    go_ret2
    exact ⟨rfl, bdrewN (Below.refl _ _) _⟩
set_option maxHeartbeats 2000000 in
theorem put_over {w : World} {D : Nat → Prop} {a1 a2 : Option Addr} {c1 c2 : Nat} {kz vz : List Int} {fl : Int} {y : ByteArray} {i : Nat} (H : Hm w h A G C M v len l Dm key s n L ks zs) (hD : ∀ b, D b ↔ HmS h A G M v b) (hd : Dim s n L) (hm : key ≤ maxLen) (hkz : kz.length = key) (hvz : vz.length = s) (ha1 : KeyAt w (.slice a1 key c1) kz) (ha2 : KeyAt w (.slice a2 s c2) vz) (ho1 : Off D (.slice a1 key c1)) (ho2 : Off D (.slice a2 s c2))
    (hy : strOfNums kz = y) (hf2 : fl ≤ 2) (hs : slotOf ks y = some i) (hfl : ¬ fl = 1) :
    Calls Try.prog 36 #[.pointer (some ⟨h, 0, none⟩), .slice a1 key c1, .slice a2 s c2, .int .u64 fl] w (fun e w' => ∃ D', e = .returned (.tuple #[.int .i64 i, .int .i64 0]) ∧ PM key s n L w' D' h (ks.set i y) (putN zs (i * s) vz s) ∧ Turned D w w' ∧ ∀ b, D' b → D b ∨ w.heap.size ≤ b) := by
  have c0 := H.h0
  have c1' := H.h1
  have c2' := H.h2
  have HS := Lib.hid H.ar.c0
  have h2d : decide (2 < fl) = false := by simpa using hf2
  have hcv : ∀ m, (convert 32 9 (.slice a1 key c1)).run Try.prog (w.drewN m) = .ok (.string (strOfNums kz)) (w.drewN m) := fun m => conv_key (key_drewN ha1 m)
  have hlk2 : ∀ m, (Instr.lookup 122 (.map (some M)) (.string (strOfNums kz)) true).run Try.prog (w.drewN m) = .ok (lookV (slotOf ks (strOfNums kz))) (w.drewN m) := fun m => look_run (w := w.drewN m) H.ow H.ag (by rw [strOfNums_size]; omega)
  rw [hy] at hcv hlk2
  have HH := Lib.hid H
  have HD := Lib.hid hD
  have HDM := Lib.hid hd
  have HK1 := Lib.hid ha1
  have HKV := Lib.hid ha2
  have HO1 := Lib.hid ho1
  have HOF := Lib.hid ho2
  have HVL := Lib.hid hvz
  have HKL := Lib.hid hkz
  have HY := Lib.hid hy
  have hfn : (fl == 1) = false := by simpa using hfl
  clear hfl
  obtain ⟨hik, hiy, -⟩ := slotOf_some hs
  have hin : i < n := by rw [← H.kl]; exact hik
  have HI := Lib.hid hin
  have HIY := Lib.hid hiy
  clear hik hin hiy
  have HSL := Lib.hid hs
  rw [hs] at hlk2
  unfold lookV at hlk2
  simp only [Option.isSome_some] at hlk2
  clear hs
  clear H hD hd ha1 ha2 ho1 ho2 hvz hkz hy hf2
  go_enter Try.func36, Try.ntmps36
  go_wp2_with (go_at_call 61; refine (arr_size _ _ _ HS.out).mono ?_; rintro e w' ⟨rfl, rfl⟩)
  go_quiet (fail)
  obtain ⟨W, hW⟩ : ∃ W, w.drewN nq = W := ⟨_, rfl⟩
  have hbw : Below w.heap.size w W := by rw [← hW]; exact bdrewN (Below.refl _ _) _
  rw [hW]
  have HX := Lib.hid (HH.out.stay hbw)
  have HTX := Lib.hid (Turned.of (S := D) hbw)
  have d1 := HX.out.h1
  have d2 := HX.out.h2
  clear hbw hcv hlk2
  go_wp2_with (first
    | (go_at_call 62; refine (slotC_yes _ _ _ _ _ _ _ _ _ _ HDM.out HX.out.c0 HX.out.ar HI.out rfl).mono ?_; rintro e w5 ⟨rfl, hb5⟩; have HX5 := Lib.hid (HX.out.stay hb5); have HT5 := Lib.hid (HTX.out.trans (Turned.of (S := D) hb5)); have hcp := copy_run HX5.out HDM.out (keyAt_turned HKV.out HT5.out HOF.out) HVL.out HI.out 3; clear hb5))
  all_goals
    go_ret2
    refine ⟨D, rfl, ?_, turned_setCells G ((HD.out G).2 (.inr (.inr (.inl rfl)))) _ _ HT5.out, fun b hb => .inl hb⟩
    refine ⟨A, G, C, M, v, len, l, Dm, ?_, HD.out⟩
    have e1 : ks.set i y = ks := by
      have hik : i < ks.length := by rw [HH.out.kl]; exact HI.out
      have h1 := HIY.out
      rw [List.getD_eq_getElem?_getD, List.getElem?_eq_getElem hik] at h1
      simp only [Option.getD_some] at h1
      rw [← h1]
      exact List.set_getElem_self hik
    rw [e1, putN_setL zs (i * s) vz s (by rw [HVL.out]; exact Nat.le_refl _), List.take_of_length_le (by rw [HVL.out]; exact Nat.le_refl _)]
    exact HX5.out.puts HDM.out (by rw [HVL.out]; exact HDM.out.at HI.out)
set_option maxHeartbeats 2000000 in
theorem put_new {w : World} {D : Nat → Prop} {a1 a2 : Option Addr} {c1 c2 : Nat} {kz vz : List Int} {fl : Int} {y : ByteArray} {i m F cap : Nat} {b1 : Bool} (H : Hm w h A G C M v len l Dm key s n L ks zs) (hD : ∀ b, D b ↔ HmS h A G M v b) (hd : Dim s n L) (hm : key ≤ maxLen) (hkz : kz.length = key) (hvz : vz.length = s) (ha1 : KeyAt w (.slice a1 key c1) kz) (ha2 : KeyAt w (.slice a2 s c2) vz) (ho1 : Off D (.slice a1 key c1)) (ho2 : Off D (.slice a2 s c2))
    (hy : strOfNums kz = y) (hf2 : fl ≤ 2) (hs : slotOf ks y = none) (hne : y ≠ ⟨#[]⟩) (hfl : ¬ fl = 2) (hb1 : (fl == 1) = b1) (hv : v = .slice (some ⟨F, 0, none⟩) (m + 1) cap) (hlen : len = m + 1) (hat : at0 l 0 = (i : Int)) (hik : i < ks.length) (hi0 : ks.getD i .empty = ⟨#[]⟩) :
    Calls Try.prog 36 #[.pointer (some ⟨h, 0, none⟩), .slice a1 key c1, .slice a2 s c2, .int .u64 fl] w (fun e w' => ∃ D', e = .returned (.tuple #[.int .i64 i, .int .i64 0]) ∧ PM key s n L w' D' h (ks.set i y) (putN zs (i * s) vz s) ∧ Turned D w w' ∧ ∀ b, D' b → D b ∨ w.heap.size ≤ b) := by
  have c0 := H.h0
  have c1' := H.h1
  have c2' := H.h2
  have HS := Lib.hid H.ar.c0
  have h2d : decide (2 < fl) = false := by simpa using hf2
  have hcv : ∀ m, (convert 32 9 (.slice a1 key c1)).run Try.prog (w.drewN m) = .ok (.string (strOfNums kz)) (w.drewN m) := fun m => conv_key (key_drewN ha1 m)
  have hlk2 : ∀ m, (Instr.lookup 122 (.map (some M)) (.string (strOfNums kz)) true).run Try.prog (w.drewN m) = .ok (lookV (slotOf ks (strOfNums kz))) (w.drewN m) := fun m => look_run (w := w.drewN m) H.ow H.ag (by rw [strOfNums_size]; omega)
  rw [hy] at hcv hlk2
  have HH := Lib.hid H
  have HD := Lib.hid hD
  have HDM := Lib.hid hd
  have HK1 := Lib.hid ha1
  have HKV := Lib.hid ha2
  have HO1 := Lib.hid ho1
  have HOF := Lib.hid ho2
  have HVL := Lib.hid hvz
  have HKL := Lib.hid hkz
  have HY := Lib.hid hy
  subst hv hlen
  have hfn : (fl == 2) = false := by simpa using hfl
  have c3 := H.fr.c
  have HNE := Lib.hid hne
  have HAT := Lib.hid hat
  have HIK := Lib.hid hik
  have HI0 := Lib.hid hi0
  have HO1K := Lib.hid ho1
  have hta := assert_int (i : Int)
  clear hfl hne hat hik hi0
  have HSL := Lib.hid hs
  rw [hs] at hlk2
  unfold lookV at hlk2
  simp only [Option.isSome_none] at hlk2
  clear hs
  clear H hD hd ha1 ha2 ho1 ho2 hvz hkz hy hf2
  cases b1
  all_goals
    go_enter Try.func36, Try.ntmps36
    go_wp2_with (go_at_call 61; refine (arr_size _ _ _ HS.out).mono ?_; rintro e w' ⟨rfl, rfl⟩)
    go_quiet (fail)
    obtain ⟨W, hW⟩ : ∃ W, w.drewN nq = W := ⟨_, rfl⟩
    have hbw : Below w.heap.size w W := by rw [← hW]; exact bdrewN (Below.refl _ _) _
    rw [hW]
    have HX := Lib.hid (HH.out.stay hbw)
    have HTX := Lib.hid (Turned.of (S := D) hbw)
    have d1 := HX.out.h1
    have d2 := HX.out.h2
    have d3 := HX.out.fr.c
    have hffW := HX.out.ff
    have hhW := HX.out.hp
    have h16 := HX.out.size HDM.out
    obtain ⟨F1, cap1, hve, hLW⟩ := HX.out.fr.list (by omega)
    injection hve with hve1 hve2 hve3
    injection hve1 with hve1
    injection hve1 with hve1
    subst hve1 hve3
    have HLW := Lib.hid hLW
    clear hbw hcv hlk2 hLW hve2
    go_upto_region 12 with (first
      | (go_at_call 63; refine (len_free _ _ _ _).mono ?_; rintro e w' ⟨rfl, rfl⟩)
      | (go_at_call 64; refine (heap_pop _ m _ _ _ _ HLW.out hffW (by omega) hhW).mono ?_; rintro e w1 ⟨he, W1, l2, ho1, hw1, hL1, hh1, hp1⟩; rw [HAT.out] at he; subst he; have HO1 := Lib.hid ho1; have HW1 := Lib.hid hw1; have HL1 := Lib.hid hL1; have HH1 := Lib.hid hh1; have HP1 := Lib.hid hp1; clear ho1 hw1 hL1 hh1 hp1))
    have hFh : F ≠ h := fun e => HLW.out.ne e.symm
    have hTF : Turned D W w1 := by
      rw [HW1.out]
      refine ⟨HO1.out.os, HO1.out.tape, HO1.out.output, by simp [World.setCell, HO1.out.size], fun k hk hnd => ?_⟩
      rw [Below.heap_setCell _ _ _ _ (show k ≠ (⟨h, 3, none⟩ : Addr).block from fun e => hnd ((HD.out k).2 (.inl e)))]
      exact HO1.out.block k (fun e => hnd ((HD.out k).2 (.inr (.inr (.inr (.inr (by rw [e]; rfl)))))))
    have hT1 : Turned D w w1.drew := (HTX.out.trans hTF).drew
    have hcv1 := conv_key (keyAt_turned HK1.out hT1 HO1K.out)
    rw [HY.out] at hcv1
    have hhW1 : w1.heap[h]? = W1.heap[h]? ∨ True := .inr trivial
    have k2 : w1.cell? ⟨h, 2, none⟩ = some (.map (some M)) := by
      rw [HW1.out, World.cell?_setCell_other _ _ _ _ (by intro e; injection e with _ e _; cases e)]
      exact (HO1.out.cell (p := ⟨h, 2, none⟩) (fun e => hFh e.symm)).trans d2
    have hMk : w1.heap[M]? = W.heap[M]? := by
      rw [HW1.out, Below.heap_setCell _ _ _ _ (show M ≠ (⟨h, 3, none⟩ : Addr).block from fun e => HX.out.hM e.symm)]
      exact HO1.out.block M (fun e => HX.out.vM (by rw [e]; rfl))
    have how : w1.drew.ownsMap Try.prog 9 (plainElem Try.prog 3) M 16 Dm := ownsMap_kept (w := W) (w' := w1.drew) HX.out.ow hMk
    have hin : i < n := by rw [← HX.out.kl]; exact HIK.out
    have hn1 := HDM.out.n1
    obtain ⟨w2, hst, ho2, ht2⟩ := how.store (val := .int .i64 (i : Int)) keyed9 Try.underlying122 (by unfold maxLen; omega) (key9 (y := y) (by rw [← HY.out, strOfNums_size, HKL.out]; exact hm)) (plainElem_int Try.underlying3 (q := .i64) (a := (i : Int)) (by simp [Lit.wf, IntKind.min, IntKind.max, IntKind.bits, IntKind.signed]; omega))
    obtain ⟨e2, hz2⟩ := turned_other ht2
    have hg2 := ht2.grown
    have hHm : Hm w2 h A G C M (.slice (some ⟨F, 0, none⟩) m cap) m l2 (Dm.put (keyL y) (.lit (.int .i64 i))) key s n L (ks.set i y) zs :=
      HX.out.added HDM.out HSL.out HNE.out (by rw [← HY.out, strOfNums_size, HKL.out]) HIK.out HI0.out HAT.out HO1.out HW1.out HL1.out HH1.out HP1.out e2 ho2
    have hT2 : Turned D w w2 := hT1.trans ⟨hg2.os, hg2.tape, hg2.output, by rw [hz2]; exact Nat.le_refl _, fun k hk hnd => e2 k (fun e => hnd ((HD.out k).2 (.inr (.inr (.inr (.inl e))))))⟩
    have HXX := Lib.hid hHm
    have HTXX := Lib.hid hT2
    have HI := Lib.hid hin
    have d12 := HXX.out.h1
    clear hTF hT1 hMk how hin ho2 ht2 e2 hz2 hg2 hHm hT2 d1 d3 hffW hhW hhW1
    go_region
    go_wp2_with (first
      | (go_at_call 62; refine (slotC_yes _ _ _ _ _ _ _ _ _ _ HDM.out HXX.out.c0 HXX.out.ar HI.out rfl).mono ?_; rintro e w5 ⟨rfl, hb5⟩; have HX5 := Lib.hid (HXX.out.stay hb5); have HT5 := Lib.hid (HTXX.out.trans (Turned.of (S := D) hb5)); have hcp := copy_run HX5.out HDM.out (keyAt_turned HKV.out HT5.out HOF.out) HVL.out HI.out 3; clear hb5))
    go_ret2
    refine ⟨D, rfl, ?_, turned_setCells G ((HD.out G).2 (.inr (.inr (.inl rfl)))) _ _ HT5.out, fun b hb => .inl hb⟩
    refine ⟨A, G, C, M, .slice (some ⟨F, 0, none⟩) m cap, m, l2, Dm.put (keyL y) (.lit (.int .i64 i)), ?_, fun b => HD.out b⟩
    rw [putN_setL zs (i * s) vz s (by rw [HVL.out]; exact Nat.le_refl _), List.take_of_length_le (by rw [HVL.out]; exact Nat.le_refl _)]
    exact HX5.out.puts HDM.out (by rw [HVL.out]; exact HDM.out.at HI.out)
end
end Go.Proofs.Ytenjdgoammaiiaa
