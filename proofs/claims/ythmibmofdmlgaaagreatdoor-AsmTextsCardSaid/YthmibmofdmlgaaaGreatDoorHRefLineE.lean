import Derived.Test.YthmibmofdmlgaaaGreatDoorG09
/-
  Proved here: Line of the document's answers at what stands alone. Conditions: the fields fit.
-/
namespace Go.Proofs.YthmibmofdmlgaaaGreatDoor
open Go.RowKit
set_option linter.unusedVariables false

set_option maxRecDepth 100000 in
set_option maxHeartbeats 1500000 in
theorem rl_ja (o d s f m o' d' s' f' m' : Int) (has : Bool) (w : World) (hx : (⟨o, d, s, f, m⟩ : Ins).Fit) (ho : o = 5) (hf : 0 ≤ f) :
    Calls Tryz.prog 13 #[insV o d s f m, insV o' d' s' f' m', .bool has] w (Txt (106 :: 97 :: 32 :: 43 :: Lib.itoa f) w) := by
  have h0 := hx.op.1
  have h1 := hx.op.2
  have d0 := hx.dst.1
  have d1 := hx.dst.2
  have s0 := hx.src.1
  have s1 := hx.src.2
  have f0 := hx.off.1
  have f1 := hx.off.2
  have m0 := hx.imm.1
  have m1 := hx.imm.2
  dsimp only at h0 h1 d0 d1 s0 s1 f0 f1 m0 m1
  have z9 : 0 ≤ szR o ∧ szR o ≤ 8 := szR_bd o
  have wf : IntKind.i64.wrap f = f := IntWalk.i64_in _ (by omega)
  have wm : IntKind.i64.wrap m = m := IntWalk.i64_in _ (by omega)
  have b24 : (o == 24) = false := by simp; omega
  have b5 : (o == 5) = true := by simp; omega
  have b133 : (o == 133) = false := by simp; omega
  have b149 : (o == 149) = false := by simp; omega
  have c84 : (o % 8 == 4) = false := by simp; omega
  have c86 : (o % 8 == 6) = false := by simp; omega
  have hSZ := fun W => digits_text (szR o) W (by omega) (by omega)
  have hF := fun W => digits_text f W (by omega) (by omega)
  unfold Txt at hSZ hF
  obtain ⟨NN, eNN⟩ : ∃ x, Lib.itoa (szR o) = x := ⟨_, rfl⟩
  have lNN := itoa_len (szR o) (by omega) (by omega)
  rw [eNN] at hSZ lNN
  obtain ⟨F, eF⟩ : ∃ x, Lib.itoa f = x := ⟨_, rfl⟩
  have lF := itoa_len f (by omega) (by omega)
  rw [eF] at lF hF
  have z00 : ({ data := #[106, 97, 32, 43] } : ByteArray) = S [106, 97, 32, 43] := rfl
  obtain ⟨t1, e1⟩ : ∃ t : List UInt8, [106, 97, 32, 43] ++ F = t := ⟨_, rfl⟩
  obtain ⟨k1, q1⟩ := cat_mk3 (a := [106, 97, 32, 43]) (b := F) e1 (by simp) (by omega)
  have l1 : t1.length ≤ 120 := by rw [← e1]; simp; omega
  obtain ⟨T, hT⟩ : ∃ T : List UInt8, 106 :: 97 :: 32 :: 43 :: Lib.itoa f = T := ⟨_, rfl⟩
  rw [hT]
  have hfin := Lib.hid (show T = t1 by rw [← hT]; rw [eF]; rw [← e1]; simp)
  clear hT e1 l1 lF lNN eF eNN
  have HX := Lib.hid hx
  clear hx
  clear ho
  unfold insV
  go_enter Tryz.func13, Tryz.ntmps13
  go_wp2_with (first
    | (go_at_call 25; refine (size_ref3 _ _).mono ?_; rintro e w' ⟨rfl, rfl⟩)
    | (go_at_call 26; refine (hSZ _).mono ?_; rintro e w1 ⟨rfl, hb1⟩; have hL : RefBox w w1 o d s f m o' d' s' f' m' := refBox_new hb1; obtain ⟨x0, x1, x2, x3, x4⟩ := hL.x; have HL := Lib.hid hL; clear hb1 hL hSZ)
    | (go_at_call 26; refine (hF _).mono ?_; rintro e w4 ⟨rfl, hb4⟩; have HL2 := Lib.hid (HL.out.on hb4); clear hb4)
    | (go_at_call 24; refine (cond_ref _ _ h0 h1).mono ?_; rintro e w' ⟨rfl, rfl⟩))
  go_ret
  rw [hfin.out]
  exact ⟨rfl, HL2.out.below⟩
set_option maxRecDepth 100000 in
set_option maxHeartbeats 1500000 in
theorem rl_jaN (o d s f m o' d' s' f' m' : Int) (has : Bool) (w : World) (hx : (⟨o, d, s, f, m⟩ : Ins).Fit) (ho : o = 5) (hf : f < 0) :
    Calls Tryz.prog 13 #[insV o d s f m, insV o' d' s' f' m', .bool has] w (Txt ([]) w) := by
  have h0 := hx.op.1
  have h1 := hx.op.2
  have d0 := hx.dst.1
  have d1 := hx.dst.2
  have s0 := hx.src.1
  have s1 := hx.src.2
  have f0 := hx.off.1
  have f1 := hx.off.2
  have m0 := hx.imm.1
  have m1 := hx.imm.2
  dsimp only at h0 h1 d0 d1 s0 s1 f0 f1 m0 m1
  have z9 : 0 ≤ szR o ∧ szR o ≤ 8 := szR_bd o
  have wf : IntKind.i64.wrap f = f := IntWalk.i64_in _ (by omega)
  have wm : IntKind.i64.wrap m = m := IntWalk.i64_in _ (by omega)
  have b24 : (o == 24) = false := by simp; omega
  have b5 : (o == 5) = true := by simp; omega
  have b133 : (o == 133) = false := by simp; omega
  have b149 : (o == 149) = false := by simp; omega
  have c84 : (o % 8 == 4) = false := by simp; omega
  have c86 : (o % 8 == 6) = false := by simp; omega
  have hSZ := fun W => digits_text (szR o) W (by omega) (by omega)
  unfold Txt at hSZ 
  obtain ⟨NN, eNN⟩ : ∃ x, Lib.itoa (szR o) = x := ⟨_, rfl⟩
  have lNN := itoa_len (szR o) (by omega) (by omega)
  rw [eNN] at hSZ lNN
  have z00 : ({ data := #[] } : ByteArray) = S [] := rfl
  obtain ⟨T, hT⟩ : ∃ T : List UInt8, [] = T := ⟨_, rfl⟩
  rw [hT]
  have hfin := Lib.hid (show T = [] by exact hT.symm)
  clear hT lNN eNN
  have HX := Lib.hid hx
  clear hx
  clear ho
  unfold insV
  go_enter Tryz.func13, Tryz.ntmps13
  go_wp2_with (first
    | (go_at_call 25; refine (size_ref3 _ _).mono ?_; rintro e w' ⟨rfl, rfl⟩)
    | (go_at_call 26; refine (hSZ _).mono ?_; rintro e w1 ⟨rfl, hb1⟩; have hL : RefBox w w1 o d s f m o' d' s' f' m' := refBox_new hb1; obtain ⟨x0, x1, x2, x3, x4⟩ := hL.x; have HL := Lib.hid hL; clear hb1 hL hSZ)
    | (go_at_call 24; refine (cond_ref _ _ h0 h1).mono ?_; rintro e w' ⟨rfl, rfl⟩))
  go_ret
  rw [hfin.out]
  exact ⟨rfl, HL.out.below⟩
set_option maxRecDepth 100000 in
set_option maxHeartbeats 1500000 in
theorem rl_call (o d s f m o' d' s' f' m' : Int) (has : Bool) (w : World) (hx : (⟨o, d, s, f, m⟩ : Ins).Fit) (ho : o = 133) (hm : 0 ≤ m) :
    Calls Tryz.prog 13 #[insV o d s f m, insV o' d' s' f' m', .bool has] w (Txt (99 :: 97 :: 108 :: 108 :: 32 :: Lib.itoa m) w) := by
  have h0 := hx.op.1
  have h1 := hx.op.2
  have d0 := hx.dst.1
  have d1 := hx.dst.2
  have s0 := hx.src.1
  have s1 := hx.src.2
  have f0 := hx.off.1
  have f1 := hx.off.2
  have m0 := hx.imm.1
  have m1 := hx.imm.2
  dsimp only at h0 h1 d0 d1 s0 s1 f0 f1 m0 m1
  have z9 : 0 ≤ szR o ∧ szR o ≤ 8 := szR_bd o
  have wf : IntKind.i64.wrap f = f := IntWalk.i64_in _ (by omega)
  have wm : IntKind.i64.wrap m = m := IntWalk.i64_in _ (by omega)
  have b24 : (o == 24) = false := by simp; omega
  have b5 : (o == 5) = false := by simp; omega
  have b133 : (o == 133) = true := by simp; omega
  have b149 : (o == 149) = false := by simp; omega
  have c84 : (o % 8 == 4) = false := by simp; omega
  have c86 : (o % 8 == 6) = false := by simp; omega
  have hSZ := fun W => digits_text (szR o) W (by omega) (by omega)
  have hM := fun W => digits_text m W (by omega) (by omega)
  unfold Txt at hSZ hM
  obtain ⟨NN, eNN⟩ : ∃ x, Lib.itoa (szR o) = x := ⟨_, rfl⟩
  have lNN := itoa_len (szR o) (by omega) (by omega)
  rw [eNN] at hSZ lNN
  obtain ⟨M, eM⟩ : ∃ x, Lib.itoa m = x := ⟨_, rfl⟩
  have lM := itoa_len m (by omega) (by omega)
  rw [eM] at lM hM
  have z00 : ({ data := #[99, 97, 108, 108, 32] } : ByteArray) = S [99, 97, 108, 108, 32] := rfl
  obtain ⟨t1, e1⟩ : ∃ t : List UInt8, [99, 97, 108, 108, 32] ++ M = t := ⟨_, rfl⟩
  obtain ⟨k1, q1⟩ := cat_mk3 (a := [99, 97, 108, 108, 32]) (b := M) e1 (by simp) (by omega)
  have l1 : t1.length ≤ 120 := by rw [← e1]; simp; omega
  obtain ⟨T, hT⟩ : ∃ T : List UInt8, 99 :: 97 :: 108 :: 108 :: 32 :: Lib.itoa m = T := ⟨_, rfl⟩
  rw [hT]
  have hfin := Lib.hid (show T = t1 by rw [← hT]; rw [eM]; rw [← e1]; simp)
  clear hT e1 l1 lM lNN eM eNN
  have HX := Lib.hid hx
  clear hx
  clear ho
  unfold insV
  go_enter Tryz.func13, Tryz.ntmps13
  go_wp2_with (first
    | (go_at_call 25; refine (size_ref3 _ _).mono ?_; rintro e w' ⟨rfl, rfl⟩)
    | (go_at_call 26; refine (hSZ _).mono ?_; rintro e w1 ⟨rfl, hb1⟩; have hL : RefBox w w1 o d s f m o' d' s' f' m' := refBox_new hb1; obtain ⟨x0, x1, x2, x3, x4⟩ := hL.x; have HL := Lib.hid hL; clear hb1 hL hSZ)
    | (go_at_call 26; refine (hM _).mono ?_; rintro e w4 ⟨rfl, hb4⟩; have HL2 := Lib.hid (HL.out.on hb4); clear hb4)
    | (go_at_call 24; refine (cond_ref _ _ h0 h1).mono ?_; rintro e w' ⟨rfl, rfl⟩))
  go_ret
  rw [hfin.out]
  exact ⟨rfl, HL2.out.below⟩
set_option maxRecDepth 100000 in
set_option maxHeartbeats 1500000 in
theorem rl_callN (o d s f m o' d' s' f' m' : Int) (has : Bool) (w : World) (hx : (⟨o, d, s, f, m⟩ : Ins).Fit) (ho : o = 133) (hm : m < 0) :
    Calls Tryz.prog 13 #[insV o d s f m, insV o' d' s' f' m', .bool has] w (Txt ([]) w) := by
  have h0 := hx.op.1
  have h1 := hx.op.2
  have d0 := hx.dst.1
  have d1 := hx.dst.2
  have s0 := hx.src.1
  have s1 := hx.src.2
  have f0 := hx.off.1
  have f1 := hx.off.2
  have m0 := hx.imm.1
  have m1 := hx.imm.2
  dsimp only at h0 h1 d0 d1 s0 s1 f0 f1 m0 m1
  have z9 : 0 ≤ szR o ∧ szR o ≤ 8 := szR_bd o
  have wf : IntKind.i64.wrap f = f := IntWalk.i64_in _ (by omega)
  have wm : IntKind.i64.wrap m = m := IntWalk.i64_in _ (by omega)
  have b24 : (o == 24) = false := by simp; omega
  have b5 : (o == 5) = false := by simp; omega
  have b133 : (o == 133) = true := by simp; omega
  have b149 : (o == 149) = false := by simp; omega
  have c84 : (o % 8 == 4) = false := by simp; omega
  have c86 : (o % 8 == 6) = false := by simp; omega
  have hSZ := fun W => digits_text (szR o) W (by omega) (by omega)
  unfold Txt at hSZ 
  obtain ⟨NN, eNN⟩ : ∃ x, Lib.itoa (szR o) = x := ⟨_, rfl⟩
  have lNN := itoa_len (szR o) (by omega) (by omega)
  rw [eNN] at hSZ lNN
  have z00 : ({ data := #[] } : ByteArray) = S [] := rfl
  obtain ⟨T, hT⟩ : ∃ T : List UInt8, [] = T := ⟨_, rfl⟩
  rw [hT]
  have hfin := Lib.hid (show T = [] by exact hT.symm)
  clear hT lNN eNN
  have HX := Lib.hid hx
  clear hx
  clear ho
  unfold insV
  go_enter Tryz.func13, Tryz.ntmps13
  go_wp2_with (first
    | (go_at_call 25; refine (size_ref3 _ _).mono ?_; rintro e w' ⟨rfl, rfl⟩)
    | (go_at_call 26; refine (hSZ _).mono ?_; rintro e w1 ⟨rfl, hb1⟩; have hL : RefBox w w1 o d s f m o' d' s' f' m' := refBox_new hb1; obtain ⟨x0, x1, x2, x3, x4⟩ := hL.x; have HL := Lib.hid hL; clear hb1 hL hSZ)
    | (go_at_call 24; refine (cond_ref _ _ h0 h1).mono ?_; rintro e w' ⟨rfl, rfl⟩))
  go_ret
  rw [hfin.out]
  exact ⟨rfl, HL.out.below⟩
set_option maxRecDepth 100000 in
set_option maxHeartbeats 1500000 in
theorem rl_exit (o d s f m o' d' s' f' m' : Int) (has : Bool) (w : World) (hx : (⟨o, d, s, f, m⟩ : Ins).Fit) (ho : o = 149) :
    Calls Tryz.prog 13 #[insV o d s f m, insV o' d' s' f' m', .bool has] w (Txt ([101, 120, 105, 116]) w) := by
  have h0 := hx.op.1
  have h1 := hx.op.2
  have d0 := hx.dst.1
  have d1 := hx.dst.2
  have s0 := hx.src.1
  have s1 := hx.src.2
  have f0 := hx.off.1
  have f1 := hx.off.2
  have m0 := hx.imm.1
  have m1 := hx.imm.2
  dsimp only at h0 h1 d0 d1 s0 s1 f0 f1 m0 m1
  have z9 : 0 ≤ szR o ∧ szR o ≤ 8 := szR_bd o
  have wf : IntKind.i64.wrap f = f := IntWalk.i64_in _ (by omega)
  have wm : IntKind.i64.wrap m = m := IntWalk.i64_in _ (by omega)
  have b24 : (o == 24) = false := by simp; omega
  have b5 : (o == 5) = false := by simp; omega
  have b133 : (o == 133) = false := by simp; omega
  have b149 : (o == 149) = true := by simp; omega
  have c84 : (o % 8 == 4) = false := by simp; omega
  have c86 : (o % 8 == 6) = false := by simp; omega
  have hSZ := fun W => digits_text (szR o) W (by omega) (by omega)
  unfold Txt at hSZ 
  obtain ⟨NN, eNN⟩ : ∃ x, Lib.itoa (szR o) = x := ⟨_, rfl⟩
  have lNN := itoa_len (szR o) (by omega) (by omega)
  rw [eNN] at hSZ lNN
  have z00 : ({ data := #[101, 120, 105, 116] } : ByteArray) = S [101, 120, 105, 116] := rfl
  obtain ⟨T, hT⟩ : ∃ T : List UInt8, [101, 120, 105, 116] = T := ⟨_, rfl⟩
  rw [hT]
  have hfin := Lib.hid (show T = [101, 120, 105, 116] by exact hT.symm)
  clear hT lNN eNN
  have HX := Lib.hid hx
  clear hx
  clear ho
  unfold insV
  go_enter Tryz.func13, Tryz.ntmps13
  go_wp2_with (first
    | (go_at_call 25; refine (size_ref3 _ _).mono ?_; rintro e w' ⟨rfl, rfl⟩)
    | (go_at_call 26; refine (hSZ _).mono ?_; rintro e w1 ⟨rfl, hb1⟩; have hL : RefBox w w1 o d s f m o' d' s' f' m' := refBox_new hb1; obtain ⟨x0, x1, x2, x3, x4⟩ := hL.x; have HL := Lib.hid hL; clear hb1 hL hSZ)
    | (go_at_call 24; refine (cond_ref _ _ h0 h1).mono ?_; rintro e w' ⟨rfl, rfl⟩))
  go_ret
  rw [hfin.out]
  exact ⟨rfl, HL.out.below⟩
end Go.Proofs.YthmibmofdmlgaaaGreatDoor
