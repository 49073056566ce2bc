import Derived.Test.YthmibmofdmlgaaaGreatDoorG09
/-
  Proved here: Line of the document's answers at a load, or a store. Conditions: the fields fit.
-/
namespace Go.Proofs.YthmibmofdmlgaaaGreatDoor
open Go.RowKit
set_option linter.unusedVariables false

set_option maxRecDepth 100000 in
set_option maxHeartbeats 1500000 in
theorem rl_ld (o d s f m o' d' s' f' m' : Int) (has : Bool) (w : World) (hx : (⟨o, d, s, f, m⟩ : Ins).Fit) (hc : condB o = false) (hz : szR o ≠ 0) (h8 : o % 8 = 1) :
    Calls Tryz.prog 13 #[insV o d s f m, insV o' d' s' f' m', .bool has] w (Txt (108 :: 100 :: (Lib.itoa (szR o) ++ 32 :: (regT d ++ 44 :: 32 :: placeT s f))) w) := by
  have h0 := hx.op.1
  have h1 := hx.op.2
  have d0 := hx.dst.1
  have d1 := hx.dst.2
  have s0 := hx.src.1
  have s1 := hx.src.2
  have f0 := hx.off.1
  have f1 := hx.off.2
  have m0 := hx.imm.1
  have m1 := hx.imm.2
  dsimp only at h0 h1 d0 d1 s0 s1 f0 f1 m0 m1
  have z9 : 0 ≤ szR o ∧ szR o ≤ 8 := szR_bd o
  have wf : IntKind.i64.wrap f = f := IntWalk.i64_in _ (by omega)
  have wm : IntKind.i64.wrap m = m := IntWalk.i64_in _ (by omega)
  have hz2 : o = 97 + (1 - 1) ∨ o = 105 + (1 - 1) ∨ o = 113 + (1 - 1) ∨ o = 121 + (1 - 1) := by unfold szR at hz; repeat' split at hz <;> omega
  have b24 : (o == 24) = false := by simp; omega
  have b5 : (o == 5) = false := by simp; omega
  have b133 : (o == 133) = false := by simp; omega
  have b149 : (o == 149) = false := by simp; omega
  have c84 : (o % 8 == 4) = false := by simp; omega
  have c86 : (o % 8 == 6) = false := by simp; omega
  have c81 : (o % 8 == 1) = true := by simp; omega
  have hSZ := fun W => digits_text (szR o) W (by omega) (by omega)
  have hR := fun W => reg_ref d W d0 d1
  have hPS := fun W => place_ref s f W s0 s1 f0 f1
  unfold Txt at hSZ hR hPS
  obtain ⟨NN, eNN⟩ : ∃ x, Lib.itoa (szR o) = x := ⟨_, rfl⟩
  have lNN := itoa_len (szR o) (by omega) (by omega)
  rw [eNN] at hSZ lNN
  obtain ⟨R, eR⟩ : ∃ x, regT d = x := ⟨_, rfl⟩
  have lR := regT_len d d0 d1
  rw [eR] at lR hR
  obtain ⟨PS, ePS⟩ : ∃ x, placeT s f = x := ⟨_, rfl⟩
  have lPS := placeT_len s f s0 s1 f0 f1
  rw [ePS] at lPS hPS
  have z00 : ({ data := #[108, 100] } : ByteArray) = S [108, 100] := rfl
  have z10 : ({ data := #[32] } : ByteArray) = S [32] := rfl
  have z20 : ({ data := #[44, 32] } : ByteArray) = S [44, 32] := rfl
  obtain ⟨t1, e1⟩ : ∃ t, [108, 100] ++ NN = t := ⟨_, rfl⟩
  obtain ⟨k1, q1⟩ := cat_mk3 (a := [108, 100]) (b := NN) e1 (by simp) (by omega)
  have l1 : t1.length ≤ 120 := by rw [← e1]; simp; omega
  obtain ⟨t2, e2⟩ : ∃ t, t1 ++ [32] = t := ⟨_, rfl⟩
  obtain ⟨k2, q2⟩ := cat_mk3 (a := t1) (b := [32]) e2 (by omega) (by simp)
  have l2 : t2.length ≤ 180 := by rw [← e2]; simp; omega
  obtain ⟨t3, e3⟩ : ∃ t, t2 ++ R = t := ⟨_, rfl⟩
  obtain ⟨k3, q3⟩ := cat_mk3 (a := t2) (b := R) e3 (by omega) (by omega)
  have l3 : t3.length ≤ 240 := by rw [← e3]; simp; omega
  obtain ⟨t4, e4⟩ : ∃ t, t3 ++ [44, 32] = t := ⟨_, rfl⟩
  obtain ⟨k4, q4⟩ := cat_mk3 (a := t3) (b := [44, 32]) e4 (by omega) (by simp)
  have l4 : t4.length ≤ 300 := by rw [← e4]; simp; omega
  obtain ⟨t5, e5⟩ : ∃ t, t4 ++ PS = t := ⟨_, rfl⟩
  obtain ⟨k5, q5⟩ := cat_mk3 (a := t4) (b := PS) e5 (by omega) (by omega)
  have l5 : t5.length ≤ 360 := by rw [← e5]; simp; omega
  obtain ⟨T, hT⟩ : ∃ T : List UInt8, 108 :: 100 :: (Lib.itoa (szR o) ++ 32 :: (regT d ++ 44 :: 32 :: placeT s f)) = T := ⟨_, rfl⟩
  rw [hT]
  have hfin := Lib.hid (show T = t5 by rw [← hT]; rw [eNN, eR, ePS]; rw [← e5, ← e4, ← e3, ← e2, ← e1]; simp)
  clear hT e1 e2 e3 e4 e5 l1 l2 l3 l4 l5 lNN lR lPS eR ePS eNN
  have HX := Lib.hid hx
  clear hx
  unfold insV
  go_enter Tryz.func13, Tryz.ntmps13
  go_wp2_with (first
    | (go_at_call 25; refine (size_ref3 _ _).mono ?_; rintro e w' ⟨rfl, rfl⟩)
    | (go_at_call 26; refine (hSZ _).mono ?_; rintro e w1 ⟨rfl, hb1⟩; have hL : RefBox w w1 o d s f m o' d' s' f' m' := refBox_new hb1; obtain ⟨x0, x1, x2, x3, x4⟩ := hL.x; have HL := Lib.hid hL; clear hb1 hL hSZ)
    | (go_at_call 24; refine (cond_ref _ _ h0 h1).mono ?_; rintro e w' ⟨rfl, rfl⟩))
  have hL := HL.out.drew
  have hS1 := hL.plain
  clear x0 x1 x2 x3 x4
  go_region_held (fun W => W.cell? ⟨w.heap.size, 0, none⟩ = some (.int .u8 o) ∧ W.cell? ⟨w.heap.size, 1, none⟩ = some (.int .u8 d) ∧ W.cell? ⟨w.heap.size, 2, none⟩ = some (.int .u8 s) ∧ W.cell? ⟨w.heap.size, 3, none⟩ = some (.int .i16 f) ∧ W.cell? ⟨w.heap.size, 4, none⟩ = some (.int .i32 m) ∧ RefBox w W o d s f m o' d' s' f' m')
    (first | exact hS1 | exact hS2 | exact hS3 | exact hS4 | assumption)
    (first
      | (go_at_call 28; refine (hR _).mono ?_; rintro e w2 ⟨rfl, hb2⟩; have hS2 := (RefBox.on (refBox_of (by assumption)) hb2).plain; clear hb2)
      | (go_at_call 30; refine (hPS _).mono ?_; rintro e w3 ⟨rfl, hb3⟩; have hS3 := (RefBox.on (refBox_of (by assumption)) hb3).plain; clear hb3))
  all_goals
    go_wp2
    go_ret
    rw [hfin.out]
    exact ⟨rfl, RefBox.below (by first | exact refBox_of (by assumption) | exact HL.out)⟩
set_option maxRecDepth 100000 in
set_option maxHeartbeats 1500000 in
theorem rl_sti (o d s f m o' d' s' f' m' : Int) (has : Bool) (w : World) (hx : (⟨o, d, s, f, m⟩ : Ins).Fit) (hc : condB o = false) (hz : szR o ≠ 0) (h8 : o % 8 = 2) :
    Calls Tryz.prog 13 #[insV o d s f m, insV o' d' s' f' m', .bool has] w (Txt (115 :: 116 :: (Lib.itoa (szR o) ++ 32 :: (placeT d f ++ 44 :: 32 :: Lib.itoa m))) w) := by
  have h0 := hx.op.1
  have h1 := hx.op.2
  have d0 := hx.dst.1
  have d1 := hx.dst.2
  have s0 := hx.src.1
  have s1 := hx.src.2
  have f0 := hx.off.1
  have f1 := hx.off.2
  have m0 := hx.imm.1
  have m1 := hx.imm.2
  dsimp only at h0 h1 d0 d1 s0 s1 f0 f1 m0 m1
  have z9 : 0 ≤ szR o ∧ szR o ≤ 8 := szR_bd o
  have wf : IntKind.i64.wrap f = f := IntWalk.i64_in _ (by omega)
  have wm : IntKind.i64.wrap m = m := IntWalk.i64_in _ (by omega)
  have hz2 : o = 97 + (2 - 1) ∨ o = 105 + (2 - 1) ∨ o = 113 + (2 - 1) ∨ o = 121 + (2 - 1) := by unfold szR at hz; repeat' split at hz <;> omega
  have b24 : (o == 24) = false := by simp; omega
  have b5 : (o == 5) = false := by simp; omega
  have b133 : (o == 133) = false := by simp; omega
  have b149 : (o == 149) = false := by simp; omega
  have c84 : (o % 8 == 4) = false := by simp; omega
  have c86 : (o % 8 == 6) = false := by simp; omega
  have c81 : (o % 8 == 1) = false := by simp; omega
  have c82 : (o % 8 == 2) = true := by simp; omega
  have hSZ := fun W => digits_text (szR o) W (by omega) (by omega)
  have hPD := fun W => place_ref d f W d0 d1 f0 f1
  have hM := fun W => digits_text m W (by omega) (by omega)
  unfold Txt at hSZ hPD hM
  obtain ⟨NN, eNN⟩ : ∃ x, Lib.itoa (szR o) = x := ⟨_, rfl⟩
  have lNN := itoa_len (szR o) (by omega) (by omega)
  rw [eNN] at hSZ lNN
  obtain ⟨PD, ePD⟩ : ∃ x, placeT d f = x := ⟨_, rfl⟩
  have lPD := placeT_len d f d0 d1 f0 f1
  rw [ePD] at lPD hPD
  obtain ⟨M, eM⟩ : ∃ x, Lib.itoa m = x := ⟨_, rfl⟩
  have lM := itoa_len m (by omega) (by omega)
  rw [eM] at lM hM
  have z00 : ({ data := #[115, 116] } : ByteArray) = S [115, 116] := rfl
  have z10 : ({ data := #[32] } : ByteArray) = S [32] := rfl
  have z20 : ({ data := #[44, 32] } : ByteArray) = S [44, 32] := rfl
  obtain ⟨t1, e1⟩ : ∃ t, [115, 116] ++ NN = t := ⟨_, rfl⟩
  obtain ⟨k1, q1⟩ := cat_mk3 (a := [115, 116]) (b := NN) e1 (by simp) (by omega)
  have l1 : t1.length ≤ 120 := by rw [← e1]; simp; omega
  obtain ⟨t2, e2⟩ : ∃ t, t1 ++ [32] = t := ⟨_, rfl⟩
  obtain ⟨k2, q2⟩ := cat_mk3 (a := t1) (b := [32]) e2 (by omega) (by simp)
  have l2 : t2.length ≤ 180 := by rw [← e2]; simp; omega
  obtain ⟨t3, e3⟩ : ∃ t, t2 ++ PD = t := ⟨_, rfl⟩
  obtain ⟨k3, q3⟩ := cat_mk3 (a := t2) (b := PD) e3 (by omega) (by omega)
  have l3 : t3.length ≤ 240 := by rw [← e3]; simp; omega
  obtain ⟨t4, e4⟩ : ∃ t, t3 ++ [44, 32] = t := ⟨_, rfl⟩
  obtain ⟨k4, q4⟩ := cat_mk3 (a := t3) (b := [44, 32]) e4 (by omega) (by simp)
  have l4 : t4.length ≤ 300 := by rw [← e4]; simp; omega
  obtain ⟨t5, e5⟩ : ∃ t, t4 ++ M = t := ⟨_, rfl⟩
  obtain ⟨k5, q5⟩ := cat_mk3 (a := t4) (b := M) e5 (by omega) (by omega)
  have l5 : t5.length ≤ 360 := by rw [← e5]; simp; omega
  obtain ⟨T, hT⟩ : ∃ T : List UInt8, 115 :: 116 :: (Lib.itoa (szR o) ++ 32 :: (placeT d f ++ 44 :: 32 :: Lib.itoa m)) = T := ⟨_, rfl⟩
  rw [hT]
  have hfin := Lib.hid (show T = t5 by rw [← hT]; rw [eNN, ePD, eM]; rw [← e5, ← e4, ← e3, ← e2, ← e1]; simp)
  clear hT e1 e2 e3 e4 e5 l1 l2 l3 l4 l5 lNN lPD lM ePD eM eNN
  have HX := Lib.hid hx
  clear hx
  unfold insV
  go_enter Tryz.func13, Tryz.ntmps13
  go_wp2_with (first
    | (go_at_call 25; refine (size_ref3 _ _).mono ?_; rintro e w' ⟨rfl, rfl⟩)
    | (go_at_call 26; refine (hSZ _).mono ?_; rintro e w1 ⟨rfl, hb1⟩; have hL : RefBox w w1 o d s f m o' d' s' f' m' := refBox_new hb1; obtain ⟨x0, x1, x2, x3, x4⟩ := hL.x; have HL := Lib.hid hL; clear hb1 hL hSZ)
    | (go_at_call 24; refine (cond_ref _ _ h0 h1).mono ?_; rintro e w' ⟨rfl, rfl⟩))
  have hL := HL.out.drew
  have hS1 := hL.plain
  clear x0 x1 x2 x3 x4
  go_region_held (fun W => W.cell? ⟨w.heap.size, 0, none⟩ = some (.int .u8 o) ∧ W.cell? ⟨w.heap.size, 1, none⟩ = some (.int .u8 d) ∧ W.cell? ⟨w.heap.size, 2, none⟩ = some (.int .u8 s) ∧ W.cell? ⟨w.heap.size, 3, none⟩ = some (.int .i16 f) ∧ W.cell? ⟨w.heap.size, 4, none⟩ = some (.int .i32 m) ∧ RefBox w W o d s f m o' d' s' f' m')
    (first | exact hS1 | exact hS2 | exact hS3 | exact hS4 | assumption)
    (first
      | (go_at_call 30; refine (hPD _).mono ?_; rintro e w3 ⟨rfl, hb3⟩; have hS3 := (RefBox.on (refBox_of (by assumption)) hb3).plain; clear hb3)
      | (go_at_call 26; refine (hM _).mono ?_; rintro e w4 ⟨rfl, hb4⟩; have hS4 := (RefBox.on (refBox_of (by assumption)) hb4).plain; clear hb4))
  all_goals
    go_wp2
    go_ret
    rw [hfin.out]
    exact ⟨rfl, RefBox.below (by first | exact refBox_of (by assumption) | exact HL.out)⟩
set_option maxRecDepth 100000 in
set_option maxHeartbeats 1500000 in
theorem rl_str (o d s f m o' d' s' f' m' : Int) (has : Bool) (w : World) (hx : (⟨o, d, s, f, m⟩ : Ins).Fit) (hc : condB o = false) (hz : szR o ≠ 0) (h8 : o % 8 = 3) :
    Calls Tryz.prog 13 #[insV o d s f m, insV o' d' s' f' m', .bool has] w (Txt (115 :: 116 :: (Lib.itoa (szR o) ++ 32 :: (placeT d f ++ 44 :: 32 :: regT s))) w) := by
  have h0 := hx.op.1
  have h1 := hx.op.2
  have d0 := hx.dst.1
  have d1 := hx.dst.2
  have s0 := hx.src.1
  have s1 := hx.src.2
  have f0 := hx.off.1
  have f1 := hx.off.2
  have m0 := hx.imm.1
  have m1 := hx.imm.2
  dsimp only at h0 h1 d0 d1 s0 s1 f0 f1 m0 m1
  have z9 : 0 ≤ szR o ∧ szR o ≤ 8 := szR_bd o
  have wf : IntKind.i64.wrap f = f := IntWalk.i64_in _ (by omega)
  have wm : IntKind.i64.wrap m = m := IntWalk.i64_in _ (by omega)
  have hz2 : o = 97 + (3 - 1) ∨ o = 105 + (3 - 1) ∨ o = 113 + (3 - 1) ∨ o = 121 + (3 - 1) := by unfold szR at hz; repeat' split at hz <;> omega
  have b24 : (o == 24) = false := by simp; omega
  have b5 : (o == 5) = false := by simp; omega
  have b133 : (o == 133) = false := by simp; omega
  have b149 : (o == 149) = false := by simp; omega
  have c84 : (o % 8 == 4) = false := by simp; omega
  have c86 : (o % 8 == 6) = false := by simp; omega
  have c81 : (o % 8 == 1) = false := by simp; omega
  have c82 : (o % 8 == 2) = false := by simp; omega
  have c83 : (o % 8 == 3) = true := by simp; omega
  have hSZ := fun W => digits_text (szR o) W (by omega) (by omega)
  have hPD := fun W => place_ref d f W d0 d1 f0 f1
  have hRS := fun W => reg_ref s W s0 s1
  unfold Txt at hSZ hPD hRS
  obtain ⟨NN, eNN⟩ : ∃ x, Lib.itoa (szR o) = x := ⟨_, rfl⟩
  have lNN := itoa_len (szR o) (by omega) (by omega)
  rw [eNN] at hSZ lNN
  obtain ⟨PD, ePD⟩ : ∃ x, placeT d f = x := ⟨_, rfl⟩
  have lPD := placeT_len d f d0 d1 f0 f1
  rw [ePD] at lPD hPD
  obtain ⟨RS, eRS⟩ : ∃ x, regT s = x := ⟨_, rfl⟩
  have lRS := regT_len s s0 s1
  rw [eRS] at lRS hRS
  have z00 : ({ data := #[115, 116] } : ByteArray) = S [115, 116] := rfl
  have z10 : ({ data := #[32] } : ByteArray) = S [32] := rfl
  have z20 : ({ data := #[44, 32] } : ByteArray) = S [44, 32] := rfl
  obtain ⟨t1, e1⟩ : ∃ t, [115, 116] ++ NN = t := ⟨_, rfl⟩
  obtain ⟨k1, q1⟩ := cat_mk3 (a := [115, 116]) (b := NN) e1 (by simp) (by omega)
  have l1 : t1.length ≤ 120 := by rw [← e1]; simp; omega
  obtain ⟨t2, e2⟩ : ∃ t, t1 ++ [32] = t := ⟨_, rfl⟩
  obtain ⟨k2, q2⟩ := cat_mk3 (a := t1) (b := [32]) e2 (by omega) (by simp)
  have l2 : t2.length ≤ 180 := by rw [← e2]; simp; omega
  obtain ⟨t3, e3⟩ : ∃ t, t2 ++ PD = t := ⟨_, rfl⟩
  obtain ⟨k3, q3⟩ := cat_mk3 (a := t2) (b := PD) e3 (by omega) (by omega)
  have l3 : t3.length ≤ 240 := by rw [← e3]; simp; omega
  obtain ⟨t4, e4⟩ : ∃ t, t3 ++ [44, 32] = t := ⟨_, rfl⟩
  obtain ⟨k4, q4⟩ := cat_mk3 (a := t3) (b := [44, 32]) e4 (by omega) (by simp)
  have l4 : t4.length ≤ 300 := by rw [← e4]; simp; omega
  obtain ⟨t5, e5⟩ : ∃ t, t4 ++ RS = t := ⟨_, rfl⟩
  obtain ⟨k5, q5⟩ := cat_mk3 (a := t4) (b := RS) e5 (by omega) (by omega)
  have l5 : t5.length ≤ 360 := by rw [← e5]; simp; omega
  obtain ⟨T, hT⟩ : ∃ T : List UInt8, 115 :: 116 :: (Lib.itoa (szR o) ++ 32 :: (placeT d f ++ 44 :: 32 :: regT s)) = T := ⟨_, rfl⟩
  rw [hT]
  have hfin := Lib.hid (show T = t5 by rw [← hT]; rw [eNN, ePD, eRS]; rw [← e5, ← e4, ← e3, ← e2, ← e1]; simp)
  clear hT e1 e2 e3 e4 e5 l1 l2 l3 l4 l5 lNN lPD lRS ePD eRS eNN
  have HX := Lib.hid hx
  clear hx
  unfold insV
  go_enter Tryz.func13, Tryz.ntmps13
  go_wp2_with (first
    | (go_at_call 25; refine (size_ref3 _ _).mono ?_; rintro e w' ⟨rfl, rfl⟩)
    | (go_at_call 26; refine (hSZ _).mono ?_; rintro e w1 ⟨rfl, hb1⟩; have hL : RefBox w w1 o d s f m o' d' s' f' m' := refBox_new hb1; obtain ⟨x0, x1, x2, x3, x4⟩ := hL.x; have HL := Lib.hid hL; clear hb1 hL hSZ)
    | (go_at_call 24; refine (cond_ref _ _ h0 h1).mono ?_; rintro e w' ⟨rfl, rfl⟩))
  have hL := HL.out.drew
  have hS1 := hL.plain
  clear x0 x1 x2 x3 x4
  go_region_held (fun W => W.cell? ⟨w.heap.size, 0, none⟩ = some (.int .u8 o) ∧ W.cell? ⟨w.heap.size, 1, none⟩ = some (.int .u8 d) ∧ W.cell? ⟨w.heap.size, 2, none⟩ = some (.int .u8 s) ∧ W.cell? ⟨w.heap.size, 3, none⟩ = some (.int .i16 f) ∧ W.cell? ⟨w.heap.size, 4, none⟩ = some (.int .i32 m) ∧ RefBox w W o d s f m o' d' s' f' m')
    (first | exact hS1 | exact hS2 | exact hS3 | exact hS4 | assumption)
    (first
      | (go_at_call 30; refine (hPD _).mono ?_; rintro e w3 ⟨rfl, hb3⟩; have hS3 := (RefBox.on (refBox_of (by assumption)) hb3).plain; clear hb3)
      | (go_at_call 28; refine (hRS _).mono ?_; rintro e w2 ⟨rfl, hb2⟩; have hS2 := (RefBox.on (refBox_of (by assumption)) hb2).plain; clear hb2))
  all_goals
    go_wp2
    go_ret
    rw [hfin.out]
    exact ⟨rfl, RefBox.below (by first | exact refBox_of (by assumption) | exact HL.out)⟩
end Go.Proofs.YthmibmofdmlgaaaGreatDoor
