import Derived.Test.YthmibmofdmlgaaaGreatDoorG09
/-
  Proved here: Line of the document's answers at an operation. Conditions: the fields fit.
-/
namespace Go.Proofs.YthmibmofdmlgaaaGreatDoor
open Go.RowKit
set_option linter.unusedVariables false

set_option maxRecDepth 100000 in
set_option maxHeartbeats 1500000 in
theorem rl_neg4 (o d s f m o' d' s' f' m' : Int) (has : Bool) (w : World) (hx : (⟨o, d, s, f, m⟩ : Ins).Fit) (hc : condB o = false) (h8 : o % 8 = 4) (h16 : o / 16 = 8) :
    Calls Tryz.prog 13 #[insV o d s f m, insV o' d' s' f' m', .bool has] w (Txt ([110, 101, 103] ++ [51, 50] ++ 32 :: regT d) w) := by
  have h0 := hx.op.1
  have h1 := hx.op.2
  have d0 := hx.dst.1
  have d1 := hx.dst.2
  have s0 := hx.src.1
  have s1 := hx.src.2
  have f0 := hx.off.1
  have f1 := hx.off.2
  have m0 := hx.imm.1
  have m1 := hx.imm.2
  dsimp only at h0 h1 d0 d1 s0 s1 f0 f1 m0 m1
  have z9 : 0 ≤ szR o ∧ szR o ≤ 8 := szR_bd o
  have wf : IntKind.i64.wrap f = f := IntWalk.i64_in _ (by omega)
  have wm : IntKind.i64.wrap m = m := IntWalk.i64_in _ (by omega)
  have b24 : (o == 24) = false := by simp; omega
  have b5 : (o == 5) = false := by simp; omega
  have b133 : (o == 133) = false := by simp; omega
  have b149 : (o == 149) = false := by simp; omega
  have c84 : (o % 8 == 4) = true := by simp; omega
  have c81 : (o % 8 == 1) = false := by simp; omega
  have c82 : (o % 8 == 2) = false := by simp; omega
  have c83 : (o % 8 == 3) = false := by simp; omega
  have c168 : (o / 16 == 8) = true := by simp; omega
  have hSZ := fun W => digits_text (szR o) W (by omega) (by omega)
  have hR := fun W => reg_ref d W d0 d1
  unfold Txt at hSZ hR
  obtain ⟨NN, eNN⟩ : ∃ x, Lib.itoa (szR o) = x := ⟨_, rfl⟩
  have lNN := itoa_len (szR o) (by omega) (by omega)
  rw [eNN] at hSZ lNN
  obtain ⟨R, eR⟩ : ∃ x, regT d = x := ⟨_, rfl⟩
  have lR := regT_len d d0 d1
  rw [eR] at lR hR
  have z00 : ({ data := #[110, 101, 103] } : ByteArray) = S [110, 101, 103] := rfl
  have z10 : ({ data := #[51, 50] } : ByteArray) = S [51, 50] := rfl
  have z20 : ({ data := #[32] } : ByteArray) = S [32] := rfl
  obtain ⟨t1, e1⟩ : ∃ t : List UInt8, [110, 101, 103] ++ [51, 50] = t := ⟨_, rfl⟩
  obtain ⟨k1, q1⟩ := cat_mk3 (a := [110, 101, 103]) (b := [51, 50]) e1 (by simp) (by simp)
  have l1 : t1.length ≤ 120 := by rw [← e1, List.length_append]; (first | omega | (simp; done) | (simp; omega))
  obtain ⟨t2, e2⟩ : ∃ t : List UInt8, t1 ++ [32] = t := ⟨_, rfl⟩
  obtain ⟨k2, q2⟩ := cat_mk3 (a := t1) (b := [32]) e2 (by omega) (by simp)
  have l2 : t2.length ≤ 180 := by rw [← e2, List.length_append]; (first | omega | (simp; done) | (simp; omega))
  obtain ⟨t3, e3⟩ : ∃ t : List UInt8, t2 ++ R = t := ⟨_, rfl⟩
  obtain ⟨k3, q3⟩ := cat_mk3 (a := t2) (b := R) e3 (by omega) (by omega)
  have l3 : t3.length ≤ 240 := by rw [← e3, List.length_append]; (first | omega | (simp; done) | (simp; omega))
  obtain ⟨T, hT⟩ : ∃ T : List UInt8, [110, 101, 103] ++ [51, 50] ++ 32 :: regT d = T := ⟨_, rfl⟩
  rw [hT]
  have hfin := Lib.hid (show T = t3 by rw [← hT]; rw [eR]; rw [← e3, ← e2, ← e1]; simp)
  clear hT e1 e2 e3 l1 l2 l3 lR lNN eR eNN
  have HX := Lib.hid hx
  clear hx
  unfold insV
  go_enter Tryz.func13, Tryz.ntmps13
  go_wp2_with (first
    | (go_at_call 25; refine (size_ref3 _ _).mono ?_; rintro e w' ⟨rfl, rfl⟩)
    | (go_at_call 26; refine (hSZ _).mono ?_; rintro e w1 ⟨rfl, hb1⟩; have hL : RefBox w w1 o d s f m o' d' s' f' m' := refBox_new hb1; obtain ⟨x0, x1, x2, x3, x4⟩ := hL.x; have HL := Lib.hid hL; clear hb1 hL hSZ)
    | (go_at_call 28; refine (hR _).mono ?_; rintro e w2 ⟨rfl, hb2⟩; have HL2 := Lib.hid (HL.out.on hb2); obtain ⟨y0, y1, y2, y3, y4⟩ := HL2.out.x; clear hb2)
    | (go_at_call 24; refine (cond_ref _ _ h0 h1).mono ?_; rintro e w' ⟨rfl, rfl⟩))
  go_ret
  rw [hfin.out]
  exact ⟨rfl, HL2.out.below⟩
set_option maxRecDepth 100000 in
set_option maxHeartbeats 1500000 in
theorem rl_alu4 (o d s f m o' d' s' f' m' : Int) (has : Bool) (w : World) (hx : (⟨o, d, s, f, m⟩ : Ins).Fit) (hc : condB o = false) (h8 : o % 8 = 4) (h16 : o / 16 ≠ 8) (h12 : o / 16 ≤ 12) :
    Calls Tryz.prog 13 #[insV o d s f m, insV o' d' s' f' m', .bool has] w (Txt (opsN.getD (o / 16).toNat [] ++ [51, 50] ++ 32 :: (regT d ++ 44 :: 32 :: operandT o s m)) w) := by
  have h0 := hx.op.1
  have h1 := hx.op.2
  have d0 := hx.dst.1
  have d1 := hx.dst.2
  have s0 := hx.src.1
  have s1 := hx.src.2
  have f0 := hx.off.1
  have f1 := hx.off.2
  have m0 := hx.imm.1
  have m1 := hx.imm.2
  dsimp only at h0 h1 d0 d1 s0 s1 f0 f1 m0 m1
  have z9 : 0 ≤ szR o ∧ szR o ≤ 8 := szR_bd o
  have wf : IntKind.i64.wrap f = f := IntWalk.i64_in _ (by omega)
  have wm : IntKind.i64.wrap m = m := IntWalk.i64_in _ (by omega)
  have b24 : (o == 24) = false := by simp; omega
  have b5 : (o == 5) = false := by simp; omega
  have b133 : (o == 133) = false := by simp; omega
  have b149 : (o == 149) = false := by simp; omega
  have c84 : (o % 8 == 4) = true := by simp; omega
  have c81 : (o % 8 == 1) = false := by simp; omega
  have c82 : (o % 8 == 2) = false := by simp; omega
  have c83 : (o % 8 == 3) = false := by simp; omega
  have c168 : (o / 16 == 8) = false := by simp; omega
  obtain ⟨q, hq⟩ := Int.eq_ofNat_of_zero_le (show 0 ≤ o / 16 by omega)
  have hq14 : q < 13 := by omega
  have hqi : (q : Int) < 13 := by omega
  have hqz : (0 : Int) ≤ (q : Int) := by omega
  have hqt : o.tdiv 16 = (q : Int) := by rw [Int.tdiv_eq_ediv_of_nonneg h0]; exact hq
  have w8q : IntKind.u8.wrap (q : Int) = q := by simp [IntKind.wrap, IntKind.bits, IntKind.signed]; omega
  obtain ⟨nm, hnm⟩ : ∃ nm, opsN.getD q [] = nm := ⟨_, rfl⟩
  have lnm : nm.length ≤ 10 := by rw [← hnm]; exact ops_len q
  have hnm0 := Lib.hid (show q < 13 ∧ opsN.getD q [] = nm from ⟨hq14, hnm⟩)
  have hSZ := fun W => digits_text (szR o) W (by omega) (by omega)
  have hR := fun W => reg_ref d W d0 d1
  have hP := fun W => operand_refT o d s f m W hx
  unfold insV at hP
  unfold Txt at hSZ hR hP
  obtain ⟨NN, eNN⟩ : ∃ x, Lib.itoa (szR o) = x := ⟨_, rfl⟩
  have lNN := itoa_len (szR o) (by omega) (by omega)
  rw [eNN] at hSZ lNN
  obtain ⟨R, eR⟩ : ∃ x, regT d = x := ⟨_, rfl⟩
  have lR := regT_len d d0 d1
  rw [eR] at lR hR
  obtain ⟨P, eP⟩ : ∃ x, operandT o s m = x := ⟨_, rfl⟩
  have lP := operandT_len o s m s0 s1 m0 m1
  rw [eP] at lP hP
  have z00 : ({ data := #[51, 50] } : ByteArray) = S [51, 50] := rfl
  have z10 : ({ data := #[32] } : ByteArray) = S [32] := rfl
  have z20 : ({ data := #[44, 32] } : ByteArray) = S [44, 32] := rfl
  obtain ⟨t1, e1⟩ : ∃ t : List UInt8, nm ++ [51, 50] = t := ⟨_, rfl⟩
  obtain ⟨k1, q1⟩ := cat_mk3 (a := nm) (b := [51, 50]) e1 (by omega) (by simp)
  have l1 : t1.length ≤ 120 := by rw [← e1, List.length_append]; (first | omega | (simp; done) | (simp; omega))
  obtain ⟨t2, e2⟩ : ∃ t : List UInt8, t1 ++ [32] = t := ⟨_, rfl⟩
  obtain ⟨k2, q2⟩ := cat_mk3 (a := t1) (b := [32]) e2 (by omega) (by simp)
  have l2 : t2.length ≤ 180 := by rw [← e2, List.length_append]; (first | omega | (simp; done) | (simp; omega))
  obtain ⟨t3, e3⟩ : ∃ t : List UInt8, t2 ++ R = t := ⟨_, rfl⟩
  obtain ⟨k3, q3⟩ := cat_mk3 (a := t2) (b := R) e3 (by omega) (by omega)
  have l3 : t3.length ≤ 240 := by rw [← e3, List.length_append]; (first | omega | (simp; done) | (simp; omega))
  obtain ⟨t4, e4⟩ : ∃ t : List UInt8, t3 ++ [44, 32] = t := ⟨_, rfl⟩
  obtain ⟨k4, q4⟩ := cat_mk3 (a := t3) (b := [44, 32]) e4 (by omega) (by simp)
  have l4 : t4.length ≤ 300 := by rw [← e4, List.length_append]; (first | omega | (simp; done) | (simp; omega))
  obtain ⟨t5, e5⟩ : ∃ t : List UInt8, t4 ++ P = t := ⟨_, rfl⟩
  obtain ⟨k5, q5⟩ := cat_mk3 (a := t4) (b := P) e5 (by omega) (by omega)
  have l5 : t5.length ≤ 360 := by rw [← e5, List.length_append]; (first | omega | (simp; done) | (simp; omega))
  obtain ⟨T, hT⟩ : ∃ T : List UInt8, opsN.getD (o / 16).toNat [] ++ [51, 50] ++ 32 :: (regT d ++ 44 :: 32 :: operandT o s m) = T := ⟨_, rfl⟩
  rw [hT]
  have hfin := Lib.hid (show T = t5 by rw [← hT]; rw [hq, Int.toNat_natCast, hnm, eR, eP]; rw [← e5, ← e4, ← e3, ← e2, ← e1]; simp)
  clear hT e1 e2 e3 e4 e5 l1 l2 l3 l4 l5 lR lP lNN eR eP eNN
  clear lnm
  have HX := Lib.hid hx
  clear hx
  unfold insV
  go_enter Tryz.func13, Tryz.ntmps13
  go_wp2_with (first
    | (go_at_call 25; refine (size_ref3 _ _).mono ?_; rintro e w' ⟨rfl, rfl⟩)
    | (go_at_call 26; refine (hSZ _).mono ?_; rintro e w1 ⟨rfl, hb1⟩; have hL : RefBox w w1 o d s f m o' d' s' f' m' := refBox_new hb1; obtain ⟨x0, x1, x2, x3, x4⟩ := hL.x; have HL := Lib.hid hL; clear hb1 hL hSZ)
    | (go_at_call 24; refine (cond_ref _ _ h0 h1).mono ?_; rintro e w' ⟨rfl, rfl⟩))
  have hL := HL.out.drew
  have hS1 := hL.sOps hnm0.out
  clear x0 x1 x2 x3 x4
  go_region_held (fun W => W.cell? ⟨w.heap.size, 0, none⟩ = some (.int .u8 o) ∧ W.cell? ⟨w.heap.size, 1, none⟩ = some (.int .u8 d) ∧ W.cell? ⟨w.heap.size, 2, none⟩ = some (.int .u8 s) ∧ W.cell? ⟨w.heap.size, 3, none⟩ = some (.int .i16 f) ∧ W.cell? ⟨w.heap.size, 4, none⟩ = some (.int .i32 m) ∧ W.cell? ⟨w.heap.size + 1 + 1, q, none⟩ = some (.string (S nm)) ∧ RefBox w W o d s f m o' d' s' f' m')
    (first | exact hS1 | exact hS2 | exact hS3 | exact hS4 | assumption)
    (first
      | (go_at_call 28; refine (hR _).mono ?_; rintro e w2 ⟨rfl, hb2⟩; have hS2 := (RefBox.on (refBox_ofJ (by assumption)) hb2).sOps hnm0.out; clear hb2)
      | (go_at_call 29; refine (hP _).mono ?_; rintro e w3 ⟨rfl, hb3⟩; have hS3 := (RefBox.on (refBox_ofJ (by assumption)) hb3).sOps hnm0.out; clear hb3))
  all_goals
    go_wp2
    go_ret
    rw [hfin.out]
    exact ⟨rfl, RefBox.below (by first | exact refBox_ofJ (by assumption) | exact HL.out)⟩
set_option maxRecDepth 100000 in
set_option maxHeartbeats 1500000 in
theorem rl_neg7 (o d s f m o' d' s' f' m' : Int) (has : Bool) (w : World) (hx : (⟨o, d, s, f, m⟩ : Ins).Fit) (hc : condB o = false) (h8 : o % 8 = 7) (h16 : o / 16 = 8) :
    Calls Tryz.prog 13 #[insV o d s f m, insV o' d' s' f' m', .bool has] w (Txt ([110, 101, 103] ++ [] ++ 32 :: regT d) w) := by
  have h0 := hx.op.1
  have h1 := hx.op.2
  have d0 := hx.dst.1
  have d1 := hx.dst.2
  have s0 := hx.src.1
  have s1 := hx.src.2
  have f0 := hx.off.1
  have f1 := hx.off.2
  have m0 := hx.imm.1
  have m1 := hx.imm.2
  dsimp only at h0 h1 d0 d1 s0 s1 f0 f1 m0 m1
  have z9 : 0 ≤ szR o ∧ szR o ≤ 8 := szR_bd o
  have wf : IntKind.i64.wrap f = f := IntWalk.i64_in _ (by omega)
  have wm : IntKind.i64.wrap m = m := IntWalk.i64_in _ (by omega)
  have b24 : (o == 24) = false := by simp; omega
  have b5 : (o == 5) = false := by simp; omega
  have b133 : (o == 133) = false := by simp; omega
  have b149 : (o == 149) = false := by simp; omega
  have c84 : (o % 8 == 4) = false := by simp; omega
  have c86 : (o % 8 == 6) = false := by simp; omega
  have c81 : (o % 8 == 1) = false := by simp; omega
  have c82 : (o % 8 == 2) = false := by simp; omega
  have c83 : (o % 8 == 3) = false := by simp; omega
  have c168 : (o / 16 == 8) = true := by simp; omega
  have hSZ := fun W => digits_text (szR o) W (by omega) (by omega)
  have hR := fun W => reg_ref d W d0 d1
  unfold Txt at hSZ hR
  obtain ⟨NN, eNN⟩ : ∃ x, Lib.itoa (szR o) = x := ⟨_, rfl⟩
  have lNN := itoa_len (szR o) (by omega) (by omega)
  rw [eNN] at hSZ lNN
  obtain ⟨R, eR⟩ : ∃ x, regT d = x := ⟨_, rfl⟩
  have lR := regT_len d d0 d1
  rw [eR] at lR hR
  have z00 : ({ data := #[110, 101, 103] } : ByteArray) = S [110, 101, 103] := rfl
  have z10 : ({ data := #[] } : ByteArray) = S [] := rfl
  have z20 : ({ data := #[32] } : ByteArray) = S [32] := rfl
  obtain ⟨t1, e1⟩ : ∃ t : List UInt8, [110, 101, 103] ++ [] = t := ⟨_, rfl⟩
  obtain ⟨k1, q1⟩ := cat_mk3 (a := [110, 101, 103]) (b := []) e1 (by simp) (by simp)
  have l1 : t1.length ≤ 120 := by rw [← e1, List.length_append]; (first | omega | (simp; done) | (simp; omega))
  obtain ⟨t2, e2⟩ : ∃ t : List UInt8, t1 ++ [32] = t := ⟨_, rfl⟩
  obtain ⟨k2, q2⟩ := cat_mk3 (a := t1) (b := [32]) e2 (by omega) (by simp)
  have l2 : t2.length ≤ 180 := by rw [← e2, List.length_append]; (first | omega | (simp; done) | (simp; omega))
  obtain ⟨t3, e3⟩ : ∃ t : List UInt8, t2 ++ R = t := ⟨_, rfl⟩
  obtain ⟨k3, q3⟩ := cat_mk3 (a := t2) (b := R) e3 (by omega) (by omega)
  have l3 : t3.length ≤ 240 := by rw [← e3, List.length_append]; (first | omega | (simp; done) | (simp; omega))
  obtain ⟨T, hT⟩ : ∃ T : List UInt8, [110, 101, 103] ++ [] ++ 32 :: regT d = T := ⟨_, rfl⟩
  rw [hT]
  have hfin := Lib.hid (show T = t3 by rw [← hT]; rw [eR]; rw [← e3, ← e2, ← e1]; simp)
  clear hT e1 e2 e3 l1 l2 l3 lR lNN eR eNN
  have HX := Lib.hid hx
  clear hx
  unfold insV
  go_enter Tryz.func13, Tryz.ntmps13
  go_wp2_with (first
    | (go_at_call 25; refine (size_ref3 _ _).mono ?_; rintro e w' ⟨rfl, rfl⟩)
    | (go_at_call 26; refine (hSZ _).mono ?_; rintro e w1 ⟨rfl, hb1⟩; have hL : RefBox w w1 o d s f m o' d' s' f' m' := refBox_new hb1; obtain ⟨x0, x1, x2, x3, x4⟩ := hL.x; have HL := Lib.hid hL; clear hb1 hL hSZ)
    | (go_at_call 28; refine (hR _).mono ?_; rintro e w2 ⟨rfl, hb2⟩; have HL2 := Lib.hid (HL.out.on hb2); obtain ⟨y0, y1, y2, y3, y4⟩ := HL2.out.x; clear hb2)
    | (go_at_call 24; refine (cond_ref _ _ h0 h1).mono ?_; rintro e w' ⟨rfl, rfl⟩))
  go_ret
  rw [hfin.out]
  exact ⟨rfl, HL2.out.below⟩
set_option maxRecDepth 100000 in
set_option maxHeartbeats 1500000 in
theorem rl_alu7 (o d s f m o' d' s' f' m' : Int) (has : Bool) (w : World) (hx : (⟨o, d, s, f, m⟩ : Ins).Fit) (hc : condB o = false) (h8 : o % 8 = 7) (h16 : o / 16 ≠ 8) (h12 : o / 16 ≤ 12) :
    Calls Tryz.prog 13 #[insV o d s f m, insV o' d' s' f' m', .bool has] w (Txt (opsN.getD (o / 16).toNat [] ++ [] ++ 32 :: (regT d ++ 44 :: 32 :: operandT o s m)) w) := by
  have h0 := hx.op.1
  have h1 := hx.op.2
  have d0 := hx.dst.1
  have d1 := hx.dst.2
  have s0 := hx.src.1
  have s1 := hx.src.2
  have f0 := hx.off.1
  have f1 := hx.off.2
  have m0 := hx.imm.1
  have m1 := hx.imm.2
  dsimp only at h0 h1 d0 d1 s0 s1 f0 f1 m0 m1
  have z9 : 0 ≤ szR o ∧ szR o ≤ 8 := szR_bd o
  have wf : IntKind.i64.wrap f = f := IntWalk.i64_in _ (by omega)
  have wm : IntKind.i64.wrap m = m := IntWalk.i64_in _ (by omega)
  have b24 : (o == 24) = false := by simp; omega
  have b5 : (o == 5) = false := by simp; omega
  have b133 : (o == 133) = false := by simp; omega
  have b149 : (o == 149) = false := by simp; omega
  have c84 : (o % 8 == 4) = false := by simp; omega
  have c86 : (o % 8 == 6) = false := by simp; omega
  have c81 : (o % 8 == 1) = false := by simp; omega
  have c82 : (o % 8 == 2) = false := by simp; omega
  have c83 : (o % 8 == 3) = false := by simp; omega
  have c168 : (o / 16 == 8) = false := by simp; omega
  obtain ⟨q, hq⟩ := Int.eq_ofNat_of_zero_le (show 0 ≤ o / 16 by omega)
  have hq14 : q < 13 := by omega
  have hqi : (q : Int) < 13 := by omega
  have hqz : (0 : Int) ≤ (q : Int) := by omega
  have hqt : o.tdiv 16 = (q : Int) := by rw [Int.tdiv_eq_ediv_of_nonneg h0]; exact hq
  have w8q : IntKind.u8.wrap (q : Int) = q := by simp [IntKind.wrap, IntKind.bits, IntKind.signed]; omega
  obtain ⟨nm, hnm⟩ : ∃ nm, opsN.getD q [] = nm := ⟨_, rfl⟩
  have lnm : nm.length ≤ 10 := by rw [← hnm]; exact ops_len q
  have hnm0 := Lib.hid (show q < 13 ∧ opsN.getD q [] = nm from ⟨hq14, hnm⟩)
  have hSZ := fun W => digits_text (szR o) W (by omega) (by omega)
  have hR := fun W => reg_ref d W d0 d1
  have hP := fun W => operand_refT o d s f m W hx
  unfold insV at hP
  unfold Txt at hSZ hR hP
  obtain ⟨NN, eNN⟩ : ∃ x, Lib.itoa (szR o) = x := ⟨_, rfl⟩
  have lNN := itoa_len (szR o) (by omega) (by omega)
  rw [eNN] at hSZ lNN
  obtain ⟨R, eR⟩ : ∃ x, regT d = x := ⟨_, rfl⟩
  have lR := regT_len d d0 d1
  rw [eR] at lR hR
  obtain ⟨P, eP⟩ : ∃ x, operandT o s m = x := ⟨_, rfl⟩
  have lP := operandT_len o s m s0 s1 m0 m1
  rw [eP] at lP hP
  have z00 : ({ data := #[] } : ByteArray) = S [] := rfl
  have z10 : ({ data := #[32] } : ByteArray) = S [32] := rfl
  have z20 : ({ data := #[44, 32] } : ByteArray) = S [44, 32] := rfl
  obtain ⟨t1, e1⟩ : ∃ t : List UInt8, nm ++ [] = t := ⟨_, rfl⟩
  obtain ⟨k1, q1⟩ := cat_mk3 (a := nm) (b := []) e1 (by omega) (by simp)
  have l1 : t1.length ≤ 120 := by rw [← e1, List.length_append]; (first | omega | (simp; done) | (simp; omega))
  obtain ⟨t2, e2⟩ : ∃ t : List UInt8, t1 ++ [32] = t := ⟨_, rfl⟩
  obtain ⟨k2, q2⟩ := cat_mk3 (a := t1) (b := [32]) e2 (by omega) (by simp)
  have l2 : t2.length ≤ 180 := by rw [← e2, List.length_append]; (first | omega | (simp; done) | (simp; omega))
  obtain ⟨t3, e3⟩ : ∃ t : List UInt8, t2 ++ R = t := ⟨_, rfl⟩
  obtain ⟨k3, q3⟩ := cat_mk3 (a := t2) (b := R) e3 (by omega) (by omega)
  have l3 : t3.length ≤ 240 := by rw [← e3, List.length_append]; (first | omega | (simp; done) | (simp; omega))
  obtain ⟨t4, e4⟩ : ∃ t : List UInt8, t3 ++ [44, 32] = t := ⟨_, rfl⟩
  obtain ⟨k4, q4⟩ := cat_mk3 (a := t3) (b := [44, 32]) e4 (by omega) (by simp)
  have l4 : t4.length ≤ 300 := by rw [← e4, List.length_append]; (first | omega | (simp; done) | (simp; omega))
  obtain ⟨t5, e5⟩ : ∃ t : List UInt8, t4 ++ P = t := ⟨_, rfl⟩
  obtain ⟨k5, q5⟩ := cat_mk3 (a := t4) (b := P) e5 (by omega) (by omega)
  have l5 : t5.length ≤ 360 := by rw [← e5, List.length_append]; (first | omega | (simp; done) | (simp; omega))
  obtain ⟨T, hT⟩ : ∃ T : List UInt8, opsN.getD (o / 16).toNat [] ++ [] ++ 32 :: (regT d ++ 44 :: 32 :: operandT o s m) = T := ⟨_, rfl⟩
  rw [hT]
  have hfin := Lib.hid (show T = t5 by rw [← hT]; rw [hq, Int.toNat_natCast, hnm, eR, eP]; rw [← e5, ← e4, ← e3, ← e2, ← e1]; simp)
  clear hT e1 e2 e3 e4 e5 l1 l2 l3 l4 l5 lR lP lNN eR eP eNN
  clear lnm
  have HX := Lib.hid hx
  clear hx
  unfold insV
  go_enter Tryz.func13, Tryz.ntmps13
  go_wp2_with (first
    | (go_at_call 25; refine (size_ref3 _ _).mono ?_; rintro e w' ⟨rfl, rfl⟩)
    | (go_at_call 26; refine (hSZ _).mono ?_; rintro e w1 ⟨rfl, hb1⟩; have hL : RefBox w w1 o d s f m o' d' s' f' m' := refBox_new hb1; obtain ⟨x0, x1, x2, x3, x4⟩ := hL.x; have HL := Lib.hid hL; clear hb1 hL hSZ)
    | (go_at_call 24; refine (cond_ref _ _ h0 h1).mono ?_; rintro e w' ⟨rfl, rfl⟩))
  have hL := HL.out.drew
  have hS1 := hL.sOps hnm0.out
  clear x0 x1 x2 x3 x4
  go_region_held (fun W => W.cell? ⟨w.heap.size, 0, none⟩ = some (.int .u8 o) ∧ W.cell? ⟨w.heap.size, 1, none⟩ = some (.int .u8 d) ∧ W.cell? ⟨w.heap.size, 2, none⟩ = some (.int .u8 s) ∧ W.cell? ⟨w.heap.size, 3, none⟩ = some (.int .i16 f) ∧ W.cell? ⟨w.heap.size, 4, none⟩ = some (.int .i32 m) ∧ W.cell? ⟨w.heap.size + 1 + 1, q, none⟩ = some (.string (S nm)) ∧ RefBox w W o d s f m o' d' s' f' m')
    (first | exact hS1 | exact hS2 | exact hS3 | exact hS4 | assumption)
    (first
      | (go_at_call 28; refine (hR _).mono ?_; rintro e w2 ⟨rfl, hb2⟩; have hS2 := (RefBox.on (refBox_ofJ (by assumption)) hb2).sOps hnm0.out; clear hb2)
      | (go_at_call 29; refine (hP _).mono ?_; rintro e w3 ⟨rfl, hb3⟩; have hS3 := (RefBox.on (refBox_ofJ (by assumption)) hb3).sOps hnm0.out; clear hb3))
  all_goals
    go_wp2
    go_ret
    rw [hfin.out]
    exact ⟨rfl, RefBox.below (by first | exact refBox_ofJ (by assumption) | exact HL.out)⟩
end Go.Proofs.YthmibmofdmlgaaaGreatDoor
