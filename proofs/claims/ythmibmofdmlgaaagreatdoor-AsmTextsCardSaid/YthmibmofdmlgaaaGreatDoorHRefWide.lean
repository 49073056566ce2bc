import Derived.Test.YthmibmofdmlgaaaGreatDoorG09
/-
  Proved here: Line of the document's answers at a wide one. Conditions: the fields fit.
-/
namespace Go.Proofs.YthmibmofdmlgaaaGreatDoor
open Go.RowKit
set_option linter.unusedVariables false

theorem i64_bds (x : Int) : -9223372036854775808 ≤ IntKind.i64.wrap x ∧ IntKind.i64.wrap x ≤ 9223372036854775807 := by
  simp only [IntKind.wrap, IntKind.bits, IntKind.signed, Bool.true_and]; split <;> simp_all <;> omega
set_option maxRecDepth 100000 in
set_option maxHeartbeats 1500000 in
theorem rl_wno (o d s f m o' d' s' f' m' : Int) (w : World) (hx : (⟨o, d, s, f, m⟩ : Ins).Fit) (hy : (⟨o', d', s', f', m'⟩ : Ins).Fit) (ho : o = 24)  :
    Calls Tryz.prog 13 #[insV o d s f m, insV o' d' s' f' m', .bool false] w (Txt ([]) w) := by
  have h0 := hx.op.1
  have h1 := hx.op.2
  have d0 := hx.dst.1
  have d1 := hx.dst.2
  have s0 := hx.src.1
  have s1 := hx.src.2
  have f0 := hx.off.1
  have f1 := hx.off.2
  have m0 := hx.imm.1
  have m1 := hx.imm.2
  dsimp only at h0 h1 d0 d1 s0 s1 f0 f1 m0 m1
  have z9 : 0 ≤ szR o ∧ szR o ≤ 8 := szR_bd o
  have wf : IntKind.i64.wrap f = f := IntWalk.i64_in _ (by omega)
  have wm : IntKind.i64.wrap m = m := IntWalk.i64_in _ (by omega)
  have b24 : (o == 24) = true := by simp; omega
  have c84 : (o % 8 == 4) = false := by simp; omega
  have c86 : (o % 8 == 6) = false := by simp; omega
  have hmm : -2147483648 ≤ m ∧ m ≤ 2147483647 := ⟨m0, m1⟩
  have hmy : -2147483648 ≤ m' ∧ m' ≤ 2147483647 := hy.imm
  have y0 := hy.op.1
  have y1 := hy.dst.1
  have y2 := hy.src.1
  dsimp only at y0 y1 y2
  obtain ⟨v, hv⟩ : ∃ v, IntKind.i64.wrap (m % 4294967296 + m' % 4294967296 * 4294967296) = v := ⟨_, rfl⟩
  have hvb : -9223372036854775808 ≤ v ∧ v ≤ 9223372036854775807 := by rw [← hv]; exact i64_bds _
  clear y0 y1 y2
  have hSZ := fun W => digits_text (szR o) W (by omega) (by omega)
  unfold Txt at hSZ 
  obtain ⟨NN, eNN⟩ : ∃ x, Lib.itoa (szR o) = x := ⟨_, rfl⟩
  have lNN := itoa_len (szR o) (by omega) (by omega)
  rw [eNN] at hSZ lNN
  have z00 : ({ data := #[] } : ByteArray) = S [] := rfl
  obtain ⟨T, hT⟩ : ∃ T : List UInt8, [] = T := ⟨_, rfl⟩
  rw [hT]
  have hfin := Lib.hid (show T = [] by exact hT.symm)
  clear hT lNN eNN
  have HX := Lib.hid hx
  clear hx
  clear ho
  unfold insV
  go_enter Tryz.func13, Tryz.ntmps13
  go_wp2_with (first
    | (go_at_call 25; refine (size_ref3 _ _).mono ?_; rintro e w' ⟨rfl, rfl⟩)
    | (go_at_call 26; refine (hSZ _).mono ?_; rintro e w1 ⟨rfl, hb1⟩; have hL : RefBox w w1 o d s f m o' d' s' f' m' := refBox_new hb1; obtain ⟨x0, x1, x2, x3, x4⟩ := hL.x; obtain ⟨u0, u1, u2, u3, u4⟩ := hL.y; have HL := Lib.hid hL; clear hb1 hL hSZ)
    | (go_at_call 27; refine (wide_ref _ _ _ _ _ _ _ _ _ _ _ hmm hmy).mono ?_; rintro e w5 ⟨rfl, hb5⟩; have HL2 := Lib.hid (HL.out.on hb5); obtain ⟨x0, x1, x2, x3, x4⟩ := HL2.out.x; obtain ⟨u0, u1, u2, u3, u4⟩ := HL2.out.y; clear hb5)
    | (go_at_call 24; refine (cond_ref _ _ h0 h1).mono ?_; rintro e w' ⟨rfl, rfl⟩))
  go_ret
  rw [hfin.out]
  exact ⟨rfl, HL2.out.below⟩
set_option maxRecDepth 100000 in
set_option maxHeartbeats 1500000 in
theorem rl_wbad0 (o d s f m o' d' s' f' m' : Int) (w : World) (hx : (⟨o, d, s, f, m⟩ : Ins).Fit) (hy : (⟨o', d', s', f', m'⟩ : Ins).Fit) (ho : o = 24) (hg : 0 < o') :
    Calls Tryz.prog 13 #[insV o d s f m, insV o' d' s' f' m', .bool true] w (Txt ([]) w) := by
  have h0 := hx.op.1
  have h1 := hx.op.2
  have d0 := hx.dst.1
  have d1 := hx.dst.2
  have s0 := hx.src.1
  have s1 := hx.src.2
  have f0 := hx.off.1
  have f1 := hx.off.2
  have m0 := hx.imm.1
  have m1 := hx.imm.2
  dsimp only at h0 h1 d0 d1 s0 s1 f0 f1 m0 m1
  have z9 : 0 ≤ szR o ∧ szR o ≤ 8 := szR_bd o
  have wf : IntKind.i64.wrap f = f := IntWalk.i64_in _ (by omega)
  have wm : IntKind.i64.wrap m = m := IntWalk.i64_in _ (by omega)
  have b24 : (o == 24) = true := by simp; omega
  have c84 : (o % 8 == 4) = false := by simp; omega
  have c86 : (o % 8 == 6) = false := by simp; omega
  have hmm : -2147483648 ≤ m ∧ m ≤ 2147483647 := ⟨m0, m1⟩
  have hmy : -2147483648 ≤ m' ∧ m' ≤ 2147483647 := hy.imm
  have y0 := hy.op.1
  have y1 := hy.dst.1
  have y2 := hy.src.1
  dsimp only at y0 y1 y2
  obtain ⟨v, hv⟩ : ∃ v, IntKind.i64.wrap (m % 4294967296 + m' % 4294967296 * 4294967296) = v := ⟨_, rfl⟩
  have hvb : -9223372036854775808 ≤ v ∧ v ≤ 9223372036854775807 := by rw [← hv]; exact i64_bds _
  have g0 : decide (0 < o') = true := by simp; omega
  clear hg
  clear y0 y1 y2
  have hSZ := fun W => digits_text (szR o) W (by omega) (by omega)
  unfold Txt at hSZ 
  obtain ⟨NN, eNN⟩ : ∃ x, Lib.itoa (szR o) = x := ⟨_, rfl⟩
  have lNN := itoa_len (szR o) (by omega) (by omega)
  rw [eNN] at hSZ lNN
  have z00 : ({ data := #[] } : ByteArray) = S [] := rfl
  obtain ⟨T, hT⟩ : ∃ T : List UInt8, [] = T := ⟨_, rfl⟩
  rw [hT]
  have hfin := Lib.hid (show T = [] by exact hT.symm)
  clear hT lNN eNN
  have HX := Lib.hid hx
  clear hx
  clear ho
  unfold insV
  go_enter Tryz.func13, Tryz.ntmps13
  go_wp2_with (first
    | (go_at_call 25; refine (size_ref3 _ _).mono ?_; rintro e w' ⟨rfl, rfl⟩)
    | (go_at_call 26; refine (hSZ _).mono ?_; rintro e w1 ⟨rfl, hb1⟩; have hL : RefBox w w1 o d s f m o' d' s' f' m' := refBox_new hb1; obtain ⟨x0, x1, x2, x3, x4⟩ := hL.x; obtain ⟨u0, u1, u2, u3, u4⟩ := hL.y; have HL := Lib.hid hL; clear hb1 hL hSZ)
    | (go_at_call 27; refine (wide_ref _ _ _ _ _ _ _ _ _ _ _ hmm hmy).mono ?_; rintro e w5 ⟨rfl, hb5⟩; have HL2 := Lib.hid (HL.out.on hb5); obtain ⟨x0, x1, x2, x3, x4⟩ := HL2.out.x; obtain ⟨u0, u1, u2, u3, u4⟩ := HL2.out.y; clear hb5)
    | (go_at_call 24; refine (cond_ref _ _ h0 h1).mono ?_; rintro e w' ⟨rfl, rfl⟩))
  go_ret
  rw [hfin.out]
  exact ⟨rfl, HL2.out.below⟩
set_option maxRecDepth 100000 in
set_option maxHeartbeats 1500000 in
theorem rl_wbad1 (o d s f m o' d' s' f' m' : Int) (w : World) (hx : (⟨o, d, s, f, m⟩ : Ins).Fit) (hy : (⟨o', d', s', f', m'⟩ : Ins).Fit) (ho : o = 24) (ho' : o' = 0) (hg : 0 < d') :
    Calls Tryz.prog 13 #[insV o d s f m, insV o' d' s' f' m', .bool true] w (Txt ([]) w) := by
  have h0 := hx.op.1
  have h1 := hx.op.2
  have d0 := hx.dst.1
  have d1 := hx.dst.2
  have s0 := hx.src.1
  have s1 := hx.src.2
  have f0 := hx.off.1
  have f1 := hx.off.2
  have m0 := hx.imm.1
  have m1 := hx.imm.2
  dsimp only at h0 h1 d0 d1 s0 s1 f0 f1 m0 m1
  have z9 : 0 ≤ szR o ∧ szR o ≤ 8 := szR_bd o
  have wf : IntKind.i64.wrap f = f := IntWalk.i64_in _ (by omega)
  have wm : IntKind.i64.wrap m = m := IntWalk.i64_in _ (by omega)
  have b24 : (o == 24) = true := by simp; omega
  have c84 : (o % 8 == 4) = false := by simp; omega
  have c86 : (o % 8 == 6) = false := by simp; omega
  have hmm : -2147483648 ≤ m ∧ m ≤ 2147483647 := ⟨m0, m1⟩
  have hmy : -2147483648 ≤ m' ∧ m' ≤ 2147483647 := hy.imm
  have y0 := hy.op.1
  have y1 := hy.dst.1
  have y2 := hy.src.1
  dsimp only at y0 y1 y2
  obtain ⟨v, hv⟩ : ∃ v, IntKind.i64.wrap (m % 4294967296 + m' % 4294967296 * 4294967296) = v := ⟨_, rfl⟩
  have hvb : -9223372036854775808 ≤ v ∧ v ≤ 9223372036854775807 := by rw [← hv]; exact i64_bds _
  have g0 : decide (0 < o') = false := by simp; omega
  have g1 : decide (0 < d') = true := by simp; omega
  clear hg ho'
  clear y0 y1 y2
  have hSZ := fun W => digits_text (szR o) W (by omega) (by omega)
  unfold Txt at hSZ 
  obtain ⟨NN, eNN⟩ : ∃ x, Lib.itoa (szR o) = x := ⟨_, rfl⟩
  have lNN := itoa_len (szR o) (by omega) (by omega)
  rw [eNN] at hSZ lNN
  have z00 : ({ data := #[] } : ByteArray) = S [] := rfl
  obtain ⟨T, hT⟩ : ∃ T : List UInt8, [] = T := ⟨_, rfl⟩
  rw [hT]
  have hfin := Lib.hid (show T = [] by exact hT.symm)
  clear hT lNN eNN
  have HX := Lib.hid hx
  clear hx
  clear ho
  unfold insV
  go_enter Tryz.func13, Tryz.ntmps13
  go_wp2_with (first
    | (go_at_call 25; refine (size_ref3 _ _).mono ?_; rintro e w' ⟨rfl, rfl⟩)
    | (go_at_call 26; refine (hSZ _).mono ?_; rintro e w1 ⟨rfl, hb1⟩; have hL : RefBox w w1 o d s f m o' d' s' f' m' := refBox_new hb1; obtain ⟨x0, x1, x2, x3, x4⟩ := hL.x; obtain ⟨u0, u1, u2, u3, u4⟩ := hL.y; have HL := Lib.hid hL; clear hb1 hL hSZ)
    | (go_at_call 27; refine (wide_ref _ _ _ _ _ _ _ _ _ _ _ hmm hmy).mono ?_; rintro e w5 ⟨rfl, hb5⟩; have HL2 := Lib.hid (HL.out.on hb5); obtain ⟨x0, x1, x2, x3, x4⟩ := HL2.out.x; obtain ⟨u0, u1, u2, u3, u4⟩ := HL2.out.y; clear hb5)
    | (go_at_call 24; refine (cond_ref _ _ h0 h1).mono ?_; rintro e w' ⟨rfl, rfl⟩))
  go_ret
  rw [hfin.out]
  exact ⟨rfl, HL2.out.below⟩
set_option maxRecDepth 100000 in
set_option maxHeartbeats 1500000 in
theorem rl_wbad2 (o d s f m o' d' s' f' m' : Int) (w : World) (hx : (⟨o, d, s, f, m⟩ : Ins).Fit) (hy : (⟨o', d', s', f', m'⟩ : Ins).Fit) (ho : o = 24) (ho' : o' = 0) (hd' : d' = 0) (hg : 0 < s') :
    Calls Tryz.prog 13 #[insV o d s f m, insV o' d' s' f' m', .bool true] w (Txt ([]) w) := by
  have h0 := hx.op.1
  have h1 := hx.op.2
  have d0 := hx.dst.1
  have d1 := hx.dst.2
  have s0 := hx.src.1
  have s1 := hx.src.2
  have f0 := hx.off.1
  have f1 := hx.off.2
  have m0 := hx.imm.1
  have m1 := hx.imm.2
  dsimp only at h0 h1 d0 d1 s0 s1 f0 f1 m0 m1
  have z9 : 0 ≤ szR o ∧ szR o ≤ 8 := szR_bd o
  have wf : IntKind.i64.wrap f = f := IntWalk.i64_in _ (by omega)
  have wm : IntKind.i64.wrap m = m := IntWalk.i64_in _ (by omega)
  have b24 : (o == 24) = true := by simp; omega
  have c84 : (o % 8 == 4) = false := by simp; omega
  have c86 : (o % 8 == 6) = false := by simp; omega
  have hmm : -2147483648 ≤ m ∧ m ≤ 2147483647 := ⟨m0, m1⟩
  have hmy : -2147483648 ≤ m' ∧ m' ≤ 2147483647 := hy.imm
  have y0 := hy.op.1
  have y1 := hy.dst.1
  have y2 := hy.src.1
  dsimp only at y0 y1 y2
  obtain ⟨v, hv⟩ : ∃ v, IntKind.i64.wrap (m % 4294967296 + m' % 4294967296 * 4294967296) = v := ⟨_, rfl⟩
  have hvb : -9223372036854775808 ≤ v ∧ v ≤ 9223372036854775807 := by rw [← hv]; exact i64_bds _
  have g0 : decide (0 < o') = false := by simp; omega
  have g1 : decide (0 < d') = false := by simp; omega
  have g2 : decide (0 < s') = true := by simp; omega
  clear hg ho' hd'
  clear y0 y1 y2
  have hSZ := fun W => digits_text (szR o) W (by omega) (by omega)
  unfold Txt at hSZ 
  obtain ⟨NN, eNN⟩ : ∃ x, Lib.itoa (szR o) = x := ⟨_, rfl⟩
  have lNN := itoa_len (szR o) (by omega) (by omega)
  rw [eNN] at hSZ lNN
  have z00 : ({ data := #[] } : ByteArray) = S [] := rfl
  obtain ⟨T, hT⟩ : ∃ T : List UInt8, [] = T := ⟨_, rfl⟩
  rw [hT]
  have hfin := Lib.hid (show T = [] by exact hT.symm)
  clear hT lNN eNN
  have HX := Lib.hid hx
  clear hx
  clear ho
  unfold insV
  go_enter Tryz.func13, Tryz.ntmps13
  go_wp2_with (first
    | (go_at_call 25; refine (size_ref3 _ _).mono ?_; rintro e w' ⟨rfl, rfl⟩)
    | (go_at_call 26; refine (hSZ _).mono ?_; rintro e w1 ⟨rfl, hb1⟩; have hL : RefBox w w1 o d s f m o' d' s' f' m' := refBox_new hb1; obtain ⟨x0, x1, x2, x3, x4⟩ := hL.x; obtain ⟨u0, u1, u2, u3, u4⟩ := hL.y; have HL := Lib.hid hL; clear hb1 hL hSZ)
    | (go_at_call 27; refine (wide_ref _ _ _ _ _ _ _ _ _ _ _ hmm hmy).mono ?_; rintro e w5 ⟨rfl, hb5⟩; have HL2 := Lib.hid (HL.out.on hb5); obtain ⟨x0, x1, x2, x3, x4⟩ := HL2.out.x; obtain ⟨u0, u1, u2, u3, u4⟩ := HL2.out.y; clear hb5)
    | (go_at_call 24; refine (cond_ref _ _ h0 h1).mono ?_; rintro e w' ⟨rfl, rfl⟩))
  go_ret
  rw [hfin.out]
  exact ⟨rfl, HL2.out.below⟩
set_option maxRecDepth 100000 in
set_option maxHeartbeats 1500000 in
theorem rl_wbad3 (o d s f m o' d' s' f' m' : Int) (w : World) (hx : (⟨o, d, s, f, m⟩ : Ins).Fit) (hy : (⟨o', d', s', f', m'⟩ : Ins).Fit) (ho : o = 24) (ho' : o' = 0) (hd' : d' = 0) (hs' : s' = 0) (hg : f' ≠ 0) :
    Calls Tryz.prog 13 #[insV o d s f m, insV o' d' s' f' m', .bool true] w (Txt ([]) w) := by
  have h0 := hx.op.1
  have h1 := hx.op.2
  have d0 := hx.dst.1
  have d1 := hx.dst.2
  have s0 := hx.src.1
  have s1 := hx.src.2
  have f0 := hx.off.1
  have f1 := hx.off.2
  have m0 := hx.imm.1
  have m1 := hx.imm.2
  dsimp only at h0 h1 d0 d1 s0 s1 f0 f1 m0 m1
  have z9 : 0 ≤ szR o ∧ szR o ≤ 8 := szR_bd o
  have wf : IntKind.i64.wrap f = f := IntWalk.i64_in _ (by omega)
  have wm : IntKind.i64.wrap m = m := IntWalk.i64_in _ (by omega)
  have b24 : (o == 24) = true := by simp; omega
  have c84 : (o % 8 == 4) = false := by simp; omega
  have c86 : (o % 8 == 6) = false := by simp; omega
  have hmm : -2147483648 ≤ m ∧ m ≤ 2147483647 := ⟨m0, m1⟩
  have hmy : -2147483648 ≤ m' ∧ m' ≤ 2147483647 := hy.imm
  have y0 := hy.op.1
  have y1 := hy.dst.1
  have y2 := hy.src.1
  dsimp only at y0 y1 y2
  obtain ⟨v, hv⟩ : ∃ v, IntKind.i64.wrap (m % 4294967296 + m' % 4294967296 * 4294967296) = v := ⟨_, rfl⟩
  have hvb : -9223372036854775808 ≤ v ∧ v ≤ 9223372036854775807 := by rw [← hv]; exact i64_bds _
  have g0 : decide (0 < o') = false := by simp; omega
  have g1 : decide (0 < d') = false := by simp; omega
  have g2 : decide (0 < s') = false := by simp; omega
  have g3 : (f' != 0) = true := by simp; omega
  clear hg ho' hd' hs'
  clear y0 y1 y2
  have hSZ := fun W => digits_text (szR o) W (by omega) (by omega)
  unfold Txt at hSZ 
  obtain ⟨NN, eNN⟩ : ∃ x, Lib.itoa (szR o) = x := ⟨_, rfl⟩
  have lNN := itoa_len (szR o) (by omega) (by omega)
  rw [eNN] at hSZ lNN
  have z00 : ({ data := #[] } : ByteArray) = S [] := rfl
  obtain ⟨T, hT⟩ : ∃ T : List UInt8, [] = T := ⟨_, rfl⟩
  rw [hT]
  have hfin := Lib.hid (show T = [] by exact hT.symm)
  clear hT lNN eNN
  have HX := Lib.hid hx
  clear hx
  clear ho
  unfold insV
  go_enter Tryz.func13, Tryz.ntmps13
  go_wp2_with (first
    | (go_at_call 25; refine (size_ref3 _ _).mono ?_; rintro e w' ⟨rfl, rfl⟩)
    | (go_at_call 26; refine (hSZ _).mono ?_; rintro e w1 ⟨rfl, hb1⟩; have hL : RefBox w w1 o d s f m o' d' s' f' m' := refBox_new hb1; obtain ⟨x0, x1, x2, x3, x4⟩ := hL.x; obtain ⟨u0, u1, u2, u3, u4⟩ := hL.y; have HL := Lib.hid hL; clear hb1 hL hSZ)
    | (go_at_call 27; refine (wide_ref _ _ _ _ _ _ _ _ _ _ _ hmm hmy).mono ?_; rintro e w5 ⟨rfl, hb5⟩; have HL2 := Lib.hid (HL.out.on hb5); obtain ⟨x0, x1, x2, x3, x4⟩ := HL2.out.x; obtain ⟨u0, u1, u2, u3, u4⟩ := HL2.out.y; clear hb5)
    | (go_at_call 24; refine (cond_ref _ _ h0 h1).mono ?_; rintro e w' ⟨rfl, rfl⟩))
  go_ret
  rw [hfin.out]
  exact ⟨rfl, HL2.out.below⟩
set_option maxRecDepth 100000 in
set_option maxHeartbeats 1500000 in
theorem rl_wneg (o d s f m o' d' s' f' m' : Int) (w : World) (hx : (⟨o, d, s, f, m⟩ : Ins).Fit) (hy : (⟨o', d', s', f', m'⟩ : Ins).Fit) (ho : o = 24) (ho' : o' = 0) (hd' : d' = 0) (hs' : s' = 0) (hf' : f' = 0) (hs : s = 1) (hn : IntKind.i64.wrap (m % 4294967296 + m' % 4294967296 * 4294967296) < 0) :
    Calls Tryz.prog 13 #[insV o d s f m, insV o' d' s' f' m', .bool true] w (Txt ([]) w) := by
  have h0 := hx.op.1
  have h1 := hx.op.2
  have d0 := hx.dst.1
  have d1 := hx.dst.2
  have s0 := hx.src.1
  have s1 := hx.src.2
  have f0 := hx.off.1
  have f1 := hx.off.2
  have m0 := hx.imm.1
  have m1 := hx.imm.2
  dsimp only at h0 h1 d0 d1 s0 s1 f0 f1 m0 m1
  have z9 : 0 ≤ szR o ∧ szR o ≤ 8 := szR_bd o
  have wf : IntKind.i64.wrap f = f := IntWalk.i64_in _ (by omega)
  have wm : IntKind.i64.wrap m = m := IntWalk.i64_in _ (by omega)
  have b24 : (o == 24) = true := by simp; omega
  have c84 : (o % 8 == 4) = false := by simp; omega
  have c86 : (o % 8 == 6) = false := by simp; omega
  have hmm : -2147483648 ≤ m ∧ m ≤ 2147483647 := ⟨m0, m1⟩
  have hmy : -2147483648 ≤ m' ∧ m' ≤ 2147483647 := hy.imm
  have y0 := hy.op.1
  have y1 := hy.dst.1
  have y2 := hy.src.1
  dsimp only at y0 y1 y2
  obtain ⟨v, hv⟩ : ∃ v, IntKind.i64.wrap (m % 4294967296 + m' % 4294967296 * 4294967296) = v := ⟨_, rfl⟩
  have hvb : -9223372036854775808 ≤ v ∧ v ≤ 9223372036854775807 := by rw [← hv]; exact i64_bds _
  have g0 : decide (0 < o') = false := by simp; omega
  have g1 : decide (0 < d') = false := by simp; omega
  have g2 : decide (0 < s') = false := by simp; omega
  have g3 : (f' != 0) = false := by simp; omega
  have b1 : (s == 1) = true := by simp; omega
  have bn : decide (v < 0) = true := by simp; omega
  clear ho' hd' hs' hf'
  clear hs hn
  clear y0 y1 y2
  have hSZ := fun W => digits_text (szR o) W (by omega) (by omega)
  unfold Txt at hSZ 
  obtain ⟨NN, eNN⟩ : ∃ x, Lib.itoa (szR o) = x := ⟨_, rfl⟩
  have lNN := itoa_len (szR o) (by omega) (by omega)
  rw [eNN] at hSZ lNN
  have z00 : ({ data := #[] } : ByteArray) = S [] := rfl
  obtain ⟨T, hT⟩ : ∃ T : List UInt8, [] = T := ⟨_, rfl⟩
  rw [hT]
  have hfin := Lib.hid (show T = [] by exact hT.symm)
  clear hT lNN eNN
  have HX := Lib.hid hx
  clear hx
  clear ho
  unfold insV
  go_enter Tryz.func13, Tryz.ntmps13
  go_wp2_with (first
    | (go_at_call 25; refine (size_ref3 _ _).mono ?_; rintro e w' ⟨rfl, rfl⟩)
    | (go_at_call 26; refine (hSZ _).mono ?_; rintro e w1 ⟨rfl, hb1⟩; have hL : RefBox w w1 o d s f m o' d' s' f' m' := refBox_new hb1; obtain ⟨x0, x1, x2, x3, x4⟩ := hL.x; obtain ⟨u0, u1, u2, u3, u4⟩ := hL.y; have HL := Lib.hid hL; clear hb1 hL hSZ)
    | (go_at_call 27; refine (wide_ref _ _ _ _ _ _ _ _ _ _ _ hmm hmy).mono ?_; rintro e w5 ⟨rfl, hb5⟩; have HL2 := Lib.hid (HL.out.on hb5); obtain ⟨x0, x1, x2, x3, x4⟩ := HL2.out.x; obtain ⟨u0, u1, u2, u3, u4⟩ := HL2.out.y; clear hb5)
    | (go_at_call 24; refine (cond_ref _ _ h0 h1).mono ?_; rintro e w' ⟨rfl, rfl⟩))
  go_ret
  rw [hfin.out]
  exact ⟨rfl, HL2.out.below⟩
set_option maxRecDepth 100000 in
set_option maxHeartbeats 1500000 in
theorem rl_wmap (o d s f m o' d' s' f' m' : Int) (w : World) (hx : (⟨o, d, s, f, m⟩ : Ins).Fit) (hy : (⟨o', d', s', f', m'⟩ : Ins).Fit) (ho : o = 24) (ho' : o' = 0) (hd' : d' = 0) (hs' : s' = 0) (hf' : f' = 0) (hs : s = 1) (hn : 0 ≤ IntKind.i64.wrap (m % 4294967296 + m' % 4294967296 * 4294967296)) :
    Calls Tryz.prog 13 #[insV o d s f m, insV o' d' s' f' m', .bool true] w (Txt (109 :: 97 :: 112 :: 32 :: (regT d ++ 44 :: 32 :: Lib.itoa (IntKind.i64.wrap (m % 4294967296 + m' % 4294967296 * 4294967296)))) w) := by
  have h0 := hx.op.1
  have h1 := hx.op.2
  have d0 := hx.dst.1
  have d1 := hx.dst.2
  have s0 := hx.src.1
  have s1 := hx.src.2
  have f0 := hx.off.1
  have f1 := hx.off.2
  have m0 := hx.imm.1
  have m1 := hx.imm.2
  dsimp only at h0 h1 d0 d1 s0 s1 f0 f1 m0 m1
  have z9 : 0 ≤ szR o ∧ szR o ≤ 8 := szR_bd o
  have wf : IntKind.i64.wrap f = f := IntWalk.i64_in _ (by omega)
  have wm : IntKind.i64.wrap m = m := IntWalk.i64_in _ (by omega)
  have b24 : (o == 24) = true := by simp; omega
  have c84 : (o % 8 == 4) = false := by simp; omega
  have c86 : (o % 8 == 6) = false := by simp; omega
  have hmm : -2147483648 ≤ m ∧ m ≤ 2147483647 := ⟨m0, m1⟩
  have hmy : -2147483648 ≤ m' ∧ m' ≤ 2147483647 := hy.imm
  have y0 := hy.op.1
  have y1 := hy.dst.1
  have y2 := hy.src.1
  dsimp only at y0 y1 y2
  obtain ⟨v, hv⟩ : ∃ v, IntKind.i64.wrap (m % 4294967296 + m' % 4294967296 * 4294967296) = v := ⟨_, rfl⟩
  have hvb : -9223372036854775808 ≤ v ∧ v ≤ 9223372036854775807 := by rw [← hv]; exact i64_bds _
  have g0 : decide (0 < o') = false := by simp; omega
  have g1 : decide (0 < d') = false := by simp; omega
  have g2 : decide (0 < s') = false := by simp; omega
  have g3 : (f' != 0) = false := by simp; omega
  have b1 : (s == 1) = true := by simp; omega
  have bn : decide (v < 0) = false := by simp; omega
  clear ho' hd' hs' hf'
  clear hs hn
  clear y0 y1 y2
  have hSZ := fun W => digits_text (szR o) W (by omega) (by omega)
  have hR := fun W => reg_ref d W d0 d1
  have hV := fun W => digits_text v W hvb.1 hvb.2
  unfold Txt at hSZ hR hV
  obtain ⟨NN, eNN⟩ : ∃ x, Lib.itoa (szR o) = x := ⟨_, rfl⟩
  have lNN := itoa_len (szR o) (by omega) (by omega)
  rw [eNN] at hSZ lNN
  obtain ⟨R, eR⟩ : ∃ x, regT d = x := ⟨_, rfl⟩
  have lR := regT_len d d0 d1
  rw [eR] at lR hR
  obtain ⟨V, eV⟩ : ∃ x, Lib.itoa v = x := ⟨_, rfl⟩
  have lV := itoa_len v (by omega) (by omega)
  rw [eV] at lV hV
  have z00 : ({ data := #[109, 97, 112, 32] } : ByteArray) = S [109, 97, 112, 32] := rfl
  have z10 : ({ data := #[44, 32] } : ByteArray) = S [44, 32] := rfl
  obtain ⟨t1, e1⟩ : ∃ t : List UInt8, [109, 97, 112, 32] ++ R = t := ⟨_, rfl⟩
  obtain ⟨k1, q1⟩ := cat_mk3 (a := [109, 97, 112, 32]) (b := R) e1 (by simp) (by omega)
  have l1 : t1.length ≤ 120 := by rw [← e1, List.length_append]; (first | omega | (simp; done) | (simp; omega))
  obtain ⟨t2, e2⟩ : ∃ t : List UInt8, t1 ++ [44, 32] = t := ⟨_, rfl⟩
  obtain ⟨k2, q2⟩ := cat_mk3 (a := t1) (b := [44, 32]) e2 (by omega) (by simp)
  have l2 : t2.length ≤ 180 := by rw [← e2, List.length_append]; (first | omega | (simp; done) | (simp; omega))
  obtain ⟨t3, e3⟩ : ∃ t : List UInt8, t2 ++ V = t := ⟨_, rfl⟩
  obtain ⟨k3, q3⟩ := cat_mk3 (a := t2) (b := V) e3 (by omega) (by omega)
  have l3 : t3.length ≤ 240 := by rw [← e3, List.length_append]; (first | omega | (simp; done) | (simp; omega))
  obtain ⟨T, hT⟩ : ∃ T : List UInt8, 109 :: 97 :: 112 :: 32 :: (regT d ++ 44 :: 32 :: Lib.itoa (IntKind.i64.wrap (m % 4294967296 + m' % 4294967296 * 4294967296))) = T := ⟨_, rfl⟩
  rw [hT]
  have hfin := Lib.hid (show T = t3 by rw [← hT]; rw [hv, eR, eV]; rw [← e3, ← e2, ← e1]; simp)
  clear hT e1 e2 e3 l1 l2 l3 lR lV lNN eR eV eNN
  have HX := Lib.hid hx
  clear hx
  clear ho
  unfold insV
  go_enter Tryz.func13, Tryz.ntmps13
  go_wp2_with (first
    | (go_at_call 25; refine (size_ref3 _ _).mono ?_; rintro e w' ⟨rfl, rfl⟩)
    | (go_at_call 26; refine (hSZ _).mono ?_; rintro e w1 ⟨rfl, hb1⟩; have hL : RefBox w w1 o d s f m o' d' s' f' m' := refBox_new hb1; obtain ⟨x0, x1, x2, x3, x4⟩ := hL.x; obtain ⟨u0, u1, u2, u3, u4⟩ := hL.y; have HL := Lib.hid hL; clear hb1 hL hSZ)
    | (go_at_call 28; refine (hR _).mono ?_; rintro e w2 ⟨rfl, hb2⟩; have HL3 := Lib.hid (HL2.out.on hb2); obtain ⟨c0, c1, c2, c3, c4⟩ := HL3.out.x; clear hb2)
    | (go_at_call 26; refine (hV _).mono ?_; rintro e w4 ⟨rfl, hb4⟩; have HL4 := Lib.hid (HL3.out.on hb4); clear hb4)
    | (go_at_call 27; refine (wide_ref _ _ _ _ _ _ _ _ _ _ _ hmm hmy).mono ?_; rintro e w5 ⟨rfl, hb5⟩; have HL2 := Lib.hid (HL.out.on hb5); obtain ⟨x0, x1, x2, x3, x4⟩ := HL2.out.x; obtain ⟨u0, u1, u2, u3, u4⟩ := HL2.out.y; clear hb5)
    | (go_at_call 24; refine (cond_ref _ _ h0 h1).mono ?_; rintro e w' ⟨rfl, rfl⟩))
  go_ret
  rw [hfin.out]
  exact ⟨rfl, HL4.out.below⟩
set_option maxRecDepth 100000 in
set_option maxHeartbeats 1500000 in
theorem rl_wnum (o d s f m o' d' s' f' m' : Int) (w : World) (hx : (⟨o, d, s, f, m⟩ : Ins).Fit) (hy : (⟨o', d', s', f', m'⟩ : Ins).Fit) (ho : o = 24) (ho' : o' = 0) (hd' : d' = 0) (hs' : s' = 0) (hf' : f' = 0) (hs : s ≠ 1) :
    Calls Tryz.prog 13 #[insV o d s f m, insV o' d' s' f' m', .bool true] w (Txt (108 :: 100 :: 100 :: 119 :: 32 :: (regT d ++ 44 :: 32 :: Lib.itoa (IntKind.i64.wrap (m % 4294967296 + m' % 4294967296 * 4294967296)))) w) := by
  have h0 := hx.op.1
  have h1 := hx.op.2
  have d0 := hx.dst.1
  have d1 := hx.dst.2
  have s0 := hx.src.1
  have s1 := hx.src.2
  have f0 := hx.off.1
  have f1 := hx.off.2
  have m0 := hx.imm.1
  have m1 := hx.imm.2
  dsimp only at h0 h1 d0 d1 s0 s1 f0 f1 m0 m1
  have z9 : 0 ≤ szR o ∧ szR o ≤ 8 := szR_bd o
  have wf : IntKind.i64.wrap f = f := IntWalk.i64_in _ (by omega)
  have wm : IntKind.i64.wrap m = m := IntWalk.i64_in _ (by omega)
  have b24 : (o == 24) = true := by simp; omega
  have c84 : (o % 8 == 4) = false := by simp; omega
  have c86 : (o % 8 == 6) = false := by simp; omega
  have hmm : -2147483648 ≤ m ∧ m ≤ 2147483647 := ⟨m0, m1⟩
  have hmy : -2147483648 ≤ m' ∧ m' ≤ 2147483647 := hy.imm
  have y0 := hy.op.1
  have y1 := hy.dst.1
  have y2 := hy.src.1
  dsimp only at y0 y1 y2
  obtain ⟨v, hv⟩ : ∃ v, IntKind.i64.wrap (m % 4294967296 + m' % 4294967296 * 4294967296) = v := ⟨_, rfl⟩
  have hvb : -9223372036854775808 ≤ v ∧ v ≤ 9223372036854775807 := by rw [← hv]; exact i64_bds _
  have g0 : decide (0 < o') = false := by simp; omega
  have g1 : decide (0 < d') = false := by simp; omega
  have g2 : decide (0 < s') = false := by simp; omega
  have g3 : (f' != 0) = false := by simp; omega
  have b1 : (s == 1) = false := by simp; omega
  clear ho' hd' hs' hf'
  clear hs
  clear y0 y1 y2
  have hSZ := fun W => digits_text (szR o) W (by omega) (by omega)
  have hR := fun W => reg_ref d W d0 d1
  have hV := fun W => digits_text v W hvb.1 hvb.2
  unfold Txt at hSZ hR hV
  obtain ⟨NN, eNN⟩ : ∃ x, Lib.itoa (szR o) = x := ⟨_, rfl⟩
  have lNN := itoa_len (szR o) (by omega) (by omega)
  rw [eNN] at hSZ lNN
  obtain ⟨R, eR⟩ : ∃ x, regT d = x := ⟨_, rfl⟩
  have lR := regT_len d d0 d1
  rw [eR] at lR hR
  obtain ⟨V, eV⟩ : ∃ x, Lib.itoa v = x := ⟨_, rfl⟩
  have lV := itoa_len v (by omega) (by omega)
  rw [eV] at lV hV
  have z00 : ({ data := #[108, 100, 100, 119, 32] } : ByteArray) = S [108, 100, 100, 119, 32] := rfl
  have z10 : ({ data := #[44, 32] } : ByteArray) = S [44, 32] := rfl
  obtain ⟨t1, e1⟩ : ∃ t : List UInt8, [108, 100, 100, 119, 32] ++ R = t := ⟨_, rfl⟩
  obtain ⟨k1, q1⟩ := cat_mk3 (a := [108, 100, 100, 119, 32]) (b := R) e1 (by simp) (by omega)
  have l1 : t1.length ≤ 120 := by rw [← e1, List.length_append]; (first | omega | (simp; done) | (simp; omega))
  obtain ⟨t2, e2⟩ : ∃ t : List UInt8, t1 ++ [44, 32] = t := ⟨_, rfl⟩
  obtain ⟨k2, q2⟩ := cat_mk3 (a := t1) (b := [44, 32]) e2 (by omega) (by simp)
  have l2 : t2.length ≤ 180 := by rw [← e2, List.length_append]; (first | omega | (simp; done) | (simp; omega))
  obtain ⟨t3, e3⟩ : ∃ t : List UInt8, t2 ++ V = t := ⟨_, rfl⟩
  obtain ⟨k3, q3⟩ := cat_mk3 (a := t2) (b := V) e3 (by omega) (by omega)
  have l3 : t3.length ≤ 240 := by rw [← e3, List.length_append]; (first | omega | (simp; done) | (simp; omega))
  obtain ⟨T, hT⟩ : ∃ T : List UInt8, 108 :: 100 :: 100 :: 119 :: 32 :: (regT d ++ 44 :: 32 :: Lib.itoa (IntKind.i64.wrap (m % 4294967296 + m' % 4294967296 * 4294967296))) = T := ⟨_, rfl⟩
  rw [hT]
  have hfin := Lib.hid (show T = t3 by rw [← hT]; rw [hv, eR, eV]; rw [← e3, ← e2, ← e1]; simp)
  clear hT e1 e2 e3 l1 l2 l3 lR lV lNN eR eV eNN
  have HX := Lib.hid hx
  clear hx
  clear ho
  unfold insV
  go_enter Tryz.func13, Tryz.ntmps13
  go_wp2_with (first
    | (go_at_call 25; refine (size_ref3 _ _).mono ?_; rintro e w' ⟨rfl, rfl⟩)
    | (go_at_call 26; refine (hSZ _).mono ?_; rintro e w1 ⟨rfl, hb1⟩; have hL : RefBox w w1 o d s f m o' d' s' f' m' := refBox_new hb1; obtain ⟨x0, x1, x2, x3, x4⟩ := hL.x; obtain ⟨u0, u1, u2, u3, u4⟩ := hL.y; have HL := Lib.hid hL; clear hb1 hL hSZ)
    | (go_at_call 28; refine (hR _).mono ?_; rintro e w2 ⟨rfl, hb2⟩; have HL3 := Lib.hid (HL2.out.on hb2); obtain ⟨c0, c1, c2, c3, c4⟩ := HL3.out.x; clear hb2)
    | (go_at_call 26; refine (hV _).mono ?_; rintro e w4 ⟨rfl, hb4⟩; have HL4 := Lib.hid (HL3.out.on hb4); clear hb4)
    | (go_at_call 27; refine (wide_ref _ _ _ _ _ _ _ _ _ _ _ hmm hmy).mono ?_; rintro e w5 ⟨rfl, hb5⟩; have HL2 := Lib.hid (HL.out.on hb5); obtain ⟨x0, x1, x2, x3, x4⟩ := HL2.out.x; obtain ⟨u0, u1, u2, u3, u4⟩ := HL2.out.y; clear hb5)
    | (go_at_call 24; refine (cond_ref _ _ h0 h1).mono ?_; rintro e w' ⟨rfl, rfl⟩))
  go_ret
  rw [hfin.out]
  exact ⟨rfl, HL4.out.below⟩
end Go.Proofs.YthmibmofdmlgaaaGreatDoor
