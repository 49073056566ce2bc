import Derived.Test.YthmibmofdmlgaaaGreatDoorHReadLine
/-
  Proved here: read of package asm gives the line whose word has no parts. Conditions: the map has the word; the instruction is right; the library's variable.
-/
namespace Go.Proofs.YthmibmofdmlgaaaGreatDoor
open Go.RowKit
set_option linter.unusedVariables false

set_option maxRecDepth 100000 in
theorem read_none (o : Int) (t : List UInt8) (W : World) (b cap : Nat) (A : Option Addr) (o0 : 0 ≤ o) (o1 : o ≤ 255) (hr : rightI ⟨o, 0, 0, 0, 0⟩ = true) (h32 : 32 ∉ t) (htl : t.length ≤ 1000)
    (hlook : ∀ W', Below W.heap.size W W' → (Instr.lookup 67 (.map (some b)) (.string (S t)) true).run Tryz.prog W' = .ok (.tuple #[startV o 0 A 0 cap, .bool true]) W') (he : Env W) :
    Calls Tryz.prog 35 #[.map (some b), .string (S t)] W fun e w' => e = .returned (.agg #[.int .u8 o, .int .u8 0, .int .u8 0, .int .i16 0, .int .i32 0, .int .i64 0]) ∧ Below W.heap.size W w' := by
  have hb0 := below_box W (.cells #[.int .u8 0, .int .u8 0, .int .u8 0, .int .i16 0, .int .i32 0, .int .i64 0] 72)
  have hc := cut_line ⟨o, 0, 0, 0, 0⟩ 0 (t, [], false) h32 (W.alloc (.cells #[.int .u8 0, .int .u8 0, .int .u8 0, .int .i16 0, .int .i32 0, .int .i64 0] 72)) (he.on hb0) (by simpa [lineT] using htl)
  have e1 : lineT ⟨o, 0, 0, 0, 0⟩ 0 (t, [], false) = t := by simp [lineT]
  obtain ⟨R, hR⟩ : ∃ R, restT ⟨o, 0, 0, 0, 0⟩ 0 (t, [], false) = R := ⟨_, rfl⟩
  rw [e1, hR] at hc
  simp only [List.isEmpty_nil, Bool.not_true] at hc
  have z0 : ({ data := #[32] } : ByteArray) = S [32] := rfl
  unfold startV at hlook
  have hright := fun W' => right_isa o 0 0 0 0 W' o0 o1
  rw [hr] at hright
  unfold insV at hright
  clear e1 he hR
  go_enter Tryz.func35, Tryz.ntmps35
  go_wp2_with (first
    | (go_at_call 51; refine hc.mono ?_; rintro e w1 ⟨rfl, n, hw1⟩; have hb1 : Below (W.alloc (.cells #[.int .u8 0, .int .u8 0, .int .u8 0, .int .i16 0, .int .i32 0, .int .i64 0] 72)).heap.size (W.alloc (.cells #[.int .u8 0, .int .u8 0, .int .u8 0, .int .i16 0, .int .i32 0, .int .i64 0] 72)) w1 := (by rw [hw1]; exact below_drews (Below.refl _ _) n); have f0 := box_free hb1 0; have f1 := box_free hb1 1; have f2 := box_free hb1 2; have f3 := box_free hb1 3; have f4 := box_free hb1 4; have f5 := box_free hb1 5; have hL0 := (line_box W W (Below.refl _ _) 0 0 0 0 0 0).on hb1; obtain ⟨x0, x1, x2, x3, x4, x5, _⟩ := id hL0; have hrun := hlook w1 (hb0.trans (hb1.mono hb0.size)); have HB1 := Lib.hid hb1; clear hw1 hb1 hL0)
    | (go_at_call 43; refine (must_yes _).mono ?_; rintro e w3 ⟨rfl, rfl⟩))
  obtain ⟨hbox, hlow⟩ := two_new W w1 o 0 (.slice A 0 cap) (hb0.trans (HB1.out.mono hb0.size))
  obtain ⟨W2, hW2⟩ : ∃ W2, ((w1.alloc (.cells #[.int .u8 o, .int .u8 0, .int .u8 0, .int .i16 0, .int .i32 0, .slice A 0 cap] 91)).alloc (.cells #[.int .u8 o, .int .u8 0, .int .u8 0, .int .i16 0, .int .i32 0, .int .i64 0] 72)) = W2 := ⟨_, rfl⟩
  rw [hW2] at hbox hlow ⊢
  have hsz0 : (W.alloc (.cells #[.int .u8 0, .int .u8 0, .int .u8 0, .int .i16 0, .int .i32 0, .int .i64 0] 72)).heap.size = W.heap.size + 1 := by simp
  have hsz1 : W.heap.size + 1 ≤ w1.heap.size := by rw [← hsz0]; exact HB1.out.size
  have hW3 := Lib.hid ((hb0.trans (HB1.out.mono hb0.size)).trans (hlow.mono (show W.heap.size ≤ w1.heap.size by omega)))
  have hk : W.heap.size < W2.heap.size := by have := hlow.size; omega
  have HK3 := Lib.hid hk
  have m0 := (hlow.cell (p := ⟨W.heap.size, 0, none⟩) (show W.heap.size < w1.heap.size by omega)).trans x0
  have m1 := (hlow.cell (p := ⟨W.heap.size, 1, none⟩) (show W.heap.size < w1.heap.size by omega)).trans x1
  have m2 := (hlow.cell (p := ⟨W.heap.size, 2, none⟩) (show W.heap.size < w1.heap.size by omega)).trans x2
  have m3 := (hlow.cell (p := ⟨W.heap.size, 3, none⟩) (show W.heap.size < w1.heap.size by omega)).trans x3
  have m4 := (hlow.cell (p := ⟨W.heap.size, 4, none⟩) (show W.heap.size < w1.heap.size by omega)).trans x4
  have m5 := (hlow.cell (p := ⟨W.heap.size, 5, none⟩) (show W.heap.size < w1.heap.size by omega)).trans x5
  have n0 := (hlow.frozen (p := ⟨W.heap.size, 0, none⟩) (show W.heap.size < w1.heap.size by omega)).trans f0
  have n1 := (hlow.frozen (p := ⟨W.heap.size, 1, none⟩) (show W.heap.size < w1.heap.size by omega)).trans f1
  have n2 := (hlow.frozen (p := ⟨W.heap.size, 2, none⟩) (show W.heap.size < w1.heap.size by omega)).trans f2
  have n3 := (hlow.frozen (p := ⟨W.heap.size, 3, none⟩) (show W.heap.size < w1.heap.size by omega)).trans f3
  have n4 := (hlow.frozen (p := ⟨W.heap.size, 4, none⟩) (show W.heap.size < w1.heap.size by omega)).trans f4
  have n5 := (hlow.frozen (p := ⟨W.heap.size, 5, none⟩) (show W.heap.size < w1.heap.size by omega)).trans f5
  obtain ⟨c0, c1, c2, c3, c4, c5, _, _, _, _, _⟩ := id hbox
  clear x0 x1 x2 x3 x4 x5 f0 f1 f2 f3 f4 f5 hbox hlow hb0 hk hsz0 hsz1 hlook hc hrun HB1 hW2 htl h32
  go_wp2_with (first
    | (go_at_call 41; refine (hright _).mono ?_; rintro e w3 ⟨rfl, hb3⟩; have r0 := stays hb3 m0; have r1 := stays hb3 m1; have r2 := stays hb3 m2; have r3 := stays hb3 m3; have r4 := stays hb3 m4; have r5 := stays hb3 m5; have k0 := stays hb3 c0; have k1 := stays hb3 c1; have k2 := stays hb3 c2; have k3 := stays hb3 c3; have k4 := stays hb3 c4; have k5 := stays hb3 c5; have t0 := free_on n0 HK3.out hb3; have t1 := free_on n1 HK3.out hb3; have t2 := free_on n2 HK3.out hb3; have t3 := free_on n3 HK3.out hb3; have t4 := free_on n4 HK3.out hb3; have t5 := free_on n5 HK3.out hb3; have HW4 := Lib.hid (hW3.out.trans (hb3.mono hW3.out.size)); clear hb3 hright m0 m1 m2 m3 m4 m5 c0 c1 c2 c3 c4 c5 n0 n1 n2 n3 n4 n5)
    | (go_at_call 43; refine (must_yes _).mono ?_; rintro e w4 ⟨rfl, rfl⟩))
  refine bodyPost_ret (v := .agg #[.int .u8 o, .int .u8 0, .int .u8 0, .int .i16 0, .int .i32 0, .int .i64 0]) (by simp [results, Tryz.results35, go_sem, r0, r1, r2, r3, r4, r5]) rfl ⟨rfl, ?_⟩
  exact (((((HW4.out.setCell (Nat.le_refl _) _).setCell (Nat.le_refl _) _).setCell (Nat.le_refl _) _).setCell (Nat.le_refl _) _).setCell (Nat.le_refl _) _).setCell (Nat.le_refl _) _
end Go.Proofs.YthmibmofdmlgaaaGreatDoor

/-
  Proved here: read of package asm gives the line that a plain instruction's text stands for. Conditions: the map has the words; the instruction is right and has a text; the library's table.
-/
namespace Go.Proofs.YthmibmofdmlgaaaGreatDoor
open Go.RowKit
set_option linter.unusedVariables false

theorem grown_of {w w' : World} (hb : Below w.heap.size w w') : w.grownBy w' none := ⟨hb.os, hb.tape, hb.output, hb.size, fun k hk _ => hb.block k hk⟩
theorem read_plain (x : Ins) (W : World) (b n : Nat) (hS : StartsIn W b n) (he : Env W) (hx : x.Fit) (hr : rightI x = true) (h24 : x.op ≠ 24) (hB : lineB x x.imm (wordI x) = true) :
    Calls Tryz.prog 35 #[.map (some b), .string (S (lineT x x.imm (wordI x)))] W fun e w' => e = .returned (.agg #[.int .u8 x.op, .int .u8 x.dst, .int .u8 x.src, .int .i16 x.off, .int .i32 0, .int .i64 x.imm]) ∧ Below W.heap.size W w' := by
  obtain ⟨t, ps, reg, hw, hbw, b0, b1, hd, hs, hF, hop⟩ := read_all x hx hr h24
  have hpl := (word_plain x hx hr).1
  have m0 := hx.imm
  have hlen := lineT_len (x := x) (n := x.imm) hx (by omega) (by omega)
  have hsm := word_small hx
  have hbase : baseI x = ⟨baseOp x.op, 0, 0, 0, 0⟩ := by unfold baseI; rw [if_neg (fun h => h24 h.1)]
  rw [hw] at hB hpl hlen hsm ⊢
  rw [hbase] at hF hop
  unfold wdB at hsm
  unfold lineB at hB
  simp only [Bool.and_eq_true, decide_eq_true_eq, List.all_eq_true] at hsm hB
  obtain ⟨⟨h3, h06⟩, htl⟩ := hsm
  obtain ⟨D, hown, _, hall, _⟩ := hS.own
  obtain ⟨A, cap, hp, hh, hv⟩ := hall (baseOp x.op) t ps b0 b1 hbw
  have hlook : ∀ W', Below W.heap.size W W' → (Instr.lookup 67 (.map (some b)) (.string (S t)) true).run Tryz.prog W' = .ok (.tuple #[startV (baseOp x.op) 0 A ps.length cap, .bool true]) W' :=
    fun W' hb => look_at (hown.kept (grown_of hb) (by simp)) (by omega) hh hv
  cases hps : ps with
  | nil =>
    rw [hps] at hF hlook hlen
    have e1 : lineT x x.imm (t, [], reg) = t := by simp [lineT]
    rw [e1]
    simp only [foldL, List.length_nil, List.take_nil, List.foldl_nil, Prod.mk.injEq, Ins.mk.injEq] at hF
    obtain ⟨⟨g0, g1, g2, g3, _⟩, g4⟩ := hF
    rw [g0] at hlook
    rw [← g1, ← g2, ← g3, ← g4]
    have hz := right_zero x hr
    rw [← g1, ← g2, ← g3] at hz
    exact read_none x.op t W b cap A hx.op.1 hx.op.2 hz hpl (by omega) hlook he
  | cons p r =>
    have hne : 0 < ps.length := by rw [hps]; simp
    rw [← hps]
    rcases hp with ⟨h, _⟩ | hp
    · rw [hps] at h; cases h
    · obtain ⟨pg, po, cs, fz, rfl, hp1, hp2⟩ := hp
      refine read_some x x.imm t ps reg (baseOp x.op) 0 W b ps.length cap pg po hx hr rfl hne h3 hpl (by omega) (by omega) hlook (.inr ⟨pg, po, cs, fz, rfl, hp1, hp2⟩) he hd hs h06 hB ?_ hF
      intro k
      have := hop k
      unfold bitsN FitB
      rw [if_neg this]
      omega
end Go.Proofs.YthmibmofdmlgaaaGreatDoor

/-
  Proved here: read of package asm gives the line that a wide instruction's text stands for. Conditions: the map has the words; the instruction is right and has a text; the library's table.
-/
namespace Go.Proofs.YthmibmofdmlgaaaGreatDoor
open Go.RowKit
set_option linter.unusedVariables false

theorem read_wide_line (x : Ins) (N : Int) (W : World) (b n : Nat) (hS : StartsIn W b n) (he : Env W) (hx : x.Fit) (hr : rightI x = true) (h24 : x.op = 24) (n0 : -9223372036854775808 ≤ N) (n1 : N ≤ 9223372036854775807) (hB : lineB x N (wordI x) = true) :
    Calls Tryz.prog 35 #[.map (some b), .string (S (lineT x N (wordI x)))] W fun e w' => e = .returned (.agg #[.int .u8 24, .int .u8 x.dst, .int .u8 x.src, .int .i16 0, .int .i32 0, .int .i64 N]) ∧ Below W.heap.size W w' := by
  obtain ⟨h9, hs1, hoff⟩ := right24 x hx hr h24
  obtain ⟨hF, hop⟩ := read_wide x N hx hr h24
  have hpl := (word_plain x hx hr).1
  have hlen := lineT_len (x := x) (n := N) hx n0 n1
  have hsm := word_small hx
  have hw := word_wide x h24
  obtain ⟨t, ht⟩ : ∃ t, (if x.src = 1 then ([109, 97, 112] : List UInt8) else [108, 100, 100, 119]) = t := ⟨_, rfl⟩
  rw [ht] at hw
  rw [hw] at hB hpl hlen hsm ⊢
  unfold wdB at hsm
  unfold lineB at hB
  simp only [Bool.and_eq_true, decide_eq_true_eq, List.all_eq_true] at hsm hB
  obtain ⟨⟨h3, h06⟩, htl⟩ := hsm
  have hl2 : (wideP x).length = 2 := by unfold wideP; split <;> rfl
  obtain ⟨D, hown, _, hall, A1, cap1, hp1, hh1, hv1⟩ := hS.own
  have key : ∃ A cap, PartsAt W A (wideP x) ∧ (∀ W', Below W.heap.size W W' → (Instr.lookup 67 (.map (some b)) (.string (S t)) true).run Tryz.prog W' = .ok (.tuple #[startV 24 (baseI x).src A 2 cap, .bool true]) W') := by
    by_cases h1 : x.src = 1
    · have e1 : baseI x = ⟨24, 0, 1, 0, 0⟩ := by unfold baseI; rw [if_pos ⟨h24, h1⟩]
      have e2 : wideP x = [0, 3] := by unfold wideP; rw [if_pos h1]
      rw [if_pos h1] at ht
      rw [e1, e2, ← ht]
      exact ⟨A1, cap1, hp1, fun W' hb => look_at (hown.kept (grown_of hb) (by simp)) (by simp) hh1 hv1⟩
    · have e1 : baseI x = ⟨24, 0, 0, 0, 0⟩ := by unfold baseI; rw [if_neg (fun h => h1 h.2), h24, base24]
      have e2 : wideP x = [0, 2] := by unfold wideP; rw [if_neg h1]
      rw [if_neg h1] at ht
      rw [e1, e2, ← ht]
      obtain ⟨A, cap, hp, hh, hv⟩ := hall 24 _ _ (by omega) (by omega) wd24
      exact ⟨A, cap, hp, fun W' hb => look_at (hown.kept (grown_of hb) (by simp)) (by simp) hh hv⟩
  obtain ⟨A, cap, hp, hlook⟩ := key
  have hbi : baseI x = ⟨24, 0, (baseI x).src, 0, 0⟩ := by
    by_cases h1 : x.src = 1
    · unfold baseI; rw [if_pos ⟨h24, h1⟩]
    · unfold baseI; rw [if_neg (fun h => h1 h.2), h24, base24]
  rw [hbi] at hF hop
  rcases hp with ⟨h, _⟩ | hp
  · rw [h] at hl2; cases hl2
  · obtain ⟨pg, po, cs, fz, rfl, hq1, hq2⟩ := hp
    have h := read_some x N t (wideP x) false 24 (baseI x).src W b 2 cap pg po hx hr hl2 (by omega) (by omega) hpl (by omega) (by omega) hlook (.inr ⟨pg, po, cs, fz, rfl, hq1, hq2⟩) he (by omega) (by omega) h06 hB (by
      intro k
      unfold bitsN FitB
      rw [if_pos (hop k)]
      omega) (by rw [hF, h24, hoff])
    rw [h24, hoff] at h
    exact h
end Go.Proofs.YthmibmofdmlgaaaGreatDoor
