import Derived.Test.YthmibmofdmlgaaaGreatDoorG11
/-
  Proved here: read of package asm gives the line whose text it is given. Conditions: the map has the words; the instruction is right; the library's table.
-/
namespace Go.Proofs.YthmibmofdmlgaaaGreatDoor
open Go.RowKit
set_option linter.unusedVariables false

theorem right_zero (x : Ins) (hr : rightI x = true) : rightI ⟨x.op, x.dst, x.src, x.off, 0⟩ = true := by
  unfold rightI fitB at hr ⊢
  simp only [Bool.and_eq_true] at hr ⊢
  exact ⟨hr.1, by simp⟩
theorem two_new (W w1 : World) (o s : Int) (v : Value) (h0 : Below W.heap.size W w1) :
    LineF ((w1.alloc (.cells #[.int .u8 o, .int .u8 0, .int .u8 s, .int .i16 0, .int .i32 0, v] 91)).alloc (.cells #[.int .u8 o, .int .u8 0, .int .u8 s, .int .i16 0, .int .i32 0, .int .i64 0] 72)) (w1.heap.size + 1) o 0 s 0 0 0 ∧
    Below w1.heap.size w1 ((w1.alloc (.cells #[.int .u8 o, .int .u8 0, .int .u8 s, .int .i16 0, .int .i32 0, v] 91)).alloc (.cells #[.int .u8 o, .int .u8 0, .int .u8 s, .int .i16 0, .int .i32 0, .int .i64 0] 72)) := by
  have e1 : (w1.alloc (.cells #[.int .u8 o, .int .u8 0, .int .u8 s, .int .i16 0, .int .i32 0, v] 91)).heap.size = w1.heap.size + 1 := by simp
  obtain ⟨W9, hW9⟩ : ∃ W9, w1.alloc (.cells #[.int .u8 o, .int .u8 0, .int .u8 s, .int .i16 0, .int .i32 0, v] 91) = W9 := ⟨_, rfl⟩
  have hb : Below w1.heap.size w1 W9 := by rw [← hW9]; exact below_box w1 _
  rw [hW9] at e1 ⊢
  obtain ⟨c0, c1, c2, c3, c4, c5, _⟩ := line_box W9 W9 (Below.refl _ _) o 0 s 0 0 0
  have hz := fun k => box_free (w := W9) (o := o) (d := 0) (s := s) (f := 0) (m := 0) (n := 0) (Below.refl _ _) k
  rw [e1] at c0 c1 c2 c3 c4 c5 hz
  exact ⟨⟨c0, c1, c2, c3, c4, c5, hz 0, hz 1, hz 2, hz 3, hz 5⟩, hb.trans ((below_box W9 _).mono hb.size)⟩
theorem But.free {b : Nat} {w w' : World} (h : But b w w') {p : Addr} (hp : p.block < w.heap.size) (hb : p.block ≠ b) : w'.frozen? p = w.frozen? p := World.frozen?_of_block (h.block _ hp hb)
set_option maxRecDepth 100000 in
theorem read_some (x : Ins) (N : Int) (t : List UInt8) (ps : List Int) (reg : Bool) (o0 s0 : Int) (W : World) (b len cap pg po : Nat) (hx : x.Fit) (hr : rightI x = true) (hl : ps.length = len) (h0 : 0 < len) (h3 : len ≤ 3) (h32 : 32 ∉ t) (hll : (lineT x N (t, ps, reg)).length ≤ 1000) (htl : t.length ≤ 1000)
    (hlook : ∀ W', Below W.heap.size W W' → (Instr.lookup 67 (.map (some b)) (.string (S t)) true).run Tryz.prog W' = .ok (.tuple #[startV o0 s0 (some ⟨pg, po, none⟩) len cap, .bool true]) W')
    (hp : PartsAt W (some ⟨pg, po, none⟩) ps) (he : Env W) (hd : x.dst ≤ 10) (hs : x.src ≤ 10) (hps : ∀ p ∈ ps, 0 ≤ p ∧ p ≤ 6) (hB : ∀ p ∈ ps, partB x N p = true)
    (hN : ∀ k, FitB (bitsN (foldL x N reg ps k (⟨o0, 0, s0, 0, 0⟩, 0)).1.op) N) (hF : foldL x N reg ps len (⟨o0, 0, s0, 0, 0⟩, 0) = (⟨x.op, x.dst, x.src, x.off, 0⟩, N)) :
    Calls Tryz.prog 35 #[.map (some b), .string (S (lineT x N (t, ps, reg)))] W fun e w' => e = .returned (.agg #[.int .u8 x.op, .int .u8 x.dst, .int .u8 x.src, .int .i16 x.off, .int .i32 0, .int .i64 N]) ∧ Below W.heap.size W w' := by
  have hb0 := below_box W (.cells #[.int .u8 0, .int .u8 0, .int .u8 0, .int .i16 0, .int .i32 0, .int .i64 0] 72)
  have hc := cut_line x N (t, ps, reg) h32 (W.alloc (.cells #[.int .u8 0, .int .u8 0, .int .u8 0, .int .i16 0, .int .i32 0, .int .i64 0] 72)) (he.on hb0) hll
  have hne : ps.isEmpty = false := by cases ps with | nil => simp at hl; omega | cons _ _ => rfl
  dsimp only at hc
  rw [hne] at hc
  obtain ⟨T, hT⟩ : ∃ T, lineT x N (t, ps, reg) = T := ⟨_, rfl⟩
  obtain ⟨R, hR⟩ : ∃ R, restT x N (t, ps, reg) = R := ⟨_, rfl⟩
  rw [hT, hR] at hc
  rw [hT]
  have z0 : ({ data := #[32] } : ByteArray) = S [32] := rfl
  have hd0 : decide (0 < (len : Int)) = true := by simp; omega
  unfold startV at hlook
  have HE := Lib.hid he
  have HN := Lib.hid hN
  have HF := Lib.hid hF
  have HP := Lib.hid hp
  have HB := Lib.hid hB
  have HPS := Lib.hid hps
  clear he hN hF hp hB hps
  go_enter Tryz.func35, Tryz.ntmps35
  go_wp2_with (first
    | (go_at_call 51; refine hc.mono ?_; rintro e w1 ⟨rfl, n, hw1⟩; have hb1 : Below (W.alloc (.cells #[.int .u8 0, .int .u8 0, .int .u8 0, .int .i16 0, .int .i32 0, .int .i64 0] 72)).heap.size (W.alloc (.cells #[.int .u8 0, .int .u8 0, .int .u8 0, .int .i16 0, .int .i32 0, .int .i64 0] 72)) w1 := (by rw [hw1]; exact below_drews (Below.refl _ _) n); have f0 := box_free hb1 0; have f1 := box_free hb1 1; have f2 := box_free hb1 2; have f3 := box_free hb1 3; have f4 := box_free hb1 4; have f5 := box_free hb1 5; have hL0 := (line_box W W (Below.refl _ _) 0 0 0 0 0 0).on hb1; obtain ⟨x0, x1, x2, x3, x4, x5, _⟩ := id hL0; have HL0 := Lib.hid hL0; have hrun := hlook w1 (hb0.trans (hb1.mono hb0.size)); have HB1 := Lib.hid hb1; clear hw1 hb1 hL0)
    | (go_at_call 43; refine (must_yes _).mono ?_; rintro e w3 ⟨rfl, rfl⟩))
  obtain ⟨hbox, hlow⟩ := two_new W w1 o0 s0 (.slice (some ⟨pg, po, none⟩) len cap) (hb0.trans (HB1.out.mono hb0.size))
  obtain ⟨W2, hW2⟩ : ∃ W2, ((w1.alloc (.cells #[.int .u8 o0, .int .u8 0, .int .u8 s0, .int .i16 0, .int .i32 0, .slice (some ⟨pg, po, none⟩) len cap] 91)).alloc (.cells #[.int .u8 o0, .int .u8 0, .int .u8 s0, .int .i16 0, .int .i32 0, .int .i64 0] 72)) = W2 := ⟨_, rfl⟩
  rw [hW2] at hbox hlow ⊢
  have hsz0 : (W.alloc (.cells #[.int .u8 0, .int .u8 0, .int .u8 0, .int .i16 0, .int .i32 0, .int .i64 0] 72)).heap.size = W.heap.size + 1 := by simp
  have hsz1 : W.heap.size + 1 ≤ w1.heap.size := by rw [← hsz0]; exact HB1.out.size
  have hW12 : Below W.heap.size W W2 := (hb0.trans (HB1.out.mono hb0.size)).trans (hlow.mono (by omega))
  have hrp := read_parts W W2 (w1.heap.size + 1) x N reg ps len cap pg po (⟨o0, 0, s0, 0, 0⟩, 0) hl h0 h3 hbox (HP.out.on hW12) (by have := HP.out.lt; omega) hx hd hs HPS.out HN.out HB.out HE.out hW12 (by omega) (by
    have : (restT x N (t, ps, reg)).length ≤ (lineT x N (t, ps, reg)).length := by
      unfold restT lineT
      dsimp only
      rw [if_neg (by intro e; rw [e] at hl; simp at hl; omega)]
      simp
      omega
    exact Nat.le_trans this hll)
  have hjoin : Lib.join (ps.map (partT x N reg)) [44, 32] = R := hR
  rw [hjoin, HF.out] at hrp
  have HH : ∀ e w', ReadsI W2 (w1.heap.size + 1) (⟨x.op, x.dst, x.src, x.off, 0⟩, N) e w' → e = .returned (.tuple #[]) ∧ Hid (LineF w' (w1.heap.size + 1) x.op x.dst x.src x.off 0 N ∧ But (w1.heap.size + 1) W2 w') := fun e w' h => ⟨h.1, h.2⟩
  have hright := fun W' => right_isa x.op x.dst x.src x.off 0 W' hx.op.1 hx.op.2
  rw [right_zero x hr] at hright
  unfold insV at hright
  have hk : W.heap.size < W2.heap.size := by have := hlow.size; omega
  have hk2 : W.heap.size ≠ w1.heap.size + 1 := by omega
  have g0 := (hlow.cell (p := ⟨W.heap.size, 0, none⟩) (show W.heap.size < w1.heap.size by omega)).trans x0
  have g1 := (hlow.cell (p := ⟨W.heap.size, 1, none⟩) (show W.heap.size < w1.heap.size by omega)).trans x1
  have g2 := (hlow.cell (p := ⟨W.heap.size, 2, none⟩) (show W.heap.size < w1.heap.size by omega)).trans x2
  have g3 := (hlow.cell (p := ⟨W.heap.size, 3, none⟩) (show W.heap.size < w1.heap.size by omega)).trans x3
  have g4 := (hlow.cell (p := ⟨W.heap.size, 4, none⟩) (show W.heap.size < w1.heap.size by omega)).trans x4
  have g5 := (hlow.cell (p := ⟨W.heap.size, 5, none⟩) (show W.heap.size < w1.heap.size by omega)).trans x5
  have q0 := (hlow.frozen (p := ⟨W.heap.size, 0, none⟩) (show W.heap.size < w1.heap.size by omega)).trans f0
  have q1 := (hlow.frozen (p := ⟨W.heap.size, 1, none⟩) (show W.heap.size < w1.heap.size by omega)).trans f1
  have q2 := (hlow.frozen (p := ⟨W.heap.size, 2, none⟩) (show W.heap.size < w1.heap.size by omega)).trans f2
  have q3 := (hlow.frozen (p := ⟨W.heap.size, 3, none⟩) (show W.heap.size < w1.heap.size by omega)).trans f3
  have q4 := (hlow.frozen (p := ⟨W.heap.size, 4, none⟩) (show W.heap.size < w1.heap.size by omega)).trans f4
  have q5 := (hlow.frozen (p := ⟨W.heap.size, 5, none⟩) (show W.heap.size < w1.heap.size by omega)).trans f5
  clear x0 x1 x2 x3 x4 x5 f0 f1 f2 f3 f4 f5
  refine hrp.mono ?_
  intro e w2 h2
  obtain ⟨rfl, hh⟩ := HH _ _ h2
  have hB2 := hh.out.2
  have hW3 := Lib.hid (hW12.trans (hB2.below (B := W.heap.size) (by omega) (by omega)))
  obtain ⟨c0, c1, c2, c3, c4, c5, _, _, _, _, _⟩ := id hh.out.1
  have m0 := (hB2.cell (p := ⟨W.heap.size, 0, none⟩) hk hk2).trans g0
  have m1 := (hB2.cell (p := ⟨W.heap.size, 1, none⟩) hk hk2).trans g1
  have m2 := (hB2.cell (p := ⟨W.heap.size, 2, none⟩) hk hk2).trans g2
  have m3 := (hB2.cell (p := ⟨W.heap.size, 3, none⟩) hk hk2).trans g3
  have m4 := (hB2.cell (p := ⟨W.heap.size, 4, none⟩) hk hk2).trans g4
  have m5 := (hB2.cell (p := ⟨W.heap.size, 5, none⟩) hk hk2).trans g5
  have n0 := (hB2.free (p := ⟨W.heap.size, 0, none⟩) hk hk2).trans q0
  have n1 := (hB2.free (p := ⟨W.heap.size, 1, none⟩) hk hk2).trans q1
  have n2 := (hB2.free (p := ⟨W.heap.size, 2, none⟩) hk hk2).trans q2
  have n3 := (hB2.free (p := ⟨W.heap.size, 3, none⟩) hk hk2).trans q3
  have n4 := (hB2.free (p := ⟨W.heap.size, 4, none⟩) hk hk2).trans q4
  have n5 := (hB2.free (p := ⟨W.heap.size, 5, none⟩) hk hk2).trans q5
  have hk3 : W.heap.size < w2.heap.size := World.block_lt_of_cell? w2 _ m0
  have HK3 := Lib.hid hk3
  clear g0 g1 g2 g3 g4 g5 q0 q1 q2 q3 q4 q5 hB2 h2 hh HH hrp hbox hlow hW12 hb0 hk hk2 hk3 hsz0 hsz1 hlook hc hrun HL0 HB1 hW2 hll htl h32 hne
  go_wp2_with (first
    | (go_at_call 41; refine (hright _).mono ?_; rintro e w3 ⟨rfl, hb3⟩; have r0 := stays hb3 m0; have r1 := stays hb3 m1; have r2 := stays hb3 m2; have r3 := stays hb3 m3; have r4 := stays hb3 m4; have r5 := stays hb3 m5; have k0 := stays hb3 c0; have k1 := stays hb3 c1; have k2 := stays hb3 c2; have k3 := stays hb3 c3; have k4 := stays hb3 c4; have k5 := stays hb3 c5; have t0 := free_on n0 HK3.out hb3; have t1 := free_on n1 HK3.out hb3; have t2 := free_on n2 HK3.out hb3; have t3 := free_on n3 HK3.out hb3; have t4 := free_on n4 HK3.out hb3; have t5 := free_on n5 HK3.out hb3; have HW4 := Lib.hid (hW3.out.trans (hb3.mono hW3.out.size)); clear hb3 hright m0 m1 m2 m3 m4 m5 c0 c1 c2 c3 c4 c5 n0 n1 n2 n3 n4 n5)
    | (go_at_call 43; refine (must_yes _).mono ?_; rintro e w4 ⟨rfl, rfl⟩))
  refine bodyPost_ret (v := .agg #[.int .u8 x.op, .int .u8 x.dst, .int .u8 x.src, .int .i16 x.off, .int .i32 0, .int .i64 N]) (by simp [results, Tryz.results35, go_sem, r0, r1, r2, r3, r4, r5]) rfl ⟨rfl, ?_⟩
  exact (((((HW4.out.setCell (Nat.le_refl _) _).setCell (Nat.le_refl _) _).setCell (Nat.le_refl _) _).setCell (Nat.le_refl _) _).setCell (Nat.le_refl _) _).setCell (Nat.le_refl _) _
end Go.Proofs.YthmibmofdmlgaaaGreatDoor
