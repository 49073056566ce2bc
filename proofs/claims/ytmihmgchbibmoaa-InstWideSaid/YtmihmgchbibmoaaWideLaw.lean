/-
  Proved here: the law InstWide returns true, over two instructions, a number and three bytes. Conditions: each fits its kind.
-/
import Derived.Test.YtmihmgchbibmoaaAlive
import Derived.Test.YtmihmgchbibmoaaInsIn
import Derived.Deep.RegionWith
import Derived.Deep.RegionHeld
import Derived.Deep.DrawnRows
namespace Go.Proofs.Ytmihmgchbibmoaa
open Go.RowKit
attribute [local go_sem ↓] Go.wp_at_zero Go.wp_at_succ

theorem wide_inst2 (o d s f m o' d' s' f' m' : Int) (w : World) (r : Int) (hr : m % 4294967296 + m' % 4294967296 * 4294967296 = r) :
    Calls Try.prog 14 #[insV o d s f m, insV o' d' s' f' m'] w fun e w' => e = .returned (.int .u64 r) ∧ Below w.heap.size w w' := by
  subst hr
  exact wide_inst o d s f m o' d' s' f' m' w
theorem wide_ref2 (o d s f m o' d' s' f' m' : Int) (w : World) (h : -2147483648 ≤ m ∧ m ≤ 2147483647) (h' : -2147483648 ≤ m' ∧ m' ≤ 2147483647) (r : Int) (hr : m % 4294967296 + m' % 4294967296 * 4294967296 = r) :
    Calls Try.prog 15 #[insV o d s f m, insV o' d' s' f' m'] w fun e w' => e = .returned (.int .u64 r) ∧ Below w.heap.size w w' := by
  subst hr
  exact wide_ref o d s f m o' d' s' f' m' w h h'
theorem pair_inst2 (o d s x : Int) (w : World) (m m' : Int) (hm : wrap32 x = m) (hm' : wrap32 (x / 4294967296) = m') :
    Calls Try.prog 13 #[.int .u8 o, .int .u8 d, .int .u8 s, .int .u64 x] w fun e w' => e = .returned (.agg #[.int .u8 o, .int .u8 d, .int .u8 s, .int .i16 0, .int .i32 m, .int .u8 0, .int .u8 0, .int .u8 0, .int .i16 0, .int .i32 m']) ∧ Below w.heap.size w w' := by
  subst hm hm'
  exact pair_inst o d s x w
theorem halves {x m m' : Int} (x0 : 0 ≤ x) (x1 : x ≤ 18446744073709551615) (hm : wrap32 x = m) (hm' : wrap32 (x / 4294967296) = m') : m % 4294967296 + m' % 4294967296 * 4294967296 = x := by
  unfold wrap32 at hm hm'
  omega
/-- An instruction in a block of its own. -/
def InsBox (w : World) (g : Nat) (x : Ins) : Prop := w.cell? ⟨g, 0, none⟩ = some (.int .u8 x.op) ∧ w.cell? ⟨g, 1, none⟩ = some (.int .u8 x.dst) ∧ w.cell? ⟨g, 2, none⟩ = some (.int .u8 x.src) ∧
  w.cell? ⟨g, 3, none⟩ = some (.int .i16 x.off) ∧ w.cell? ⟨g, 4, none⟩ = some (.int .i32 x.imm)
theorem InsBox.below {B g : Nat} {w w' : World} {x : Ins} (h : InsBox w g x) (hb : Below B w w') (hg : g < B) : InsBox w' g x := by
  obtain ⟨h0, h1, h2, h3, h4⟩ := h
  exact ⟨(hb.cell (p := ⟨g, _, none⟩) hg).trans h0, (hb.cell (p := ⟨g, _, none⟩) hg).trans h1, (hb.cell (p := ⟨g, _, none⟩) hg).trans h2, (hb.cell (p := ⟨g, _, none⟩) hg).trans h3, (hb.cell (p := ⟨g, _, none⟩) hg).trans h4⟩
theorem InsBox.new (w : World) (x : Ins) (T : Nat) : InsBox (w.alloc (.cells #[.int .u8 x.op, .int .u8 x.dst, .int .u8 x.src, .int .i16 x.off, .int .i32 x.imm] T)) w.heap.size x := by
  refine ⟨?_, ?_, ?_, ?_, ?_⟩ <;> simp [go_sem]
/-- Two instructions in a block of their own. -/
def PairBox (w : World) (g : Nat) (o d s m m' : Int) : Prop := w.cell? ⟨g, 0, none⟩ = some (.int .u8 o) ∧ w.cell? ⟨g, 1, none⟩ = some (.int .u8 d) ∧ w.cell? ⟨g, 2, none⟩ = some (.int .u8 s) ∧
  w.cell? ⟨g, 3, none⟩ = some (.int .i16 0) ∧ w.cell? ⟨g, 4, none⟩ = some (.int .i32 m) ∧ w.cell? ⟨g, 5, none⟩ = some (.int .u8 0) ∧ w.cell? ⟨g, 6, none⟩ = some (.int .u8 0) ∧ w.cell? ⟨g, 7, none⟩ = some (.int .u8 0) ∧
  w.cell? ⟨g, 8, none⟩ = some (.int .i16 0) ∧ w.cell? ⟨g, 9, none⟩ = some (.int .i32 m')
theorem PairBox.below {B g : Nat} {w w' : World} {o d s m m' : Int} (h : PairBox w g o d s m m') (hb : Below B w w') (hg : g < B) : PairBox w' g o d s m m' := by
  obtain ⟨h0, h1, h2, h3, h4, h5, h6, h7, h8, h9⟩ := h
  refine ⟨?_, ?_, ?_, ?_, ?_, ?_, ?_, ?_, ?_, ?_⟩
  all_goals first
    | exact (hb.cell (p := ⟨g, _, none⟩) hg).trans ‹_›
theorem flat {W : World} {g0 g1 gp : Nat} {a b : Ins} {o d s m m' : Int} (ha : InsBox W g0 a) (hb : InsBox W g1 b) (hp : PairBox W gp o d s m m') :
    W.cell? ⟨g0, 0, none⟩ = some (.int .u8 a.op) ∧ W.cell? ⟨g0, 1, none⟩ = some (.int .u8 a.dst) ∧ W.cell? ⟨g0, 2, none⟩ = some (.int .u8 a.src) ∧ W.cell? ⟨g0, 3, none⟩ = some (.int .i16 a.off) ∧ W.cell? ⟨g0, 4, none⟩ = some (.int .i32 a.imm) ∧ W.cell? ⟨g1, 0, none⟩ = some (.int .u8 b.op) ∧ W.cell? ⟨g1, 1, none⟩ = some (.int .u8 b.dst) ∧ W.cell? ⟨g1, 2, none⟩ = some (.int .u8 b.src) ∧ W.cell? ⟨g1, 3, none⟩ = some (.int .i16 b.off) ∧ W.cell? ⟨g1, 4, none⟩ = some (.int .i32 b.imm) ∧ W.cell? ⟨gp, 0, none⟩ = some (.int .u8 o) ∧ W.cell? ⟨gp, 1, none⟩ = some (.int .u8 d) ∧ W.cell? ⟨gp, 2, none⟩ = some (.int .u8 s) ∧ W.cell? ⟨gp, 3, none⟩ = some (.int .i16 0) ∧ W.cell? ⟨gp, 4, none⟩ = some (.int .i32 m) ∧ W.cell? ⟨gp, 5, none⟩ = some (.int .u8 0) ∧ W.cell? ⟨gp, 6, none⟩ = some (.int .u8 0) ∧ W.cell? ⟨gp, 7, none⟩ = some (.int .u8 0) ∧ W.cell? ⟨gp, 8, none⟩ = some (.int .i16 0) ∧ W.cell? ⟨gp, 9, none⟩ = some (.int .i32 m') := by
  obtain ⟨a0, a1, a2, a3, a4⟩ := ha
  obtain ⟨b0, b1, b2, b3, b4⟩ := hb
  obtain ⟨p0, p1, p2, p3, p4, p5, p6, p7, p8, p9⟩ := hp
  exact ⟨a0, a1, a2, a3, a4, b0, b1, b2, b3, b4, p0, p1, p2, p3, p4, p5, p6, p7, p8, p9⟩
set_option maxHeartbeats 2000000 in
theorem law_wide (a b : Ins) (x o d s : Int) (w : World) (ha : a.Fit) (hb : b.Fit) (x0 : 0 ≤ x) (x1 : x ≤ 18446744073709551615) :
    Calls Try.prog 6 #[a.val, b.val, .int .u64 x, .int .u8 o, .int .u8 d, .int .u8 s] w fun e w' => e = .returned (.bool true) ∧ Below w.heap.size w w' := by
  obtain ⟨m, hm⟩ : ∃ m, wrap32 x = m := ⟨_, rfl⟩
  obtain ⟨m', hm'⟩ : ∃ m', wrap32 (x / 4294967296) = m' := ⟨_, rfl⟩
  obtain ⟨r, hr⟩ : ∃ r, a.imm % 4294967296 + b.imm % 4294967296 * 4294967296 = r := ⟨_, rfl⟩
  have HX := Lib.hid (halves x0 x1 hm hm')
  have HM := Lib.hid hm
  have HM' := Lib.hid hm'
  have HR := Lib.hid hr
  clear hm hm' hr
  unfold Ins.val
  go_enter Try.func6, Try.ntmps6
  go_wp2_with (first
    | (go_at_call 7; refine (alive _).mono ?_; rintro e w1 ⟨rfl, hb1⟩; have HB1 := Lib.hid hb1; clear hb1)
    | (go_at_call 13; refine (pair_inst2 _ _ _ _ _ m m' HM.out HM'.out).mono ?_; rintro e w2 ⟨rfl, hb2⟩; have HB2 := Lib.hid hb2; clear hb2))
  have hz1 : w.heap.size + 2 ≤ w1.heap.size := by have := HB1.out.size; simp at this; omega
  have hz2 : w1.heap.size ≤ w2.heap.size := HB2.out.size
  have ba1 : InsBox w1 w.heap.size a := ((InsBox.new w a 36).below ((Below.refl (w.heap.size + 1) _).alloc (by simp) _) (by omega)).below HB1.out (by simp; omega)
  have bb1 : InsBox w1 (w.heap.size + 1) b := by
    have := InsBox.new (w.alloc (.cells #[.int .u8 a.op, .int .u8 a.dst, .int .u8 a.src, .int .i16 a.off, .int .i32 a.imm] 36)) b 36
    rw [World.size_alloc] at this
    exact this.below HB1.out (by simp)
  obtain ⟨w3, hw3⟩ : ∃ w3, w2.alloc (.cells #[.int .u8 o, .int .u8 d, .int .u8 s, .int .i16 0, .int .i32 m, .int .u8 0, .int .u8 0, .int .u8 0, .int .i16 0, .int .i32 m'] 38) = w3 := ⟨_, rfl⟩
  have hb23 : Below w2.heap.size w2 w3 := by rw [← hw3]; exact (Below.refl _ _).alloc (Nat.le_refl _) _
  have hz3 : w2.heap.size < w3.heap.size := by rw [← hw3]; simp
  have ba3 : InsBox w3 w.heap.size a := (ba1.below HB2.out (by omega)).below hb23 (by omega)
  have bb3 : InsBox w3 (w.heap.size + 1) b := (bb1.below HB2.out (by omega)).below hb23 (by omega)
  have pp3 : PairBox w3 w2.heap.size o d s m m' := by
    rw [← hw3]
    refine ⟨?_, ?_, ?_, ?_, ?_, ?_, ?_, ?_, ?_, ?_⟩ <;> simp [go_sem]
  have hb03 : Below w.heap.size w w3 := ((((Below.refl _ _).alloc (Nat.le_refl _) _).alloc (by simp) _).trans (HB1.out.mono (by simp; omega))).trans ((HB2.out.mono (by omega)).trans (hb23.mono (by omega)))
  have hS3 := flat ba3 bb3 pp3
  rw [hw3]
  have BA := Lib.hid ba3
  have BB := Lib.hid bb3
  have PP := Lib.hid pp3
  have HB03 := Lib.hid hb03
  obtain ⟨gp, hgp⟩ : ∃ gp, w2.heap.size = gp := ⟨_, rfl⟩
  rw [hgp] at hS3 PP hz3 hz2 ⊢
  clear ba1 bb1 ba3 bb3 pp3 hw3 hb23 hb03 hgp HB1 HB2
  go_region_held (fun W => W.cell? ⟨w.heap.size, 0, none⟩ = some (.int .u8 a.op) ∧ W.cell? ⟨w.heap.size, 1, none⟩ = some (.int .u8 a.dst) ∧ W.cell? ⟨w.heap.size, 2, none⟩ = some (.int .u8 a.src) ∧ W.cell? ⟨w.heap.size, 3, none⟩ = some (.int .i16 a.off) ∧ W.cell? ⟨w.heap.size, 4, none⟩ = some (.int .i32 a.imm) ∧ W.cell? ⟨w.heap.size + 1, 0, none⟩ = some (.int .u8 b.op) ∧ W.cell? ⟨w.heap.size + 1, 1, none⟩ = some (.int .u8 b.dst) ∧ W.cell? ⟨w.heap.size + 1, 2, none⟩ = some (.int .u8 b.src) ∧ W.cell? ⟨w.heap.size + 1, 3, none⟩ = some (.int .i16 b.off) ∧ W.cell? ⟨w.heap.size + 1, 4, none⟩ = some (.int .i32 b.imm) ∧ W.cell? ⟨gp, 0, none⟩ = some (.int .u8 o) ∧ W.cell? ⟨gp, 1, none⟩ = some (.int .u8 d) ∧ W.cell? ⟨gp, 2, none⟩ = some (.int .u8 s) ∧ W.cell? ⟨gp, 3, none⟩ = some (.int .i16 0) ∧ W.cell? ⟨gp, 4, none⟩ = some (.int .i32 m) ∧ W.cell? ⟨gp, 5, none⟩ = some (.int .u8 0) ∧ W.cell? ⟨gp, 6, none⟩ = some (.int .u8 0) ∧ W.cell? ⟨gp, 7, none⟩ = some (.int .u8 0) ∧ W.cell? ⟨gp, 8, none⟩ = some (.int .i16 0) ∧ W.cell? ⟨gp, 9, none⟩ = some (.int .i32 m')) (first | exact hS3 | exact hS4 | exact hS5 | exact hS6)
    (first
      | (go_at_call_of 14 (Value.agg #[Value.int IntKind.u8 a.op, Value.int IntKind.u8 a.dst, Value.int IntKind.u8 a.src, Value.int IntKind.i16 a.off, Value.int IntKind.i32 a.imm]); refine (wide_inst2 _ _ _ _ _ _ _ _ _ _ _ r HR.out).mono ?_; rintro e w4 ⟨rfl, hb4⟩;
          have BA4 := Lib.hid (BA.out.below (w := w3.drew) hb4 (by show _ < w3.heap.size; omega));
          have BB4 := Lib.hid (BB.out.below (w := w3.drew) hb4 (by show _ < w3.heap.size; omega));
          have PP4 := Lib.hid (PP.out.below (w := w3.drew) hb4 (by show _ < w3.heap.size; omega));
          have hS4 := flat BA4.out BB4.out PP4.out; have HB4 := Lib.hid (HB03.out.drew.trans (hb4.mono (by show _ ≤ w3.heap.size; omega))); have hz4 : w3.heap.size ≤ w4.heap.size := hb4.size; clear hb4)
      | (go_at_call 15; refine (wide_ref2 _ _ _ _ _ _ _ _ _ _ _ ha.imm hb.imm r HR.out).mono ?_; rintro e w5 ⟨rfl, hb5⟩;
          have BA5 := Lib.hid (BA4.out.below hb5 (by omega));
          have BB5 := Lib.hid (BB4.out.below hb5 (by omega));
          have PP5 := Lib.hid (PP4.out.below hb5 (by omega));
          have hS5 := flat BA5.out BB5.out PP5.out; have HB5 := Lib.hid (HB4.out.trans (hb5.mono (by omega))); have hz5 : w4.heap.size ≤ w5.heap.size := hb5.size; clear hb5)
      | (go_at_call_of 14 (Value.agg #[Value.int IntKind.u8 o, Value.int IntKind.u8 d, Value.int IntKind.u8 s, Value.int IntKind.i16 0, Value.int IntKind.i32 m]); refine (wide_inst2 _ _ _ _ _ _ _ _ _ _ _ x HX.out).mono ?_; rintro e w6 ⟨rfl, hb6⟩;
          have hS6 := flat (BA5.out.below hb6 (by omega)) (BB5.out.below hb6 (by omega)) (PP5.out.below hb6 (by omega)); have HB6 := Lib.hid (HB5.out.trans (hb6.mono (by omega))); clear hb6))
  go_wp2
  go_ret
  exact ⟨rfl, HB6.out⟩
end Go.Proofs.Ytmihmgchbibmoaa
