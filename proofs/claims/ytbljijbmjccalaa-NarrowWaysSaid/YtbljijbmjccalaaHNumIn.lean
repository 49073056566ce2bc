/-
  Proved here: a struct of the document's type of what is known, that came in, is what is known of some number. Conditions: none.
-/
import Derived.Test.YtbljijbmjccalaaOpen
import Derived.Test.YtbljijbmjccalaaHNumF
namespace Go.Proofs.Ytbljijbmjccalaa
open Go.ChangeShapes Go.WideShapes Go.RowKit Go.Deep

section
variable {H : Type} {enc : TypeId × Value → H} {w : World} {base : Nat} {spare : Nat → Bool} {held : Bool}
variable {r : Reach} {b0 : Nat} {v : Value} {d : DataW H} {p : List MemPlace}
def IsNum (v : Value) : Prop := ∃ k : K, v = numV k
theorem isNum_of (hv : Value.okWide Try.prog w r b0 26 v) (h : DataW.Trod enc Try.prog w base spare held 26 v d p) : IsNum v := by
  obtain ⟨cs, rfl, -⟩ := okWide_struct Try.underlying26 hv
  obtain ⟨fuel, hf⟩ := h
  have hf' : DataW.trod enc Try.prog w base spare held fuel 26 cs.toList = some (d, p) := hf
  obtain ⟨L, hL⟩ : ∃ L, cs.toList = L := ⟨_, rfl⟩
  rw [hL] at hf'
  obtain ⟨xs, n, _, _, hl, hxl, hfd⟩ := DataW.trod_struct Try.underlying26 hf'
  have hc26 : Try.prog.cellsOf 26 = 6 := by kernel_rfl
  have hc24 : Try.prog.cellsOf 24 = 2 := by kernel_rfl
  have hc22 : Try.prog.cellsOf 22 = 1 := by kernel_rfl
  have hc2 : Try.prog.cellsOf 2 = 1 := by kernel_rfl
  rw [hc26] at hl
  have hx : xs.length = 5 := hxl
  match L, hl with
  | [c0, c1, c2, c3, c4, c5], _ =>
    match xs, hx with
    | [x0, x1, x2, x3, x4], _ =>
      have g0 : DataW.trod enc Try.prog w base spare held n 24 (([c0, c1, c2, c3, c4, c5].drop 0).take (Try.prog.cellsOf 24)) = some x0 := hfd 0 _ rfl
      have g1 : DataW.trod enc Try.prog w base spare held n 22 (([c0, c1, c2, c3, c4, c5].drop 2).take (Try.prog.cellsOf 22)) = some x1 := hfd 1 _ rfl
      have g2 : DataW.trod enc Try.prog w base spare held n 22 (([c0, c1, c2, c3, c4, c5].drop 3).take (Try.prog.cellsOf 22)) = some x2 := hfd 2 _ rfl
      have g3 : DataW.trod enc Try.prog w base spare held n 2 (([c0, c1, c2, c3, c4, c5].drop 4).take (Try.prog.cellsOf 2)) = some x3 := hfd 3 _ rfl
      have g4 : DataW.trod enc Try.prog w base spare held n 2 (([c0, c1, c2, c3, c4, c5].drop 5).take (Try.prog.cellsOf 2)) = some x4 := hfd 4 _ rfl
      rw [hc24] at g0
      rw [hc22] at g1 g2
      rw [hc2] at g3 g4
      obtain ⟨-, k0⟩ := trod_ints (ks := [.u64, .u64]) Try.underlying24 (by kernel_rfl) (by kernel_rfl) g0
      obtain ⟨a0, h0, w0⟩ := k0 0 .u64 rfl
      obtain ⟨a1, h1, w1⟩ := k0 1 .u64 rfl
      obtain ⟨a2, h2, -, w2⟩ := DataW.trod_int Try.underlying22 g1
      obtain ⟨a3, h3, -, w3⟩ := DataW.trod_int Try.underlying22 g2
      obtain ⟨a4, h4, -, w4⟩ := DataW.trod_int Try.underlying2 g3
      obtain ⟨a5, h5, -, w5⟩ := DataW.trod_int Try.underlying2 g4
      simp at h0 h1 h2 h3 h4 h5
      have b0 := bounds_u64 w0
      have b1 := bounds_u64 w1
      have b2 := bounds_u64 w2
      have b3 := bounds_u64 w3
      have b4 := bounds_i64 w4
      have b5 := bounds_i64 w5
      obtain ⟨y0, rfl⟩ := u_of b0.1 b0.2
      obtain ⟨y1, rfl⟩ := u_of b1.1 b1.2
      obtain ⟨y2, rfl⟩ := u_of b2.1 b2.2
      obtain ⟨y3, rfl⟩ := u_of b3.1 b3.2
      obtain ⟨y4, rfl⟩ := s_of b4.1 b4.2
      obtain ⟨y5, rfl⟩ := s_of b5.1 b5.2
      refine ⟨⟨y0, y1, y2, y3, y4, y5⟩, ?_⟩
      have e2 : cs = #[c0, c1, c2, c3, c4, c5] := by rw [← Array.toList_inj, hL]
      rw [e2, h0, h1, h2, h3, h4, h5]
      rfl
/-- A number that came in. -/
theorem u_in {v : Value} (h : IsInt .u64 v) : ∃ x : B64, v = .int .u64 (u x) := by
  obtain ⟨n, rfl, hn⟩ := h
  have hb := bounds_u64 hn
  obtain ⟨x, rfl⟩ := u_of hb.1 hb.2
  exact ⟨x, rfl⟩
theorem s_in {v : Value} (h : IsInt .i64 v) : ∃ x : B64, v = .int .i64 (s x) := by
  obtain ⟨n, rfl, hn⟩ := h
  have hb := bounds_i64 hn
  obtain ⟨x, rfl⟩ := s_of hb.1 hb.2
  exact ⟨x, rfl⟩
theorem i_in {v : Value} (h : IsInt .i64 v) : ∃ n : Int, v = .int .i64 n ∧ -9223372036854775808 ≤ n ∧ n ≤ 9223372036854775807 := by
  obtain ⟨n, rfl, hn⟩ := h
  exact ⟨n, rfl, bounds_i64 hn⟩
end
end Go.Proofs.Ytbljijbmjccalaa
