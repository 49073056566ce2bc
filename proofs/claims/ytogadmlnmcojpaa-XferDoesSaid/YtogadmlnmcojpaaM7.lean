/-
  Proved here: a struct of the document's type of what is known, that came in, is what is known of some number. Conditions: none.
-/
import Derived.Test.YtogadmlnmcojpaaOpen
import Derived.Test.YtogadmlnmcojpaaNumF
import Derived.Test.YtogadmlnmcojpaaG6
import Derived.Test.YtogadmlnmcojpaaHXferL1
import Derived.Test.YtogadmlnmcojpaaHXferL2
import Derived.Test.YtogadmlnmcojpaaHXferL3
import Derived.Test.YtogadmlnmcojpaaG3
import Derived.Test.YtogadmlnmcojpaaM4
import Derived.Test.YtogadmlnmcojpaaM0
import Derived.Deep.RegionHeld3
import Derived.Deep.RegionWith
import Derived.Test.YtogadmlnmcojpaaG2
namespace Go.Proofs.Ytogadmlnmcojpaa
open Go.ChangeShapes Go.WideShapes Go.RowKit Go.Deep

section
variable {H : Type} {enc : TypeId × Value → H} {w : World} {base : Nat} {spare : Nat → Bool} {held : Bool}
variable {r : Reach} {b0 : Nat} {v : Value} {d : DataW H} {p : List MemPlace}
def IsNum (v : Value) : Prop := ∃ k : K, v = numV k
theorem isNum_of (hv : Value.okWide Try.prog w r b0 26 v) (h : DataW.Trod enc Try.prog w base spare held 26 v d p) : IsNum v := by
  obtain ⟨cs, rfl, -⟩ := okWide_struct Try.underlying26 hv
  obtain ⟨fuel, hf⟩ := h
  have hf' : DataW.trod enc Try.prog w base spare held fuel 26 cs.toList = some (d, p) := hf
  obtain ⟨L, hL⟩ : ∃ L, cs.toList = L := ⟨_, rfl⟩
  rw [hL] at hf'
  obtain ⟨xs, n, _, _, hl, hxl, hfd⟩ := DataW.trod_struct Try.underlying26 hf'
  have hc26 : Try.prog.cellsOf 26 = 6 := by kernel_rfl
  have hc24 : Try.prog.cellsOf 24 = 2 := by kernel_rfl
  have hc22 : Try.prog.cellsOf 22 = 1 := by kernel_rfl
  have hc2 : Try.prog.cellsOf 2 = 1 := by kernel_rfl
  rw [hc26] at hl
  have hx : xs.length = 5 := hxl
  match L, hl with
  | [c0, c1, c2, c3, c4, c5], _ =>
    match xs, hx with
    | [x0, x1, x2, x3, x4], _ =>
      have g0 : DataW.trod enc Try.prog w base spare held n 24 (([c0, c1, c2, c3, c4, c5].drop 0).take (Try.prog.cellsOf 24)) = some x0 := hfd 0 _ rfl
      have g1 : DataW.trod enc Try.prog w base spare held n 22 (([c0, c1, c2, c3, c4, c5].drop 2).take (Try.prog.cellsOf 22)) = some x1 := hfd 1 _ rfl
      have g2 : DataW.trod enc Try.prog w base spare held n 22 (([c0, c1, c2, c3, c4, c5].drop 3).take (Try.prog.cellsOf 22)) = some x2 := hfd 2 _ rfl
      have g3 : DataW.trod enc Try.prog w base spare held n 2 (([c0, c1, c2, c3, c4, c5].drop 4).take (Try.prog.cellsOf 2)) = some x3 := hfd 3 _ rfl
      have g4 : DataW.trod enc Try.prog w base spare held n 2 (([c0, c1, c2, c3, c4, c5].drop 5).take (Try.prog.cellsOf 2)) = some x4 := hfd 4 _ rfl
      rw [hc24] at g0
      rw [hc22] at g1 g2
      rw [hc2] at g3 g4
      obtain ⟨-, k0⟩ := trod_ints (ks := [.u64, .u64]) Try.underlying24 (by kernel_rfl) (by kernel_rfl) g0
      obtain ⟨a0, h0, w0⟩ := k0 0 .u64 rfl
      obtain ⟨a1, h1, w1⟩ := k0 1 .u64 rfl
      obtain ⟨a2, h2, -, w2⟩ := DataW.trod_int Try.underlying22 g1
      obtain ⟨a3, h3, -, w3⟩ := DataW.trod_int Try.underlying22 g2
      obtain ⟨a4, h4, -, w4⟩ := DataW.trod_int Try.underlying2 g3
      obtain ⟨a5, h5, -, w5⟩ := DataW.trod_int Try.underlying2 g4
      simp at h0 h1 h2 h3 h4 h5
      have b0 := bounds_u64 w0
      have b1 := bounds_u64 w1
      have b2 := bounds_u64 w2
      have b3 := bounds_u64 w3
      have b4 := bounds_i64 w4
      have b5 := bounds_i64 w5
      obtain ⟨y0, rfl⟩ := u_of b0.1 b0.2
      obtain ⟨y1, rfl⟩ := u_of b1.1 b1.2
      obtain ⟨y2, rfl⟩ := u_of b2.1 b2.2
      obtain ⟨y3, rfl⟩ := u_of b3.1 b3.2
      obtain ⟨y4, rfl⟩ := s_of b4.1 b4.2
      obtain ⟨y5, rfl⟩ := s_of b5.1 b5.2
      refine ⟨⟨y0, y1, y2, y3, y4, y5⟩, ?_⟩
      have e2 : cs = #[c0, c1, c2, c3, c4, c5] := by rw [← Array.toList_inj, hL]
      rw [e2, h0, h1, h2, h3, h4, h5]
      rfl
/-- A number that came in. -/
theorem u_in {v : Value} (h : IsInt .u64 v) : ∃ x : B64, v = .int .u64 (u x) := by
  obtain ⟨n, rfl, hn⟩ := h
  have hb := bounds_u64 hn
  obtain ⟨x, rfl⟩ := u_of hb.1 hb.2
  exact ⟨x, rfl⟩
theorem s_in {v : Value} (h : IsInt .i64 v) : ∃ x : B64, v = .int .i64 (s x) := by
  obtain ⟨n, rfl, hn⟩ := h
  have hb := bounds_i64 hn
  obtain ⟨x, rfl⟩ := s_of hb.1 hb.2
  exact ⟨x, rfl⟩
theorem i_in {v : Value} (h : IsInt .i64 v) : ∃ n : Int, v = .int .i64 n ∧ -9223372036854775808 ≤ n ∧ n ≤ 9223372036854775807 := by
  obtain ⟨n, rfl, hn⟩ := h
  exact ⟨n, rfl, bounds_i64 hn⟩
end
end Go.Proofs.Ytogadmlnmcojpaa

/-
  Proved here: what Do of package xfer tells, of every number. Conditions: an operation's number is a uint8.
-/
namespace Go.Proofs.Ytogadmlnmcojpaa
open Go.RowKit

theorem ones_iff (a b : K) : (oneB a && oneB b) = true ↔ a.m = 0#64 ∧ b.m = 0#64 := by
  unfold oneB
  rw [Bool.and_eq_true, decide_eq_true_eq, decide_eq_true_eq]
theorem kDo_yes (op : Int) (wide : Bool) {a b : K} (h : (oneB a && oneB b) = true) : kDo op wide a b = oneK (doB op wide (cB a) (cB b)) := by
  have g := (ones_iff a b).1 h
  unfold kDo cB
  rw [if_pos g, if_pos g.1, if_pos g.2]
theorem kDo_no (op : Int) (wide : Bool) {a b : K} (h : (oneB a && oneB b) = false) : kDo op wide a b = inW wide (rowK op (inW wide a) (inW wide b) (oneB (inW wide b)) wide (inW wide b).v).fine := by
  have g : ¬ (a.m = 0#64 ∧ b.m = 0#64) := fun g => by
    rw [(ones_iff a b).2 g] at h
    cases h
  unfold kDo
  rw [if_neg g]
theorem inW_w (a : K) : inW true a = a := by
  unfold inW
  rw [if_pos rfl]
theorem inW_l (a : K) : inW false a = a.cutK 4 := by
  unfold inW
  rw [if_neg Bool.false_ne_true]
theorem cB_one {b : K} (h : oneB b = true) : cB b = b.v := by
  unfold oneB at h
  rw [decide_eq_true_eq] at h
  unfold cB
  rw [if_pos h]
theorem cB_no {b : K} (h : oneB b = false) : cB b = 0#64 := by
  unfold oneB at h
  rw [decide_eq_false_iff_not] at h
  unfold cB
  rw [if_neg h]
theorem div_cB (a b : K) : rowDiv a (oneB b) (cB b) = rowDiv a (oneB b) b.v := by
  cases h : oneB b
  · rfl
  · rw [cB_one h]
theorem mod_cB (a b : K) : rowMod a (oneB b) (cB b) = rowMod a (oneB b) b.v := by
  cases h : oneB b
  · rfl
  · rw [cB_one h]
theorem mod_lt (c t : B64) (ht : 0 < t.toNat) (h : t.toNat ≤ 64) : (c % t).toNat < 64 := by
  rw [BitVec.toNat_umod]
  exact Nat.lt_of_lt_of_le (Nat.mod_lt _ ht) h
theorem lsh_cB (a b : K) (t : B64) : rowLsh a (oneB b) (cB b % t).toNat = rowLsh a (oneB b) (b.v.toNat % t.toNat) := by
  cases h : oneB b
  · rfl
  · rw [cB_one h, BitVec.toNat_umod]
theorem rsh_cB (a b : K) (t : B64) : rowRsh a (oneB b) (cB b % t).toNat = rowRsh a (oneB b) (b.v.toNat % t.toNat) := by
  cases h : oneB b
  · rfl
  · rw [cB_one h, BitVec.toNat_umod]
theorem arsh_cB (a b : K) (t : B64) : rowArsh a (oneB b) true (cB b % t).toNat = rowArsh a (oneB b) true (b.v.toNat % t.toNat) := by
  cases h : oneB b
  · rfl
  · rw [cB_one h, BitVec.toNat_umod]
theorem ones_both {a b : K} (h : (oneB a && oneB b) = true) : oneB a = true ∧ oneB b = true := by
  rwa [Bool.and_eq_true] at h
theorem xdo_w0 (a b : K) (w : World) : Calls Try.prog 7 #[.int .u8 0, .bool true, numV a, numV b] w (Gives (.tuple #[numV (kDo 0 true a b), .bool true]) w) := by
  have hr := fun W => rowOf_yes 0 0 50 true W rfl (by decide)
  cases ho : (oneB a && oneB b)
  · rw [kDo_no 0 true ho]
    simp only [inW_w]
    rw [show rowK 0 a b (oneB b) true b.v = rowAdd a b from (by unfold rowK; rw [if_pos rfl])]
    exact do_w50 0 _ a b w hr (fun W => ofOnes_no 0 true a b W ho) (fun W => by exact xr_add a b (oneB b) (cB b) (cB b % 64#64) W)
  · rw [kDo_yes 0 true ho]
    exact do_ones 0 true 50 _ a b w hr (fun W => ofOnes_yes 0 true a b W (by decide) (by decide) rfl (ones_both ho).1 (ones_both ho).2)
theorem xdo_l0 (a b : K) (w : World) : Calls Try.prog 7 #[.int .u8 0, .bool false, numV a, numV b] w (Gives (.tuple #[numV (kDo 0 false a b), .bool true]) w) := by
  have hr := fun W => rowOf_yes 0 0 50 false W rfl (by decide)
  cases ho : (oneB a && oneB b)
  · rw [kDo_no 0 false ho]
    simp only [inW_l]
    rw [show rowK 0 (a.cutK 4) (b.cutK 4) (oneB (b.cutK 4)) false (b.cutK 4).v = rowAdd (a.cutK 4) (b.cutK 4) from (by unfold rowK; rw [if_pos rfl])]
    exact do_l50 0 _ a b w hr (fun W => ofOnes_no 0 false a b W ho) (fun W => by exact xr_add (a.cutK 4) (b.cutK 4) (oneB (b.cutK 4)) (cB (b.cutK 4)) (cB (b.cutK 4) % 32#64) W)
  · rw [kDo_yes 0 false ho]
    exact do_ones 0 false 50 _ a b w hr (fun W => ofOnes_yes 0 false a b W (by decide) (by decide) rfl (ones_both ho).1 (ones_both ho).2)
theorem xdo_w16 (a b : K) (w : World) : Calls Try.prog 7 #[.int .u8 16, .bool true, numV a, numV b] w (Gives (.tuple #[numV (kDo 16 true a b), .bool true]) w) := by
  have hr := fun W => rowOf_yes 16 1 51 true W rfl (by decide)
  cases ho : (oneB a && oneB b)
  · rw [kDo_no 16 true ho]
    simp only [inW_w]
    rw [show rowK 16 a b (oneB b) true b.v = rowSub a b from (by unfold rowK; rw [if_neg (by decide), if_pos rfl])]
    exact do_w51 16 _ a b w hr (fun W => ofOnes_no 16 true a b W ho) (fun W => by exact xr_sub a b (oneB b) (cB b) (cB b % 64#64) W)
  · rw [kDo_yes 16 true ho]
    exact do_ones 16 true 51 _ a b w hr (fun W => ofOnes_yes 16 true a b W (by decide) (by decide) rfl (ones_both ho).1 (ones_both ho).2)
theorem xdo_l16 (a b : K) (w : World) : Calls Try.prog 7 #[.int .u8 16, .bool false, numV a, numV b] w (Gives (.tuple #[numV (kDo 16 false a b), .bool true]) w) := by
  have hr := fun W => rowOf_yes 16 1 51 false W rfl (by decide)
  cases ho : (oneB a && oneB b)
  · rw [kDo_no 16 false ho]
    simp only [inW_l]
    rw [show rowK 16 (a.cutK 4) (b.cutK 4) (oneB (b.cutK 4)) false (b.cutK 4).v = rowSub (a.cutK 4) (b.cutK 4) from (by unfold rowK; rw [if_neg (by decide), if_pos rfl])]
    exact do_l51 16 _ a b w hr (fun W => ofOnes_no 16 false a b W ho) (fun W => by exact xr_sub (a.cutK 4) (b.cutK 4) (oneB (b.cutK 4)) (cB (b.cutK 4)) (cB (b.cutK 4) % 32#64) W)
  · rw [kDo_yes 16 false ho]
    exact do_ones 16 false 51 _ a b w hr (fun W => ofOnes_yes 16 false a b W (by decide) (by decide) rfl (ones_both ho).1 (ones_both ho).2)
theorem xdo_w32 (a b : K) (w : World) : Calls Try.prog 7 #[.int .u8 32, .bool true, numV a, numV b] w (Gives (.tuple #[numV (kDo 32 true a b), .bool true]) w) := by
  have hr := fun W => rowOf_yes 32 2 52 true W rfl (by decide)
  cases ho : (oneB a && oneB b)
  · rw [kDo_no 32 true ho]
    simp only [inW_w]
    rw [show rowK 32 a b (oneB b) true b.v = rowMul a b from (by unfold rowK; rw [if_neg (by decide), if_neg (by decide), if_pos rfl])]
    exact do_w52 32 _ a b w hr (fun W => ofOnes_no 32 true a b W ho) (fun W => by exact xr_mul a b (oneB b) (cB b) (cB b % 64#64) W)
  · rw [kDo_yes 32 true ho]
    exact do_ones 32 true 52 _ a b w hr (fun W => ofOnes_yes 32 true a b W (by decide) (by decide) rfl (ones_both ho).1 (ones_both ho).2)
theorem xdo_l32 (a b : K) (w : World) : Calls Try.prog 7 #[.int .u8 32, .bool false, numV a, numV b] w (Gives (.tuple #[numV (kDo 32 false a b), .bool true]) w) := by
  have hr := fun W => rowOf_yes 32 2 52 false W rfl (by decide)
  cases ho : (oneB a && oneB b)
  · rw [kDo_no 32 false ho]
    simp only [inW_l]
    rw [show rowK 32 (a.cutK 4) (b.cutK 4) (oneB (b.cutK 4)) false (b.cutK 4).v = rowMul (a.cutK 4) (b.cutK 4) from (by unfold rowK; rw [if_neg (by decide), if_neg (by decide), if_pos rfl])]
    exact do_l52 32 _ a b w hr (fun W => ofOnes_no 32 false a b W ho) (fun W => by exact xr_mul (a.cutK 4) (b.cutK 4) (oneB (b.cutK 4)) (cB (b.cutK 4)) (cB (b.cutK 4) % 32#64) W)
  · rw [kDo_yes 32 false ho]
    exact do_ones 32 false 52 _ a b w hr (fun W => ofOnes_yes 32 false a b W (by decide) (by decide) rfl (ones_both ho).1 (ones_both ho).2)
theorem xdo_w48 (a b : K) (w : World) : Calls Try.prog 7 #[.int .u8 48, .bool true, numV a, numV b] w (Gives (.tuple #[numV (kDo 48 true a b), .bool true]) w) := by
  have hr := fun W => rowOf_yes 48 3 53 true W rfl (by decide)
  cases ho : (oneB a && oneB b)
  · rw [kDo_no 48 true ho]
    simp only [inW_w]
    rw [show rowK 48 a b (oneB b) true b.v = rowDiv a (oneB b) b.v from (by unfold rowK; rw [if_neg (by decide), if_neg (by decide), if_neg (by decide), if_pos rfl])]
    exact do_w53 48 _ a b w hr (fun W => ofOnes_no 48 true a b W ho) (fun W => by rw [← div_cB]; exact xr_div a b (oneB b) (cB b) (cB b % 64#64) W (fun h => cB_no h))
  · rw [kDo_yes 48 true ho]
    exact do_ones 48 true 53 _ a b w hr (fun W => ofOnes_yes 48 true a b W (by decide) (by decide) rfl (ones_both ho).1 (ones_both ho).2)
theorem xdo_l48 (a b : K) (w : World) : Calls Try.prog 7 #[.int .u8 48, .bool false, numV a, numV b] w (Gives (.tuple #[numV (kDo 48 false a b), .bool true]) w) := by
  have hr := fun W => rowOf_yes 48 3 53 false W rfl (by decide)
  cases ho : (oneB a && oneB b)
  · rw [kDo_no 48 false ho]
    simp only [inW_l]
    rw [show rowK 48 (a.cutK 4) (b.cutK 4) (oneB (b.cutK 4)) false (b.cutK 4).v = rowDiv (a.cutK 4) (oneB (b.cutK 4)) (b.cutK 4).v from (by unfold rowK; rw [if_neg (by decide), if_neg (by decide), if_neg (by decide), if_pos rfl])]
    exact do_l53 48 _ a b w hr (fun W => ofOnes_no 48 false a b W ho) (fun W => by rw [← div_cB]; exact xr_div (a.cutK 4) (b.cutK 4) (oneB (b.cutK 4)) (cB (b.cutK 4)) (cB (b.cutK 4) % 32#64) W (fun h => cB_no h))
  · rw [kDo_yes 48 false ho]
    exact do_ones 48 false 53 _ a b w hr (fun W => ofOnes_yes 48 false a b W (by decide) (by decide) rfl (ones_both ho).1 (ones_both ho).2)
theorem xdo_w64 (a b : K) (w : World) : Calls Try.prog 7 #[.int .u8 64, .bool true, numV a, numV b] w (Gives (.tuple #[numV (kDo 64 true a b), .bool true]) w) := by
  have hr := fun W => rowOf_yes 64 4 54 true W rfl (by decide)
  cases ho : (oneB a && oneB b)
  · rw [kDo_no 64 true ho]
    simp only [inW_w]
    rw [show rowK 64 a b (oneB b) true b.v = rowOr a b from (by unfold rowK; rw [if_neg (by decide), if_neg (by decide), if_neg (by decide), if_neg (by decide), if_pos rfl])]
    exact do_w54 64 _ a b w hr (fun W => ofOnes_no 64 true a b W ho) (fun W => by exact xr_or a b (oneB b) (cB b) (cB b % 64#64) W)
  · rw [kDo_yes 64 true ho]
    exact do_ones 64 true 54 _ a b w hr (fun W => ofOnes_yes 64 true a b W (by decide) (by decide) rfl (ones_both ho).1 (ones_both ho).2)
theorem xdo_l64 (a b : K) (w : World) : Calls Try.prog 7 #[.int .u8 64, .bool false, numV a, numV b] w (Gives (.tuple #[numV (kDo 64 false a b), .bool true]) w) := by
  have hr := fun W => rowOf_yes 64 4 54 false W rfl (by decide)
  cases ho : (oneB a && oneB b)
  · rw [kDo_no 64 false ho]
    simp only [inW_l]
    rw [show rowK 64 (a.cutK 4) (b.cutK 4) (oneB (b.cutK 4)) false (b.cutK 4).v = rowOr (a.cutK 4) (b.cutK 4) from (by unfold rowK; rw [if_neg (by decide), if_neg (by decide), if_neg (by decide), if_neg (by decide), if_pos rfl])]
    exact do_l54 64 _ a b w hr (fun W => ofOnes_no 64 false a b W ho) (fun W => by exact xr_or (a.cutK 4) (b.cutK 4) (oneB (b.cutK 4)) (cB (b.cutK 4)) (cB (b.cutK 4) % 32#64) W)
  · rw [kDo_yes 64 false ho]
    exact do_ones 64 false 54 _ a b w hr (fun W => ofOnes_yes 64 false a b W (by decide) (by decide) rfl (ones_both ho).1 (ones_both ho).2)
theorem xdo_w80 (a b : K) (w : World) : Calls Try.prog 7 #[.int .u8 80, .bool true, numV a, numV b] w (Gives (.tuple #[numV (kDo 80 true a b), .bool true]) w) := by
  have hr := fun W => rowOf_yes 80 5 55 true W rfl (by decide)
  cases ho : (oneB a && oneB b)
  · rw [kDo_no 80 true ho]
    simp only [inW_w]
    rw [show rowK 80 a b (oneB b) true b.v = rowAnd a b from (by unfold rowK; rw [if_neg (by decide), if_neg (by decide), if_neg (by decide), if_neg (by decide), if_neg (by decide), if_pos rfl])]
    exact do_w55 80 _ a b w hr (fun W => ofOnes_no 80 true a b W ho) (fun W => by exact xr_and a b (oneB b) (cB b) (cB b % 64#64) W)
  · rw [kDo_yes 80 true ho]
    exact do_ones 80 true 55 _ a b w hr (fun W => ofOnes_yes 80 true a b W (by decide) (by decide) rfl (ones_both ho).1 (ones_both ho).2)
theorem xdo_l80 (a b : K) (w : World) : Calls Try.prog 7 #[.int .u8 80, .bool false, numV a, numV b] w (Gives (.tuple #[numV (kDo 80 false a b), .bool true]) w) := by
  have hr := fun W => rowOf_yes 80 5 55 false W rfl (by decide)
  cases ho : (oneB a && oneB b)
  · rw [kDo_no 80 false ho]
    simp only [inW_l]
    rw [show rowK 80 (a.cutK 4) (b.cutK 4) (oneB (b.cutK 4)) false (b.cutK 4).v = rowAnd (a.cutK 4) (b.cutK 4) from (by unfold rowK; rw [if_neg (by decide), if_neg (by decide), if_neg (by decide), if_neg (by decide), if_neg (by decide), if_pos rfl])]
    exact do_l55 80 _ a b w hr (fun W => ofOnes_no 80 false a b W ho) (fun W => by exact xr_and (a.cutK 4) (b.cutK 4) (oneB (b.cutK 4)) (cB (b.cutK 4)) (cB (b.cutK 4) % 32#64) W)
  · rw [kDo_yes 80 false ho]
    exact do_ones 80 false 55 _ a b w hr (fun W => ofOnes_yes 80 false a b W (by decide) (by decide) rfl (ones_both ho).1 (ones_both ho).2)
theorem xdo_w96 (a b : K) (w : World) : Calls Try.prog 7 #[.int .u8 96, .bool true, numV a, numV b] w (Gives (.tuple #[numV (kDo 96 true a b), .bool true]) w) := by
  have hr := fun W => rowOf_yes 96 6 56 true W rfl (by decide)
  cases ho : (oneB a && oneB b)
  · rw [kDo_no 96 true ho]
    simp only [inW_w]
    rw [show rowK 96 a b (oneB b) true b.v = rowLsh a (oneB b) (b.v.toNat % (64#64 : B64).toNat) from (by unfold rowK; rw [if_neg (by decide), if_neg (by decide), if_neg (by decide), if_neg (by decide), if_neg (by decide), if_neg (by decide), if_pos rfl]; rfl)]
    exact do_w56 96 _ a b w hr (fun W => ofOnes_no 96 true a b W ho) (fun W => by
      have h := xr_lsh a b (oneB b) (cB b) (cB b % 64#64) W (mod_lt _ _ (by decide) (by decide))
      rw [lsh_cB] at h
      exact h)
  · rw [kDo_yes 96 true ho]
    exact do_ones 96 true 56 _ a b w hr (fun W => ofOnes_yes 96 true a b W (by decide) (by decide) rfl (ones_both ho).1 (ones_both ho).2)
theorem xdo_l96 (a b : K) (w : World) : Calls Try.prog 7 #[.int .u8 96, .bool false, numV a, numV b] w (Gives (.tuple #[numV (kDo 96 false a b), .bool true]) w) := by
  have hr := fun W => rowOf_yes 96 6 56 false W rfl (by decide)
  cases ho : (oneB a && oneB b)
  · rw [kDo_no 96 false ho]
    simp only [inW_l]
    rw [show rowK 96 (a.cutK 4) (b.cutK 4) (oneB (b.cutK 4)) false (b.cutK 4).v = rowLsh (a.cutK 4) (oneB (b.cutK 4)) ((b.cutK 4).v.toNat % (32#64 : B64).toNat) from (by unfold rowK; rw [if_neg (by decide), if_neg (by decide), if_neg (by decide), if_neg (by decide), if_neg (by decide), if_neg (by decide), if_pos rfl]; rfl)]
    exact do_l56 96 _ a b w hr (fun W => ofOnes_no 96 false a b W ho) (fun W => by
      have h := xr_lsh (a.cutK 4) (b.cutK 4) (oneB (b.cutK 4)) (cB (b.cutK 4)) (cB (b.cutK 4) % 32#64) W (mod_lt _ _ (by decide) (by decide))
      rw [lsh_cB] at h
      exact h)
  · rw [kDo_yes 96 false ho]
    exact do_ones 96 false 56 _ a b w hr (fun W => ofOnes_yes 96 false a b W (by decide) (by decide) rfl (ones_both ho).1 (ones_both ho).2)
theorem xdo_w112 (a b : K) (w : World) : Calls Try.prog 7 #[.int .u8 112, .bool true, numV a, numV b] w (Gives (.tuple #[numV (kDo 112 true a b), .bool true]) w) := by
  have hr := fun W => rowOf_yes 112 7 57 true W rfl (by decide)
  cases ho : (oneB a && oneB b)
  · rw [kDo_no 112 true ho]
    simp only [inW_w]
    rw [show rowK 112 a b (oneB b) true b.v = rowRsh a (oneB b) (b.v.toNat % (64#64 : B64).toNat) from (by unfold rowK; rw [if_neg (by decide), if_neg (by decide), if_neg (by decide), if_neg (by decide), if_neg (by decide), if_neg (by decide), if_neg (by decide), if_pos rfl]; rfl)]
    exact do_w57 112 _ a b w hr (fun W => ofOnes_no 112 true a b W ho) (fun W => by
      have h := xr_rsh a b (oneB b) (cB b) (cB b % 64#64) W (mod_lt _ _ (by decide) (by decide))
      rw [rsh_cB] at h
      exact h)
  · rw [kDo_yes 112 true ho]
    exact do_ones 112 true 57 _ a b w hr (fun W => ofOnes_yes 112 true a b W (by decide) (by decide) rfl (ones_both ho).1 (ones_both ho).2)
theorem xdo_l112 (a b : K) (w : World) : Calls Try.prog 7 #[.int .u8 112, .bool false, numV a, numV b] w (Gives (.tuple #[numV (kDo 112 false a b), .bool true]) w) := by
  have hr := fun W => rowOf_yes 112 7 57 false W rfl (by decide)
  cases ho : (oneB a && oneB b)
  · rw [kDo_no 112 false ho]
    simp only [inW_l]
    rw [show rowK 112 (a.cutK 4) (b.cutK 4) (oneB (b.cutK 4)) false (b.cutK 4).v = rowRsh (a.cutK 4) (oneB (b.cutK 4)) ((b.cutK 4).v.toNat % (32#64 : B64).toNat) from (by unfold rowK; rw [if_neg (by decide), if_neg (by decide), if_neg (by decide), if_neg (by decide), if_neg (by decide), if_neg (by decide), if_neg (by decide), if_pos rfl]; rfl)]
    exact do_l57 112 _ a b w hr (fun W => ofOnes_no 112 false a b W ho) (fun W => by
      have h := xr_rsh (a.cutK 4) (b.cutK 4) (oneB (b.cutK 4)) (cB (b.cutK 4)) (cB (b.cutK 4) % 32#64) W (mod_lt _ _ (by decide) (by decide))
      rw [rsh_cB] at h
      exact h)
  · rw [kDo_yes 112 false ho]
    exact do_ones 112 false 57 _ a b w hr (fun W => ofOnes_yes 112 false a b W (by decide) (by decide) rfl (ones_both ho).1 (ones_both ho).2)
theorem xdo_w128 (a b : K) (w : World) : Calls Try.prog 7 #[.int .u8 128, .bool true, numV a, numV b] w (Gives (.tuple #[numV (kDo 128 true a b), .bool true]) w) := by
  have hr := fun W => rowOf_yes 128 8 58 true W rfl (by decide)
  cases ho : (oneB a && oneB b)
  · rw [kDo_no 128 true ho]
    simp only [inW_w]
    rw [show rowK 128 a b (oneB b) true b.v = rowSub (oneK 0#64) a from (by unfold rowK; rw [if_neg (by decide), if_neg (by decide), if_neg (by decide), if_neg (by decide), if_neg (by decide), if_neg (by decide), if_neg (by decide), if_neg (by decide), if_pos rfl])]
    exact do_w58 128 _ a b w hr (fun W => ofOnes_no 128 true a b W ho) (fun W => by exact xr_neg a b (oneB b) (cB b) (cB b % 64#64) W)
  · rw [kDo_yes 128 true ho]
    exact do_ones 128 true 58 _ a b w hr (fun W => ofOnes_yes 128 true a b W (by decide) (by decide) rfl (ones_both ho).1 (ones_both ho).2)
theorem xdo_l128 (a b : K) (w : World) : Calls Try.prog 7 #[.int .u8 128, .bool false, numV a, numV b] w (Gives (.tuple #[numV (kDo 128 false a b), .bool true]) w) := by
  have hr := fun W => rowOf_yes 128 8 58 false W rfl (by decide)
  cases ho : (oneB a && oneB b)
  · rw [kDo_no 128 false ho]
    simp only [inW_l]
    rw [show rowK 128 (a.cutK 4) (b.cutK 4) (oneB (b.cutK 4)) false (b.cutK 4).v = rowSub (oneK 0#64) (a.cutK 4) from (by unfold rowK; rw [if_neg (by decide), if_neg (by decide), if_neg (by decide), if_neg (by decide), if_neg (by decide), if_neg (by decide), if_neg (by decide), if_neg (by decide), if_pos rfl])]
    exact do_l58 128 _ a b w hr (fun W => ofOnes_no 128 false a b W ho) (fun W => by exact xr_neg (a.cutK 4) (b.cutK 4) (oneB (b.cutK 4)) (cB (b.cutK 4)) (cB (b.cutK 4) % 32#64) W)
  · rw [kDo_yes 128 false ho]
    exact do_ones 128 false 58 _ a b w hr (fun W => ofOnes_yes 128 false a b W (by decide) (by decide) rfl (ones_both ho).1 (ones_both ho).2)
theorem xdo_w144 (a b : K) (w : World) : Calls Try.prog 7 #[.int .u8 144, .bool true, numV a, numV b] w (Gives (.tuple #[numV (kDo 144 true a b), .bool true]) w) := by
  have hr := fun W => rowOf_yes 144 9 59 true W rfl (by decide)
  cases ho : (oneB a && oneB b)
  · rw [kDo_no 144 true ho]
    simp only [inW_w]
    rw [show rowK 144 a b (oneB b) true b.v = rowMod a (oneB b) b.v from (by unfold rowK; rw [if_neg (by decide), if_neg (by decide), if_neg (by decide), if_neg (by decide), if_neg (by decide), if_neg (by decide), if_neg (by decide), if_neg (by decide), if_neg (by decide), if_pos rfl])]
    exact do_w59 144 _ a b w hr (fun W => ofOnes_no 144 true a b W ho) (fun W => by rw [← mod_cB]; exact xr_mod a b (oneB b) (cB b) (cB b % 64#64) W (fun h => cB_no h))
  · rw [kDo_yes 144 true ho]
    exact do_ones 144 true 59 _ a b w hr (fun W => ofOnes_yes 144 true a b W (by decide) (by decide) rfl (ones_both ho).1 (ones_both ho).2)
theorem xdo_l144 (a b : K) (w : World) : Calls Try.prog 7 #[.int .u8 144, .bool false, numV a, numV b] w (Gives (.tuple #[numV (kDo 144 false a b), .bool true]) w) := by
  have hr := fun W => rowOf_yes 144 9 59 false W rfl (by decide)
  cases ho : (oneB a && oneB b)
  · rw [kDo_no 144 false ho]
    simp only [inW_l]
    rw [show rowK 144 (a.cutK 4) (b.cutK 4) (oneB (b.cutK 4)) false (b.cutK 4).v = rowMod (a.cutK 4) (oneB (b.cutK 4)) (b.cutK 4).v from (by unfold rowK; rw [if_neg (by decide), if_neg (by decide), if_neg (by decide), if_neg (by decide), if_neg (by decide), if_neg (by decide), if_neg (by decide), if_neg (by decide), if_neg (by decide), if_pos rfl])]
    exact do_l59 144 _ a b w hr (fun W => ofOnes_no 144 false a b W ho) (fun W => by rw [← mod_cB]; exact xr_mod (a.cutK 4) (b.cutK 4) (oneB (b.cutK 4)) (cB (b.cutK 4)) (cB (b.cutK 4) % 32#64) W (fun h => cB_no h))
  · rw [kDo_yes 144 false ho]
    exact do_ones 144 false 59 _ a b w hr (fun W => ofOnes_yes 144 false a b W (by decide) (by decide) rfl (ones_both ho).1 (ones_both ho).2)
theorem xdo_w160 (a b : K) (w : World) : Calls Try.prog 7 #[.int .u8 160, .bool true, numV a, numV b] w (Gives (.tuple #[numV (kDo 160 true a b), .bool true]) w) := by
  have hr := fun W => rowOf_yes 160 10 60 true W rfl (by decide)
  cases ho : (oneB a && oneB b)
  · rw [kDo_no 160 true ho]
    simp only [inW_w]
    rw [show rowK 160 a b (oneB b) true b.v = rowXor a b from (by unfold rowK; rw [if_neg (by decide), if_neg (by decide), if_neg (by decide), if_neg (by decide), if_neg (by decide), if_neg (by decide), if_neg (by decide), if_neg (by decide), if_neg (by decide), if_neg (by decide), if_pos rfl])]
    exact do_w60 160 _ a b w hr (fun W => ofOnes_no 160 true a b W ho) (fun W => by exact xr_xor a b (oneB b) (cB b) (cB b % 64#64) W)
  · rw [kDo_yes 160 true ho]
    exact do_ones 160 true 60 _ a b w hr (fun W => ofOnes_yes 160 true a b W (by decide) (by decide) rfl (ones_both ho).1 (ones_both ho).2)
theorem xdo_l160 (a b : K) (w : World) : Calls Try.prog 7 #[.int .u8 160, .bool false, numV a, numV b] w (Gives (.tuple #[numV (kDo 160 false a b), .bool true]) w) := by
  have hr := fun W => rowOf_yes 160 10 60 false W rfl (by decide)
  cases ho : (oneB a && oneB b)
  · rw [kDo_no 160 false ho]
    simp only [inW_l]
    rw [show rowK 160 (a.cutK 4) (b.cutK 4) (oneB (b.cutK 4)) false (b.cutK 4).v = rowXor (a.cutK 4) (b.cutK 4) from (by unfold rowK; rw [if_neg (by decide), if_neg (by decide), if_neg (by decide), if_neg (by decide), if_neg (by decide), if_neg (by decide), if_neg (by decide), if_neg (by decide), if_neg (by decide), if_neg (by decide), if_pos rfl])]
    exact do_l60 160 _ a b w hr (fun W => ofOnes_no 160 false a b W ho) (fun W => by exact xr_xor (a.cutK 4) (b.cutK 4) (oneB (b.cutK 4)) (cB (b.cutK 4)) (cB (b.cutK 4) % 32#64) W)
  · rw [kDo_yes 160 false ho]
    exact do_ones 160 false 60 _ a b w hr (fun W => ofOnes_yes 160 false a b W (by decide) (by decide) rfl (ones_both ho).1 (ones_both ho).2)
theorem xdo_w176 (a b : K) (w : World) : Calls Try.prog 7 #[.int .u8 176, .bool true, numV a, numV b] w (Gives (.tuple #[numV (kDo 176 true a b), .bool true]) w) := by
  have hr := fun W => rowOf_yes 176 11 61 true W rfl (by decide)
  cases ho : (oneB a && oneB b)
  · rw [kDo_no 176 true ho]
    simp only [inW_w]
    rw [show rowK 176 a b (oneB b) true b.v = b from (by unfold rowK; rw [if_neg (by decide), if_neg (by decide), if_neg (by decide), if_neg (by decide), if_neg (by decide), if_neg (by decide), if_neg (by decide), if_neg (by decide), if_neg (by decide), if_neg (by decide), if_neg (by decide), if_pos rfl])]
    exact do_w61 176 _ a b w hr (fun W => ofOnes_no 176 true a b W ho) (fun W => by exact xr_mov a b (oneB b) (cB b) (cB b % 64#64) W)
  · rw [kDo_yes 176 true ho]
    exact do_ones 176 true 61 _ a b w hr (fun W => ofOnes_yes 176 true a b W (by decide) (by decide) rfl (ones_both ho).1 (ones_both ho).2)
theorem xdo_l176 (a b : K) (w : World) : Calls Try.prog 7 #[.int .u8 176, .bool false, numV a, numV b] w (Gives (.tuple #[numV (kDo 176 false a b), .bool true]) w) := by
  have hr := fun W => rowOf_yes 176 11 61 false W rfl (by decide)
  cases ho : (oneB a && oneB b)
  · rw [kDo_no 176 false ho]
    simp only [inW_l]
    rw [show rowK 176 (a.cutK 4) (b.cutK 4) (oneB (b.cutK 4)) false (b.cutK 4).v = (b.cutK 4) from (by unfold rowK; rw [if_neg (by decide), if_neg (by decide), if_neg (by decide), if_neg (by decide), if_neg (by decide), if_neg (by decide), if_neg (by decide), if_neg (by decide), if_neg (by decide), if_neg (by decide), if_neg (by decide), if_pos rfl])]
    exact do_l61 176 _ a b w hr (fun W => ofOnes_no 176 false a b W ho) (fun W => by exact xr_mov (a.cutK 4) (b.cutK 4) (oneB (b.cutK 4)) (cB (b.cutK 4)) (cB (b.cutK 4) % 32#64) W)
  · rw [kDo_yes 176 false ho]
    exact do_ones 176 false 61 _ a b w hr (fun W => ofOnes_yes 176 false a b W (by decide) (by decide) rfl (ones_both ho).1 (ones_both ho).2)
theorem xdo_w192 (a b : K) (w : World) : Calls Try.prog 7 #[.int .u8 192, .bool true, numV a, numV b] w (Gives (.tuple #[numV (kDo 192 true a b), .bool true]) w) := by
  have hr := fun W => rowOf_arsh W
  cases ho : (oneB a && oneB b)
  · rw [kDo_no 192 true ho]
    simp only [inW_w]
    rw [show rowK 192 a b (oneB b) true b.v = rowArsh a (oneB b) true (b.v.toNat % (64#64 : B64).toNat) from (by unfold rowK; rw [if_neg (by decide), if_neg (by decide), if_neg (by decide), if_neg (by decide), if_neg (by decide), if_neg (by decide), if_neg (by decide), if_neg (by decide), if_neg (by decide), if_neg (by decide), if_neg (by decide), if_neg (by decide), if_pos rfl]; rfl)]
    exact do_w62 192 _ a b w hr (fun W => ofOnes_no 192 true a b W ho) (fun W => by
      have h := xr_arsh a b (oneB b) (cB b) (cB b % 64#64) W (mod_lt _ _ (by decide) (by decide))
      rw [arsh_cB] at h
      exact h)
  · rw [kDo_yes 192 true ho]
    exact do_ones 192 true 62 _ a b w hr (fun W => ofOnes_yes 192 true a b W (by decide) (by decide) rfl (ones_both ho).1 (ones_both ho).2)
theorem xdo_l192 (a b : K) (w : World) : Calls Try.prog 7 #[.int .u8 192, .bool false, numV a, numV b] w (Gives (.tuple #[numV (kDo 192 false a b), .bool true]) w) := by
  have hr := fun W => rowOf_arshLow W
  cases ho : (oneB a && oneB b)
  · rw [kDo_no 192 false ho]
    simp only [inW_l]
    rw [show rowK 192 (a.cutK 4) (b.cutK 4) (oneB (b.cutK 4)) false (b.cutK 4).v = allK from (by unfold rowK; rw [if_neg (by decide), if_neg (by decide), if_neg (by decide), if_neg (by decide), if_neg (by decide), if_neg (by decide), if_neg (by decide), if_neg (by decide), if_neg (by decide), if_neg (by decide), if_neg (by decide), if_neg (by decide), if_pos rfl]; rfl)]
    exact do_l28 192 _ a b w hr (fun W => ofOnes_no 192 false a b W ho) (fun W => by exact xr_none (a.cutK 4) (b.cutK 4) (oneB (b.cutK 4)) (cB (b.cutK 4)) (cB (b.cutK 4) % 32#64) W)
  · rw [kDo_yes 192 false ho]
    exact do_ones 192 false 28 _ a b w hr (fun W => ofOnes_yes 192 false a b W (by decide) (by decide) rfl (ones_both ho).1 (ones_both ho).2)
/-- What Do tells. -/
def kAll (op : Int) (wide : Bool) (a b : K) : K := if isOp op = true then kDo op wide a b else allK
theorem xdo (op : Int) (wide : Bool) (a b : K) (w : World) (h0 : 0 ≤ op) (h1 : op ≤ 255) : Calls Try.prog 7 #[.int .u8 op, .bool wide, numV a, numV b] w (Gives (.tuple #[numV (kAll op wide a b), .bool (isOp op)]) w) := by
  unfold kAll
  by_cases h : isOp op = true
  · rw [if_pos h]
    have ho := h
    rw [h]
    simp only [isOp, Bool.or_eq_true, beq_iff_eq, or_assoc] at ho
    clear h h0 h1
    obtain rfl | rfl | rfl | rfl | rfl | rfl | rfl | rfl | rfl | rfl | rfl | rfl | rfl := ho
    · cases wide
      · exact xdo_l0 a b w
      · exact xdo_w0 a b w
    · cases wide
      · exact xdo_l16 a b w
      · exact xdo_w16 a b w
    · cases wide
      · exact xdo_l32 a b w
      · exact xdo_w32 a b w
    · cases wide
      · exact xdo_l48 a b w
      · exact xdo_w48 a b w
    · cases wide
      · exact xdo_l64 a b w
      · exact xdo_w64 a b w
    · cases wide
      · exact xdo_l80 a b w
      · exact xdo_w80 a b w
    · cases wide
      · exact xdo_l96 a b w
      · exact xdo_w96 a b w
    · cases wide
      · exact xdo_l112 a b w
      · exact xdo_w112 a b w
    · cases wide
      · exact xdo_l128 a b w
      · exact xdo_w128 a b w
    · cases wide
      · exact xdo_l144 a b w
      · exact xdo_w144 a b w
    · cases wide
      · exact xdo_l160 a b w
      · exact xdo_w160 a b w
    · cases wide
      · exact xdo_l176 a b w
      · exact xdo_w176 a b w
    · cases wide
      · exact xdo_l192 a b w
      · exact xdo_w192 a b w
  · rw [if_neg h]
    rw [Bool.not_eq_true] at h
    rw [h]
    exact do_no op wide a b w (fun W => rowOf_no op wide W h0 h1 h)
end Go.Proofs.Ytogadmlnmcojpaa

/-
  Proved here: the document's examples of chapter xfer come out: alive returns true. Conditions: none.
-/
namespace Go.Proofs.Ytogadmlnmcojpaa
open Go.RowKit

def threeK : K := ⟨0#64, full, 0#64, 3#64, half, most⟩
theorem three_ok : threeK.okF = true := by decide +kernel
theorem numV_three : numV threeK = .agg #[.int .u64 0, .int .u64 18446744073709551615, .int .u64 0, .int .u64 3, .int .i64 (-9223372036854775808), .int .i64 9223372036854775807] := by
  unfold numV threeK
  simp only [u_0, u_full, s_half, s_most]
  rfl
theorem ex1_a : u (kAll 0 true threeK.fine (oneK 4#64)).a = 4 := by decide +kernel
theorem ex1_b : u (kAll 0 true threeK.fine (oneK 4#64)).b = 7 := by decide +kernel
theorem ex2_a : u (kAll 80 true allK (oneK 7#64)).a = 0 := by decide +kernel
theorem ex2_b : u (kAll 80 true allK (oneK 7#64)).b = 7 := by decide +kernel
theorem ex3_b : u (kAll 144 true allK (oneK 5#64)).b = 4 := by decide +kernel
theorem ex_ops : isOp 0 = true ∧ isOp 80 = true ∧ isOp 144 = true := ⟨rfl, rfl, rfl⟩
theorem ex_lits : u 4#64 = 4 ∧ u 7#64 = 7 ∧ u 5#64 = 5 := ⟨rfl, rfl, rfl⟩
/-- A box of the walk's own. -/
def EB (w0 : World) (n : Nat) (k : K) (W : World) : Prop := NumAt n k W ∧ w0.heap.size ≤ n ∧ Below w0.heap.size w0 W
section
variable {w0 W W' : World} {n g : Nat} {k : K}
theorem eb_keep (h : EB w0 n k W) (hb : Below W.heap.size W W') : EB w0 n k W' := ⟨num_keep h.1 hb, h.2.1, h.2.2.trans (hb.mono h.2.2.size)⟩
theorem eb_new (hb : Below w0.heap.size w0 W) (k : K) : EB w0 W.heap.size k (W.alloc (.cells #[.int .u64 (u k.v), .int .u64 (u k.m), .int .u64 (u k.a), .int .u64 (u k.b), .int .i64 (s k.c), .int .i64 (s k.d)] 26)) := ⟨num_new k W, hb.size, hb.alloc hb.size _⟩
theorem eb_of (h : EB w0 n k W) : W.cell? ⟨n, 0, none⟩ = some (.int .u64 (u k.v)) ∧ W.cell? ⟨n, 1, none⟩ = some (.int .u64 (u k.m)) ∧ W.cell? ⟨n, 2, none⟩ = some (.int .u64 (u k.a)) ∧ W.cell? ⟨n, 3, none⟩ = some (.int .u64 (u k.b)) ∧ W.cell? ⟨n, 4, none⟩ = some (.int .i64 (s k.c)) ∧ W.cell? ⟨n, 5, none⟩ = some (.int .i64 (s k.d)) ∧ EB w0 n k W := by
  obtain ⟨a0, a1, a2, a3, a4, a5⟩ := num_cells h.1
  exact ⟨a0, a1, a2, a3, a4, a5, h⟩
theorem eb_b (h : W.cell? ⟨n, 0, none⟩ = some (.int .u64 (u k.v)) ∧ W.cell? ⟨n, 1, none⟩ = some (.int .u64 (u k.m)) ∧ W.cell? ⟨n, 2, none⟩ = some (.int .u64 (u k.a)) ∧ W.cell? ⟨n, 3, none⟩ = some (.int .u64 (u k.b)) ∧ W.cell? ⟨n, 4, none⟩ = some (.int .i64 (s k.c)) ∧ W.cell? ⟨n, 5, none⟩ = some (.int .i64 (s k.d)) ∧ EB w0 n k W) : EB w0 n k W := h.2.2.2.2.2.2
theorem eb_keepS (h : W.cell? ⟨n, 0, none⟩ = some (.int .u64 (u k.v)) ∧ W.cell? ⟨n, 1, none⟩ = some (.int .u64 (u k.m)) ∧ W.cell? ⟨n, 2, none⟩ = some (.int .u64 (u k.a)) ∧ W.cell? ⟨n, 3, none⟩ = some (.int .u64 (u k.b)) ∧ W.cell? ⟨n, 4, none⟩ = some (.int .i64 (s k.c)) ∧ W.cell? ⟨n, 5, none⟩ = some (.int .i64 (s k.d)) ∧ EB w0 n k W) (hb : Below W.heap.size W W') : W'.cell? ⟨n, 0, none⟩ = some (.int .u64 (u k.v)) ∧ W'.cell? ⟨n, 1, none⟩ = some (.int .u64 (u k.m)) ∧ W'.cell? ⟨n, 2, none⟩ = some (.int .u64 (u k.a)) ∧ W'.cell? ⟨n, 3, none⟩ = some (.int .u64 (u k.b)) ∧ W'.cell? ⟨n, 4, none⟩ = some (.int .i64 (s k.c)) ∧ W'.cell? ⟨n, 5, none⟩ = some (.int .i64 (s k.d)) ∧ EB w0 n k W' := eb_of (eb_keep (eb_b h) hb)
theorem eb_box (hb : Below (W.alloc (.cells #[.int .u64 0, .int .u64 0, .int .u64 0, .int .u64 0, .int .i64 0, .int .i64 0] 26)).heap.size (W.alloc (.cells #[.int .u64 0, .int .u64 0, .int .u64 0, .int .u64 0, .int .i64 0, .int .i64 0] 26)) W') (h : W.cell? ⟨n, 0, none⟩ = some (.int .u64 (u k.v)) ∧ W.cell? ⟨n, 1, none⟩ = some (.int .u64 (u k.m)) ∧ W.cell? ⟨n, 2, none⟩ = some (.int .u64 (u k.a)) ∧ W.cell? ⟨n, 3, none⟩ = some (.int .u64 (u k.b)) ∧ W.cell? ⟨n, 4, none⟩ = some (.int .i64 (s k.c)) ∧ W.cell? ⟨n, 5, none⟩ = some (.int .i64 (s k.d)) ∧ EB w0 n k W) : NumAt W.heap.size zeroK W' ∧ n < W.heap.size := ⟨num_keep (zero_new W) hb, num_lt (eb_b h).1⟩
theorem eb_boxD (h : EB w0 n k W) (hb : Below (W.alloc (.cells #[.int .u64 0, .int .u64 0, .int .u64 0, .int .u64 0, .int .i64 0, .int .i64 0] 26)).drew.heap.size (W.alloc (.cells #[.int .u64 0, .int .u64 0, .int .u64 0, .int .u64 0, .int .i64 0, .int .i64 0] 26)).drew W') : NumAt W.heap.size zeroK W' ∧ n < W.heap.size :=
  ⟨num_keep (show NumAt W.heap.size zeroK (W.alloc (.cells #[.int .u64 0, .int .u64 0, .int .u64 0, .int .u64 0, .int .i64 0, .int .i64 0] 26)).drew from zero_new W) hb, num_lt h.1⟩
theorem eb_six (h : EB w0 n k W) (hg : n < g) (x0 x1 x2 x3 x4 x5 : Value) : EB w0 n k ((((((W.setCell ⟨g, 0, none⟩ x0).setCell ⟨g, 1, none⟩ x1).setCell ⟨g, 2, none⟩ x2).setCell ⟨g, 3, none⟩ x3).setCell ⟨g, 4, none⟩ x4).setCell ⟨g, 5, none⟩ x5) := by
  have hb := below_six (Below.refl g W) x0 x1 x2 x3 x4 x5
  have h2 := h.2.1
  exact ⟨(hb.block _ hg).trans h.1, h.2.1, h.2.2.trans (hb.mono (by omega))⟩
end
attribute [local irreducible] s u
set_option maxHeartbeats 16000000 in
theorem alive_x (w : World) : Calls Try.prog 6 #[] w (Gives (.bool true) w) := by
  have hrf := fun W => reffine_num threeK W
  rw [numV_three, three_ok] at hrf
  have hc4 := fun W => refconst_num 4#64 W
  have hc7 := fun W => refconst_num 7#64 W
  have hc5 := fun W => refconst_num 5#64 W
  have hall := fun W => refall_num W
  have hx1 := fun W => xdo 0 true threeK.fine (oneK 4#64) W (by decide) (by decide)
  have hx2 := fun W => xdo 80 true allK (oneK 7#64) W (by decide) (by decide)
  have hx3 := fun W => xdo 144 true allK (oneK 5#64) W (by decide) (by decide)
  rw [ex_ops.1] at hx1
  rw [ex_ops.2.1] at hx2
  rw [ex_ops.2.2] at hx3
  rw [ex_lits.1] at hc4
  rw [ex_lits.2.1] at hc7
  rw [ex_lits.2.2] at hc5
  have v1 := ex1_a
  have v2 := ex1_b
  have v3 := ex2_a
  have v4 := ex2_b
  have v5 := ex3_b
  obtain ⟨R1, hR1⟩ : ∃ e, kAll 0 true threeK.fine (oneK 4#64) = e := ⟨_, rfl⟩
  obtain ⟨R2, hR2⟩ : ∃ e, kAll 80 true allK (oneK 7#64) = e := ⟨_, rfl⟩
  obtain ⟨R3, hR3⟩ : ∃ e, kAll 144 true allK (oneK 5#64) = e := ⟨_, rfl⟩
  rw [hR1] at hx1 v1 v2
  rw [hR2] at hx2 v3 v4
  rw [hR3] at hx3 v5
  clear hR1 hR2 hR3
  obtain ⟨e1, he1⟩ : ∃ e, threeK.fine = e := ⟨_, rfl⟩
  rw [he1] at hrf hx1
  obtain ⟨A, hA⟩ : ∃ e, allK = e := ⟨_, rfl⟩
  rw [hA] at hall hx2 hx3
  obtain ⟨o4, h4⟩ : ∃ e, oneK 4#64 = e := ⟨_, rfl⟩
  obtain ⟨o7, h7⟩ : ∃ e, oneK 7#64 = e := ⟨_, rfl⟩
  obtain ⟨o5, h5⟩ : ∃ e, oneK 5#64 = e := ⟨_, rfl⟩
  rw [h4] at hc4 hx1
  rw [h7] at hc7 hx2
  rw [h5] at hc5 hx3
  clear he1 hA h4 h7 h5
  have V1 := Lib.hid v1
  have V2 := Lib.hid v2
  have V3 := Lib.hid v3
  have V4 := Lib.hid v4
  have V5 := Lib.hid v5
  clear v1 v2 v3 v4 v5
  unfold numV at hrf hc4 hc7 hc5 hall hx1 hx2 hx3
  unfold Gives
  go_enter Try.func6, Try.ntmps6
  go_upto_region 2 with (go_at_call 12; refine (hrf _).mono ?_; rintro e w1 ⟨rfl, hb⟩; have H1 := Lib.hid (eb_new hb e1); clear hb)
  generalize w1.alloc _ = W at H1 ⊢
  generalize w1.heap.size = n at H1 ⊢
  go_cut [3, 4] (fun x y wx => ∃ g, x = .pointer (some ⟨g, 0, none⟩) ∧ y = .bool true ∧ EB w g R1 wx)
  case first =>
    have hS0 := eb_of (eb_keep H1.out ((Below.refl W.heap.size W).drew))
    go_region_held3 (fun W => W.cell? ⟨n, 0, none⟩ = some (.int .u64 (u e1.v)) ∧ W.cell? ⟨n, 1, none⟩ = some (.int .u64 (u e1.m)) ∧ W.cell? ⟨n, 2, none⟩ = some (.int .u64 (u e1.a)) ∧ W.cell? ⟨n, 3, none⟩ = some (.int .u64 (u e1.b)) ∧ W.cell? ⟨n, 4, none⟩ = some (.int .i64 (s e1.c)) ∧ W.cell? ⟨n, 5, none⟩ = some (.int .i64 (s e1.d)) ∧ EB w n e1 W)
      (first | with_reducible exact hS2 | with_reducible exact hS1 | with_reducible exact hS0 | (have h0 := HT.out; exact eb_of (eb_six (eb_b hS2) HG.out _ _ _ _ _ _)) | with_reducible exact eb_keepS hS2 (below_box _ _) | with_reducible exact eb_keepS hS1 (below_box _ _) | with_reducible exact eb_keepS hS0 (below_box _ _))
      (first
        | (go_at_call 11; refine (hc4 _).mono ?_; rintro e w7 ⟨rfl, hb⟩; have hS1 := eb_keepS (w0 := w) (n := n) (k := e1) (by with_reducible assumption) hb; first
            | (replace HT := Lib.hid (num_keep HT.out hb); clear t0 t1 t2 t3 t4 t5 g0 g1 g2 g3 g4 g5; clear hb; obtain ⟨t0, t1, t2, t3, t4, t5⟩ := num_cells HT.out; obtain ⟨g0, g1, g2, g3, g4, g5⟩ := num_free HT.out)
            | (with_reducible have hX := eb_box (w0 := w) (n := n) (k := e1) hb (by with_reducible assumption)
               have HG := Lib.hid hX.2; have HT := Lib.hid hX.1; clear hX hb; obtain ⟨t0, t1, t2, t3, t4, t5⟩ := num_cells HT.out; obtain ⟨g0, g1, g2, g3, g4, g5⟩ := num_free HT.out)
            | (have hX := eb_boxD H1.out hb
               have HG := Lib.hid hX.2; have HT := Lib.hid hX.1; clear hX hb; obtain ⟨t0, t1, t2, t3, t4, t5⟩ := num_cells HT.out; obtain ⟨g0, g1, g2, g3, g4, g5⟩ := num_free HT.out)
            | (clear hb))
        | (go_at_call 7; refine (hx1 _).mono ?_; rintro e w8 ⟨rfl, hb⟩; have hS2 := eb_keepS (w0 := w) (n := n) (k := e1) (by with_reducible assumption) hb; first
            | (replace HT := Lib.hid (num_keep HT.out hb); clear t0 t1 t2 t3 t4 t5 g0 g1 g2 g3 g4 g5; clear hb; obtain ⟨t0, t1, t2, t3, t4, t5⟩ := num_cells HT.out; obtain ⟨g0, g1, g2, g3, g4, g5⟩ := num_free HT.out)
            | (with_reducible have hX := eb_box (w0 := w) (n := n) (k := e1) hb (by with_reducible assumption)
               have HG := Lib.hid hX.2; have HT := Lib.hid hX.1; clear hX hb; obtain ⟨t0, t1, t2, t3, t4, t5⟩ := num_cells HT.out; obtain ⟨g0, g1, g2, g3, g4, g5⟩ := num_free HT.out)
            | (have hX := eb_boxD H1.out hb
               have HG := Lib.hid hX.2; have HT := Lib.hid hX.1; clear hX hb; obtain ⟨t0, t1, t2, t3, t4, t5⟩ := num_cells HT.out; obtain ⟨g0, g1, g2, g3, g4, g5⟩ := num_free HT.out)
            | (clear hb)))
    all_goals
      go_wp2_with fail
      go_meet
      first
        | (have h0 := HT.out; exact ⟨_, rfl, rfl, num_six HT.out R1, Nat.le_of_lt (Nat.lt_of_le_of_lt H1.out.2.1 HG.out), (eb_six (eb_b hS2) HG.out _ _ _ _ _ _).2.2⟩)
        | exact ⟨_, rfl, rfl, eb_new (eb_b hS2).2.2 R1⟩
  case rest =>
    obtain ⟨g, rfl, rfl, hE⟩ := hcut
    have H2 := Lib.hid hE
    clear hE H1 hrf hc4 hx1
    go_upto_region 4 with (first
      | (go_at_call 13; refine (hall _).mono ?_; rintro e w3 ⟨rfl, hb⟩; replace H2 := Lib.hid (eb_keep H2.out hb); clear hb)
      | (go_at_call 11; refine (hc7 _).mono ?_; rintro e w4 ⟨rfl, hb⟩; replace H2 := Lib.hid (eb_keep H2.out hb); clear hb)
      | (go_at_call 7; refine (hx2 _).mono ?_; rintro e w5 ⟨rfl, hb⟩; replace H2 := Lib.hid (eb_keep H2.out hb); have H3 := Lib.hid (eb_new H2.out.2.2 R2); replace H2 := Lib.hid (eb_keep H2.out (below_box _ (.cells #[.int .u64 (u R2.v), .int .u64 (u R2.m), .int .u64 (u R2.a), .int .u64 (u R2.b), .int .i64 (s R2.c), .int .i64 (s R2.d)] 26))); clear hb))
    generalize World.alloc _ _ = W4 at H2 H3 ⊢
    generalize w5.heap.size = n2 at H3 ⊢
    clear hx2 hc7
    go_upto_region 5 with (first
      | (go_at_call 13; refine (hall _).mono ?_; rintro e w6 ⟨rfl, hb⟩; replace H2 := Lib.hid (eb_keep H2.out hb); replace H3 := Lib.hid (eb_keep H3.out hb); clear hb)
      | (go_at_call 11; refine (hc5 _).mono ?_; rintro e w7 ⟨rfl, hb⟩; replace H2 := Lib.hid (eb_keep H2.out hb); replace H3 := Lib.hid (eb_keep H3.out hb); clear hb)
      | (go_at_call 7; refine (hx3 _).mono ?_; rintro e w8 ⟨rfl, hb⟩; replace H2 := Lib.hid (eb_keep H2.out hb); replace H3 := Lib.hid (eb_keep H3.out hb); have H4 := Lib.hid (eb_new H2.out.2.2 R3); replace H2 := Lib.hid (eb_keep H2.out (below_box _ (.cells #[.int .u64 (u R3.v), .int .u64 (u R3.m), .int .u64 (u R3.a), .int .u64 (u R3.b), .int .i64 (s R3.c), .int .i64 (s R3.d)] 26))); replace H3 := Lib.hid (eb_keep H3.out (below_box _ (.cells #[.int .u64 (u R3.v), .int .u64 (u R3.m), .int .u64 (u R3.a), .int .u64 (u R3.b), .int .i64 (s R3.c), .int .i64 (s R3.d)] 26))); clear hb))
    generalize World.alloc _ _ = W5 at H2 H3 H4 ⊢
    generalize w8.heap.size = n3 at H4 ⊢
    obtain ⟨a0, a1, a2, a3, a4, a5⟩ := num_cells H2.out.1
    obtain ⟨b0, b1, b2, b3, b4, b5⟩ := num_cells H3.out.1
    obtain ⟨c0, c1, c2, c3, c4, c5⟩ := num_cells H4.out.1
    rw [V1.out] at a2
    rw [V2.out] at a3
    rw [V3.out] at b2
    rw [V4.out] at b3
    rw [V5.out] at c3
    go_wp2
    go_ret
    exact ⟨by simp, H4.out.2.2⟩
end Go.Proofs.Ytogadmlnmcojpaa

/-
  Proved here: the law XferSound returns true, of any two known, and every operation and numbers. Conditions: an operation's number is a uint8.
-/
namespace Go.Proofs.Ytogadmlnmcojpaa
open Go.RowKit

theorem kAll_has {op : Int} {wide : Bool} {a b : K} {x y : B64} (ho : isOp op = true) (ha : a.has x = true) (hb : b.has y = true) : (kAll op wide a b).has (doB op wide x y) = true := by
  unfold kAll
  rw [if_pos ho]
  exact do_has op wide ha hb
theorem do_refB (op : Int) (wide : Bool) (x y : B64) (w : World) : Calls Try.prog 10 #[.int .u8 op, .bool wide, .int .u64 (u x), .int .u64 (u y)] w (Ret (.tuple #[.int .u64 (u (doB op wide x y)), .bool (isOp op)]) w) := by
  have h := do_ref op wide (u x) (u y) w (u_bd _).1 (u_bd _).2 (u_bd _).1 (u_bd _).2
  rw [show doI op wide (u x) (u y) = u (doB op wide x y) from doJ_doB op wide x y] at h
  exact h
theorem soundx_no (op : Int) (wide : Bool) (a b : K) (x y : B64) (w : World) (h : (a.has x && b.has y) = false) : Calls Try.prog 4 #[.int .u8 op, .bool wide, numV a, numV b, .int .u64 (u x), .int .u64 (u y)] w (Gives (.bool true) w) := by
  have HP := Lib.hid (boxQ_new a b w)
  have hal := fun W => alive_x W
  have hha := fun W => refhas_num a x W
  have hhb := fun W => refhas_num b y W
  cases hx : a.has x
  · rw [hx] at hha
    clear h hx hhb
    unfold numV at *
    unfold Gives
    go_enter Try.func4, Try.ntmps4
    go_upto_region 3 with (go_at_call 6; refine (hal _).mono ?_; rintro e w1 ⟨rfl, hb⟩; have H1 := Lib.hid (boxQ_keep HP.out hb); clear hb)
    obtain ⟨a0, a1, a2, a3, a4, a5⟩ := num_cells H1.out.1
    obtain ⟨b0, b1, b2, b3, b4, b5⟩ := num_cells H1.out.2.1
    clear HP hal
    go_wp2_with (go_at_call_of 9 (Value.agg #[.int .u64 (u a.v), .int .u64 (u a.m), .int .u64 (u a.a), .int .u64 (u a.b), .int .i64 (s a.c), .int .i64 (s a.d)]); refine (hha _).mono ?_; rintro e w2 ⟨rfl, hb⟩; replace H1 := Lib.hid (boxQ_keep H1.out hb); clear hb; clear a0 a1 a2 a3 a4 a5 b0 b1 b2 b3 b4 b5; obtain ⟨a0, a1, a2, a3, a4, a5⟩ := num_cells H1.out.1; obtain ⟨b0, b1, b2, b3, b4, b5⟩ := num_cells H1.out.2.1)
    go_ret
    exact ⟨rfl, H1.out.2.2⟩
  · rw [hx, Bool.true_and] at h
    rw [hx] at hha
    rw [h] at hhb
    clear h hx
    unfold numV at *
    unfold Gives
    go_enter Try.func4, Try.ntmps4
    go_upto_region 3 with (go_at_call 6; refine (hal _).mono ?_; rintro e w1 ⟨rfl, hb⟩; have H1 := Lib.hid (boxQ_keep HP.out hb); clear hb)
    obtain ⟨a0, a1, a2, a3, a4, a5⟩ := num_cells H1.out.1
    obtain ⟨b0, b1, b2, b3, b4, b5⟩ := num_cells H1.out.2.1
    clear HP hal
    go_wp2_with (first | (go_at_call_of 9 (Value.agg #[.int .u64 (u a.v), .int .u64 (u a.m), .int .u64 (u a.a), .int .u64 (u a.b), .int .i64 (s a.c), .int .i64 (s a.d)]); refine (hha _).mono ?_; rintro e w2 ⟨rfl, hb⟩; replace H1 := Lib.hid (boxQ_keep H1.out hb); clear hb; clear a0 a1 a2 a3 a4 a5 b0 b1 b2 b3 b4 b5; obtain ⟨a0, a1, a2, a3, a4, a5⟩ := num_cells H1.out.1; obtain ⟨b0, b1, b2, b3, b4, b5⟩ := num_cells H1.out.2.1) | (go_at_call_of 9 (Value.agg #[.int .u64 (u b.v), .int .u64 (u b.m), .int .u64 (u b.a), .int .u64 (u b.b), .int .i64 (s b.c), .int .i64 (s b.d)]); refine (hhb _).mono ?_; rintro e w3 ⟨rfl, hb⟩; replace H1 := Lib.hid (boxQ_keep H1.out hb); clear hb; clear a0 a1 a2 a3 a4 a5 b0 b1 b2 b3 b4 b5; obtain ⟨a0, a1, a2, a3, a4, a5⟩ := num_cells H1.out.1; obtain ⟨b0, b1, b2, b3, b4, b5⟩ := num_cells H1.out.2.1))
    go_ret
    exact ⟨rfl, H1.out.2.2⟩
theorem soundx_yes (op : Int) (wide : Bool) (a b : K) (x y : B64) (w : World) (h0 : 0 ≤ op) (h1 : op ≤ 255) (hax : a.has x = true) (hby : b.has y = true) : Calls Try.prog 4 #[.int .u8 op, .bool wide, numV a, numV b, .int .u64 (u x), .int .u64 (u y)] w (Gives (.bool true) w) := by
  have HP := Lib.hid (boxQ_new a b w)
  have hal := fun W => alive_x W
  have hha := fun W => refhas_num a x W
  have hhb := fun W => refhas_num b y W
  have hx := fun W => xdo op wide a b W h0 h1
  have hd := fun W => do_refB op wide x y W
  have hr := fun W => refhas_num (kAll op wide a b) (doB op wide x y) W
  have hk := fun ho => kAll_has (op := op) (wide := wide) ho hax hby
  rw [hax] at hha
  rw [hby] at hhb
  clear hax hby h0 h1
  obtain ⟨R, hR⟩ : ∃ R, kAll op wide a b = R := ⟨_, rfl⟩
  obtain ⟨z, hz⟩ : ∃ z, doB op wide x y = z := ⟨_, rfl⟩
  rw [hR] at hx hr hk
  rw [hz] at hd hr hk
  clear hR hz
  cases ho : isOp op
  · rw [ho] at hx hd
    clear hk ho hr
    unfold numV at *
    unfold Gives
    go_enter Try.func4, Try.ntmps4
    go_upto_region 3 with (go_at_call 6; refine (hal _).mono ?_; rintro e w1 ⟨rfl, hb⟩; have H1 := Lib.hid (boxQ_keep HP.out hb); clear hb)
    obtain ⟨a0, a1, a2, a3, a4, a5⟩ := num_cells H1.out.1
    obtain ⟨b0, b1, b2, b3, b4, b5⟩ := num_cells H1.out.2.1
    clear HP hal
    go_upto_region 5 with (first | (go_at_call_of 9 (Value.agg #[.int .u64 (u a.v), .int .u64 (u a.m), .int .u64 (u a.a), .int .u64 (u a.b), .int .i64 (s a.c), .int .i64 (s a.d)]); refine (hha _).mono ?_; rintro e w2 ⟨rfl, hb⟩; replace H1 := Lib.hid (boxQ_keep H1.out hb); clear hb; clear a0 a1 a2 a3 a4 a5 b0 b1 b2 b3 b4 b5; obtain ⟨a0, a1, a2, a3, a4, a5⟩ := num_cells H1.out.1; obtain ⟨b0, b1, b2, b3, b4, b5⟩ := num_cells H1.out.2.1) | (go_at_call_of 9 (Value.agg #[.int .u64 (u b.v), .int .u64 (u b.m), .int .u64 (u b.a), .int .u64 (u b.b), .int .i64 (s b.c), .int .i64 (s b.d)]); refine (hhb _).mono ?_; rintro e w3 ⟨rfl, hb⟩; replace H1 := Lib.hid (boxQ_keep H1.out hb); clear hb; clear a0 a1 a2 a3 a4 a5 b0 b1 b2 b3 b4 b5; obtain ⟨a0, a1, a2, a3, a4, a5⟩ := num_cells H1.out.1; obtain ⟨b0, b1, b2, b3, b4, b5⟩ := num_cells H1.out.2.1))
    clear hha hhb
    go_wp2_with (first
      | (go_at_call 7; refine (hx _).mono ?_; rintro e w4 ⟨rfl, hb⟩; replace H1 := Lib.hid (boxQ_keep H1.out hb); clear hb)
      | (go_at_call 10; refine (hd _).mono ?_; rintro e w5 ⟨rfl, rfl⟩))
    go_ret
    exact ⟨rfl, H1.out.2.2.alloc H1.out.2.2.size _⟩
  · rw [ho] at hx hd
    rw [hk ho] at hr
    clear hk ho
    unfold numV at *
    unfold Gives
    go_enter Try.func4, Try.ntmps4
    go_upto_region 3 with (go_at_call 6; refine (hal _).mono ?_; rintro e w1 ⟨rfl, hb⟩; have H1 := Lib.hid (boxQ_keep HP.out hb); clear hb)
    obtain ⟨a0, a1, a2, a3, a4, a5⟩ := num_cells H1.out.1
    obtain ⟨b0, b1, b2, b3, b4, b5⟩ := num_cells H1.out.2.1
    clear HP hal
    go_upto_region 5 with (first | (go_at_call_of 9 (Value.agg #[.int .u64 (u a.v), .int .u64 (u a.m), .int .u64 (u a.a), .int .u64 (u a.b), .int .i64 (s a.c), .int .i64 (s a.d)]); refine (hha _).mono ?_; rintro e w2 ⟨rfl, hb⟩; replace H1 := Lib.hid (boxQ_keep H1.out hb); clear hb; clear a0 a1 a2 a3 a4 a5 b0 b1 b2 b3 b4 b5; obtain ⟨a0, a1, a2, a3, a4, a5⟩ := num_cells H1.out.1; obtain ⟨b0, b1, b2, b3, b4, b5⟩ := num_cells H1.out.2.1) | (go_at_call_of 9 (Value.agg #[.int .u64 (u b.v), .int .u64 (u b.m), .int .u64 (u b.a), .int .u64 (u b.b), .int .i64 (s b.c), .int .i64 (s b.d)]); refine (hhb _).mono ?_; rintro e w3 ⟨rfl, hb⟩; replace H1 := Lib.hid (boxQ_keep H1.out hb); clear hb; clear a0 a1 a2 a3 a4 a5 b0 b1 b2 b3 b4 b5; obtain ⟨a0, a1, a2, a3, a4, a5⟩ := num_cells H1.out.1; obtain ⟨b0, b1, b2, b3, b4, b5⟩ := num_cells H1.out.2.1))
    clear hha hhb
    go_upto_region 6 with (go_at_call 7; refine (hx _).mono ?_; rintro e w4 ⟨rfl, hb⟩; have H2 := Lib.hid (eb_new (H1.out.2.2.trans (hb.mono H1.out.2.2.size)) R); clear hb)
    generalize w4.alloc _ = W at H2 ⊢
    generalize w4.heap.size = g at H2 ⊢
    clear hx H1 a0 a1 a2 a3 a4 a5 b0 b1 b2 b3 b4 b5
    obtain ⟨c0, c1, c2, c3, c4, c5⟩ := num_cells H2.out.1
    go_wp2_with (first
      | (go_at_call 10; refine (hd _).mono ?_; rintro e w5 ⟨rfl, rfl⟩)
      | (go_at_call 9; refine (hr _).mono ?_; rintro e w6 ⟨rfl, hb⟩; have H3 := Lib.hid (eb_keep H2.out hb); clear hb))
    go_ret
    exact ⟨by simp, H3.out.2.2⟩
theorem xferSound.walk (v0 v1 v2 v3 v4 v5 : Value) (w : World) (h0 : IsInt .u8 v0) (h1 : ∃ b : Bool, v1 = .bool b) (h2 : IsNum v2) (h3 : IsNum v3) (h4 : IsInt .u64 v4) (h5 : IsInt .u64 v5) :
    Calls Try.prog 4 #[v0, v1, v2, v3, v4, v5] w fun e w' => e = .returned (.bool true) ∧ Below w.heap.size w w' := by
  obtain ⟨op, rfl, ho⟩ := h0
  obtain ⟨wide, rfl⟩ := h1
  obtain ⟨a, rfl⟩ := h2
  obtain ⟨b, rfl⟩ := h3
  obtain ⟨x, rfl⟩ := u_in h4
  obtain ⟨y, rfl⟩ := u_in h5
  have b0 := bounds_u8 ho
  cases h : (a.has x && b.has y)
  · exact soundx_no op wide a b x y w h
  · rw [Bool.and_eq_true] at h
    exact soundx_yes op wide a b x y w b0.1 b0.2 h.1 h.2
end Go.Proofs.Ytogadmlnmcojpaa
