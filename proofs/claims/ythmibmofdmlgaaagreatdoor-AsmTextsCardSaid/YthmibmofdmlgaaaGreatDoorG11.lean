import Derived.Test.YthmibmofdmlgaaaGreatDoorHReadWord
import Derived.Test.YthmibmofdmlgaaaGreatDoorHInsts
import Derived.Test.YthmibmofdmlgaaaGreatDoorG05
/-
  Proved here: nothing of a program: what is read of a wide line is its two instructions. Conditions: they are right, their fields fit.
-/
namespace Go.Proofs.YthmibmofdmlgaaaGreatDoor
open Go.RowKit
set_option linter.unusedVariables false

theorem base24 : baseOp 24 = 24 := by unfold baseOp; rw [wd24]
theorem right24 (x : Ins) (hx : x.Fit) (hr : rightI x = true) (h24 : x.op = 24) : x.dst ≤ 9 ∧ x.src ≤ 1 ∧ x.off = 0 := by
  obtain ⟨h1, h2, h3, _⟩ := fit_use (show fitB (fldAt (shp x.op)) (shp x.op != 0) x.dst x.src x.off x.imm = true from hr)
  have e : (fldAt (shp 24)).dst = 9 ∧ (fldAt (shp 24)).src = 1 ∧ (fldAt (shp 24)).off = false := by decide +kernel
  rw [h24] at h1 h2 h3
  rw [e.1] at h1
  rw [e.2.1] at h2
  exact ⟨h1, h2, h3 e.2.2⟩
/-- The parts of a wide line: a number, or a map's. -/
def wideP (x : Ins) : List Int := if x.src = 1 then [0, 3] else [0, 2]
theorem word_wide (x : Ins) (h24 : x.op = 24) : wordI x = ((if x.src = 1 then [109, 97, 112] else [108, 100, 100, 119]), wideP x, false) := by
  unfold wordI wideP
  by_cases h1 : x.src = 1
  · rw [if_pos ⟨h24, h1⟩, if_pos h1, if_pos h1]; rfl
  · rw [if_neg (fun h => h1 h.2), if_neg h1, if_neg h1, h24, wd24]; rfl
theorem read_wide (x : Ins) (N : Int) (hx : x.Fit) (hr : rightI x = true) (h24 : x.op = 24) :
    foldL x N false (wideP x) 2 (baseI x, 0) = (⟨24, x.dst, x.src, 0, 0⟩, N) ∧ ∀ k, (foldL x N false (wideP x) k (baseI x, 0)).1.op = 24 := by
  obtain ⟨h9, h1, h0⟩ := right24 x hx hr h24
  have s0 := hx.src.1
  by_cases hs : x.src = 1
  · have e1 : baseI x = ⟨24, 0, 1, 0, 0⟩ := by unfold baseI; rw [if_pos ⟨h24, hs⟩]
    have e2 : wideP x = [0, 3] := by unfold wideP; rw [if_pos hs]
    rw [e1, e2]
    refine ⟨by simp [foldL, stepL, hs], fun k => ?_⟩
    rcases k with _ | _ | k <;> simp [foldL, stepL]
  · have e1 : baseI x = ⟨24, 0, 0, 0, 0⟩ := by unfold baseI; rw [if_neg (fun h => hs h.2), h24, base24]
    have e2 : wideP x = [0, 2] := by unfold wideP; rw [if_neg hs]
    rw [e1, e2]
    have e3 : x.src = 0 := by omega
    refine ⟨by simp [foldL, stepL, e3], fun k => ?_⟩
    rcases k with _ | _ | k <;> simp [foldL, stepL]
theorem wide_halves (x y : Ins) (hx : x.Fit) (hy : y.Fit) : ∃ v, IntKind.u64.wrap (wideN x y) = v ∧ IntKind.i32.wrap v = x.imm ∧ IntKind.i32.wrap (v / 4294967296) = y.imm := by
  have m0 := hx.imm
  have m1 := hy.imm
  refine ⟨x.imm % 4294967296 + y.imm % 4294967296 * 4294967296, ?_, ?_, ?_⟩
  · unfold wideN
    rw [u64_mod, IntKind.wrap_i64]
    omega
  · rw [IntKind.wrap_i32]
    omega
  · rw [IntKind.wrap_i32]
    omega
/-- What insts gives of a wide line. -/
theorem insts_wide (x y : Ins) (hx : x.Fit) (hy : y.Fit) (hr : rightI x = true) (h24 : x.op = 24) (hn : noneB y = true) (w : World) :
    Calls Tryz.prog 36 #[.agg #[.int .u8 24, .int .u8 x.dst, .int .u8 x.src, .int .i16 0, .int .i32 0, .int .i64 (wideN x y)]] w (InstsP [x, y] w) := by
  obtain ⟨v, h1, h2, h3⟩ := wide_halves x y hx hy
  have h := insts_two x.dst x.src 0 0 (wideN x y) v _ _ w h1 h2 h3
  obtain ⟨_, _, h0⟩ := right24 x hx hr h24
  have e1 : (⟨24, x.dst, x.src, 0, x.imm⟩ : Ins) = x := by
    obtain ⟨o, d, s, f, m⟩ := x
    dsimp only at h24 h0
    subst h24 h0
    rfl
  have e2 : (⟨0, 0, 0, 0, y.imm⟩ : Ins) = y := by
    obtain ⟨o, d, s, f, m⟩ := y
    simp only [noneB, Bool.and_eq_true, beq_iff_eq] at hn
    obtain ⟨⟨⟨rfl, rfl⟩, rfl⟩, rfl⟩ := hn
    rfl
  rw [e1, e2] at h
  exact h
/-- What insts gives of another line. -/
theorem insts_plain (x : Ins) (hx : x.Fit) (h24 : x.op ≠ 24) (w : World) :
    Calls Tryz.prog 36 #[.agg #[.int .u8 x.op, .int .u8 x.dst, .int .u8 x.src, .int .i16 x.off, .int .i32 0, .int .i64 x.imm]] w (InstsP [x] w) :=
  insts_one x.op x.dst x.src x.off 0 x.imm w h24 hx.imm.1 hx.imm.2
end Go.Proofs.YthmibmofdmlgaaaGreatDoor

/-
  Proved here: what strings.Cut makes of a line. Conditions: the line is a word's, at most 1000 bytes; the library's variable.
-/
namespace Go.Proofs.YthmibmofdmlgaaaGreatDoor
open Go.RowKit
set_option linter.unusedVariables false

theorem wd_plain : ∀ n : Fin 256, (match wdOf (n.val : Int) with | some d => !d.1.contains 32 && !d.1.contains 10 | none => true) = true := by decide +kernel
/-- In a word's text there is no blank, no newline. -/
theorem word_plain (x : Ins) (hx : x.Fit) (hr : rightI x = true) : 32 ∉ (wordI x).1 ∧ 10 ∉ (wordI x).1 := by
  unfold wordI
  by_cases hm : x.op = 24 ∧ x.src = 1
  · rw [if_pos hm]; simp [wdMap]
  · rw [if_neg hm]
    obtain ⟨n, hn⟩ := fin_of hx.op.1 hx.op.2
    have h1 := wd_plain n
    rw [hn] at h1
    obtain ⟨d, hd⟩ := wd_right hx hr
    rw [hd] at h1 ⊢
    simpa using h1
/-- What stands behind the word. -/
def restT (x : Ins) (N : Int) (d : Wd) : List UInt8 := Lib.join (d.2.1.map (partT x N d.2.2)) [44, 32]
theorem cut_line (x : Ins) (N : Int) (d : Wd) (h32 : 32 ∉ d.1) (W : World) (he : Env W) (hl : (lineT x N d).length ≤ 1000) :
    Calls Tryz.prog 51 #[.string (S (lineT x N d)), .string (S [32])] W fun e w' => e = .returned (.tuple #[.string (S d.1), .string (S (restT x N d)), .bool (!d.2.1.isEmpty)]) ∧ ∃ n, w' = W.drewN n := by
  obtain ⟨m, hm⟩ := he.max
  refine (Tryz.strings_Cut (S (lineT x N d)) (S [32]) m W (by rw [S_size]; omega) hm).mono ?_
  rintro e w' ⟨rfl, hw⟩
  refine ⟨?_, hw⟩
  rw [S_data, S_data]
  unfold lineT restT
  by_cases hp : d.2.1 = []
  · rw [if_pos hp, cut_not 32 _ h32, hp]
    rfl
  · rw [if_neg hp, cut_at 32 _ _ h32]
    have : d.2.1.isEmpty = false := by cases h : d.2.1 with | nil => exact absurd h hp | cons _ _ => rfl
    rw [this]
    rfl
end Go.Proofs.YthmibmofdmlgaaaGreatDoor
