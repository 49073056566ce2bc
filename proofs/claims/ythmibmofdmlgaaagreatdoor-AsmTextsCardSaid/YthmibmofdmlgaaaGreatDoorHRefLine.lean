import Derived.Test.YthmibmofdmlgaaaGreatDoorHRefLineA
import Derived.Test.YthmibmofdmlgaaaGreatDoorHRefLineB
import Derived.Test.YthmibmofdmlgaaaGreatDoorHRefLineC
import Derived.Test.YthmibmofdmlgaaaGreatDoorHRefLineD
import Derived.Test.YthmibmofdmlgaaaGreatDoorHRefLineE
import Derived.Test.YthmibmofdmlgaaaGreatDoorHRefWide
/-
  Proved here: Line of the document's answers. Conditions: the fields fit, the instruction is right.
-/
namespace Go.Proofs.YthmibmofdmlgaaaGreatDoor
set_option linter.unusedSimpArgs false
open Go.RowKit
set_option linter.unusedVariables false

def tailN (o : Int) : List UInt8 := if o % 8 = 4 ∨ o % 8 = 6 then [51, 50] else []
/-- The word of an opcode, as the document's answers spell it. -/
def refWd (o : Int) : Wd :=
  if o = 5 then ([106, 97], [4], false) else if o = 133 then ([99, 97, 108, 108], [3], false) else if o = 149 then ([101, 120, 105, 116], [], false)
  else if condB o then (jsN.getD (o / 16).toNat [] ++ tailN o, [0, 1, 4], decide (o / 8 % 2 = 1))
  else if o % 8 = 1 then ([108, 100] ++ Lib.itoa (szR o), [0, 5], false)
  else if o % 8 = 2 then ([115, 116] ++ Lib.itoa (szR o), [6, 1], false)
  else if o % 8 = 3 then ([115, 116] ++ Lib.itoa (szR o), [6, 1], true)
  else if o / 16 = 8 then ([110, 101, 103] ++ tailN o, [0], false)
  else (opsN.getD (o / 16).toNat [] ++ tailN o, [0, 1], decide (o / 8 % 2 = 1))
set_option maxRecDepth 100000 in
theorem wd_ref : ∀ n : Fin 256, shp (n.val : Int) ≠ 0 → (n.val : Int) ≠ 24 → wdOf (n.val : Int) = some (refWd (n.val : Int)) := by decide +kernel
/-- The classes of opcodes. -/
def classB (o : Int) : Bool := o == 5 || o == 133 || o == 149 || (condB o && (o % 8 == 5 || o % 8 == 6)) || (!condB o && szR o != 0 && (o % 8 == 1 || o % 8 == 2 || o % 8 == 3)) ||
  (!condB o && (o % 8 == 4 || o % 8 == 7) && (o / 16 == 8 || (o / 16 != 8 && decide (o / 16 ≤ 12))))
theorem class_of : ∀ n : Fin 256, shp (n.val : Int) ≠ 0 → (n.val : Int) ≠ 24 → classB (n.val : Int) = true := by decide +kernel
theorem fin_of {o : Int} (h0 : 0 ≤ o) (h1 : o ≤ 255) : ∃ n : Fin 256, (n.val : Int) = o := ⟨⟨o.toNat, by omega⟩, by simp; omega⟩
theorem right_shp {x : Ins} (h : rightI x = true) : shp x.op ≠ 0 := by
  intro h0
  unfold rightI fitB at h
  rw [h0] at h
  simp at h
/-- The line that the document's answers give. -/
def refO (x y : Ins) (has : Bool) : Option (List UInt8) := if x.op = 24 then (if has && noneB y then lineO x (wideN x y) else none) else lineO x x.imm
theorem word_ref {x : Ins} (hx : x.Fit) (hr : rightI x = true) (h24 : x.op ≠ 24) : wordI x = refWd x.op ∧ classB x.op = true := by
  obtain ⟨n, hn⟩ := fin_of hx.op.1 hx.op.2
  have h1 := wd_ref n
  have h2 := class_of n
  rw [hn] at h1 h2
  unfold wordI
  rw [if_neg (fun h => h24 h.1), h1 (right_shp hr) h24]
  exact ⟨rfl, h2 (right_shp hr) h24⟩
theorem ref_plain (x y : Ins) (has : Bool) (w : World) (hx : x.Fit) (hr : rightI x = true) (h24 : x.op ≠ 24) :
    Calls Tryz.prog 13 #[insV x.op x.dst x.src x.off x.imm, insV y.op y.dst y.src y.off y.imm, .bool has] w (Txt ((lineO x x.imm).getD []) w) := by
  obtain ⟨hw, hc⟩ := word_ref hx hr h24
  obtain ⟨o, d, s, f, m⟩ := x
  obtain ⟨o', d', s', f', m'⟩ := y
  dsimp only at *
  unfold lineO
  rw [hw]
  have key : ∀ t, Calls Tryz.prog 13 #[insV o d s f m, insV o' d' s' f' m', .bool has] w (Txt t w) → t = ((if lineB ⟨o, d, s, f, m⟩ m (refWd o) = true then some (lineT ⟨o, d, s, f, m⟩ m (refWd o)) else none).getD []) → Calls Tryz.prog 13 #[insV o d s f m, insV o' d' s' f' m', .bool has] w (Txt ((if lineB ⟨o, d, s, f, m⟩ m (refWd o) = true then some (lineT ⟨o, d, s, f, m⟩ m (refWd o)) else none).getD []) w) := by
    intro t ht he
    rw [← he]
    exact ht
  by_cases h5 : o = 5
  · by_cases hf : 0 ≤ f
    · refine key _ (rl_ja o d s f m o' d' s' f' m' has w hx h5 hf) ?_
      simp [refWd, h5, lineB, lineT, partB, partT, hf, offT, Lib.join, show ¬ f < 0 by omega]
    · refine key _ (rl_jaN o d s f m o' d' s' f' m' has w hx h5 (by omega)) ?_
      simp [refWd, h5, lineB, lineT, partB, partT, hf]
  by_cases h133 : o = 133
  · by_cases hf : 0 ≤ m
    · refine key _ (rl_call o d s f m o' d' s' f' m' has w hx h133 hf) ?_
      simp [refWd, h133, lineB, lineT, partB, partT, hf, Lib.join]
    · refine key _ (rl_callN o d s f m o' d' s' f' m' has w hx h133 (by omega)) ?_
      simp [refWd, h133, lineB, lineT, partB, partT, hf]
  by_cases h149 : o = 149
  · refine key _ (rl_exit o d s f m o' d' s' f' m' has w hx h149) ?_
    simp [refWd, h149, lineB, lineT]
  by_cases hcd : condB o = true
  · have h56 : o % 8 = 5 ∨ o % 8 = 6 := by simp only [condB, decide_eq_true_eq] at hcd; exact hcd.1
    by_cases hf : 0 ≤ f
    · rcases h56 with h56 | h56
      · refine key _ (rl_cond5 o d s f m o' d' s' f' m' has w hx hcd h56 hf) ?_
        by_cases hq : o / 8 % 2 = 1 <;> simp [refWd, h5, h133, h149, hcd, tailN, h56, lineB, lineT, partB, partT, hf, offT, Lib.join, show ¬ f < 0 by omega, operandT, hq]
      · refine key _ (rl_cond6 o d s f m o' d' s' f' m' has w hx hcd h56 hf) ?_
        by_cases hq : o / 8 % 2 = 1 <;> simp [refWd, h5, h133, h149, hcd, tailN, h56, lineB, lineT, partB, partT, hf, offT, Lib.join, show ¬ f < 0 by omega, operandT, hq]
    · rcases h56 with h56 | h56
      · refine key _ (rl_jneg5 o d s f m o' d' s' f' m' has w hx hcd h56 (by omega)) ?_
        simp [refWd, h5, h133, h149, hcd, lineB, partB, hf]
      · refine key _ (rl_jneg6 o d s f m o' d' s' f' m' has w hx hcd h56 (by omega)) ?_
        simp [refWd, h5, h133, h149, hcd, lineB, partB, hf]
  have hcf : condB o = false := by simpa using hcd
  simp only [classB, h5, h133, h149, hcf, beq_iff_eq, Bool.or_eq_true, Bool.and_eq_true, bne_iff_ne, Bool.not_false, decide_eq_true_eq, false_or, false_and, true_and, ne_eq, Bool.false_eq_true] at hc
  rcases hc with ⟨hz, (h8 | h8) | h8⟩ | ⟨h8 | h8, h16 | ⟨h16, h12⟩⟩
  · refine key _ (rl_ld o d s f m o' d' s' f' m' has w hx hcf hz h8) ?_
    simp [refWd, h5, h133, h149, hcf, h8, lineB, lineT, partB, partT, Lib.join]
  · refine key _ (rl_sti o d s f m o' d' s' f' m' has w hx hcf hz h8) ?_
    simp [refWd, h5, h133, h149, hcf, h8, lineB, lineT, partB, partT, Lib.join]
  · refine key _ (rl_str o d s f m o' d' s' f' m' has w hx hcf hz h8) ?_
    simp [refWd, h5, h133, h149, hcf, h8, lineB, lineT, partB, partT, Lib.join]
  · refine key _ (rl_neg4 o d s f m o' d' s' f' m' has w hx hcf h8 h16) ?_
    simp [refWd, h5, h133, h149, hcf, h8, h16, tailN, lineB, lineT, partB, partT, Lib.join]
  · refine key _ (rl_alu4 o d s f m o' d' s' f' m' has w hx hcf h8 h16 h12) ?_
    by_cases hq : o / 8 % 2 = 1 <;> simp [refWd, h5, h133, h149, hcf, h8, h16, tailN, lineB, lineT, partB, partT, Lib.join, operandT, hq]
  · refine key _ (rl_neg7 o d s f m o' d' s' f' m' has w hx hcf h8 h16) ?_
    simp [refWd, h5, h133, h149, hcf, h8, h16, tailN, lineB, lineT, partB, partT, Lib.join]
  · refine key _ (rl_alu7 o d s f m o' d' s' f' m' has w hx hcf h8 h16 h12) ?_
    by_cases hq : o / 8 % 2 = 1 <;> simp [refWd, h5, h133, h149, hcf, h8, h16, tailN, lineB, lineT, partB, partT, Lib.join, operandT, hq]
theorem wd24 : wdOf 24 = some ([108, 100, 100, 119], [0, 2], false) := by decide +kernel
theorem ref_wide (x y : Ins) (has : Bool) (w : World) (hx : x.Fit) (hy : y.Fit) (h24 : x.op = 24) :
    Calls Tryz.prog 13 #[insV x.op x.dst x.src x.off x.imm, insV y.op y.dst y.src y.off y.imm, .bool has] w (Txt ((if has && noneB y then lineO x (wideN x y) else none).getD []) w) := by
  obtain ⟨o, d, s, f, m⟩ := x
  obtain ⟨o', d', s', f', m'⟩ := y
  have y0 := hy.op.1
  have y1 := hy.dst.1
  have y2 := hy.src.1
  dsimp only at h24 y0 y1 y2
  cases has with
  | false => exact rl_wno o d s f m o' d' s' f' m' w hx hy h24
  | true =>
    by_cases ho : o' = 0
    · by_cases hd : d' = 0
      · by_cases hs : s' = 0
        · by_cases hf : f' = 0
          · have hn : noneB ⟨o', d', s', f', m'⟩ = true := by simp [noneB, ho, hd, hs, hf]
            rw [hn]
            obtain ⟨v, hv⟩ : ∃ v, wideN ⟨o, d, s, f, m⟩ ⟨o', d', s', f', m'⟩ = v := ⟨_, rfl⟩
            have hv2 := hv
            unfold wideN at hv2
            dsimp only at hv2
            dsimp only
            rw [hv]
            have key : ∀ t u, Calls Tryz.prog 13 #[insV o d s f m, insV o' d' s' f' m', .bool true] w (Txt t w) → t = u → Calls Tryz.prog 13 #[insV o d s f m, insV o' d' s' f' m', .bool true] w (Txt u w) := by
              intro t u ht he
              rw [← he]
              exact ht
            by_cases h1 : s = 1
            · by_cases hneg : v < 0
              · refine key _ _ (rl_wneg o d s f m o' d' s' f' m' w hx hy h24 ho hd hs hf h1 (by rw [hv2]; exact hneg)) ?_
                simp [lineO, wordI, h24, h1, wdMap, lineB, partB, show ¬ 0 ≤ v by omega]
              · refine key _ _ (rl_wmap o d s f m o' d' s' f' m' w hx hy h24 ho hd hs hf h1 (by rw [hv2]; omega)) ?_
                rw [hv2]
                simp [lineO, wordI, h24, h1, wdMap, lineB, lineT, partB, partT, Lib.join, show 0 ≤ v by omega]
            · refine key _ _ (rl_wnum o d s f m o' d' s' f' m' w hx hy h24 ho hd hs hf h1) ?_
              rw [hv2]
              simp [lineO, wordI, h24, h1, wd24, lineB, lineT, partB, partT, Lib.join]
          · have hn : noneB ⟨o', d', s', f', m'⟩ = false := by simp [noneB, hf]
            rw [hn]
            exact rl_wbad3 o d s f m o' d' s' f' m' w hx hy h24 ho hd hs hf
        · have hn : noneB ⟨o', d', s', f', m'⟩ = false := by simp [noneB, hs]
          rw [hn]
          exact rl_wbad2 o d s f m o' d' s' f' m' w hx hy h24 ho hd (by omega)
      · have hn : noneB ⟨o', d', s', f', m'⟩ = false := by simp [noneB, hd]
        rw [hn]
        exact rl_wbad1 o d s f m o' d' s' f' m' w hx hy h24 ho (by omega)
    · have hn : noneB ⟨o', d', s', f', m'⟩ = false := by simp [noneB, ho]
      rw [hn]
      exact rl_wbad0 o d s f m o' d' s' f' m' w hx hy h24 (by omega)
/-- Line of the document's answers. -/
theorem ref_line (x y : Ins) (has : Bool) (w : World) (hx : x.Fit) (hy : y.Fit) (hr : rightI x = true) :
    Calls Tryz.prog 13 #[insV x.op x.dst x.src x.off x.imm, insV y.op y.dst y.src y.off y.imm, .bool has] w (Txt ((refO x y has).getD []) w) := by
  unfold refO
  by_cases h24 : x.op = 24
  · rw [if_pos h24]
    exact ref_wide x y has w hx hy h24
  · rw [if_neg h24]
    exact ref_plain x y has w hx hr h24
end Go.Proofs.YthmibmofdmlgaaaGreatDoor
