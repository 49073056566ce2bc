import Derived.Test.YthmibmofdmlgaaaGreatDoorHReadParts
import Derived.Test.YthmibmofdmlgaaaGreatDoorG10
/-
  Proved here: nothing of a program: what is read of a line's parts, from the word alone on, is the instruction. Conditions: it is right, its fields fit.
-/
namespace Go.Proofs.YthmibmofdmlgaaaGreatDoor
open Go.RowKit
set_option linter.unusedVariables false

/-- The opcode of the form from a number. -/
def baseOp (o : Int) : Int := match wdOf o with
  | some (_, _, true) => if o % 8 = 3 then o - 1 else o - 8
  | _ => o
/-- What the word alone tells. -/
def baseI (x : Ins) : Ins := if x.op = 24 ∧ x.src = 1 then ⟨24, 0, 1, 0, 0⟩ else ⟨baseOp x.op, 0, 0, 0, 0⟩
def shapeB (ps : List Int) (reg : Bool) (F : Fld) : Bool :=
  (ps == [] && !reg && F.dst == 0 && F.src == 0 && !F.off && !F.imm) || (ps == [3] && !reg && F.dst == 0 && F.src == 0 && !F.off) || (ps == [4] && !reg && F.dst == 0 && F.src == 0 && !F.imm) ||
  (ps == [0] && !reg && F.src == 0 && !F.off && !F.imm) || (ps == [0, 1] && !F.off && (if reg then !F.imm else F.src == 0)) || (ps == [0, 1, 4] && (if reg then !F.imm else F.src == 0)) ||
  (ps == [0, 5] && !reg && !F.imm) || (ps == [6, 1] && (if reg then !F.imm else F.src == 0))
def readB (n : Int) : Bool := match wdOf n with
  | none => false
  | some (t, ps, reg) => shapeB ps reg (fldAt (shp n)) && decide ((fldAt (shp n)).dst ≤ 10) && decide ((fldAt (shp n)).src ≤ 10) && (if reg then wreg (baseOp n) == n else baseOp n == n) && (baseOp n != 24) &&
    (wdOf (baseOp n) == some (t, ps, false)) && decide (0 ≤ baseOp n ∧ baseOp n ≤ 255)
set_option maxRecDepth 100000 in
theorem read_of : ∀ n : Fin 256, shp (n.val : Int) ≠ 0 → (n.val : Int) ≠ 24 → readB (n.val : Int) = true := by decide +kernel
theorem fit_use {F : Fld} {ok : Bool} {d s o m : Int} (h : fitB F ok d s o m = true) : d ≤ F.dst ∧ s ≤ F.src ∧ (F.off = false → o = 0) ∧ (F.imm = false → m = 0) := by
  simp only [fitB, Bool.and_eq_true, decide_eq_true_eq, Bool.or_eq_true, beq_iff_eq] at h
  obtain ⟨⟨⟨⟨_, h1⟩, h2⟩, h3⟩, h4⟩ := h
  refine ⟨h1, h2, fun e => ?_, fun e => ?_⟩
  · rw [e] at h3; simpa using h3
  · rw [e] at h4; simpa using h4
theorem count_take (q : Int) : ∀ (ps : List Int) (k : Nat), (ps.take k).count q ≤ ps.count q
  | [], k => by simp
  | p :: ps, 0 => by simp
  | p :: ps, k + 1 => by
    have ih := count_take q ps k
    rw [List.take_succ_cons, List.count_cons, List.count_cons]
    split <;> omega
/-- What is read of a line's parts is the instruction. -/
theorem read_all (x : Ins) (hx : x.Fit) (hr : rightI x = true) (h24 : x.op ≠ 24) :
    ∃ t ps reg, wordI x = (t, ps, reg) ∧ wdOf (baseOp x.op) = some (t, ps, false) ∧ 0 ≤ baseOp x.op ∧ baseOp x.op ≤ 255 ∧ x.dst ≤ 10 ∧ x.src ≤ 10 ∧ foldL x x.imm reg ps ps.length (baseI x, 0) = (⟨x.op, x.dst, x.src, x.off, 0⟩, x.imm) ∧
      ∀ k, (foldL x x.imm reg ps k (baseI x, 0)).1.op ≠ 24 := by
  obtain ⟨n, hn⟩ := fin_of hx.op.1 hx.op.2
  have h := read_of n
  rw [hn] at h
  have h := h (right_shp hr) h24
  unfold readB at h
  have hw : wordI x = (wdOf x.op).getD ([], [], false) := by unfold wordI; rw [if_neg (fun h => h24 h.1)]
  have hbase : baseI x = ⟨baseOp x.op, 0, 0, 0, 0⟩ := by unfold baseI; rw [if_neg (fun h => h24 h.1)]
  cases hd : wdOf x.op with
  | none => rw [hd] at h; cases h
  | some d =>
    obtain ⟨t, ps, reg⟩ := d
    rw [hd] at h hw
    simp only [Bool.and_eq_true, decide_eq_true_eq, beq_iff_eq, bne_iff_ne] at h
    obtain ⟨⟨⟨⟨⟨⟨hs, hd10⟩, hs10⟩, hop⟩, hb24⟩, hbw⟩, hb0, hb1⟩ := h
    obtain ⟨hf1, hf2, hf3, hf4⟩ := fit_use (show fitB (fldAt (shp x.op)) (shp x.op != 0) x.dst x.src x.off x.imm = true from hr)
    have d0 := hx.dst.1
    have s0 := hx.src.1
    refine ⟨t, ps, reg, hw, hbw, hb0, hb1, by omega, by omega, ?_, ?_⟩
    · rw [hbase]
      unfold foldL
      rw [List.take_length]
      unfold shapeB at hs
      simp only [Bool.or_eq_true, Bool.and_eq_true, beq_iff_eq, Bool.not_eq_true'] at hs
      obtain ⟨o, d, s, f, m⟩ := x
      dsimp only at *
      rcases hs with ((((((hs | hs) | hs) | hs) | hs) | hs) | hs) | hs
      · obtain ⟨⟨⟨⟨⟨rfl, rfl⟩, e1⟩, e2⟩, e3⟩, e4⟩ := hs
        have a1 : d = 0 := by omega
        have a2 : s = 0 := by omega
        simp at hop
        simp [hop, a1, a2, hf3 e3, hf4 e4]
      · obtain ⟨⟨⟨⟨rfl, rfl⟩, e1⟩, e2⟩, e3⟩ := hs
        have a1 : d = 0 := by omega
        have a2 : s = 0 := by omega
        simp at hop
        simp [stepL, hop, a1, a2, hf3 e3]
      · obtain ⟨⟨⟨⟨rfl, rfl⟩, e1⟩, e2⟩, e3⟩ := hs
        have a1 : d = 0 := by omega
        have a2 : s = 0 := by omega
        simp at hop
        simp [stepL, hop, a1, a2, hf4 e3]
      · obtain ⟨⟨⟨⟨rfl, rfl⟩, e2⟩, e3⟩, e4⟩ := hs
        have a2 : s = 0 := by omega
        simp at hop
        simp [stepL, hop, a2, hf3 e3, hf4 e4]
      · obtain ⟨⟨rfl, e3⟩, e4⟩ := hs
        cases reg with
        | true => simp at hop e4; simp [stepL, hop, hf3 e3, hf4 e4]
        | false =>
          simp at hop e4
          have a2 : s = 0 := by omega
          simp [stepL, hop, hf3 e3, a2]
      · obtain ⟨rfl, e4⟩ := hs
        cases reg with
        | true => simp at hop e4; simp [stepL, hop, hf4 e4]
        | false =>
          simp at hop e4
          have a2 : s = 0 := by omega
          simp [stepL, hop, a2]
      · obtain ⟨⟨rfl, rfl⟩, e4⟩ := hs
        simp at hop
        simp [stepL, hop, hf4 e4]
      · obtain ⟨rfl, e4⟩ := hs
        cases reg with
        | true => simp at hop e4; simp [stepL, hop, hf4 e4]
        | false =>
          simp at hop e4
          have a2 : s = 0 := by omega
          simp [stepL, hop, a2]
    · intro k
      rw [hbase]
      obtain ⟨B, hBq⟩ : ∃ B, baseOp x.op = B := ⟨_, rfl⟩
      rw [hBq] at hop hb24 ⊢
      have hwr : reg = true → wreg (B) ≠ 24 := by
        intro e
        rw [e] at hop
        simp at hop
        rw [hop]
        exact h24
      have key : ∀ (qs : List Int) (L : Ins × Int), (L.1.op = B ∨ L.1.op = x.op) → (reg = true → 1 ∉ qs ∨ L.1.op = B ∧ qs.count 1 ≤ 1) → (qs.foldl (fun L p => stepL x x.imm reg p L) L).1.op ≠ 24 := by
        intro qs
        induction qs with
        | nil =>
          intro L hL _
          rcases hL with h | h
          · show L.1.op ≠ 24
            rw [h]; exact hb24
          · show L.1.op ≠ 24
            rw [h]; exact h24
        | cons q qs ih =>
          intro L hL h1
          rw [List.foldl_cons]
          by_cases hq : q = 1
          · cases hreg : reg with
            | true =>
              rcases h1 hreg with h1 | ⟨h1, h2⟩
              · exact absurd (by simp [hq]) h1
              · have hop2 : wreg (B) = x.op := by rw [hreg] at hop; simpa using hop
                have hnot : 1 ∉ qs := by
                  rw [hq, List.count_cons_self] at h2
                  exact List.count_eq_zero.1 (by omega)
                have := ih (stepL x x.imm reg q L) (by right; simp [stepL, hq, hreg, h1, hop2]) (fun _ => .inl hnot)
                rw [hreg] at this
                exact this
            | false =>
              have e : (stepL x x.imm reg q L).1.op = L.1.op := by rw [hreg, hq]; rfl
              have := ih (stepL x x.imm reg q L) (by rw [e]; exact hL) (fun h => by rw [hreg] at h; cases h)
              rw [hreg] at this
              exact this
          · have hop3 : (stepL x x.imm reg q L).1.op = L.1.op := by
              unfold stepL
              repeat' split
              all_goals first | rfl | omega
            refine ih _ (by rw [hop3]; exact hL) (fun e => ?_)
            rcases h1 e with h1 | ⟨h1, h2⟩
            · exact .inl (fun hm => h1 (List.mem_cons_of_mem _ hm))
            · right
              refine ⟨by rw [hop3]; exact h1, ?_⟩
              rw [List.count_cons_of_ne (fun e => hq e)] at h2
              exact h2
      unfold foldL
      refine key (ps.take k) _ (.inl rfl) (fun e => .inr ⟨rfl, ?_⟩)
      refine Nat.le_trans (count_take 1 ps k) ?_
      unfold shapeB at hs
      simp only [Bool.or_eq_true, Bool.and_eq_true, beq_iff_eq, Bool.not_eq_true'] at hs
      rcases hs with ((((((hs | hs) | hs) | hs) | hs) | hs) | hs) | hs
      all_goals
        have hps : ps = [] ∨ ps = [3] ∨ ps = [4] ∨ ps = [0] ∨ ps = [0, 1] ∨ ps = [0, 1, 4] ∨ ps = [0, 5] ∨ ps = [6, 1] := by simp_all
        rcases hps with rfl | rfl | rfl | rfl | rfl | rfl | rfl | rfl <;> decide
end Go.Proofs.YthmibmofdmlgaaaGreatDoor
