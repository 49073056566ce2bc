import Derived.Test.YthmibmofdmlgaaaGreatDoorG02
import Derived.Defers
import Derived.Recover
import Derived.Laws.Pointers
import Derived.Test.YthmibmofdmlgaaaGreatDoorHLineWide
import Derived.Test.YthmibmofdmlgaaaGreatDoorG10
/-
  Proved here: what the deferred function of tried, of package asm, does: where its caller panics with an errno, and where it returns. Conditions: the cell that it writes is there.
-/
namespace Go.Proofs.YthmibmofdmlgaaaGreatDoor
open Go.RowKit
set_option linter.unusedVariables false

theorem catch_text (p : Addr) (x : Value) (older : List PanicEntry) (w : World) (hc : w.cell? p = some x) (hz : w.frozen? p = false) :
    CallsD Tryz.prog 17 #[.pointer (some p)] (.panicking ({ v := .iface 24 (.int .i64 22), recovered := false } :: older)) w fun e u' w' =>
      e = .returned (.tuple #[]) ∧ u' = .panicking ({ v := .iface 24 (.int .i64 22), recovered := true } :: older) ∧ w' = w.setCell p (.int .i64 22) := by
  have hta : ∀ w, (Instr.typeAssert (.iface 24 (.int .i64 22)) 20 24 true).run Tryz.prog w = .ok (.tuple #[.int .i64 22, .bool true]) w := fun _ => by kernel_rfl
  refine callsD_of_wpS Tryz.func17 rfl fun c₀ cs hu => ?_
  apply wpS_seq
  apply wpS_region
  simp [wpOpsS, go_sem, recoverD, hu, Tryz.ntmps17, Exit.thenS]
  refine wpS_of_wp ?_
  go_wp2
  simp [bodyPostS, results, Tryz.results17]
set_option maxHeartbeats 1000000 in
theorem catch_text_idle (p : Addr) (w : World) :
    CallsD Tryz.prog 17 #[.pointer (some p)] .returning w fun e u' w' => e = .returned (.tuple #[]) ∧ u' = .returning ∧ w' = w := by
  have hta : ∀ w, (Instr.typeAssert .nilIface 20 24 true).run Tryz.prog w = .ok (.tuple #[.int .i64 0, .bool false]) w := fun _ => by kernel_rfl
  have hne : ∀ w, (binOp .neq 20 .nilIface .nilIface).run Tryz.prog w = .ok (.bool false) w := fun _ => by kernel_rfl
  refine callsD_of_wpS Tryz.func17 rfl fun c₀ cs hu => ?_
  apply wpS_seq
  apply wpS_region
  simp [wpOpsS, go_sem, recoverD, hu, Tryz.ntmps17, Exit.thenS]
  refine wpS_of_wp ?_
  go_wp2
  cases c₀
  simp_all [bodyPostS, results, Tryz.results17]
theorem catch_code (p : Addr) (x : Value) (older : List PanicEntry) (w : World) (hc : w.cell? p = some x) (hz : w.frozen? p = false) :
    CallsD Tryz.prog 31 #[.pointer (some p)] (.panicking ({ v := .iface 24 (.int .i64 22), recovered := false } :: older)) w fun e u' w' =>
      e = .returned (.tuple #[]) ∧ u' = .panicking ({ v := .iface 24 (.int .i64 22), recovered := true } :: older) ∧ w' = w.setCell p (.int .i64 22) := by
  have hta : ∀ w, (Instr.typeAssert (.iface 24 (.int .i64 22)) 20 24 true).run Tryz.prog w = .ok (.tuple #[.int .i64 22, .bool true]) w := fun _ => by kernel_rfl
  refine callsD_of_wpS Tryz.func31 rfl fun c₀ cs hu => ?_
  apply wpS_seq
  apply wpS_region
  simp [wpOpsS, go_sem, recoverD, hu, Tryz.ntmps31, Exit.thenS]
  refine wpS_of_wp ?_
  go_wp2
  simp [bodyPostS, results, Tryz.results31]
set_option maxHeartbeats 1000000 in
theorem catch_code_idle (p : Addr) (w : World) :
    CallsD Tryz.prog 31 #[.pointer (some p)] .returning w fun e u' w' => e = .returned (.tuple #[]) ∧ u' = .returning ∧ w' = w := by
  have hta : ∀ w, (Instr.typeAssert .nilIface 20 24 true).run Tryz.prog w = .ok (.tuple #[.int .i64 0, .bool false]) w := fun _ => by kernel_rfl
  have hne : ∀ w, (binOp .neq 20 .nilIface .nilIface).run Tryz.prog w = .ok (.bool false) w := fun _ => by kernel_rfl
  refine callsD_of_wpS Tryz.func31 rfl fun c₀ cs hu => ?_
  apply wpS_seq
  apply wpS_region
  simp [wpOpsS, go_sem, recoverD, hu, Tryz.ntmps31, Exit.thenS]
  refine wpS_of_wp ?_
  go_wp2
  cases c₀
  simp_all [bodyPostS, results, Tryz.results31]
end Go.Proofs.YthmibmofdmlgaaaGreatDoor

/-
  Proved here: lineAt of package asm, at any place of a code. Conditions: the fields fit; the map has the table's words; the library's table.
-/
namespace Go.Proofs.YthmibmofdmlgaaaGreatDoor
open Go.RowKit
set_option linter.unusedVariables false

theorem line_at (w : World) (b N len cap k : Nat) (A : Option Addr) (l : List Ins) (hl : l.length = len) (hm : len ≤ 9223372036854775807) (hk : k < len) (hrow : InsAt w A l) (hf : ∀ x ∈ l, x.Fit) (hw : WordsIn w b N (memT 256)) (he : Env w) :
    Calls Tryz.prog 21 #[.map (some b), .slice A len cap, .int .i64 k] w (EndO (atO l k) w) := by
  obtain ⟨g, off, rfl, hg, hr⟩ : ∃ g off, A = some ⟨g, off, none⟩ ∧ g < w.heap.size ∧ InsRow w g off l := by
    rcases hrow with h | h
    · omega
    · exact h
  have hx := getD_fit hf (k := k) (by omega)
  obtain ⟨c0, c1, c2, c3, c4⟩ := hr k (by omega)
  unfold atO
  by_cases hri : rightI (l.getD k .zero) = false
  · rw [if_pos hri]
    obtain ⟨⟨o, d, s, f, m⟩, hxx⟩ : ∃ x, l.getD k .zero = x := ⟨_, rfl⟩
    rw [hxx] at c0 c1 c2 c3 c4 hri hx
    exact at_wrong o d s f m w b len cap k g off hm hk hx.op.1 hx.op.2 c0 c1 c2 c3 c4 hri
  · rw [if_neg hri]
    have hri' : rightI (l.getD k .zero) = true := by simpa using hri
    by_cases h24 : (l.getD k .zero).op = 24
    · rw [if_pos h24]
      cases hsec : secN l (k + 1)
      · rw [if_neg (by simp)]
        obtain ⟨⟨o, d, s, f, m⟩, hxx⟩ : ∃ x, l.getD k .zero = x := ⟨_, rfl⟩
        rw [hxx] at c0 c1 c2 c3 c4 hri' hx h24
        dsimp only at h24
        subst h24
        exact at_wide_no d s f m w b len cap k g off l hl hm hk hrow hsec hx.imm.1 hx.imm.2 c0 c1 c2 c3 c4 hri'
      · rw [if_pos rfl]
        have hk2 : k + 1 < len := by
          unfold secN at hsec
          simp only [Bool.and_eq_true, decide_eq_true_eq] at hsec
          omega
        have hbd := wide_bd (l.getD k .zero) (l.getD (k + 1) .zero)
        have hc' : InsC w g (off + (k + 1) * 5) _ _ _ _ _ := hr (k + 1) (by omega)
        have hn : IntKind.i64.wrap ((l.getD k .zero).imm % 4294967296 + (l.getD (k + 1) .zero).imm % 4294967296 * 4294967296) = wideN (l.getD k .zero) (l.getD (k + 1) .zero) := rfl
        obtain ⟨⟨o, d, s, f, m⟩, hxx⟩ : ∃ x, l.getD k .zero = x := ⟨_, rfl⟩
        rw [hxx] at c0 c1 c2 c3 c4 hri' hx h24 hn hbd ⊢
        dsimp only at h24
        subst h24
        exact at_wide d s f m _ _ _ _ _ _ _ w b N len cap k g off l hl hm hk2 hrow hsec hx hw he hg rfl hn hbd.1 hbd.2 ⟨c0, c1, c2, c3, c4⟩ hc' hri'
    · rw [if_neg h24]
      obtain ⟨⟨o, d, s, f, m⟩, hxx⟩ : ∃ x, l.getD k .zero = x := ⟨_, rfl⟩
      rw [hxx] at c0 c1 c2 c3 c4 hri' hx h24 ⊢
      exact at_plain o d s f m w b N len cap k g off hm hk hx h24 hw he c0 c1 c2 c3 c4 hri'
end Go.Proofs.YthmibmofdmlgaaaGreatDoor
