/-
  Proved here: the document's examples of hooks come out. Conditions: none.
-/
import Derived.Test.YtiobifocdgpnlaaFld
import Derived.Laws.BytesArg
namespace Go.Proofs.Ytiobifocdgpnlaa
open Go.RowKit

def GaveKill (w : World) (e : Ending) (w' : World) : Prop := ∃ p : Nat, e = .returned (.tuple #[.agg #[.string { data := #[107, 105, 108, 108] }, .slice (some ⟨p, 0, none⟩) 3 3, .int .u64 1], .bool true]) ∧
  w.heap.size ≤ p ∧ p < w'.heap.size ∧ (w'.cell? ⟨p, 0, none⟩ = some (.int .u8 1) ∧ w'.cell? ⟨p, 1, none⟩ = some (.int .u8 1) ∧ w'.cell? ⟨p, 2, none⟩ = some (.int .u8 0)) ∧ Below w.heap.size w w'
theorem of_kill (w : World) : Calls Try.prog 8 #[.int .i64 12] w (GaveKill w) := (of_yes 12 w (by omega) (by omega)).mono fun e w' ⟨p, he, hp, hr, hb⟩ =>
  ⟨p, he, hp, (Array.getElem?_eq_some_iff.1 hr).1, ⟨word_cell (j := 0) hr (by decide), word_cell (j := 1) hr (by decide), word_cell (j := 2) hr (by decide)⟩, hb⟩
theorem field_mode (w : World) : Calls Try.prog 14 #[.int .i64 2, .string { data := #[109, 111, 100, 101] }] w (Tells (.tuple #[.int .i64 16, .bool true]) w) := by
  have h := field_yes 2 { data := #[109, 111, 100, 101] } w (.inr rfl)
  have e1 : fldI 2 { data := #[109, 111, 100, 101] } = 2 := by decide +kernel
  have e2 : fldIs 2 { data := #[109, 111, 100, 101] } = true := by decide +kernel
  rw [e1, e2] at h
  exact h
theorem by_open (w : World) : Calls Try.prog 13 #[.string { data := #[111, 112, 101, 110] }] w (Tells (.int .i64 1) w) := by
  have h := by_call { data := #[111, 112, 101, 110] } w
  have e1 : byN { data := #[111, 112, 101, 110] } = 1 := by decide +kernel
  rw [e1] at h
  exact h
theorem str_kill {w : World} {p : Nat} (h : w.cell? ⟨p, 0, none⟩ = some (.int .u8 1) ∧ w.cell? ⟨p, 1, none⟩ = some (.int .u8 1) ∧ w.cell? ⟨p, 2, none⟩ = some (.int .u8 0)) :
    (convert 23 9 (.slice (some ⟨p, 0, none⟩) 3 3)).run Try.prog w = .ok (.string { data := #[1, 1, 0] }) w := by
  refine run_convert_bytes_arg w 23 5 Try.underlying23 Try.underlying5 p 0 3 3 [1, 1, 0] rfl (fun j hj => ?_) 9 Try.underlying9
  match j, hj with
  | 0, _ => exact h.1
  | 1, _ => exact h.2.1
  | 2, _ => exact h.2.2
theorem alive_call (w : World) : Calls Try.prog 7 #[] w (Tells (.bool true) w) := by
  go_enter Try.func7, Try.ntmps7
  go_wp2_with (first
    | (go_at_call 8; refine (of_kill _).mono ?_; rintro e w1 ⟨p, rfl, hp, hpl, hc, hb⟩; have HC := Lib.hid hc; have HB := Lib.hid hb; clear hc hb)
    | (go_at_call 14; refine (field_mode _).mono ?_; rintro e w2 ⟨rfl, hb2⟩; obtain ⟨hx, hf⟩ := boxed hb2; have hs := str_kill ⟨((hb2.cell (p := ⟨p, 0, none⟩) (by simp; omega)).trans (World.cell?_alloc_lt _ _ _ hpl)).trans HC.out.1, ((hb2.cell (p := ⟨p, 1, none⟩) (by simp; omega)).trans (World.cell?_alloc_lt _ _ _ hpl)).trans HC.out.2.1, ((hb2.cell (p := ⟨p, 2, none⟩) (by simp; omega)).trans (World.cell?_alloc_lt _ _ _ hpl)).trans HC.out.2.2⟩; have HB2 := Lib.hid hb2; clear hb2)
    | (go_at_call 13; refine (by_open _).mono ?_; rintro e w3 ⟨rfl, hb3⟩; have HB3 := Lib.hid hb3; clear hb3))
  go_ret
  exact ⟨rfl, (HB.out.trans ((below_box HB2.out).mono HB.out.size)).trans (HB3.out.mono (Nat.le_trans HB.out.size (below_box HB2.out).size))⟩
end Go.Proofs.Ytiobifocdgpnlaa
