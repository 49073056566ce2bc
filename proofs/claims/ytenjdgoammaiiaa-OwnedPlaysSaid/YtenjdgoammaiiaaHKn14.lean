/-
  Proved here: what a round of the law of a program's maps knows, and what it stays under. Conditions: the contracts.
-/
import Derived.Test.YtenjdgoammaiiaaHDo14
import Derived.Test.YtenjdgoammaiiaaHOps14
import Derived.LoopTactic
import Derived.RegionTactic
import Derived.BigRegion
import Derived.Deep.CutBlock
namespace Go.Proofs.Ytenjdgoammaiiaa
open Go.RowKit
set_option maxRecDepth 100000

def LawPost (W : World) (e : Ending) (w : World) : Prop := e = .returned (.bool true) ∧ Below W.heap.size W w
theorem key_str {w : World} {v : Value} {kz : List Int} (hk : KeyAt w v kz) : (convert 32 9 v).run Try.prog w = .ok (.string (strOfNums kz)) w := by
  cases hk with
  | empty a c => exact conv_empty a c w
  | row g o l c kz hl hr hg => exact str_of hl hr
theorem key_own {w : World} {B : Nat} {v : Value} {kz : List Int} (h : w.ownsRow B 5 1 v kz.length (u8s kz)) : KeyAt w v kz := by
  rcases Nat.eq_zero_or_pos kz.length with h0 | h0
  · have hk : kz = [] := List.eq_nil_of_length_eq_zero h0
    subst hk
    rcases h.2 with ⟨rfl, -⟩ | ⟨g, cap, cur, rfl, -⟩
    · exact .empty _ _
    · exact .empty _ _
  · rcases h.2 with ⟨_, h1⟩ | ⟨g, cap, cur, hv, hg, hh, -⟩
    · omega
    · subst hv
      refine .row g 0 _ cap kz rfl (fun j hj => ?_) (fun _ => ?_)
      · have hc := h.cells (g := g) rfl j (.int .u8 (kz.getD j 0)) (by
          simp only [u8s, List.getElem?_map]
          rw [List.getElem?_eq_getElem (by omega), List.getD_eq_getElem?_getD, List.getElem?_eq_getElem (by omega)]
          rfl)
        rwa [add_lit] at hc
      · rcases Nat.lt_or_ge g w.heap.size with h2 | h2
        · exact h2
        · rw [Array.getElem?_eq_none h2] at hh; cases hh
/-- Both, as they stand. -/
def K0 (PS : OwMem) (W wr : World) (D S : Nat → Prop) (h O : Nat) (st : List MSt) : Prop := K14 PS W wr wr D S D S h O st st
/-- The copy, if there is one. -/
def CopyK (PS : OwMem) (wr : World) (D S : Nat → Prop) (c x : Value) : Prop :=
  c = .pointer none ∨ ∃ h2 D2 st2, c = .pointer (some ⟨h2, 0, none⟩) ∧ x = .string (strOfNums (bytesS st2)) ∧ PS wr D2 h2 st2 ∧ (∀ b, D2 b → ¬ D b) ∧ ∀ b, D2 b → ¬ S b
section
variable {PS : OwMem} {W w0 wr wx : World} {D D' D0 S S' S0 : Nat → Prop} {h O : Nat} {st st' : List MSt} {c x : Value}
theorem K14.k0 (hk : K14 PS W w0 wr D0 S0 D S h O st st) : K0 PS W wr D S h O st := ⟨hk.p, hk.r, hk.b, hk.dW, hk.rW, hk.dR, Turned.refl _ _, fun _ h => .inl h, fun _ h => .inl h⟩
theorem K0.stay (hk : K0 PS W wr D S h O st) (A : Acts14 PS) (hb : Below wr.heap.size wr wx) : K0 PS W wx D S h O st := (K14.stay hk A hb).k0
theorem CopyK.stay (hc : CopyK PS wr D S c x) (A : Acts14 PS) (hb : Below wr.heap.size wr wx) : CopyK PS wx D S c x := by
  rcases hc with h1 | ⟨h2, D2, st2, e1, e2, hp, h3, h4⟩
  · exact .inl h1
  · exact .inr ⟨h2, D2, st2, e1, e2, A.stay hp hb, h3, h4⟩
theorem CopyK.turn (hc : CopyK PS wr D S c x) (A : Acts14 PS) (hk : K14 PS W wr wx D S D' S' h O st st') : CopyK PS wx D' S' c x := by
  rcases hc with h1 | ⟨h2, D2, st2, e1, e2, hp, h3, h4⟩
  · exact .inl h1
  · refine .inr ⟨h2, D2, st2, e1, e2, A.kept hp (fun b hb => hk.t.block b (A.lt hp b hb) (fun hd => hd.elim (h3 b hb) (h4 b hb))), fun b hb hd => ?_, fun b hb hd => ?_⟩
    · rcases hk.d0 b hd with h5 | h5
      · exact h3 b hb h5
      · have := A.lt hp b hb; omega
    · rcases hk.s0 b hd with h5 | h5
      · exact h4 b hb h5
      · have := A.lt hp b hb; omega
theorem rd_bytes (hr : RD wr S O st) (hl : st.length ≤ 4) (hok : ∀ m, m < st.length → okM (st.getD m .ring)) : Calls Try.prog 12 #[ptrV O] wr (fun e w' => ∃ v, e = .returned v ∧ KeyAt w' v (bytesS st) ∧ Below wr.heap.size wr w') := by
  obtain ⟨a, c, pv, Ss, h, hS⟩ := hr
  refine (ow_bytes h hl hok).mono ?_
  rintro e w' ⟨v, rfl, ho, hb⟩
  exact ⟨v, rfl, key_own ho, hb⟩
end
end Go.Proofs.Ytenjdgoammaiiaa
