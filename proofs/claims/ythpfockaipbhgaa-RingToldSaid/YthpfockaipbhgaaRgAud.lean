/-
  Proved here: Audits of the document's rings says that the same lists are the same. Conditions: as each says.
-/
import Derived.Test.YthpfockaipbhgaaRgDrains
namespace Go.Proofs.Ythpfockaipbhgaa
open Go.RowKit

theorem bdrewN' {B : Nat} {a w : World} (h : Below B a w) (n : Nat) : Below B a (w.drewN n) := bdrewN h n
theorem AudIn.below {w w' : World} {E : Nat → Prop} {a : Option Addr} {l : List (Int × List Int)} (h : AudIn w E a l) (hb : Below w.heap.size w w') : AudIn w' E a l := h.kept hb.size (fun b _ hl => hb.block b hl)
set_option maxRecDepth 100000 in
theorem rg_audits (w : World) (E1 E2 : Nat → Prop) (a1 a2 : Option Addr) (c1 c2 : Nat) (l : List (Int × List Int)) (h1 : AudIn w E1 a1 l) (h2 : AudIn w E2 a2 l) (hl : l.length ≤ 1000) :
    Calls Try.prog 14 #[.slice a1 l.length c1, .slice a2 l.length c2] w (fun e w' => e = .returned (.bool true) ∧ Below w.heap.size w w') := by
  have H1 := Lib.hid h1
  have H2 := Lib.hid h2
  clear h1 h2
  go_enter Try.func14, Try.ntmps14
  go_wp2
  go_loopw [5] (fun v wr => ∃ k : Nat, k ≤ l.length ∧ v = .int .i64 k ∧ Below w.heap.size w wr) (fun v _ => 1001 - (intOf v).toNat)
  case atStart => exact ⟨0, by omega, rfl, Below.refl _ _⟩
  case round =>
    obtain ⟨k, hk, rfl, hb⟩ := hrel
    have HB := Lib.hid hb
    by_cases hlt : k < l.length
    · obtain ⟨g1, rfl, -, -, o1⟩ := H1.out.below hb (by omega)
      obtain ⟨g2, rfl, -, -, o2⟩ := H2.out.below hb (by omega)
      obtain ⟨d1, p1, q1, x1, y1, -, -, r1⟩ := o1 k hlt
      obtain ⟨d2, p2, q2, x2, y2, -, -, r2⟩ := o2 k hlt
      obtain ⟨x, hx⟩ : ∃ x, l.getD k (0, []) = x := ⟨_, rfl⟩
      rw [hx] at x1 y1 r1 x2 y2 r2
      obtain ⟨o, zs⟩ := x
      simp only at x1 y1 r1 x2 y2 r2
      obtain ⟨str, hstr⟩ : ∃ s, strOfNums zs = s := ⟨_, rfl⟩
      have s1 : ∀ m, (convert 36 9 (.slice (some ⟨d1, p1, none⟩) zs.length q1)).run Try.prog (wr.drewN m) = .ok (.string str) (wr.drewN m) := fun m => by
        rw [← hstr]; exact str_of rfl (fun j hj => r1 j hj)
      have s2 : ∀ m, (convert 36 9 (.slice (some ⟨d2, p2, none⟩) zs.length q2)).run Try.prog (wr.drewN m) = .ok (.string str) (wr.drewN m) := fun m => by
        rw [← hstr]; exact str_of rfl (fun j hj => r2 j hj)
      clear hb o1 o2 hx r1 r2 hstr
      go_wp2
      go_quiet (fail)
      go_wp2
      go_roundw
      case rel => exact ⟨k + 1, by omega, by go_num, bdrewN HB.out _⟩
      case measure => simp [intOf]; omega
    · obtain rfl : k = l.length := by omega
      clear hb
      go_wp2
      go_ret
      exact ⟨rfl, HB.out⟩
end Go.Proofs.Ythpfockaipbhgaa
