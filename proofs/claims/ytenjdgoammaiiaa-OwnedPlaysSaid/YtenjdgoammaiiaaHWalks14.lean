/-
  Proved here: the program's maps keep all contracts that the laws of layer 14 ask; the walks of both laws over them. Conditions: what came in reads as its types say.
-/
import Derived.Test.YtenjdgoammaiiaaHPwY
import Derived.Test.YtenjdgoammaiiaaHPwZ
import Derived.Test.YtenjdgoammaiiaaHPlays14
namespace Go.Proofs.Ytenjdgoammaiiaa
open Go.RowKit
set_option maxRecDepth 100000
set_option linter.unusedVariables false

theorem pw_acts : Acts14 PwM where
  kept := fun ⟨a1, a2, c1, c2, pv, Ss, H, hD⟩ he => ⟨a1, a2, c1, c2, pv, Ss, H.kept (fun b hb => he b ((hD b).2 hb)), hD⟩
  lt := fun ⟨a1, a2, c1, c2, pv, Ss, H, hD⟩ b hb => H.lt b ((hD b).1 hb)
  ok := fun ⟨a1, a2, c1, c2, pv, Ss, H, hD⟩ m hm => (H.pd m hm).ok
  four := fun ⟨a1, a2, c1, c2, pv, Ss, H, hD⟩ => H.four
  new := fun h hm => pw_new h hm
  update := fun ⟨a1, a2, c1, c2, pv, Ss, H, hD⟩ h1 hb h2 o1 o2 _ _ => pw_update H hD h1 hb h2 o1 o2
  delete := fun ⟨a1, a2, c1, c2, pv, Ss, H, hD⟩ h1 _ _ hl => pw_delete H hD h1 hl
  get := fun ⟨a1, a2, c1, c2, pv, Ss, H, hD⟩ => pw_get H hD
  drop := fun ⟨a1, a2, c1, c2, pv, Ss, H, hD⟩ => pw_drop H hD
  lookup := fun ⟨a1, a2, c1, c2, pv, Ss, H, hD⟩ h1 hb hl => pw_lookup H h1 hb hl
  slotOut := fun ⟨a1, a2, c1, c2, pv, Ss, H, hD⟩ hno => pw_slot_out H hno
  slotIn := fun ⟨a1, a2, c1, c2, pv, Ss, H, hD⟩ hq hk => pw_slot_in H hD hq hk
  bytes := fun ⟨a1, a2, c1, c2, pv, Ss, H, hD⟩ => (pw_bytes H).mono fun e w' ⟨v, he, ho, hb⟩ => ⟨v, he, key_own ho, hb⟩
  copy := fun ⟨a1, a2, c1, c2, pv, Ss, H, hD⟩ => pw_copy H
theorem ownedPlays.walk (v0 v1 v2 : Value) (w : World) (h0 : IsRows [.i64, .i64, .i64, .i64] w v0) (h1 : FitV Try.prog w 5 23 v1) (h2 : IsInt .u8 v2) :
    Calls Try.prog 3 #[v0, v1, v2] w fun e w' => e = .returned (.bool true) ∧ Below w.heap.size w w' := plays_walk pw_acts v0 v1 v2 w h0 h1 h2
theorem ownedApart.walk (v0 v1 v2 : Value) (w : World) (h0 : IsRows [.i64, .i64, .i64, .i64] w v0) (h1 : FitV Try.prog w 5 23 v1) (h2 : FitV Try.prog w 4 37 v2) :
    Calls Try.prog 4 #[v0, v1, v2] w fun e w' => e = .returned (.bool true) ∧ Below w.heap.size w w' := apart_walk pw_acts v0 v1 v2 w h0 h1 h2
end Go.Proofs.Ytenjdgoammaiiaa
