/-
  Proved here: what New and Copy of the program's storage give; it keeps all contracts that the laws ask. Conditions: as each lemma says.
-/
import Derived.Test.YtijhoiheieighaaLmD
import Derived.Test.YtijhoiheieighaaPlays12
namespace Go.Proofs.Ytijhoiheieighaa
open Go.RowKit

/-- A new storage of an array and of objects that lie apart. -/
theorem Lm.made {W : World} {A G C : Nat} {v : Value} {s n L : Nat} {os : List Ob} {zs : List Int} (ha : Arr W A G s n L C zs) (hc : L ≤ C) (hk : ObSl W v os) (hl : os.length ≤ n) (vA : some A ≠ v.ownBlock) (vG : some G ≠ v.ownBlock) :
    Lm (W.alloc (.cells #[.pointer (some ⟨A, 0, none⟩), v] 60)) W.heap.size A G C v s n L os zs := by
  have hb : Below W.heap.size W (W.alloc (.cells #[.pointer (some ⟨A, 0, none⟩), v] 60)) := (Below.refl _ _).alloc (Nat.le_refl _) _
  refine ⟨by simp [go_sem], by simp [go_sem], fun j => by simp [go_sem], hk.kept (fun b hb2 => hb.block b (hk.lt b hb2)), ha.stay hb, hc, hl, fun e => ?_, vA, vG⟩
  have := hk.lt _ e
  omega
theorem lm_new (s n L : Nat) (w : World) (hd : Dim s n L) : Calls Try.prog 7 #[.int .i64 (s : Int), .int .i64 (n : Int)] w (NewQ (LP s n L) L w) := by
  have HD := Lib.hid hd
  clear hd
  go_enter Try.func7, Try.ntmps7
  go_wp2_with (go_at_call 20; refine (arr_new _ _ _ _ HD.out).mono ?_; rintro e w1 ⟨rfl, hb, ha⟩; have HB := Lib.hid hb; have HA := Lib.hid ha; clear hb ha)
  go_ret2
  have hk : ObSl w1 (.slice none 0 0) [] := World.ownsRow_nil _ _ _ _
  have hs := HB.out.size
  have hl := HA.out.ltA
  refine ⟨w1.heap.size, LmS w1.heap.size (w.heap.size + 1) w.heap.size (.slice none 0 0), w.heap.size, rfl, ⟨w.heap.size + 1, L, .slice none 0 0, Lm.made HA.out (Nat.le_refl _) hk (Nat.zero_le _) (fun e => by cases e) (fun e => by cases e), fun b => Iff.rfl⟩, HB.out.alloc hs _, ?_⟩
  rintro b (rfl | rfl | rfl | hb)
  · omega
  · omega
  · omega
  · cases hb
theorem lm_new_not (s n : Int) (w : World) (h : ¬ (1 ≤ s ∧ s ≤ 32 ∧ 1 ≤ n ∧ n ≤ 16)) : Calls Try.prog 7 #[.int .i64 s, .int .i64 n] w (fun e w' => e = .returned (.tuple #[.pointer none, .int .i64 22]) ∧ Below w.heap.size w w') := by
  have HH := Lib.hid h
  clear h
  go_enter Try.func7, Try.ntmps7
  go_wp2_with (go_at_call 20; refine (arr_not _ _ _ HH.out).mono ?_; rintro e w1 ⟨rfl, rfl⟩)
  go_ret2
  exact ⟨rfl, Below.refl _ _⟩
section
variable {w w' : World} {h A G C : Nat} {v : Value} {s n L : Nat} {os : List Ob} {zs : List Int}
theorem lm_copy (H : Lm w h A G C v s n L os zs) (hd : Dim s n L) : Calls Try.prog 10 #[.pointer (some ⟨h, 0, none⟩)] w (CopyQ (LP s n L) os zs w) := by
  have c0 := H.h0
  have HH := Lib.hid H
  have HD := Lib.hid hd
  clear H hd
  go_enter Try.func10, Try.ntmps10
  go_wp2_with (first
    | (go_at_call 22; refine (arrC_copy _ _ _ _ _ _ _ _ HD.out.pos (by have := HD.out.le; omega) HH.out.ar).mono ?_; rintro e w1 ⟨A2, G2, C2, rfl, hb1, hA2, hG2, ha2, hc2, -⟩; have HB1 := Lib.hid hb1; have HA2 := Lib.hid ha2; have HN2 := Lib.hid (And.intro hA2 (And.intro hG2 hc2)); have H1 := Lib.hid (HH.out.stay hb1); clear hb1 ha2 hA2 hG2 hc2)
    | (go_at_call 23; refine (lm_keysv H1.out HD.out).mono ?_; rintro e w2 ⟨v2, rfl, ho2, hb2⟩; obtain ⟨a2, c2, rfl, -⟩ := obs_of_own ho2; have HO2 := Lib.hid ho2; have HB2 := Lib.hid hb2; clear ho2 hb2))
  go_ret
  obtain ⟨hA2, hG2, hc2⟩ := HN2.out
  have hb12 := HB1.out.trans (HB2.out.mono HB1.out.size)
  have ha := HA2.out.stay HB2.out
  have hk : ObSl w2 (.slice a2 os.length c2) os := ⟨HO2.out.1, HO2.out.2.imp id fun ⟨g, cap, cur, hv, _, r⟩ => ⟨g, cap, cur, hv, Nat.zero_le _, r⟩⟩
  have hfar : ∀ b, some b = (Value.slice a2 os.length c2).ownBlock → w1.heap.size ≤ b := fun b hb => by
    rcases HO2.out.2 with ⟨hv, -⟩ | ⟨g, cap, cur, hv, hg, -⟩
    · rw [hv] at hb; cases hb
    · rw [hv] at hb; injection hb with hb; subst hb; exact hg
  have hAl := HA2.out.ltA
  have hGl := HA2.out.lt
  have hz := HB1.out.size
  refine ⟨w2.heap.size, LmS w2.heap.size A2 G2 (.slice a2 os.length c2), G2, rfl, ⟨A2, C2, _, Lm.made ha hc2 hk HH.out.le (fun e => by have := hfar _ e; omega) (fun e => by have := hfar _ e; omega), fun b => Iff.rfl⟩, hb12.alloc hb12.size _, ?_⟩
  rintro b (rfl | rfl | rfl | hb)
  · exact hb12.size
  · exact hA2
  · exact hG2
  · have := hfar b hb; omega
end
theorem lm_acts (s n : Nat) (hd : Dim s n (s * n)) : Acts12 (LP s n (s * n)) s n (s * n) where
  kept := fun ⟨A, C, v, H, hD⟩ he => ⟨A, C, v, H.kept (fun b hb => he b ((hD b).2 hb)), hD⟩
  lt := fun ⟨A, C, v, H, hD⟩ b hb => H.lt b ((hD b).1 hb)
  zlen := fun ⟨A, C, v, H, hD⟩ => H.ar.len
  ole := fun ⟨A, C, v, H, hD⟩ => H.le
  inG := fun {w D h G os zs} ⟨A, C, v, H, hD⟩ => (hD G).2 (.inr (.inr (.inl rfl)))
  byte := fun {w D h G os zs j} ⟨A, C, v, H, hD⟩ hj => ⟨by have := H.ar.row j hj; rwa [Nat.zero_add] at this, H.ar.free j⟩
  put := fun ⟨A, C, v, H, hD⟩ hj => ⟨A, C, v, H.put1 hd hj, hD⟩
  len := fun ⟨A, C, v, H, hD⟩ => lm_len H
  bytes := fun ⟨A, C, v, H, hD⟩ => lm_bytes H hd
  keys := fun ⟨A, C, v, H, hD⟩ => lm_keys H hd
  get := fun h1 => lm_get h1 hd
  drop := fun h1 => lm_drop h1 hd
  slotYes := fun ⟨A, C, v, H, hD⟩ hq => lm_slot_yes H hd hq
  slotNo := fun ⟨A, C, v, H, hD⟩ hK => lm_slot_no H hK
  copy := fun ⟨A, C, v, H, hD⟩ => lm_copy H hd
  new := fun w => lm_new s n (s * n) w hd
/-- The program's storages keep what the laws ask. -/
theorem lm_keeps : Keeps12 (fun s n => LP s n (s * n)) := ⟨fun s n hd => lm_acts s n hd, lm_new_not⟩
end Go.Proofs.Ytijhoiheieighaa
