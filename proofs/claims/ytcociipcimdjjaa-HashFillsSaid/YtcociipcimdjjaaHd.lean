/-
  Proved here: what Drop of the program's map does. Conditions: as each lemma says.
-/
import Derived.Test.YtcociipcimdjjaaHf
import Derived.Deep.DeepCutAuto
namespace Go.Proofs.Ytcociipcimdjjaa
open Go.RowKit

section
variable {h A G C M : Nat} {v : Value} {len : Nat} {l : List Int} {Dm : DataW Unit} {key s n L : Nat} {ks : List ByteArray} {zs : List Int}
theorem set_keys {x : ByteArray} {i : Nat} (hk : ∀ y, y ∈ ks → y ≠ ⟨#[]⟩ → y.size = key) (hx : x ≠ ⟨#[]⟩ → x.size = key) : ∀ y, y ∈ ks.set i x → y ≠ ⟨#[]⟩ → y.size = key := by
  intro y hy hne
  rcases List.mem_or_eq_of_mem_set hy with h1 | h1
  · exact hk y h1 hne
  · rw [h1]; exact hx (by rw [← h1]; exact hne)
theorem turned_other {w w1 : World} {M : Nat} (ht : w.mapTurned w1 M) : (∀ b, b ≠ M → w1.heap[b]? = w.heap[b]?) ∧ w1.heap.size = w.heap.size := by
  obtain ⟨es, clock, es', clock', hb, rfl⟩ := ht
  exact ⟨fun b h => ChangeMaps.heap_setBlock_other hb _ h, by simp [ChangeMaps.setBlock]⟩
/-- A key is struck, its slot pushed. -/
theorem Hm.dropped {w W1 w2 : World} (H : Hm w h A G C M v len l Dm key s n L ks zs) (hd : Dim s n L) {y : ByteArray} {i B cap : Nat} {l2 : List Int} (hs : slotOf ks y = some i) (e1 : ∀ b, b ≠ M → W1.heap[b]? = w.heap[b]?) (hz : W1.heap.size = w.heap.size)
    (ho : W1.ownsMap Try.prog 9 (plainElem Try.prog 3) M 16 (Dm.del (keyL y))) (hL : ListAt w2 ⟨h, 3, none⟩ B (len + 1) cap l2) (hh : IsHeap l2 (len + 1)) (hp : l2.Perm (l ++ [(i : Int)])) (hb : But2 h v.ownBlock W1 w2) (hB : some B = v.ownBlock ∨ W1.heap.size ≤ B)
    (hf : w2.frozen? ⟨h, 3, none⟩ = false) (hc : ∀ o, o ≠ 3 → w2.cell? ⟨h, o, none⟩ = W1.cell? ⟨h, o, none⟩) : Hm w2 h A G C M (.slice (some ⟨B, 0, none⟩) (len + 1) cap) (len + 1) l2 (Dm.del (keyL y)) key s n L (ks.set i ⟨#[]⟩) zs := by
  obtain ⟨hi, hy, hne⟩ := slotOf_some hs
  have e2 : ∀ b, b ≠ M → b ≠ h → some b ≠ v.ownBlock → b < w.heap.size → w2.heap[b]? = w.heap[b]? := fun b h1 h2 h3 h4 => (hb.block b (by omega) h2 h3).trans (e1 b h1)
  have eA := e2 A H.AM (fun e => H.hA e.symm) H.vA H.ar.ltA
  have eG := e2 G (H.GM hd) (fun e => H.hG hd e.symm) H.vG H.ar.lt
  have eM : w2.heap[M]? = W1.heap[M]? := hb.block M (by have := H.ow.lt; omega) (fun e => H.hM e.symm) H.vM
  have hBv : ∀ b, some b ≠ v.ownBlock → b < w.heap.size → some b ≠ (Value.slice (some ⟨B, 0, none⟩) (len + 1) cap).ownBlock := by
    intro b h1 h2 h3
    have h4 : b = B := by injection h3
    rcases hB with h5 | h5
    · exact h1 (by rw [h4]; exact h5)
    · omega
  refine ⟨(hc 0 (by omega)).trans ((World.cell?_of_block (w := w) (e1 h H.hM)).trans H.h0), (hc 1 (by omega)).trans ((World.cell?_of_block (w := w) (e1 h H.hM)).trans H.h1), (hc 2 (by omega)).trans ((World.cell?_of_block (w := w) (e1 h H.hM)).trans H.h2),
    ⟨hL.c, hL.own, fun e => hL.ne (by injection e)⟩, hf, hh, (hp.trans (H.pm.append_right _)).trans (freeK_drop hi (by rw [hy]; exact hne)).symm, H.ar.kept eA eG (block_lt_of_eq H.ar.lt eG), H.c0, H.c1, ownsMap_kept ho eM, H.ag.drop H.un hs, H.un.drop hi,
    by rw [List.length_set]; exact H.kl, set_keys H.kz (fun e => absurd rfl e), hBv A H.vA H.ar.ltA, hBv G H.vG H.ar.lt⟩
theorem hm_drop {w : World} {D : Nat → Prop} {a : Option Addr} {ln c : Nat} {kz : List Int} (H : Hm w h A G C M v len l Dm key s n L ks zs) (hD : ∀ b, D b ↔ HmS h A G M v b) (hd : Dim s n L) (hk : 1 ≤ key) (hl : kz.length = ln) (hm : ln ≤ maxLen) (ha : KeyAt w (.slice a ln c) kz) :
    Calls Try.prog 14 #[.pointer (some ⟨h, 0, none⟩), .slice a ln c] w (DropP (PM key s n L) D h key ks zs kz w) := by
  have c0 := H.h0
  have c2 := H.h2
  have hsl := slot_found H hk kz
  have HH := Lib.hid H
  have HD := Lib.hid hD
  have HDM := Lib.hid hd
  have HKA := Lib.hid ha
  unfold DropP
  by_cases hlk : ln = key
  · subst hlk
    have hcv : ∀ m, (convert 31 9 (.slice a ln c)).run Try.prog (w.drewN m) = .ok (.string (strOfNums kz)) (w.drewN m) := fun m => conv_key (key_drewN ha m)
    have hlk2 : ∀ m, (Instr.lookup 59 (.map (some M)) (.string (strOfNums kz)) true).run Try.prog (w.drewN m) = .ok (lookV (slotOf ks (strOfNums kz))) (w.drewN m) := fun m => look_run (w := w.drewN m) H.ow H.ag (by rw [strOfNums_size]; omega)
    have hf : slotOf ks (strOfNums kz) = ks.findIdx? (· = strOfNums kz) := by rw [hsl, if_pos hl]
    obtain ⟨y, hy⟩ : ∃ y, strOfNums kz = y := ⟨_, rfl⟩
    have HF := Lib.hid hf
    have HY := Lib.hid hy
    have HKL := Lib.hid hl
    rw [hy] at hcv hlk2
    clear hsl hf H hD hd ha hl
    cases hs : slotOf ks y with
    | none =>
      have HS := Lib.hid hs
      rw [hs] at hlk2
      unfold lookV at hlk2
      simp only [Option.isSome_none] at hlk2
      clear hs hy
      go_enter Try.func14, Try.ntmps14
      go_wp2
      go_quiet (fail)
      go_wp2
      go_ret
      refine ⟨D, ?_, ?_, Turned.of (bdrewN (Below.refl _ _) _), fun b hb => .inl hb⟩
      · unfold dropE
        rw [if_pos HKL.out, ← HF.out, HY.out, HS.out]
        rfl
      · unfold dropK
        rw [if_pos HKL.out, ← HF.out, HY.out, HS.out]
        exact ⟨A, G, C, M, v, len, l, Dm, HH.out.stay (bdrewN (Below.refl _ _) _), HD.out⟩
    | some i =>
      have HS := Lib.hid hs
      rw [hs] at hlk2
      unfold lookV at hlk2
      simp only [Option.isSome_some] at hlk2
      clear hs hy
      go_enter Try.func14, Try.ntmps14
      go_wp2
      go_quiet (fail)
      go_wp2
      obtain ⟨W, hW⟩ : ∃ W, w.drewN nq = W := ⟨_, rfl⟩
      have hb : Below w.heap.size w W := by rw [← hW]; exact bdrewN (Below.refl _ _) _
      have hheap : W.heap = w.heap := by rw [← hW]; rfl
      rw [hW]
      have hkw : KeyAt W.drew (.slice a ln c) kz := by rw [← hW]; exact key_drewN HKA.out (nq + 1)
      have HW := Lib.hid (HH.out.stay hb)
      have d2 := HW.out.h2
      have hys : y.size ≤ maxLen := by rw [← HY.out, strOfNums_size, HKL.out]; exact hm
      have hcv3 := conv_key hkw
      rw [HY.out] at hcv3
      obtain ⟨W1, hdel, ho1, ht1⟩ := (show W.drew.ownsMap Try.prog 9 (plainElem Try.prog 3) M 16 Dm from HW.out.ow).drop keyed9 Try.underlying59 (key9 hys) 0
      have hg1 := ht1.grown
      obtain ⟨e0, hz1⟩ := turned_other ht1
      have e1 : ∀ b, b ≠ M → W1.heap[b]? = w.heap[b]? := fun b hb' => by rw [← hheap]; exact e0 b hb'
      have hz1 : W1.heap.size = w.heap.size := by rw [← hheap]; exact hz1
      clear e0
      have hfr : FreeAt W1 ⟨h, 3, none⟩ v len l := HH.out.fr.kept (e1 h HH.out.hM) (fun b hb' => e1 b (fun e => HH.out.vM (by rw [← e]; exact hb')))
      have hff : W1.frozen? ⟨h, 3, none⟩ = false := (World.frozen?_of_block (w := w) (e1 h HH.out.hM)).trans HH.out.ff
      have hT1 : Turned D w W1 := ⟨hg1.os.trans hb.os, hg1.tape.trans hb.tape, hg1.output.trans hb.output, by omega, fun k hk2 hnd => e1 k (fun e => hnd ((HD.out k).2 (.inr (.inr (.inr (.inl e))))))⟩
      have HO1 := Lib.hid ho1
      have HE1 := Lib.hid e1
      have HFR := Lib.hid hfr
      have HT1 := Lib.hid hT1
      have h16 := HH.out.size HDM.out
      have hhp := HH.out.hp
      have HHP := Lib.hid hhp
      clear hb hheap hkw hcv hlk2 ho1 ht1 hg1 e1 hfr hT1 hhp
      go_region
      go_wp2_with (go_at_call 29; refine (heap_push _ _ _ _ _ _ HFR.out hff (by omega) HHP.out).mono ?_; rintro e w2 ⟨rfl, B, cap, l2, hL2, hh2, hp2, hb2, hB2, hf2, ho2⟩; have HHm := Lib.hid (HH.out.dropped HDM.out HS.out HE1.out hz1 HO1.out hL2 hh2 hp2 hb2 hB2 hf2 ho2); have HB2 := Lib.hid hb2; have HBB := Lib.hid hB2; clear hL2 hh2 hp2 hb2 hB2 hf2 ho2)
      go_ret
      refine ⟨HmS h A G M (.slice (some ⟨B, 0, none⟩) (len + 1) cap), ?_, ?_, ?_, ?_⟩
      · unfold dropE
        rw [if_pos HKL.out, ← HF.out, HY.out, HS.out]
        rfl
      · unfold dropK
        rw [if_pos HKL.out, ← HF.out, HY.out, HS.out]
        exact ⟨A, G, C, M, _, _, _, _, HHm.out, fun b => Iff.rfl⟩
      · refine HT1.out.trans ⟨HB2.out.os, HB2.out.tape, HB2.out.output, HB2.out.size, fun k hk2 hnd => HB2.out.block k hk2 (fun e => hnd ((HD.out k).2 (.inl e))) (fun e => hnd ((HD.out k).2 (.inr (.inr (.inr (.inr e))))))⟩
      · rintro b (h1 | h1 | h1 | h1 | h1)
        · exact .inl ((HD.out b).2 (.inl h1))
        · exact .inl ((HD.out b).2 (.inr (.inl h1)))
        · exact .inl ((HD.out b).2 (.inr (.inr (.inl h1))))
        · exact .inl ((HD.out b).2 (.inr (.inr (.inr (.inl h1)))))
        · have h4 : b = B := by injection h1
          rcases HBB.out with h5 | h5
          · exact .inl ((HD.out b).2 (.inr (.inr (.inr (.inr (by rw [h4]; exact h5))))))
          · exact .inr (by omega)
  · have hne : ((ln : Int) == (key : Int)) = false := by simp; omega
    clear H hD hd ha hsl
    go_enter Try.func14, Try.ntmps14
    go_wp2
    go_ret
    refine ⟨D, ?_, ?_, Turned.refl _ _, fun b hb => .inl hb⟩
    · unfold dropE
      rw [if_neg (by omega)]
      rfl
    · unfold dropK
      rw [if_neg (by omega)]
      exact ⟨A, G, C, M, v, len, l, Dm, HH.out, HD.out⟩
end
end Go.Proofs.Ytcociipcimdjjaa
