/-
  Proved here: what Put of the program's map does. Conditions: as each lemma says.
-/
import Derived.Test.YtcociipcimdjjaaHd
import Derived.Laws.IdiomCopy
namespace Go.Proofs.Ytcociipcimdjjaa
open Go.RowKit

theorem own_bound {w : World} {M c m : Nat} {R : Value → Option (DataW Unit × List MemPlace)} {Dm : DataW Unit} (h : w.ownsMap Try.prog 9 R M c Dm) (hm : Maps.size Dm ≤ m) : w.ownsMap Try.prog 9 R M m Dm := by
  obtain ⟨es, clock, hb, F, hs, rfl⟩ := h
  refine ⟨es, clock, hb, F, ?_, rfl⟩
  simpa [Maps.size, length_sorted] using hm
theorem FreeAt.shape {w : World} {p : Addr} {v : Value} {len : Nat} {l : List Int} (h : FreeAt w p v len l) : ∃ a cap, v = .slice a len cap := by
  rcases h.own.2 with ⟨rfl, h0⟩ | ⟨g, cap, cur, rfl, -⟩
  · exact ⟨none, 0, by rw [h0]⟩
  · exact ⟨_, cap, rfl⟩
theorem FreeAt.list {w : World} {p : Addr} {v : Value} {len : Nat} {l : List Int} (h : FreeAt w p v len l) (h0 : 0 < len) : ∃ F cap, v = .slice (some ⟨F, 0, none⟩) len cap ∧ ListAt w p F len cap l := by
  rcases h.own.2 with ⟨-, h1⟩ | ⟨g, cap, cur, rfl, hr⟩
  · omega
  · exact ⟨g, cap, rfl, h.c, h.own, fun e => h.ne (by rw [e]; rfl)⟩
section
variable {h A G C M : Nat} {v : Value} {len : Nat} {l : List Int} {Dm : DataW Unit} {key s n L : Nat} {ks : List ByteArray} {zs : List Int}
/-- The least free slot is taken, a key is put. -/
theorem Hm.added {w W1 w1 w2 : World} {F m cap i : Nat} {y : ByteArray} {l2 : List Int} (H : Hm w h A G C M (.slice (some ⟨F, 0, none⟩) (m + 1) cap) (m + 1) l Dm key s n L ks zs) (hd : Dim s n L) (hs : slotOf ks y = none) (hne : y ≠ ⟨#[]⟩) (hy : y.size = key)
    (hi : i < ks.length) (h0 : ks.getD i .empty = ⟨#[]⟩) (ha : at0 l 0 = (i : Int)) (ho1 : Only F w W1) (hw1 : w1 = W1.setCell ⟨h, 3, none⟩ (.slice (some ⟨F, 0, none⟩) m cap)) (hL : ListAt w1 ⟨h, 3, none⟩ F m cap l2) (hh : IsHeap l2 m) (hp : (l2 ++ [at0 l 0]).Perm l)
    (e2 : ∀ b, b ≠ M → w2.heap[b]? = w1.heap[b]?) (ho : w2.ownsMap Try.prog 9 (plainElem Try.prog 3) M 17 (Dm.put (keyL y) (.lit (.int .i64 i)))) : Hm w2 h A G C M (.slice (some ⟨F, 0, none⟩) m cap) m l2 (Dm.put (keyL y) (.lit (.int .i64 i))) key s n L (ks.set i y) zs := by
  have hF : F ≠ h := fun e => hL.ne e.symm
  have hag := H.ag.put H.un hi h0 hs hne
  have ec : ∀ o, o ≠ 3 → w2.cell? ⟨h, o, none⟩ = w.cell? ⟨h, o, none⟩ := fun o ho3 => by
    rw [World.cell?_of_block (w := w1) (w' := w2) (a := ⟨h, o, none⟩) (e2 h H.hM), hw1, World.cell?_setCell_other _ _ _ _ (by intro e; injection e with _ e _; exact ho3 e.symm)]
    exact ho1.cell (p := ⟨h, o, none⟩) (fun e => hF e.symm)
  have eb : ∀ b, b ≠ M → b ≠ h → b ≠ F → w2.heap[b]? = w.heap[b]? := fun b h1 h2 h3 => by
    rw [e2 b h1, hw1, Below.heap_setCell _ _ _ _ (show b ≠ (⟨h, 3, none⟩ : Addr).block from h2)]
    exact ho1.block b h3
  have vA : A ≠ F := fun e => H.vA (by rw [e]; rfl)
  have vG : G ≠ F := fun e => H.vG (by rw [e]; rfl)
  have eA := eb A H.AM (fun e => H.hA e.symm) vA
  have eG := eb G (H.GM hd) (fun e => H.hG hd e.symm) vG
  have hFM : F ≠ M := fun e => H.vM (by rw [← e]; rfl)
  have hfr : FreeAt w2 ⟨h, 3, none⟩ (.slice (some ⟨F, 0, none⟩) m cap) m l2 := FreeAt.kept (w := w1) ⟨hL.c, hL.own, fun e => hL.ne (by injection e)⟩ (e2 h H.hM) (fun b hb => e2 b (by injection hb with hb; rw [hb]; exact hFM))
  have hff : w2.frozen? ⟨h, 3, none⟩ = false := by
    rw [World.frozen?_of_block (w := w1) (w' := w2) (a := ⟨h, 3, none⟩) (e2 h H.hM), hw1, World.frozen?_setCell, ho1.frozen (p := ⟨h, 3, none⟩) (fun e => hF e.symm)]
    exact H.ff
  have hpm : l2.Perm (freeK (ks.set i y)) := by
    have h1 := (hp.trans H.pm).trans (freeK_put hi h0 hne).symm
    rw [ha] at h1
    exact (List.perm_append_right_iff _).1 h1
  refine ⟨(ec 0 (by omega)).trans H.h0, (ec 1 (by omega)).trans H.h1, (ec 2 (by omega)).trans H.h2, hfr, hff, hh, hpm, H.ar.kept eA eG (block_lt_of_eq H.ar.lt eG), H.c0, H.c1, own_bound ho ?_, hag, H.un.put hi hs, by rw [List.length_set]; exact H.kl, set_keys H.kz (fun _ => hy), fun e => vA (by injection e), fun e => vG (by injection e)⟩
  rw [hag.size]
  have h1 := listK_len (ks.set i y)
  rw [List.length_set, H.kl] at h1
  have := hd.n1
  omega
theorem hm_put_no {w : World} {a1 a2 : Option Addr} {l1 l2 c1 c2 : Nat} {fl : Int} (H : Hm w h A G C M v len l Dm key s n L ks zs) (hne : ¬ (l1 = key ∧ l2 = s ∧ fl ≤ 2)) :
    Calls Try.prog 18 #[.pointer (some ⟨h, 0, none⟩), .slice a1 l1 c1, .slice a2 l2 c2, .int .u64 fl] w (Ret (.tuple #[.int .i64 0, .int .i64 22]) w) := by
  have c0 := H.h0
  have c1' := H.h1
  have HS := Lib.hid H.ar.c0
  unfold Ret
  clear H
  by_cases h1 : l1 = key
  · subst h1
    by_cases h2 : l2 = s
    · subst h2
      have h3 : 2 < fl := by
        rcases Int.lt_or_le 2 fl with h | h
        · exact h
        · exact absurd ⟨rfl, rfl, h⟩ hne
      have h3d : decide (2 < fl) = true := by simpa using h3
      clear hne
      go_enter Try.func18, Try.ntmps18
      go_wp2_with (go_at_call 31; refine (arr_size _ _ _ HS.out).mono ?_; rintro e w' ⟨rfl, rfl⟩)
      go_ret2
      exact ⟨rfl, rfl⟩
    · have hn2 : ((l2 : Int) == (s : Int)) = false := by simp; omega
      clear hne
      go_enter Try.func18, Try.ntmps18
      go_wp2_with (go_at_call 31; refine (arr_size _ _ _ HS.out).mono ?_; rintro e w' ⟨rfl, rfl⟩)
      go_ret2
      exact ⟨rfl, rfl⟩
  · have hn1 : ((l1 : Int) == (key : Int)) = false := by simp; omega
    clear hne
    go_enter Try.func18, Try.ntmps18
    go_wp2_with (go_at_call 31; refine (arr_size _ _ _ HS.out).mono ?_; rintro e w' ⟨rfl, rfl⟩)
    go_ret2
    exact ⟨rfl, rfl⟩
end
end Go.Proofs.Ytcociipcimdjjaa
