/-
  Proved here: the program's map by keys keeps all contracts that the law asks. Conditions: as each lemma says.
-/
import Derived.Test.YtenjdgoammaiiaaHHq
import Derived.Test.YtenjdgoammaiiaaGH
import Derived.Test.YtenjdgoammaiiaaHHc
namespace Go.Proofs.Ytenjdgoammaiiaa
open Go.RowKit
set_option maxRecDepth 100000

theorem put_zero {D : Nat → Prop} {h A G C M : Nat} {v : Value} {len : Nat} {l : List Int} {Dm : DataW Unit} {key s n L : Nat} {ks : List ByteArray} {zs : List Int} {w w' : World} {e : Ending} {x : Int} (H : Hm w h A G C M v len l Dm key s n L ks zs) (hD : ∀ b, D b ↔ HmS h A G M v b)
    (he : e = .returned (.tuple #[.int .i64 0, .int .i64 x])) (hb : Below w.heap.size w w') : PutP (PM key s n L) D h (0, x, ks, zs) w e w' :=
  ⟨D, he, ⟨A, G, C, M, v, len, l, Dm, H.stay hb, hD⟩, Turned.of hb, fun _ hb => .inl hb⟩
theorem hm_put {h A G C M : Nat} {v : Value} {len : Nat} {l : List Int} {Dm : DataW Unit} {key s n L : Nat} {ks : List ByteArray} {zs : List Int} {w : World} {D : Nat → Prop} {v1 v2 : Value} {kz vz : List Int} {fl : Int} (H : Hm w h A G C M v len l Dm key s n L ks zs) (hD : ∀ b, D b ↔ HmS h A G M v b)
    (hd : Dim s n L) (hk : 1 ≤ key) (hm : key ≤ maxLen) (ha1 : KeyAt w v1 kz) (ha2 : KeyAt w v2 vz) (ho1 : Off D v1) (ho2 : Off D v2) :
    Calls Try.prog 36 #[.pointer (some ⟨h, 0, none⟩), v1, v2, .int .u64 fl] w (PutP (PM key s n L) D h (putR ks zs key s kz vz fl) w) := by
  obtain ⟨a1, c1, rfl⟩ := key_len ha1
  obtain ⟨a2, c2, rfl⟩ := key_len ha2
  unfold putR
  by_cases hl : kz.length = key ∧ vz.length = s ∧ fl ≤ 2
  · rw [if_pos hl]
    obtain ⟨h1, h2, h3⟩ := hl
    have hsl := slot_found H hk kz
    rw [if_pos h1] at hsl
    rw [← hsl]
    rw [h1] at ha1 ho1 ⊢
    rw [h2] at ha2 ho2 ⊢
    have hne : strOfNums kz ≠ ⟨#[]⟩ := fun e => by
      have := strOfNums_size kz
      rw [e] at this
      have h9 : 0 = kz.length := this
      omega
    cases hs : slotOf ks (strOfNums kz) with
    | some i =>
      simp only
      by_cases hf : fl = 1
      · rw [if_pos hf]
        exact (put_exist H hD hd hm h1 h2 ha1 ha2 ho1 ho2 rfl h3 hs hf).mono fun e w' ⟨he, hb⟩ => put_zero H hD he hb
      · rw [if_neg hf]
        exact put_over H hD hd hm h1 h2 ha1 ha2 ho1 ho2 rfl h3 hs hf
    | none =>
      simp only
      by_cases hf : fl = 2
      · rw [if_pos hf]
        exact (put_enoent H hD hd hm h1 h2 ha1 ha2 ho1 ho2 rfl h3 hs hf).mono fun e w' ⟨he, hb⟩ => put_zero H hD he hb
      · rw [if_neg hf]
        rcases Nat.eq_zero_or_pos len with h0 | h0
        · rw [none_free (by rw [H.fr.len, h0]) H.pm]
          exact (put_full H hD hd hm h1 h2 ha1 ha2 ho1 ho2 rfl h3 hs hf h0).mono fun e w' ⟨he, hb⟩ => put_zero H hD he hb
        · obtain ⟨i, hi1, hi2, hi3, hi4⟩ := least_free H.fr.len h0 H.hp H.pm
          rw [hi1]
          obtain ⟨F, cap, hv, -⟩ := H.fr.list h0
          obtain ⟨m, hm2⟩ : ∃ m, len = m + 1 := ⟨len - 1, by omega⟩
          rw [hm2] at hv
          exact put_new H hD hd hm h1 h2 ha1 ha2 ho1 ho2 rfl h3 hs hne hf rfl hv hm2 hi2 hi3 hi4
  · rw [if_neg hl]
    exact (hm_put_no H hl).mono fun e w' ⟨he, hw⟩ => put_zero H hD he (by rw [← hw]; exact Below.refl _ _)
end Go.Proofs.Ytenjdgoammaiiaa
