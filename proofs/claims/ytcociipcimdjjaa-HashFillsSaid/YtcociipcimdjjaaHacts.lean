/-
  Proved here: the program's map by keys keeps all contracts that the law asks. Conditions: as each lemma says.
-/
import Derived.Test.YtcociipcimdjjaaHq
import Derived.Test.YtcociipcimdjjaaHk
import Derived.Test.YtcociipcimdjjaaHn
import Derived.Test.YtcociipcimdjjaaHc
namespace Go.Proofs.Ytcociipcimdjjaa
open Go.RowKit

theorem put_zero {D : Nat → Prop} {h A G C M : Nat} {v : Value} {len : Nat} {l : List Int} {Dm : DataW Unit} {key s n L : Nat} {ks : List ByteArray} {zs : List Int} {w w' : World} {e : Ending} {x : Int} (H : Hm w h A G C M v len l Dm key s n L ks zs) (hD : ∀ b, D b ↔ HmS h A G M v b)
    (he : e = .returned (.tuple #[.int .i64 0, .int .i64 x])) (hb : Below w.heap.size w w') : PutP (PM key s n L) D h (0, x, ks, zs) w e w' :=
  ⟨D, he, ⟨A, G, C, M, v, len, l, Dm, H.stay hb, hD⟩, Turned.of hb, fun _ hb => .inl hb⟩
theorem hm_put {h A G C M : Nat} {v : Value} {len : Nat} {l : List Int} {Dm : DataW Unit} {key s n L : Nat} {ks : List ByteArray} {zs : List Int} {w : World} {D : Nat → Prop} {v1 v2 : Value} {kz vz : List Int} {fl : Int} (H : Hm w h A G C M v len l Dm key s n L ks zs) (hD : ∀ b, D b ↔ HmS h A G M v b)
    (hd : Dim s n L) (hk : 1 ≤ key) (hm : key ≤ maxLen) (ha1 : KeyAt w v1 kz) (ha2 : KeyAt w v2 vz) (ho1 : Off D v1) (ho2 : Off D v2) :
    Calls Try.prog 18 #[.pointer (some ⟨h, 0, none⟩), v1, v2, .int .u64 fl] w (PutP (PM key s n L) D h (putR ks zs key s kz vz fl) w) := by
  obtain ⟨a1, c1, rfl⟩ := key_len ha1
  obtain ⟨a2, c2, rfl⟩ := key_len ha2
  unfold putR
  by_cases hl : kz.length = key ∧ vz.length = s ∧ fl ≤ 2
  · rw [if_pos hl]
    obtain ⟨h1, h2, h3⟩ := hl
    have hsl := slot_found H hk kz
    rw [if_pos h1] at hsl
    rw [← hsl]
    rw [h1] at ha1 ho1 ⊢
    rw [h2] at ha2 ho2 ⊢
    have hne : strOfNums kz ≠ ⟨#[]⟩ := fun e => by
      have := strOfNums_size kz
      rw [e] at this
      have h9 : 0 = kz.length := this
      omega
    cases hs : slotOf ks (strOfNums kz) with
    | some i =>
      simp only
      by_cases hf : fl = 1
      · rw [if_pos hf]
        exact (put_exist H hD hd hm h1 h2 ha1 ha2 ho1 ho2 rfl h3 hs hf).mono fun e w' ⟨he, hb⟩ => put_zero H hD he hb
      · rw [if_neg hf]
        exact put_over H hD hd hm h1 h2 ha1 ha2 ho1 ho2 rfl h3 hs hf
    | none =>
      simp only
      by_cases hf : fl = 2
      · rw [if_pos hf]
        exact (put_enoent H hD hd hm h1 h2 ha1 ha2 ho1 ho2 rfl h3 hs hf).mono fun e w' ⟨he, hb⟩ => put_zero H hD he hb
      · rw [if_neg hf]
        rcases Nat.eq_zero_or_pos len with h0 | h0
        · rw [none_free (by rw [H.fr.len, h0]) H.pm]
          exact (put_full H hD hd hm h1 h2 ha1 ha2 ho1 ho2 rfl h3 hs hf h0).mono fun e w' ⟨he, hb⟩ => put_zero H hD he hb
        · obtain ⟨i, hi1, hi2, hi3, hi4⟩ := least_free H.fr.len h0 H.hp H.pm
          rw [hi1]
          obtain ⟨F, cap, hv, -⟩ := H.fr.list h0
          obtain ⟨m, hm2⟩ : ∃ m, len = m + 1 := ⟨len - 1, by omega⟩
          rw [hm2] at hv
          exact put_new H hD hd hm h1 h2 ha1 ha2 ho1 ho2 rfl h3 hs hne hf rfl hv hm2 hi2 hi3 hi4
  · rw [if_neg hl]
    exact (hm_put_no H hl).mono fun e w' ⟨he, hw⟩ => put_zero H hD he (by rw [← hw]; exact Below.refl _ _)
theorem hm_acts (key s n L : Nat) (hd : Dim s n L) (hk : 1 ≤ key) (hk8 : key ≤ 8) : Acts (PM key s n L) key s n L where
  tells D := {
    stay := fun {w w' h ks zs} ⟨A, G, C, M, v, len, l, Dm, H, hD⟩ hb => ⟨A, G, C, M, v, len, l, Dm, H.stay hb, hD⟩
    zlen := fun ⟨A, G, C, M, v, len, l, Dm, H, hD⟩ => H.ar.len
    ksz := fun ⟨A, G, C, M, v, len, l, Dm, H, hD⟩ => H.kz
    len := fun ⟨A, G, C, M, v, len, l, Dm, H, hD⟩ => hm_len H
    bytes := fun ⟨A, G, C, M, v, len, l, Dm, H, hD⟩ => hm_bytes H hd
    keys := fun ⟨A, G, C, M, v, len, l, Dm, H, hD⟩ => hm_keys H hd
    find := fun {w h ks zs v kz} ⟨A, G, C, M, v', len, l, Dm, H, hD⟩ ha hl => hm_find H hk ha (by unfold maxLen at hl ⊢; omega) }
  kept := fun ⟨A, G, C, M, v, len, l, Dm, H, hD⟩ he => ⟨A, G, C, M, v, len, l, Dm, H.kept (fun b hb => he b ((hD b).2 hb)), hD⟩
  lt := fun ⟨A, G, C, M, v, len, l, Dm, H, hD⟩ b hb => H.lt b ((hD b).1 hb)
  drop := fun ⟨A, G, C, M, v, len, l, Dm, H, hD⟩ hl hm ha => hm_drop H hD hd hk hl hm ha
  put := fun ⟨A, G, C, M, v, len, l, Dm, H, hD⟩ ha1 ha2 ho1 ho2 _ _ => hm_put H hD hd hk (by unfold maxLen; omega) ha1 ha2 ho1 ho2
  slotYes := fun {w D h ks zs q} ⟨A, G, C, M, v, len, l, Dm, H, hD⟩ hq => (hm_slot_yes H hd hq).mono fun e w' ⟨he, hb⟩ => by
    have H' := H.stay hb
    have hat := hd.at hq
    refine ⟨G, q * s, he, hb, (hD G).2 (.inr (.inr (.inl rfl))), fun t ht => ⟨H'.ar.free _, ?_, fun c => ?_⟩⟩
    · have := H'.ar.row (q * s + t) (by omega)
      rw [Nat.zero_add] at this
      exact ⟨_, this⟩
    · exact ⟨A, G, C, M, v, len, l, Dm, H'.put1 hd (by omega), hD⟩
  slotNo := fun ⟨A, G, C, M, v, len, l, Dm, H, hD⟩ hK => hm_slot_no H hK
  copy := fun ⟨A, G, C, M, v, len, l, Dm, H, hD⟩ => hm_copy H hd
  new := fun w => hm_new key s n L w hd hk hk8
end Go.Proofs.Ytcociipcimdjjaa
