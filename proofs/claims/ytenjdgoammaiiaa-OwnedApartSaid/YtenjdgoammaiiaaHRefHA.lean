/-
  Proved here: what Put of the document's maps by keys does, in one. Conditions: the value's bytes do not lie in the map's own blocks.
-/
import Derived.Test.YtenjdgoammaiiaaHRefHP
namespace Go.Proofs.Ytenjdgoammaiiaa
open Go.RowKit
set_option maxRecDepth 100000

/-- What Put answers, and makes of keys and bytes. -/
def putR (ks : List ByteArray) (zs : List Int) (key s : Nat) (kz vz : List Int) (fl : Int) : Int × Int × List ByteArray × List Int :=
  if kz.length = key ∧ vz.length = s ∧ fl ≤ 2 then
    match ks.findIdx? (· = strOfNums kz) with
    | some i => if fl = 1 then (0, 17, ks, zs) else (i, 0, ks.set i (strOfNums kz), putN zs (i * s) vz s)
    | none => if fl = 2 then (0, 2, ks, zs) else
      match ks.findIdx? (· = ⟨#[]⟩) with
      | some i => (i, 0, ks.set i (strOfNums kz), putN zs (i * s) vz s)
      | none => (0, 28, ks, zs)
  else (0, 22, ks, zs)
def PutR (w0 : World) (H K R B cap key s n L : Nat) (gs : Nat → Nat) (r : Int × Int × List ByteArray × List Int) (e : Ending) (w : World) : Prop :=
  e = .returned (.tuple #[.int .i64 r.1, .int .i64 r.2.1]) ∧ Hf w H K R B cap key s n L gs r.2.2.1 r.2.2.2 ∧ Turned (PutS K n gs) w0 w
theorem put_refused {w0 : World} {H K R B cap key s n L : Nat} {gs : Nat → Nat} {ks : List ByteArray} {zs : List Int} {v : Int} {e : Ending} {w : World} (hd : Dim s n L) (h : Hf w0 H K R B cap key s n L gs ks zs) (hp : PutNo w0 v e w) : PutR w0 H K R B cap key s n L gs (0, v, ks, zs) e w :=
  ⟨hp.1, h.stay hd.s0 hd.n0 hp.2, Turned.of hp.2⟩
theorem put_ref (H K R B cap key s n L : Nat) (gs : Nat → Nat) (ks : List ByteArray) (zs : List Int) (v1 v2 : Value) (kz vz : List Int) (fl : Int) (w : World) (hd : Dim s n L) (h : Hf w H K R B cap key s n L gs ks zs) (hk : 1 ≤ key) (hv1 : KeyAt w v1 kz) (hv2 : KeyAt w v2 vz)
    (hsep : ∀ a len c, v2 = .slice (some a) len c → 0 < len → ¬ PutS K n gs a.block) :
    Calls Try.prog 52 #[.pointer (some ⟨H, 0, none⟩), v1, v2, .int .u64 fl] w (PutR w H K R B cap key s n L gs (putR ks zs key s kz vz fl)) := by
  have hs := hd.s0
  have hn := hd.n1
  have hn0 := hd.n0
  by_cases hl : kz.length = key ∧ vz.length = s ∧ fl ≤ 2
  · obtain ⟨e1, e2, e3⟩ := hl
    cases hv1 with
    | empty a c => simp at e1; omega
    | row g1 o1 l1 c1 kz hl1 hr1 hg1 =>
      cases hv2 with
      | empty a c => simp at e2; omega
      | row g2 o2 l2 c2 vz hl2 hr2 hg2 =>
        obtain rfl : l1 = key := by omega
        obtain rfl : l2 = s := by omega
        have hv : KeyAt w (.slice (some ⟨g1, o1, none⟩) l1 c1) kz := .row g1 o1 l1 c1 kz hl1 hr1 hg1
        have hb2 : ¬ PutS K n gs g2 := hsep ⟨g2, o2, none⟩ l2 c2 rfl (by omega)
        unfold putR
        rw [if_pos ⟨e1, e2, e3⟩]
        cases hf : ks.findIdx? (· = strOfNums kz) with
        | some i =>
          by_cases h1 : fl = 1
          · subst h1
            refine (put_some1 H K R B cap l1 l2 n L i gs ks zs g1 o1 c1 _ c2 kz w h hn hn0 hk e1 hv hf).mono fun e w' hp => ?_
            exact put_refused hd h hp
          · refine (put_go H K R B cap l1 l2 n L gs ks zs g1 o1 c1 g2 o2 c2 kz vz fl _ w hd h hk e1 hr1 rfl e2 hr2 hb2 e3 (fun hx => by rw [hf] at hx; cases hx) (fun _ => h1)).mono fun e w' hp => ?_
            unfold PutAny placeK at hp
            rw [hf] at hp
            simp only [if_neg h1]
            exact hp
        | none =>
          by_cases h2 : fl = 2
          · subst h2
            refine (put_none2 H K R B cap l1 l2 n L gs ks zs g1 o1 c1 _ c2 kz w h hn hn0 hk e1 hv hf).mono fun e w' hp => ?_
            exact put_refused hd h hp
          · refine (put_go H K R B cap l1 l2 n L gs ks zs g1 o1 c1 g2 o2 c2 kz vz fl _ w hd h hk e1 hr1 rfl e2 hr2 hb2 e3 (fun _ => h2) (fun hx => absurd hf hx)).mono fun e w' hp => ?_
            unfold PutAny placeK at hp
            rw [hf] at hp
            simp only [if_neg h2]
            cases hx : ks.findIdx? (· = ⟨#[]⟩) with
            | some i =>
              simp only [hx] at hp ⊢
              exact hp
            | none =>
              simp only [hx] at hp ⊢
              exact put_refused hd h hp
  · unfold putR
    rw [if_neg hl]
    have hlen : ∀ {v : Value} {zs : List Int}, KeyAt w v zs → ∃ a c, v = .slice a zs.length c := fun hv => by
      cases hv with
      | empty a c => exact ⟨a, c, rfl⟩
      | row g o l c zs hl hr hg => exact ⟨_, c, by rw [hl]⟩
    obtain ⟨a1, c1, rfl⟩ := hlen hv1
    obtain ⟨a2, c2, rfl⟩ := hlen hv2
    refine (put_other H K R B cap key s n L gs ks zs a1 a2 _ c1 _ c2 fl w h hl).mono fun e w' hp => ?_
    exact put_refused hd h hp
end Go.Proofs.Ytenjdgoammaiiaa
