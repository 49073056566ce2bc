/-
  Proved here: what a round of the law of storages knows, and what it stays under. Conditions: the contracts.
-/
import Derived.Test.YtijhoiheieighaaActs12
namespace Go.Proofs.Ytijhoiheieighaa
open Go.RowKit

theorem place_lt {s n L q r : Nat} (hd : Dim s n L) (hq : q < n) (hr : r < s) : q * s + r < L := by
  have := hd.at hq
  omega
theorem PD.lt {s n L : Nat} {w : World} {S : Nat → Prop} {H : Nat} {os : List Ob} {zs : List Int} (h : PD s n L w S H os zs) (hd : Dim s n L) : ∀ b, S b → b < w.heap.size := by
  obtain ⟨R, B, cap, kv, gs, h, hS⟩ := h
  exact fun b hb => h.lt hd b ((hS b).1 hb)
theorem PD.kept {s n L : Nat} {w w' : World} {S : Nat → Prop} {H : Nat} {os : List Ob} {zs : List Int} (h : PD s n L w S H os zs) (e : ∀ b, S b → w'.heap[b]? = w.heap[b]?) : PD s n L w' S H os zs := by
  obtain ⟨R, B, cap, kv, gs, h, hS⟩ := h
  exact ⟨R, B, cap, kv, gs, h.kept (fun b hb => e b ((hS b).2 hb)), hS⟩
/-- Both storages. -/
structure Kn (PS : StMem) (W wr : World) (D S : Nat → Prop) (h G H s n L : Nat) (os : List Ob) (zs : List Int) (ms : List Ob) (ys : List Int) : Prop where
  p : PS wr D h G os zs
  r : PD s n L wr S H ms ys
  b : Below W.heap.size W wr
  dW : ∀ b, D b → W.heap.size ≤ b
  dR : ∀ b, D b → ¬ S b
  rW : ∀ b, S b → W.heap.size ≤ b
/-- The copy, if there is one. -/
def CopyK (PS : StMem) (wr : World) (D S : Nat → Prop) (c x q : Value) : Prop :=
  c = .pointer none ∨ ∃ h2 D2 G2 os2 zs2, c = .pointer (some ⟨h2, 0, none⟩) ∧ x = .string (strOfNums zs2) ∧ q = .int .i64 os2.length ∧ PS wr D2 h2 G2 os2 zs2 ∧ (∀ b, D2 b → ¬ D b) ∧ ∀ b, D2 b → ¬ S b
section
variable {PS : StMem} {W wr wx : World} {D D' S S' : Nat → Prop} {h G G' H s n L : Nat} {os os' ms ms' : List Ob} {zs zs' ys ys' : List Int} {c x q : Value}
theorem Kn.stay (hk : Kn PS W wr D S h G H s n L os zs ms ys) (A : Acts12 PS s n L) (hd : Dim s n L) (hb : Below wr.heap.size wr wx) : Kn PS W wx D S h G H s n L os zs ms ys :=
  ⟨A.stay hk.p hb, hk.r.kept (fun b hS => hb.block b (hk.r.lt hd b hS)), hk.b.trans (hb.mono hk.b.size), hk.dW, hk.dR, hk.rW⟩
/-- The program has changed its storage. -/
theorem Kn.prog (hk : Kn PS W wr D S h G H s n L os zs ms ys) (hd : Dim s n L) (ht : Turned D wr wx) (hp : PS wx D' h G' os' zs') (hD : ∀ b, D' b → D b ∨ wr.heap.size ≤ b) : Kn PS W wx D' S h G' H s n L os' zs' ms ys := by
  have hl := hk.r.lt hd
  refine ⟨hp, hk.r.kept (fun b hb => ht.block b (hl b hb) (fun hd => hk.dR b hd hb)), ht.below hk.b hk.dW, fun b hb => ?_, fun b hb hs => ?_, hk.rW⟩
  · rcases hD b hb with h1 | h1
    · exact hk.dW b h1
    · exact Nat.le_trans hk.b.size h1
  · rcases hD b hb with h1 | h1
    · exact hk.dR b h1 hs
    · have := hl b hs; omega
/-- The document has changed its storage. -/
theorem Kn.refs (hk : Kn PS W wr D S h G H s n L os zs ms ys) (A : Acts12 PS s n L) (ht : Turned S wr wx) (hr : PD s n L wx S' H ms' ys') (hS : ∀ b, S' b → S b ∨ wr.heap.size ≤ b) : Kn PS W wx D S' h G H s n L os zs ms' ys' := by
  refine ⟨A.kept hk.p (fun b hb => ht.block b (A.lt hk.p b hb) (fun hs => hk.dR b hb hs)), hr, ht.below hk.b hk.rW, hk.dW, fun b hb hs => ?_, fun b hb => ?_⟩
  · rcases hS b hs with h1 | h1
    · exact hk.dR b hb h1
    · have := A.lt hk.p b hb; omega
  · rcases hS b hb with h1 | h1
    · exact hk.rW b h1
    · exact Nat.le_trans hk.b.size h1
theorem CopyK.stay (hc : CopyK PS wr D S c x q) (A : Acts12 PS s n L) (hb : Below wr.heap.size wr wx) : CopyK PS wx D S c x q := by
  rcases hc with h1 | ⟨h2, D2, G2, os2, zs2, e1, e2, e3, hp, h3, h4⟩
  · exact .inl h1
  · exact .inr ⟨h2, D2, G2, os2, zs2, e1, e2, e3, A.stay hp hb, h3, h4⟩
theorem CopyK.prog (hc : CopyK PS wr D S c x q) (A : Acts12 PS s n L) (ht : Turned D wr wx) (hD : ∀ b, D' b → D b ∨ wr.heap.size ≤ b) : CopyK PS wx D' S c x q := by
  rcases hc with h1 | ⟨h2, D2, G2, os2, zs2, e1, e2, e3, hp, h3, h4⟩
  · exact .inl h1
  · refine .inr ⟨h2, D2, G2, os2, zs2, e1, e2, e3, A.kept hp (fun b hb => ht.block b (A.lt hp b hb) (h3 b hb)), fun b hb hd => ?_, h4⟩
    rcases hD b hd with h5 | h5
    · exact h3 b hb h5
    · have := A.lt hp b hb; omega
theorem CopyK.refs (hc : CopyK PS wr D S c x q) (A : Acts12 PS s n L) (ht : Turned S wr wx) (hS : ∀ b, S' b → S b ∨ wr.heap.size ≤ b) : CopyK PS wx D S' c x q := by
  rcases hc with h1 | ⟨h2, D2, G2, os2, zs2, e1, e2, e3, hp, h3, h4⟩
  · exact .inl h1
  · refine .inr ⟨h2, D2, G2, os2, zs2, e1, e2, e3, A.kept hp (fun b hb => ht.block b (A.lt hp b hb) (h4 b hb)), h3, fun b hb hd => ?_⟩
    rcases hS b hd with h5 | h5
    · exact h4 b hb h5
    · have := A.lt hp b hb; omega
end
/-- The operation's own box. -/
structure OpBox (w : World) (bx : Nat) (kd x y K T C : Int) : Prop where
  c0 : w.cell? ⟨bx, 0, none⟩ = some (.int .u8 kd)
  c1 : w.cell? ⟨bx, 1, none⟩ = some (.int .i64 x)
  c2 : w.cell? ⟨bx, 2, none⟩ = some (.int .i64 y)
  c3 : w.cell? ⟨bx, 3, none⟩ = some (.int .i64 K)
  c4 : w.cell? ⟨bx, 4, none⟩ = some (.int .i64 T)
  c5 : w.cell? ⟨bx, 5, none⟩ = some (.int .u8 C)
theorem OpBox.kept {w w' : World} {bx : Nat} {kd x y K T C : Int} (h : OpBox w bx kd x y K T C) (e : w'.heap[bx]? = w.heap[bx]?) : OpBox w' bx kd x y K T C :=
  ⟨(World.cell?_of_block (w := w) e).trans h.c0, (World.cell?_of_block (w := w) e).trans h.c1, (World.cell?_of_block (w := w) e).trans h.c2, (World.cell?_of_block (w := w) e).trans h.c3, (World.cell?_of_block (w := w) e).trans h.c4, (World.cell?_of_block (w := w) e).trans h.c5⟩
/-- All that is known in a round. -/
structure Rd (PS : StMem) (W wr : World) (D S : Nat → Prop) (h G H s n L : Nat) (os : List Ob) (zs : List Int) (ms : List Ob) (ys : List Int) (bx : Nat) (kd x y k t C : Int) (c z q : Value) : Prop where
  kn : Kn PS W wr D S h G H s n L os zs ms ys
  ck : CopyK PS wr D S c z q
  bo : OpBox wr bx kd x y k t C
  bD : ¬ D bx
  bR : ¬ S bx
  lt : bx < wr.heap.size
section
variable {PS : StMem} {W wr wx : World} {D D' S S' : Nat → Prop} {h G G' H s n L bx : Nat} {os os' ms ms' : List Ob} {zs zs' ys ys' : List Int} {kd x y k t C : Int} {c z q : Value}
theorem Rd.stay (hr : Rd PS W wr D S h G H s n L os zs ms ys bx kd x y k t C c z q) (A : Acts12 PS s n L) (hd : Dim s n L) (hb : Below wr.heap.size wr wx) : Rd PS W wx D S h G H s n L os zs ms ys bx kd x y k t C c z q :=
  ⟨hr.kn.stay A hd hb, hr.ck.stay A hb, hr.bo.kept (hb.block _ hr.lt), hr.bD, hr.bR, Nat.lt_of_lt_of_le hr.lt hb.size⟩
theorem Rd.prog (hr : Rd PS W wr D S h G H s n L os zs ms ys bx kd x y k t C c z q) (A : Acts12 PS s n L) (hd : Dim s n L) (ht : Turned D wr wx) (hp : PS wx D' h G' os' zs') (hD : ∀ b, D' b → D b ∨ wr.heap.size ≤ b) : Rd PS W wx D' S h G' H s n L os' zs' ms ys bx kd x y k t C c z q :=
  ⟨hr.kn.prog hd ht hp hD, hr.ck.prog A ht hD, hr.bo.kept (ht.block _ hr.lt hr.bD), fun hb => by
    rcases hD _ hb with h1 | h1
    · exact hr.bD h1
    · have := hr.lt; omega, hr.bR, Nat.lt_of_lt_of_le hr.lt ht.size⟩
theorem Rd.refs (hr : Rd PS W wr D S h G H s n L os zs ms ys bx kd x y k t C c z q) (A : Acts12 PS s n L) (ht : Turned S wr wx) (hp : PD s n L wx S' H ms' ys') (hS : ∀ b, S' b → S b ∨ wr.heap.size ≤ b) : Rd PS W wx D S' h G H s n L os zs ms' ys' bx kd x y k t C c z q :=
  ⟨hr.kn.refs A ht hp hS, hr.ck.refs A ht hS, hr.bo.kept (ht.block _ hr.lt hr.bR), hr.bD, fun hb => by
    rcases hS _ hb with h1 | h1
    · exact hr.bR h1
    · have := hr.lt; omega, Nat.lt_of_lt_of_le hr.lt ht.size⟩
end
def LawPost (W : World) (e : Ending) (w : World) : Prop := e = .returned (.bool true) ∧ Below W.heap.size W w
/-- The operations' row. -/
def OpsIn (w : World) (A : Option Addr) (len : Nat) : Prop := len = 0 ∨ ∃ g off, A = some ⟨g, off, none⟩ ∧ g < w.heap.size ∧ ∀ j, j < len → ∃ kd x y K T C, OpAt w g (off + j * 6) kd x y K T C
end Go.Proofs.Ytijhoiheieighaa
