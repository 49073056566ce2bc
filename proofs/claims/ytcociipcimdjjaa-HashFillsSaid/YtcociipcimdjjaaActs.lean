/-
  Proved here: what the law of maps by keys keeps, over whatever memory of the program's map keeps its contracts. Conditions: the contracts.
-/
import Derived.Test.YtcociipcimdjjaaSame
import Derived.Test.YtcociipcimdjjaaOps11
import Derived.Test.YtcociipcimdjjaaRefHN
namespace Go.Proofs.Ytcociipcimdjjaa
open Go.RowKit

/-- A program's map in memory: the blocks D are its own. -/
abbrev MapMem := World → (Nat → Prop) → Nat → List ByteArray → List Int → Prop
def DropP (PS : MapMem) (D : Nat → Prop) (h key : Nat) (ks : List ByteArray) (zs : List Int) (kz : List Int) (W : World) (e : Ending) (w : World) : Prop :=
  ∃ D', e = .returned (.int .i64 (dropE ks key kz)) ∧ PS w D' h (dropK ks key kz) zs ∧ Turned D W w ∧ ∀ b, D' b → D b ∨ W.heap.size ≤ b
def PutP (PS : MapMem) (D : Nat → Prop) (h : Nat) (r : Int × Int × List ByteArray × List Int) (W : World) (e : Ending) (w : World) : Prop :=
  ∃ D', e = .returned (.tuple #[.int .i64 r.1, .int .i64 r.2.1]) ∧ PS w D' h r.2.2.1 r.2.2.2 ∧ Turned D W w ∧ ∀ b, D' b → D b ∨ W.heap.size ≤ b
def CopyP (PS : MapMem) (ks : List ByteArray) (zs : List Int) (W : World) (e : Ending) (w : World) : Prop :=
  ∃ h2 D2, e = .returned (.pointer (some ⟨h2, 0, none⟩)) ∧ PS w D2 h2 ks zs ∧ Below W.heap.size W w ∧ ∀ b, D2 b → W.heap.size ≤ b
def NewP (PS : MapMem) (n L : Nat) (W : World) (e : Ending) (w : World) : Prop :=
  ∃ h D, e = .returned (.tuple #[.pointer (some ⟨h, 0, none⟩), .int .i64 0]) ∧ PS w D h (noKeys n) (zeros L) ∧ Below W.heap.size W w ∧ ∀ b, D b → W.heap.size ≤ b
def SlotP (PS : MapMem) (D : Nat → Prop) (h s q : Nat) (ks : List ByteArray) (zs : List Int) (W : World) (e : Ending) (w : World) : Prop :=
  ∃ G p, e = .returned (.tuple #[.slice (some ⟨G, p, none⟩) s s, .bool true]) ∧ Below W.heap.size W w ∧ D G ∧ ∀ t, t < s → w.frozen? ⟨G, p + t, none⟩ = false ∧ (∃ x, w.cell? ⟨G, p + t, none⟩ = some x) ∧ ∀ c, PS (w.setCell ⟨G, p + t, none⟩ (.int .u8 c)) D h ks (zs.set (q * s + t) c)
/-- No block of D holds these bytes. -/
def Off (D : Nat → Prop) (v : Value) : Prop := ∀ a len c, v = .slice (some a) len c → 0 < len → ¬ D a.block
structure Acts (PS : MapMem) (key s n L : Nat) : Prop where
  tells : ∀ D, Tells (fun w h ks zs => PS w D h ks zs) key L
  kept : ∀ {w w' D h ks zs}, PS w D h ks zs → (∀ b, D b → w'.heap[b]? = w.heap[b]?) → PS w' D h ks zs
  lt : ∀ {w D h ks zs}, PS w D h ks zs → ∀ b, D b → b < w.heap.size
  drop : ∀ {w D h ks zs a len c kz}, PS w D h ks zs → kz.length = len → len ≤ maxLen → KeyAt w (.slice a len c) kz → Calls Try.prog 14 #[.pointer (some ⟨h, 0, none⟩), .slice a len c] w (DropP PS D h key ks zs kz w)
  put : ∀ {w D h ks zs v1 v2 kz vz} {fl : Int}, PS w D h ks zs → KeyAt w v1 kz → KeyAt w v2 vz → Off D v1 → Off D v2 → 0 ≤ fl → fl ≤ 18446744073709551615 → Calls Try.prog 18 #[.pointer (some ⟨h, 0, none⟩), v1, v2, .int .u64 fl] w (PutP PS D h (putR ks zs key s kz vz fl) w)
  slotYes : ∀ {w D h ks zs q}, PS w D h ks zs → q < n → Calls Try.prog 16 #[.pointer (some ⟨h, 0, none⟩), .int .i64 (q : Int)] w (SlotP PS D h s q ks zs w)
  slotNo : ∀ {w D h ks zs} {K : Int}, PS w D h ks zs → ¬ (0 ≤ K ∧ K < n) → Calls Try.prog 16 #[.pointer (some ⟨h, 0, none⟩), .int .i64 K] w (fun e w' => e = .returned (.tuple #[.slice none 0 0, .bool false]) ∧ Below w.heap.size w w')
  copy : ∀ {w D h ks zs}, PS w D h ks zs → Calls Try.prog 9 #[.pointer (some ⟨h, 0, none⟩)] w (CopyP PS ks zs w)
  new : ∀ w, Calls Try.prog 6 #[.int .i64 (key : Int), .int .i64 (s : Int), .int .i64 (n : Int)] w (NewP PS n L w)

/-- The document's blocks. -/
def RefS (H K R B n : Nat) (gs : Nat → Nat) : Nat → Prop := fun b => b = H ∨ b = K ∨ b = R ∨ b = B ∨ ∃ i, i < n ∧ b = gs i
/-- Both maps. -/
structure Kn (PS : MapMem) (W wr : World) (D : Nat → Prop) (h H K R B cap key s n L : Nat) (gs : Nat → Nat) (ks : List ByteArray) (zs : List Int) (ms : List ByteArray) (ys : List Int) : Prop where
  p : PS wr D h ks zs
  r : Hf wr H K R B cap key s n L gs ms ys
  b : Below W.heap.size W wr
  dW : ∀ b, D b → W.heap.size ≤ b
  dR : ∀ b, D b → ¬ RefS H K R B n gs b
  rW : ∀ b, RefS H K R B n gs b → W.heap.size ≤ b
/-- The copy, if there is one. -/
def CopyK (PS : MapMem) (wr : World) (D S : Nat → Prop) (c x q : Value) : Prop :=
  c = .pointer none ∨ ∃ h2 D2 ks2 zs2, c = .pointer (some ⟨h2, 0, none⟩) ∧ x = .string (strOfNums zs2) ∧ q = .int .i64 (listK ks2).length ∧ PS wr D2 h2 ks2 zs2 ∧ (∀ b, D2 b → ¬ D b) ∧ ∀ b, D2 b → ¬ S b
section
variable {PS : MapMem} {W wr wx : World} {D D' S : Nat → Prop} {h H K R B cap key s n L : Nat} {gs : Nat → Nat} {ks ks' : List ByteArray} {zs zs' : List Int} {ms ms' : List ByteArray} {ys ys' : List Int} {c x q : Value}
theorem Hf.ltS (hf : Hf wr H K R B cap key s n L gs ms ys) (hd : Dim s n L) : ∀ b, RefS H K R B n gs b → b < wr.heap.size := by
  rintro b (rfl | rfl | rfl | rfl | ⟨i, hi, rfl⟩)
  · exact cell_block_lt hf.h0
  · exact cell_block_lt (hf.keys 0 hd.n0)
  · exact hf.rf.ltR
  · exact hf.rf.ltB hd.n0
  · exact hf.rf.ltG hd.s0 hi
theorem Hf.keptS (hf : Hf wr H K R B cap key s n L gs ms ys) (he : ∀ b, RefS H K R B n gs b → wx.heap[b]? = wr.heap[b]?) : Hf wx H K R B cap key s n L gs ms ys :=
  hf.kept (he _ (.inl rfl)) (he _ (.inr (.inl rfl))) (he _ (.inr (.inr (.inl rfl)))) (he _ (.inr (.inr (.inr (.inl rfl))))) (fun i hi => he _ (.inr (.inr (.inr (.inr ⟨i, hi, rfl⟩)))))
theorem putS_ref : ∀ b, PutS K n gs b → RefS H K R B n gs b := by
  rintro b (rfl | ⟨i, hi, rfl⟩)
  · exact .inr (.inl rfl)
  · exact .inr (.inr (.inr (.inr ⟨i, hi, rfl⟩)))
theorem Turned.below {S : Nat → Prop} (h : Turned S wr wx) (hb : Below W.heap.size W wr) (hS : ∀ b, S b → W.heap.size ≤ b) : Below W.heap.size W wx :=
  ⟨h.os.trans hb.os, h.tape.trans hb.tape, h.output.trans hb.output, Nat.le_trans hb.size h.size, fun k hk => (h.block k (Nat.lt_of_lt_of_le hk hb.size) (fun hs => by have := hS k hs; omega)).trans (hb.block k hk)⟩
theorem Kn.stay (hk : Kn PS W wr D h H K R B cap key s n L gs ks zs ms ys) (A : Acts PS key s n L) (hd : Dim s n L) (hb : Below wr.heap.size wr wx) : Kn PS W wx D h H K R B cap key s n L gs ks zs ms ys :=
  ⟨A.kept hk.p (fun b hb' => hb.block b (A.lt hk.p b hb')), hk.r.stay hd.s0 hd.n0 hb, hk.b.trans (hb.mono hk.b.size), hk.dW, hk.dR, hk.rW⟩
/-- The program has changed its map. -/
theorem Kn.prog (hk : Kn PS W wr D h H K R B cap key s n L gs ks zs ms ys) (hd : Dim s n L) (ht : Turned D wr wx) (hp : PS wx D' h ks' zs') (hD : ∀ b, D' b → D b ∨ wr.heap.size ≤ b) : Kn PS W wx D' h H K R B cap key s n L gs ks' zs' ms ys := by
  have hl := hk.r.ltS hd
  refine ⟨hp, hk.r.keptS (fun b hb => ht.block b (hl b hb) (fun hd => hk.dR b hd hb)), ht.below hk.b hk.dW, fun b hb => ?_, fun b hb hs => ?_, hk.rW⟩
  · rcases hD b hb with h1 | h1
    · exact hk.dW b h1
    · exact Nat.le_trans hk.b.size h1
  · rcases hD b hb with h1 | h1
    · exact hk.dR b h1 hs
    · have := hl b hs; omega
/-- The document has changed its map. -/
theorem Kn.refs (hk : Kn PS W wr D h H K R B cap key s n L gs ks zs ms ys) (A : Acts PS key s n L) (ht : Turned (PutS K n gs) wr wx) (hr : Hf wx H K R B cap key s n L gs ms' ys') : Kn PS W wx D h H K R B cap key s n L gs ks zs ms' ys' :=
  ⟨A.kept hk.p (fun b hb => ht.block b (A.lt hk.p b hb) (fun hs => hk.dR b hb (putS_ref b hs))), hr, ht.below hk.b (fun b hs => hk.rW b (putS_ref b hs)), hk.dW, hk.dR, hk.rW⟩
theorem CopyK.stay (hc : CopyK PS wr D S c x q) (A : Acts PS key s n L) (hb : Below wr.heap.size wr wx) : CopyK PS wx D S c x q := by
  rcases hc with h1 | ⟨h2, D2, ks2, zs2, e1, e2, e3, hp, h3, h4⟩
  · exact .inl h1
  · exact .inr ⟨h2, D2, ks2, zs2, e1, e2, e3, A.kept hp (fun b hb' => hb.block b (A.lt hp b hb')), h3, h4⟩
theorem CopyK.prog (hc : CopyK PS wr D S c x q) (A : Acts PS key s n L) (ht : Turned D wr wx) (hD : ∀ b, D' b → D b ∨ wr.heap.size ≤ b) : CopyK PS wx D' S c x q := by
  rcases hc with h1 | ⟨h2, D2, ks2, zs2, e1, e2, e3, hp, h3, h4⟩
  · exact .inl h1
  · refine .inr ⟨h2, D2, ks2, zs2, e1, e2, e3, A.kept hp (fun b hb' => ht.block b (A.lt hp b hb') (h3 b hb')), fun b hb hd => ?_, h4⟩
    rcases hD b hd with h5 | h5
    · exact h3 b hb h5
    · have := A.lt hp b hb; omega
theorem CopyK.refs (hc : CopyK PS wr D (RefS H K R B n gs) c x q) (A : Acts PS key s n L) (ht : Turned (PutS K n gs) wr wx) : CopyK PS wx D (RefS H K R B n gs) c x q := by
  rcases hc with h1 | ⟨h2, D2, ks2, zs2, e1, e2, e3, hp, h3, h4⟩
  · exact .inl h1
  · exact .inr ⟨h2, D2, ks2, zs2, e1, e2, e3, A.kept hp (fun b hb' => ht.block b (A.lt hp b hb') (fun hs => h4 b hb' (putS_ref b hs))), h3, h4⟩
/-- The program's bytes that came in stay. -/
theorem KeyAt.below {v : Value} {kz : List Int} (hk : KeyAt W v kz) (hb : Below W.heap.size W wr) : KeyAt wr v kz := by
  cases hk with
  | empty a c => exact .empty a c
  | row g off len c kz hl hr hg =>
    refine .row g off len c kz hl (fun j hj => ?_) (fun h0 => Nat.lt_of_lt_of_le (hg h0) hb.size)
    have := hg (by omega)
    exact (hb.cell (p := ⟨g, off + j, none⟩) this).trans (hr j hj)
theorem off_of {v : Value} {kz : List Int} (hk : KeyAt W v kz) (hD : ∀ b, D b → W.heap.size ≤ b) : Off D v := by
  intro a len c e h0 hd
  cases hk with
  | empty a c => injection e with _ e2 _; omega
  | row g off len' c' kz hl hr hg =>
    injection e with e1 e2 _
    injection e1 with e1
    subst e1 e2
    have h1 : W.heap.size ≤ g := hD _ hd
    have h2 := hg h0
    omega
end
/-- The operation's own box. -/
structure OpBox (w : World) (bx : Nat) (kd : Int) (v1 v2 : Value) (fl K T C : Int) : Prop where
  c0 : w.cell? ⟨bx, 0, none⟩ = some (.int .u8 kd)
  c1 : w.cell? ⟨bx, 1, none⟩ = some v1
  c2 : w.cell? ⟨bx, 2, none⟩ = some v2
  c3 : w.cell? ⟨bx, 3, none⟩ = some (.int .u64 fl)
  c4 : w.cell? ⟨bx, 4, none⟩ = some (.int .i64 K)
  c5 : w.cell? ⟨bx, 5, none⟩ = some (.int .i64 T)
  c6 : w.cell? ⟨bx, 6, none⟩ = some (.int .u8 C)
theorem OpBox.kept {w w' : World} {bx : Nat} {kd : Int} {v1 v2 : Value} {fl K T C : Int} (h : OpBox w bx kd v1 v2 fl K T C) (e : w'.heap[bx]? = w.heap[bx]?) : OpBox w' bx kd v1 v2 fl K T C :=
  ⟨(World.cell?_of_block (w := w) e).trans h.c0, (World.cell?_of_block (w := w) e).trans h.c1, (World.cell?_of_block (w := w) e).trans h.c2, (World.cell?_of_block (w := w) e).trans h.c3, (World.cell?_of_block (w := w) e).trans h.c4, (World.cell?_of_block (w := w) e).trans h.c5, (World.cell?_of_block (w := w) e).trans h.c6⟩
/-- All that is known in a round. -/
structure Rd (PS : MapMem) (W wr : World) (D : Nat → Prop) (h H K R B cap key s n L : Nat) (gs : Nat → Nat) (ks : List ByteArray) (zs : List Int) (ms : List ByteArray) (ys : List Int) (bx : Nat) (kd : Int) (v1 v2 : Value) (fl k t C : Int) (c x q : Value) : Prop where
  kn : Kn PS W wr D h H K R B cap key s n L gs ks zs ms ys
  ck : CopyK PS wr D (RefS H K R B n gs) c x q
  bo : OpBox wr bx kd v1 v2 fl k t C
  bD : ¬ D bx
  bR : ¬ RefS H K R B n gs bx
  lt : bx < wr.heap.size
section
variable {PS : MapMem} {W wr wx : World} {D D' : Nat → Prop} {h H K R B cap key s n L bx : Nat} {gs : Nat → Nat} {ks ks' : List ByteArray} {zs zs' : List Int} {ms ms' : List ByteArray} {ys ys' : List Int} {kd fl k t C : Int} {v1 v2 c x q : Value}
theorem Rd.stay (hr : Rd PS W wr D h H K R B cap key s n L gs ks zs ms ys bx kd v1 v2 fl k t C c x q) (A : Acts PS key s n L) (hd : Dim s n L) (hb : Below wr.heap.size wr wx) : Rd PS W wx D h H K R B cap key s n L gs ks zs ms ys bx kd v1 v2 fl k t C c x q :=
  ⟨hr.kn.stay A hd hb, hr.ck.stay A hb, hr.bo.kept (hb.block _ hr.lt), hr.bD, hr.bR, Nat.lt_of_lt_of_le hr.lt hb.size⟩
theorem Rd.prog (hr : Rd PS W wr D h H K R B cap key s n L gs ks zs ms ys bx kd v1 v2 fl k t C c x q) (A : Acts PS key s n L) (hd : Dim s n L) (ht : Turned D wr wx) (hp : PS wx D' h ks' zs') (hD : ∀ b, D' b → D b ∨ wr.heap.size ≤ b) :
    Rd PS W wx D' h H K R B cap key s n L gs ks' zs' ms ys bx kd v1 v2 fl k t C c x q :=
  ⟨hr.kn.prog hd ht hp hD, hr.ck.prog A ht hD, hr.bo.kept (ht.block _ hr.lt hr.bD), fun hb => by
    rcases hD _ hb with h1 | h1
    · exact hr.bD h1
    · have := hr.lt; omega, hr.bR, Nat.lt_of_lt_of_le hr.lt ht.size⟩
theorem Rd.refs (hr : Rd PS W wr D h H K R B cap key s n L gs ks zs ms ys bx kd v1 v2 fl k t C c x q) (A : Acts PS key s n L) (ht : Turned (PutS K n gs) wr wx) (hf : Hf wx H K R B cap key s n L gs ms' ys') :
    Rd PS W wx D h H K R B cap key s n L gs ks zs ms' ys' bx kd v1 v2 fl k t C c x q :=
  ⟨hr.kn.refs A ht hf, hr.ck.refs A ht, hr.bo.kept (ht.block _ hr.lt (fun hs => hr.bR (putS_ref _ hs))), hr.bD, hr.bR, Nat.lt_of_lt_of_le hr.lt ht.size⟩
end
end Go.Proofs.Ytcociipcimdjjaa
