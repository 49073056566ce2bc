/-
  Proved here: what the laws of a program's maps ask of the program's own, and what a round knows. Conditions: the contracts.
-/
import Derived.Test.YtenjdgoammaiiaaHOwB
import Derived.Test.YtenjdgoammaiiaaHPMem
namespace Go.Proofs.Ytenjdgoammaiiaa
open Go.RowKit
set_option maxRecDepth 100000

/-- A program's maps in memory: the blocks D are its own. -/
abbrev OwMem := World → (Nat → Prop) → Nat → List MSt → Prop
def ProgQ (PS : OwMem) (D : Nat → Prop) (h : Nat) (v : Value) (st : List MSt) (W : World) (e : Ending) (w : World) : Prop := ∃ D', e = .returned v ∧ PS w D' h st ∧ Turned D W w ∧ ∀ b, D' b → D b ∨ W.heap.size ≤ b
structure Acts14 (PS : OwMem) : Prop where
  kept : ∀ {w w' D h st}, PS w D h st → (∀ b, D b → w'.heap[b]? = w.heap[b]?) → PS w' D h st
  lt : ∀ {w D h st}, PS w D h st → ∀ b, D b → b < w.heap.size
  ok : ∀ {w D h st}, PS w D h st → ∀ m, m < st.length → okM (st.getD m .ring)
  four : ∀ {w D h st}, PS w D h st → st.length ≤ 4
  new : ∀ {w ds a c}, DfsIn w a ds → mayL ds = true → Calls Try.prog 7 #[.slice a ds.length c] w (fun e w' => ∃ h D, e = .returned (.tuple #[ptrV h, .int .i64 0]) ∧ PS w' D h (ds.map newM) ∧ Below w.heap.size w w' ∧ ∀ b, D b → w.heap.size ≤ b)
  update : ∀ {w D h st m v1 v2 kz vz fl}, PS w D h st → KeyAt w v1 kz → IsBytes kz → KeyAt w v2 vz → Off D v1 → Off D v2 → kz.length ≤ 100 → vz.length ≤ 100 → Calls Try.prog 14 #[ptrV h, .int .i64 m, v1, v2, .int .u64 fl] w (ProgQ PS D h (.int .i64 (opR 22 (updM kz vz fl) st m).1) (opR 22 (updM kz vz fl) st m).2 w)
  delete : ∀ {w D h st m v kz}, PS w D h st → KeyAt w v kz → IsBytes kz → Off D v → kz.length ≤ 100 → Calls Try.prog 25 #[ptrV h, .int .i64 m, v] w (ProgQ PS D h (.int .i64 (opR 22 (delM kz) st m).1) (opR 22 (delM kz) st m).2 w)
  get : ∀ {w D h st m o c}, PS w D h st → Calls Try.prog 27 #[ptrV h, .int .i64 m, obV o, .bool c] w (ProgQ PS D h (.tuple #[.int .i64 (opR (0, 22) (getM o c) st m).1.1, .int .i64 (opR (0, 22) (getM o c) st m).1.2]) (opR (0, 22) (getM o c) st m).2 w)
  drop : ∀ {w D h st m o}, PS w D h st → Calls Try.prog 29 #[ptrV h, .int .i64 m, obV o] w (ProgQ PS D h (.int .i64 (opR 22 (dropM o) st m).1) (opR 22 (dropM o) st m).2 w)
  lookup : ∀ {w D h st m v kz}, PS w D h st → KeyAt w v kz → IsBytes kz → kz.length ≤ 100 → Calls Try.prog 15 #[ptrV h, .int .i64 m, v] w (fun e w' => e = .returned (.tuple #[.int .i64 (if lookR st m kz < 0 then 0 else lookR st m kz), .bool (decide (0 ≤ lookR st m kz))]) ∧ Below w.heap.size w w')
  slotOut : ∀ {w D h st m k}, PS w D h st → ¬ (0 ≤ m ∧ m < (st.length : Int) ∧ 0 ≤ k ∧ k < ((st.getD m.toNat .ring).max : Int)) → Calls Try.prog 13 #[ptrV h, .int .i64 m, .int .i64 k] w (fun e w' => e = .returned (.tuple #[.slice none 0 0, .bool false]) ∧ Below w.heap.size w w')
  slotIn : ∀ {w D h st} {q k : Nat}, PS w D h st → q < st.length → k < (st.getD q .ring).max → Calls Try.prog 13 #[ptrV h, .int .i64 (q : Int), .int .i64 (k : Int)] w (fun e w' => ∃ g o C, e = .returned (.tuple #[.slice (some ⟨g, o, none⟩) (st.getD q .ring).val C, .bool true]) ∧ Below w.heap.size w w' ∧ D g ∧ ∀ j, j < (st.getD q .ring).val → w'.cell? ⟨g, o + j, none⟩ = some (.int .u8 ((st.getD q .ring).zs.getD (k * (st.getD q .ring).val + j) 0)) ∧ w'.frozen? ⟨g, o + j, none⟩ = false ∧
    ∀ c : Int, PS (w'.setCell ⟨g, o + j, none⟩ (.int .u8 c)) D h (st.set q ((st.getD q .ring).put ((st.getD q .ring).zs.set (k * (st.getD q .ring).val + j) c))))
  bytes : ∀ {w D h st}, PS w D h st → Calls Try.prog 10 #[ptrV h] w (fun e w' => ∃ v, e = .returned v ∧ KeyAt w' v (bytesS st) ∧ Below w.heap.size w w')
  copy : ∀ {w D h st}, PS w D h st → Calls Try.prog 9 #[ptrV h] w (fun e w' => ∃ h2 D2, e = .returned (ptrV h2) ∧ PS w' D2 h2 st ∧ Below w.heap.size w w' ∧ ∀ b, D2 b → w.heap.size ≤ b)
section
variable {PS : OwMem} {W w0 wr wx : World} {D D0 D' S S0 S' : Nat → Prop} {h O : Nat} {st st' : List MSt}
theorem Acts14.stay (A : Acts14 PS) (hp : PS wr D h st) (hb : Below wr.heap.size wr wx) : PS wx D h st := A.kept hp fun b hD => hb.block b (A.lt hp b hD)
theorem RD.lt (h : RD wr S O st) : ∀ b, S b → b < wr.heap.size := by
  obtain ⟨a, c, pv, Ss, h, hS⟩ := h
  exact fun b hb => h.lt b ((hS b).1 hb)
theorem RD.kept (h : RD wr S O st) (e : ∀ b, S b → wx.heap[b]? = wr.heap[b]?) : RD wx S O st := by
  obtain ⟨a, c, pv, Ss, h, hS⟩ := h
  exact ⟨a, c, pv, Ss, h.kept (fun b hb => e b ((hS b).2 hb)), hS⟩
/-- Both, and what has been turned since w0. -/
structure K14 (PS : OwMem) (W w0 wx : World) (D0 S0 D S : Nat → Prop) (h O : Nat) (sp sd : List MSt) : Prop where
  p : PS wx D h sp
  r : RD wx S O sd
  b : Below W.heap.size W wx
  dW : ∀ b, D b → W.heap.size ≤ b
  rW : ∀ b, S b → W.heap.size ≤ b
  dR : ∀ b, D b → ¬ S b
  t : Turned (fun b => D0 b ∨ S0 b) w0 wx
  d0 : ∀ b, D b → D0 b ∨ w0.heap.size ≤ b
  s0 : ∀ b, S b → S0 b ∨ w0.heap.size ≤ b
theorem K14.stay {sp sd : List MSt} (hk : K14 PS W w0 wr D0 S0 D S h O sp sd) (A : Acts14 PS) (hb : Below wr.heap.size wr wx) : K14 PS W w0 wx D0 S0 D S h O sp sd :=
  ⟨A.stay hk.p hb, hk.r.kept (fun b hS => hb.block b (hk.r.lt b hS)), hk.b.trans (hb.mono hk.b.size), hk.dW, hk.rW, hk.dR, hk.t.trans (Turned.of hb), hk.d0, hk.s0⟩
theorem turned_from {T D : Nat → Prop} {w0 wr wx : World} (h : Turned T w0 wr) (ht : Turned D wr wx) (hD : ∀ b, D b → T b ∨ w0.heap.size ≤ b) : Turned T w0 wx :=
  ⟨ht.os.trans h.os, ht.tape.trans h.tape, ht.output.trans h.output, Nat.le_trans h.size ht.size, fun k hk hn => (ht.block k (Nat.lt_of_lt_of_le hk h.size) (fun hd => by
    rcases hD k hd with h1 | h1
    · exact hn h1
    · omega)).trans (h.block k hk hn)⟩
/-- The program has changed its maps. -/
theorem K14.prog {sp sp' sd : List MSt} (hk : K14 PS W w0 wr D0 S0 D S h O sp sd) (ht : Turned D wr wx) (hp : PS wx D' h sp') (hD : ∀ b, D' b → D b ∨ wr.heap.size ≤ b) : K14 PS W w0 wx D0 S0 D' S h O sp' sd := by
  have hl := hk.r.lt
  refine ⟨hp, hk.r.kept (fun b hb => ht.block b (hl b hb) (fun hd => hk.dR b hd hb)), ht.belowN hk.b hk.dW, fun b hb => ?_, hk.rW, fun b hb hs => ?_, turned_from hk.t ht (fun b hb => (hk.d0 b hb).imp .inl id), fun b hb => ?_, hk.s0⟩
  · rcases hD b hb with h1 | h1
    · exact hk.dW b h1
    · exact Nat.le_trans hk.b.size h1
  · rcases hD b hb with h1 | h1
    · exact hk.dR b h1 hs
    · have := hl b hs; omega
  · rcases hD b hb with h1 | h1
    · exact hk.d0 b h1
    · exact .inr (Nat.le_trans hk.t.size h1)
/-- The document has changed its maps. -/
theorem K14.refs {sp sd sd' : List MSt} (hk : K14 PS W w0 wr D0 S0 D S h O sp sd) (A : Acts14 PS) (ht : Turned S wr wx) (hr : RD wx S' O sd') (hS : ∀ b, S' b → S b ∨ wr.heap.size ≤ b) : K14 PS W w0 wx D0 S0 D S' h O sp sd' := by
  refine ⟨A.kept hk.p (fun b hb => ht.block b (A.lt hk.p b hb) (fun hs => hk.dR b hb hs)), hr, ht.belowN hk.b hk.rW, hk.dW, fun b hb => ?_, fun b hb hs => ?_, turned_from hk.t ht (fun b hb => (hk.s0 b hb).imp .inr id), hk.d0, fun b hb => ?_⟩
  · rcases hS b hb with h1 | h1
    · exact hk.rW b h1
    · exact Nat.le_trans hk.b.size h1
  · rcases hS b hs with h1 | h1
    · exact hk.dR b hb h1
    · have := A.lt hk.p b hb; omega
  · rcases hS b hb with h1 | h1
    · exact hk.s0 b h1
    · exact .inr (Nat.le_trans hk.t.size h1)
end
/-- An operation's box. -/
structure Op14 (w : World) (bx : Nat) (kd M : Int) (v1 v2 : Value) (id gn fl K T C : Int) : Prop where
  c0 : w.cell? ⟨bx, 0, none⟩ = some (.int .u8 kd)
  c1 : w.cell? ⟨bx, 1, none⟩ = some (.int .i64 M)
  c2 : w.cell? ⟨bx, 2, none⟩ = some v1
  c3 : w.cell? ⟨bx, 3, none⟩ = some v2
  c4 : w.cell? ⟨bx, 4, none⟩ = some (.int .i64 id)
  c5 : w.cell? ⟨bx, 5, none⟩ = some (.int .i64 gn)
  c6 : w.cell? ⟨bx, 6, none⟩ = some (.int .u64 fl)
  c7 : w.cell? ⟨bx, 7, none⟩ = some (.int .i64 K)
  c8 : w.cell? ⟨bx, 8, none⟩ = some (.int .i64 T)
  c9 : w.cell? ⟨bx, 9, none⟩ = some (.int .u8 C)
theorem Op14.kept {w w' : World} {bx : Nat} {kd M : Int} {v1 v2 : Value} {id gn fl K T C : Int} (h : Op14 w bx kd M v1 v2 id gn fl K T C) (e : w'.heap[bx]? = w.heap[bx]?) : Op14 w' bx kd M v1 v2 id gn fl K T C := by
  have f : ∀ j, w'.cell? ⟨bx, j, none⟩ = w.cell? ⟨bx, j, none⟩ := fun j => World.cell?_of_block (w := w) (a := ⟨bx, j, none⟩) e
  exact ⟨(f 0).trans h.c0, (f 1).trans h.c1, (f 2).trans h.c2, (f 3).trans h.c3, (f 4).trans h.c4, (f 5).trans h.c5, (f 6).trans h.c6, (f 7).trans h.c7, (f 8).trans h.c8, (f 9).trans h.c9⟩
/-- What is known in an operation. -/
structure R14 (PS : OwMem) (W w0 wx : World) (D0 S0 D S : Nat → Prop) (h O : Nat) (sp sd : List MSt) (bx : Nat) (kd M : Int) (v1 v2 : Value) (id gn fl K T C : Int) : Prop where
  kn : K14 PS W w0 wx D0 S0 D S h O sp sd
  bo : Op14 wx bx kd M v1 v2 id gn fl K T C
  bD : ¬ D bx
  bS : ¬ S bx
  lt : bx < wx.heap.size
section
variable {PS : OwMem} {W w0 wr wx : World} {D D0 D' S S0 S' : Nat → Prop} {h O : Nat} {sp sp' sd sd' : List MSt} {bx : Nat} {kd M : Int} {v1 v2 : Value} {id gn fl K T C : Int}
theorem R14.stay (hr : R14 PS W w0 wr D0 S0 D S h O sp sd bx kd M v1 v2 id gn fl K T C) (A : Acts14 PS) (hb : Below wr.heap.size wr wx) : R14 PS W w0 wx D0 S0 D S h O sp sd bx kd M v1 v2 id gn fl K T C :=
  ⟨hr.kn.stay A hb, hr.bo.kept (hb.block bx hr.lt), hr.bD, hr.bS, Nat.lt_of_lt_of_le hr.lt hb.size⟩
theorem R14.prog (hr : R14 PS W w0 wr D0 S0 D S h O sp sd bx kd M v1 v2 id gn fl K T C) (ht : Turned D wr wx) (hp : PS wx D' h sp') (hD : ∀ b, D' b → D b ∨ wr.heap.size ≤ b) : R14 PS W w0 wx D0 S0 D' S h O sp' sd bx kd M v1 v2 id gn fl K T C := by
  have hlt := hr.lt
  refine ⟨hr.kn.prog ht hp hD, hr.bo.kept (ht.block bx hr.lt hr.bD), fun hd => ?_, hr.bS, Nat.lt_of_lt_of_le hr.lt ht.size⟩
  rcases hD bx hd with h1 | h1
  · exact hr.bD h1
  · omega
theorem R14.refs (hr : R14 PS W w0 wr D0 S0 D S h O sp sd bx kd M v1 v2 id gn fl K T C) (A : Acts14 PS) (ht : Turned S wr wx) (hp : RD wx S' O sd') (hS : ∀ b, S' b → S b ∨ wr.heap.size ≤ b) : R14 PS W w0 wx D0 S0 D S' h O sp sd' bx kd M v1 v2 id gn fl K T C := by
  have hlt := hr.lt
  refine ⟨hr.kn.refs A ht hp hS, hr.bo.kept (ht.block bx hr.lt hr.bS), hr.bD, fun hd => ?_, Nat.lt_of_lt_of_le hr.lt ht.size⟩
  rcases hS bx hd with h1 | h1
  · exact hr.bS h1
  · omega
end
theorem KeyAt.stay {w w' : World} {B : Nat} {v : Value} {kz : List Int} (hk : KeyAt w v kz) (hB : B = w.heap.size) (hb : Below B w w') : KeyAt w' v kz := by
  subst hB
  cases hk with
  | empty a c => exact .empty a c
  | row g o l c kz hl hr hg =>
    refine .row g o l c kz hl (fun j hj => ?_) (fun h0 => Nat.lt_of_lt_of_le (hg h0) hb.size)
    exact (hb.cell (p := ⟨g, o + j, none⟩) (hg (by omega))).trans (hr j hj)
theorem off_new {w : World} {D : Nat → Prop} {v : Value} {kz : List Int} (hk : KeyAt w v kz) (hD : ∀ b, D b → w.heap.size ≤ b) : Off D v := by
  intro a len c e h0 hd
  have h1 := hD _ hd
  cases hk with
  | empty a' c' => injection e with e1 e2 e3; omega
  | row g o l c' kz hl hr hg =>
    injection e with e1 e2 e3
    injection e1 with e1
    subst e1
    have := hg (by omega)
    simp only at h1
    omega
/-- One map alone has been turned. -/
def Part (M : Int) (st st' : List MSt) : Prop := st'.length = st.length ∧ ∀ j : Nat, (j : Int) ≠ M → st'.getD j .ring = st.getD j .ring
theorem Part.refl (M : Int) (st : List MSt) : Part M st st := ⟨rfl, fun _ _ => rfl⟩
theorem part_set {st : List MSt} {q : Nat} {x : MSt} (hq : q < st.length) : Part (q : Int) st (st.set q x) := ⟨by simp, fun j hj => by rw [getD_setM hq, if_neg (by omega)]⟩
theorem part_op {α : Type} {no : α} {f : MSt → α × MSt} {st : List MSt} {m : Int} : Part m st (opR no f st m).2 := by
  by_cases h : 0 ≤ m ∧ m < st.length
  · obtain ⟨q, rfl⟩ := Int.eq_ofNat_of_zero_le h.1
    rw [opR_in (by omega) rfl]
    exact part_set (by omega)
  · rw [opR_out h]
    exact Part.refl _ _
end Go.Proofs.Ytenjdgoammaiiaa
