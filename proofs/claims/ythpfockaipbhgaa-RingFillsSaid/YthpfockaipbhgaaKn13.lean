/-
  Proved here: what a round of the law of rings knows, and what it stays under; how much is used. Conditions: the contracts.
-/
import Derived.Test.YthpfockaipbhgaaActs13
import Derived.Test.YthpfockaipbhgaaOps13
namespace Go.Proofs.Ythpfockaipbhgaa
open Go.RowKit

/-! ### Used -/
theorem usedT_same {rs ms : List Rc} : ∀ k, (∀ i, i < k → usedN (rget ms i) = usedN (rget rs i)) → usedT ms k = usedT rs k
  | 0, _ => rfl
  | k + 1, h => by
    show usedT ms k + usedN (rget ms k) = usedT rs k + usedN (rget rs k)
    rw [usedT_same k (fun i hi => h i (by omega)), h k (by omega)]
theorem usedT_less {rs ms : List Rc} : ∀ k, (∀ i, i < k → usedN (rget ms i) ≤ usedN (rget rs i)) → usedT ms k ≤ usedT rs k
  | 0, _ => Nat.le_refl _
  | k + 1, h => by
    have h1 := usedT_less k (fun i hi => h i (by omega))
    have h2 := h k (by omega)
    show usedT ms k + usedN (rget ms k) ≤ usedT rs k + usedN (rget rs k)
    omega
theorem used_set {rs : List Rc} {i : Nat} {r : Rc} (hi : i < rs.length) (h : usedN r = usedN (rget rs i)) : usedR (rs.set i r) = usedR rs := by
  unfold usedR
  rw [List.length_set]
  refine usedT_same _ fun j _ => ?_
  rw [rget_set hi]
  by_cases e : i = j
  · subst e; rw [if_pos rfl]; exact h
  · rw [if_neg e]
theorem used_end {rs : List Rc} {id s : Int} : usedR (endR rs id s) = usedR rs := by
  unfold endR
  split
  · rename_i h
    obtain ⟨i, rfl, hi⟩ := hasR_in h
    exact used_set hi rfl
  · rfl
theorem used_setB {rs : List Rc} {i : Nat} {zs : List Int} (hi : i < rs.length) (hz : zs.length = (rget rs i).b.length) : usedR (rs.set i { rget rs i with b := zs }) = usedR rs := used_set hi (by unfold usedN; simp only; rw [hz])
theorem used_gone (rs : List Rc) : ∀ k, k ≤ rs.length → usedR (goneT rs k) ≤ usedR rs
  | 0, _ => Nat.le_refl _
  | k + 1, hk => by
    have h1 := used_gone rs k (by omega)
    refine Nat.le_trans ?_ h1
    show usedR (setGone (goneT rs k) k) ≤ usedR (goneT rs k)
    unfold usedR setGone
    rw [List.length_set]
    refine usedT_less _ fun j _ => ?_
    rw [rget_set (by rw [goneT_len]; omega)]
    by_cases e : k = j
    · subst e; rw [if_pos rfl]; simp [usedN]
    · rw [if_neg e]; exact Nat.le_refl _
theorem stopT_le (rs : List Rc) : ∀ f k, stopT rs f k ≤ k + f
  | 0, k => by simp [stopT]
  | f + 1, k => by
    unfold stopT
    split
    · omega
    · have := stopT_le rs f (k + 1); omega
theorem drainK_le (rs : List Rc) : drainK rs ≤ rs.length := by have := stopT_le rs rs.length 0; unfold drainK; omega
theorem audT_len (rs : List Rc) : ∀ k, (audT rs k).length ≤ k
  | 0 => Nat.le_refl _
  | k + 1 => by
    have := audT_len rs k
    show (audT rs k ++ _).length ≤ _
    rw [List.length_append]
    split <;> simp <;> omega
theorem drain_len (rs : List Rc) : (drainR rs).1.length ≤ rs.length := Nat.le_trans (audT_len rs _) (drainK_le rs)
theorem used_drain (rs : List Rc) : usedR (drainR rs).2 ≤ usedR rs := used_gone rs _ (drainK_le rs)
theorem used_push {rs : List Rc} {r : Rc} : usedR (rs ++ [r]) = usedR rs + usedN r := by
  unfold usedR
  rw [List.length_append]
  show usedT (rs ++ [r]) rs.length + usedN (rget (rs ++ [r]) rs.length) = _
  rw [rget_new, usedT_same (rs := rs) (ms := rs ++ [r]) rs.length (fun i hi => by rw [rget_old hi])]
theorem used_res {rs : List Rc} {room o n : Int} (h : (usedR rs : Int) ≤ room) : (usedR (resR rs room o n).2.2 : Int) ≤ room := by
  unfold resR
  split
  · exact h
  · split
    · exact h
    · rename_i h1 h2
      rw [Classical.not_not] at h1
      show ((usedR (rs ++ [newR o n.toNat]) : Nat) : Int) ≤ room
      rw [used_push]
      have : usedN (newR o n.toNat) = 8 + n.toNat := by simp [usedN, newR, zeros_length]
      omega
theorem res_len {rs : List Rc} {room o n : Int} : (resR rs room o n).2.2.length ≤ rs.length + 1 := by
  unfold resR
  split
  · simp
  · split <;> simp
theorem res_drops {rs : List Rc} {room o n : Int} : 0 ≤ (resR rs room o n).2.1 ∧ (resR rs room o n).2.1 ≤ 1 := by
  unfold resR
  split
  · simp
  · split <;> simp
theorem end_len {rs : List Rc} {id s : Int} : (endR rs id s).length = rs.length := by
  unfold endR
  split
  · exact List.length_set
  · rfl
/-! ### What is known -/
theorem DR.lt {w : World} {S : Nat → Prop} {H : Nat} {room drops : Int} {rs : List Rc} (h : DR w S H room drops rs) : ∀ b, S b → b < w.heap.size := by
  obtain ⟨kv, gs, h, hS⟩ := h
  exact fun b hb => h.lt b ((hS b).1 hb)
theorem DR.kept {w w' : World} {S : Nat → Prop} {H : Nat} {room drops : Int} {rs : List Rc} (h : DR w S H room drops rs) (e : ∀ b, S b → w'.heap[b]? = w.heap[b]?) : DR w' S H room drops rs := by
  obtain ⟨kv, gs, h, hS⟩ := h
  exact ⟨kv, gs, h.kept (fun b hb => e b ((hS b).2 hb)), hS⟩
/-- Both rings. -/
structure Kn (PS : RgMem) (W wr : World) (D S : Nat → Prop) (h H : Nat) (room d1 d2 : Int) (rs ms : List Rc) : Prop where
  p : PS wr D h room d1 rs
  r : DR wr S H room d2 ms
  b : Below W.heap.size W wr
  dW : ∀ b, D b → W.heap.size ≤ b
  dR : ∀ b, D b → ¬ S b
  rW : ∀ b, S b → W.heap.size ≤ b
/-- The copy, if there is one. -/
def CopyK (PS : RgMem) (wr : World) (D S : Nat → Prop) (c x : Value) : Prop :=
  c = .pointer none ∨ ∃ h2 D2 room2 dr2 rs2, c = .pointer (some ⟨h2, 0, none⟩) ∧ x = .string (strOfNums (bytesR rs2)) ∧ PS wr D2 h2 room2 dr2 rs2 ∧ (∀ b, D2 b → ¬ D b) ∧ ∀ b, D2 b → ¬ S b
section
variable {PS : RgMem} {W wr wx : World} {D D' S S' : Nat → Prop} {h H : Nat} {room d1 d2 d1' d2' : Int} {rs rs' ms ms' : List Rc} {c x : Value}
theorem Kn.stay (hk : Kn PS W wr D S h H room d1 d2 rs ms) (A : Acts13 PS) (hb : Below wr.heap.size wr wx) : Kn PS W wx D S h H room d1 d2 rs ms :=
  ⟨A.stay hk.p hb, hk.r.kept (fun b hS => hb.block b (hk.r.lt b hS)), hk.b.trans (hb.mono hk.b.size), hk.dW, hk.dR, hk.rW⟩
theorem Kn.prog (hk : Kn PS W wr D S h H room d1 d2 rs ms) (ht : Turned D wr wx) (hp : PS wx D' h room d1' rs') (hD : ∀ b, D' b → D b ∨ wr.heap.size ≤ b) : Kn PS W wx D' S h H room d1' d2 rs' ms := by
  have hl := hk.r.lt
  refine ⟨hp, hk.r.kept (fun b hb => ht.block b (hl b hb) (fun hd => hk.dR b hd hb)), ht.below hk.b hk.dW, fun b hb => ?_, fun b hb hs => ?_, hk.rW⟩
  · rcases hD b hb with h1 | h1
    · exact hk.dW b h1
    · exact Nat.le_trans hk.b.size h1
  · rcases hD b hb with h1 | h1
    · exact hk.dR b h1 hs
    · have := hl b hs; omega
theorem Kn.refs (hk : Kn PS W wr D S h H room d1 d2 rs ms) (A : Acts13 PS) (ht : Turned S wr wx) (hr : DR wx S' H room d2' ms') (hS : ∀ b, S' b → S b ∨ wr.heap.size ≤ b) : Kn PS W wx D S' h H room d1 d2' rs ms' := by
  refine ⟨A.kept hk.p (fun b hb => ht.block b (A.lt hk.p b hb) (fun hs => hk.dR b hb hs)), hr, ht.below hk.b hk.rW, hk.dW, fun b hb hs => ?_, fun b hb => ?_⟩
  · rcases hS b hs with h1 | h1
    · exact hk.dR b hb h1
    · have := A.lt hk.p b hb; omega
  · rcases hS b hb with h1 | h1
    · exact hk.rW b h1
    · exact Nat.le_trans hk.b.size h1
theorem CopyK.stay (hc : CopyK PS wr D S c x) (A : Acts13 PS) (hb : Below wr.heap.size wr wx) : CopyK PS wx D S c x := by
  rcases hc with h1 | ⟨h2, D2, room2, dr2, rs2, e1, e2, hp, h3, h4⟩
  · exact .inl h1
  · exact .inr ⟨h2, D2, room2, dr2, rs2, e1, e2, A.stay hp hb, h3, h4⟩
theorem CopyK.prog (hc : CopyK PS wr D S c x) (A : Acts13 PS) (ht : Turned D wr wx) (hD : ∀ b, D' b → D b ∨ wr.heap.size ≤ b) : CopyK PS wx D' S c x := by
  rcases hc with h1 | ⟨h2, D2, room2, dr2, rs2, e1, e2, hp, h3, h4⟩
  · exact .inl h1
  · refine .inr ⟨h2, D2, room2, dr2, rs2, e1, e2, A.kept hp (fun b hb => ht.block b (A.lt hp b hb) (h3 b hb)), fun b hb hd => ?_, h4⟩
    rcases hD b hd with h5 | h5
    · exact h3 b hb h5
    · have := A.lt hp b hb; omega
theorem CopyK.refs (hc : CopyK PS wr D S c x) (A : Acts13 PS) (ht : Turned S wr wx) (hS : ∀ b, S' b → S b ∨ wr.heap.size ≤ b) : CopyK PS wx D S' c x := by
  rcases hc with h1 | ⟨h2, D2, room2, dr2, rs2, e1, e2, hp, h3, h4⟩
  · exact .inl h1
  · refine .inr ⟨h2, D2, room2, dr2, rs2, e1, e2, A.kept hp (fun b hb => ht.block b (A.lt hp b hb) (h4 b hb)), h3, fun b hb hd => ?_⟩
    rcases hS b hd with h5 | h5
    · exact h4 b hb h5
    · have := A.lt hp b hb; omega
end
/-- The operation's own box. -/
structure OpBox (w : World) (bx : Nat) (kd ow n id C : Int) : Prop where
  c0 : w.cell? ⟨bx, 0, none⟩ = some (.int .u8 kd)
  c1 : w.cell? ⟨bx, 1, none⟩ = some (.int .i64 ow)
  c2 : w.cell? ⟨bx, 2, none⟩ = some (.int .i64 n)
  c3 : w.cell? ⟨bx, 3, none⟩ = some (.int .i64 id)
  c4 : w.cell? ⟨bx, 4, none⟩ = some (.int .u8 C)
theorem OpBox.kept {w w' : World} {bx : Nat} {kd ow n id C : Int} (h : OpBox w bx kd ow n id C) (e : w'.heap[bx]? = w.heap[bx]?) : OpBox w' bx kd ow n id C :=
  ⟨(World.cell?_of_block (w := w) e).trans h.c0, (World.cell?_of_block (w := w) e).trans h.c1, (World.cell?_of_block (w := w) e).trans h.c2, (World.cell?_of_block (w := w) e).trans h.c3, (World.cell?_of_block (w := w) e).trans h.c4⟩
/-- All that is known in a round. -/
structure Rd (PS : RgMem) (W wr : World) (D S : Nat → Prop) (h H : Nat) (room d1 d2 : Int) (rs ms : List Rc) (bx : Nat) (kd ow n id C : Int) (c z : Value) : Prop where
  kn : Kn PS W wr D S h H room d1 d2 rs ms
  ck : CopyK PS wr D S c z
  bo : OpBox wr bx kd ow n id C
  bD : ¬ D bx
  bR : ¬ S bx
  lt : bx < wr.heap.size
section
variable {PS : RgMem} {W wr wx : World} {D D' S S' : Nat → Prop} {h H bx : Nat} {room d1 d2 d1' d2' : Int} {rs rs' ms ms' : List Rc} {kd ow n id C : Int} {c z : Value}
theorem Rd.stay (hr : Rd PS W wr D S h H room d1 d2 rs ms bx kd ow n id C c z) (A : Acts13 PS) (hb : Below wr.heap.size wr wx) : Rd PS W wx D S h H room d1 d2 rs ms bx kd ow n id C c z :=
  ⟨hr.kn.stay A hb, hr.ck.stay A hb, hr.bo.kept (hb.block _ hr.lt), hr.bD, hr.bR, Nat.lt_of_lt_of_le hr.lt hb.size⟩
theorem Rd.prog (hr : Rd PS W wr D S h H room d1 d2 rs ms bx kd ow n id C c z) (A : Acts13 PS) (ht : Turned D wr wx) (hp : PS wx D' h room d1' rs') (hD : ∀ b, D' b → D b ∨ wr.heap.size ≤ b) : Rd PS W wx D' S h H room d1' d2 rs' ms bx kd ow n id C c z :=
  ⟨hr.kn.prog ht hp hD, hr.ck.prog A ht hD, hr.bo.kept (ht.block _ hr.lt hr.bD), fun hb => by
    rcases hD _ hb with h1 | h1
    · exact hr.bD h1
    · have := hr.lt; omega, hr.bR, Nat.lt_of_lt_of_le hr.lt ht.size⟩
theorem Rd.refs (hr : Rd PS W wr D S h H room d1 d2 rs ms bx kd ow n id C c z) (A : Acts13 PS) (ht : Turned S wr wx) (hp : DR wx S' H room d2' ms') (hS : ∀ b, S' b → S b ∨ wr.heap.size ≤ b) : Rd PS W wx D S' h H room d1 d2' rs ms' bx kd ow n id C c z :=
  ⟨hr.kn.refs A ht hp hS, hr.ck.refs A ht hS, hr.bo.kept (ht.block _ hr.lt hr.bR), hr.bD, fun hb => by
    rcases hS _ hb with h1 | h1
    · exact hr.bR h1
    · have := hr.lt; omega, Nat.lt_of_lt_of_le hr.lt ht.size⟩
end
/-- What is known of the numbers. -/
structure Pu (rs : List Rc) (room dr : Int) (k : Nat) : Prop where
  used : (usedR rs : Int) ≤ room
  len : rs.length ≤ k
  d0 : 0 ≤ dr
  d1 : dr ≤ k
theorem Pu.more {rs : List Rc} {room dr : Int} {k : Nat} (h : Pu rs room dr k) : Pu rs room dr (k + 1) := ⟨h.used, by have := h.len; omega, h.d0, by have := h.d1; omega⟩
theorem Pu.end_ {rs : List Rc} {room dr id s : Int} {k : Nat} (h : Pu rs room dr k) : Pu (endR rs id s) room dr (k + 1) := ⟨by rw [used_end]; exact h.used, by rw [end_len]; have := h.len; omega, h.d0, by have := h.d1; omega⟩
theorem Pu.drain {rs : List Rc} {room dr : Int} {k : Nat} (h : Pu rs room dr k) : Pu (drainR rs).2 room dr (k + 1) :=
  ⟨by have := used_drain rs; have := h.used; omega, by show (goneT rs (drainK rs)).length ≤ _; rw [goneT_len]; have := h.len; omega, h.d0, by have := h.d1; omega⟩
theorem Pu.res {rs : List Rc} {room dr o n : Int} {k : Nat} (h : Pu rs room dr k) : Pu (resR rs room o n).2.2 room (dr + (resR rs room o n).2.1) (k + 1) := by
  have h1 := res_len (rs := rs) (room := room) (o := o) (n := n)
  have h2 := res_drops (rs := rs) (room := room) (o := o) (n := n)
  have h3 := h.len
  have h4 := h.d0
  have h5 := h.d1
  exact ⟨used_res h.used, by omega, by omega, by omega⟩
theorem Pu.put {rs : List Rc} {room dr : Int} {i k : Nat} {zs : List Int} (h : Pu rs room dr k) (hi : i < rs.length) (hz : zs.length = (rget rs i).b.length) : Pu (rs.set i { rget rs i with b := zs }) room dr (k + 1) :=
  ⟨by rw [used_setB hi hz]; exact h.used, by rw [List.length_set]; have := h.len; omega, h.d0, by have := h.d1; omega⟩
def LawPost (W : World) (e : Ending) (w : World) : Prop := e = .returned (.bool true) ∧ Below W.heap.size W w
end Go.Proofs.Ythpfockaipbhgaa
