/-
  Proved here: the document's maps of one program in memory: what they stay under. No Go text is walked. Conditions: as each lemma says.
-/
import Derived.Test.YtenjdgoammaiiaaGE
import Derived.Test.YtenjdgoammaiiaaGC
namespace Go.Proofs.Ytenjdgoammaiiaa
open Go.RowKit
set_option maxRecDepth 100000

/-- A map, as it is. -/
inductive MSt where
  | arr (s n : Nat) (zs : List Int)
  | hash (key s n : Nat) (ks : List ByteArray) (zs : List Int)
  | loc (kd s n : Nat) (os : List Ob) (zs : List Int)
  | ring
def MSt.kind : MSt → Nat
  | .arr .. => 1
  | .hash .. => 2
  | .loc kd .. => kd
  | .ring => 5
def MSt.key : MSt → Nat
  | .arr .. => 4
  | .hash key .. => key
  | .loc .. => 0
  | .ring => 0
def MSt.val : MSt → Nat
  | .arr s .. => s
  | .hash _ s .. => s
  | .loc _ s .. => s
  | .ring => 0
def MSt.max : MSt → Nat
  | .arr _ n _ => n
  | .hash _ _ n .. => n
  | .loc _ _ n .. => n
  | .ring => 0
def MSt.zs : MSt → List Int
  | .arr _ _ z => z
  | .hash _ _ _ _ z => z
  | .loc _ _ _ _ z => z
  | .ring => []
def MSt.put : MSt → List Int → MSt
  | .arr s n _, z => .arr s n z
  | .hash key s n ks _, z => .hash key s n ks z
  | .loc kd s n os _, z => .loc kd s n os z
  | .ring, _ => .ring
def ptrV (b : Nat) : Value := .pointer (some ⟨b, 0, none⟩)
/-! ### The document's slots -/
/-- The blocks of the document's map by keys. -/
def RefS (H K R B n : Nat) (gs : Nat → Nat) : Nat → Prop := fun b => b = H ∨ b = K ∨ b = R ∨ b = B ∨ ∃ i, i < n ∧ b = gs i
section
variable {W wr wx : World} {D D' S : Nat → Prop} {H K R B cap key s n L : Nat} {gs : Nat → Nat} {ks ks' : List ByteArray} {zs zs' : List Int} {ms ms' : List ByteArray} {ys ys' : List Int}
theorem Hf.ltS (hf : Hf wr H K R B cap key s n L gs ms ys) (hd : Dim s n L) : ∀ b, RefS H K R B n gs b → b < wr.heap.size := by
  rintro b (rfl | rfl | rfl | rfl | ⟨i, hi, rfl⟩)
  · exact cell_block_lt hf.h0
  · exact cell_block_lt (hf.keys 0 hd.n0)
  · exact hf.rf.ltR
  · exact hf.rf.ltB hd.n0
  · exact hf.rf.ltG hd.s0 hi
theorem Hf.keptS (hf : Hf wr H K R B cap key s n L gs ms ys) (he : ∀ b, RefS H K R B n gs b → wx.heap[b]? = wr.heap[b]?) : Hf wx H K R B cap key s n L gs ms ys :=
  hf.kept (he _ (.inl rfl)) (he _ (.inr (.inl rfl))) (he _ (.inr (.inr (.inl rfl)))) (he _ (.inr (.inr (.inr (.inl rfl))))) (fun i hi => he _ (.inr (.inr (.inr (.inr ⟨i, hi, rfl⟩)))))
theorem putS_ref : ∀ b, PutS K n gs b → RefS H K R B n gs b := by
  rintro b (rfl | ⟨i, hi, rfl⟩)
  · exact .inr (.inl rfl)
  · exact .inr (.inr (.inr (.inr ⟨i, hi, rfl⟩)))
end
/-- The document's array in memory, where a slot may have spare room. -/
structure Ra (w : World) (R B cap s n : Nat) (gs cs : Nat → Nat) (zs : List Int) : Prop where
  r0 : w.cell? ⟨R, 0, none⟩ = some (.int .i64 s)
  r1 : w.cell? ⟨R, 1, none⟩ = some (.slice (some ⟨B, 0, none⟩) n cap)
  rows : ∀ k, k < n → w.cell? ⟨B, k, none⟩ = some (.slice (some ⟨gs k, 0, none⟩) s (cs k))
  row : ∀ k j, k < n → j < s → w.cell? ⟨gs k, j, none⟩ = some (.int .u8 (zs.getD (k * s + j) 0))
  free : ∀ k j, k < n → w.frozen? ⟨gs k, j, none⟩ = false
  fB : ∀ j, w.frozen? ⟨B, j, none⟩ = false
  len : zs.length = s * n
  inj : ∀ i j, i < n → j < n → gs i = gs j → i = j
  neR : ∀ k, k < n → gs k ≠ R
  neB : ∀ k, k < n → gs k ≠ B
  RB : R ≠ B
def RaS (R B n : Nat) (gs : Nat → Nat) : Nat → Prop := fun b => b = R ∨ b = B ∨ ∃ i, i < n ∧ b = gs i
section
variable {w w' : World} {R B cap s n : Nat} {gs cs : Nat → Nat} {zs : List Int}
theorem Ra.lt (h : Ra w R B cap s n gs cs zs) (hd : Dim s n (s * n)) : ∀ b, RaS R B n gs b → b < w.heap.size := by
  rintro b (rfl | rfl | ⟨i, hi, rfl⟩)
  · exact cell_block_lt h.r0
  · exact cell_block_lt (h.rows 0 hd.n0)
  · exact cell_block_lt (h.row i 0 hi hd.s0)
theorem Ra.kept (h : Ra w R B cap s n gs cs zs) (e : ∀ b, RaS R B n gs b → w'.heap[b]? = w.heap[b]?) : Ra w' R B cap s n gs cs zs := by
  have eR := e R (.inl rfl)
  have eB := e B (.inr (.inl rfl))
  have eg : ∀ k, k < n → w'.heap[gs k]? = w.heap[gs k]? := fun k hk => e _ (.inr (.inr ⟨k, hk, rfl⟩))
  exact ⟨(World.cell?_of_block (w := w) eR).trans h.r0, (World.cell?_of_block (w := w) eR).trans h.r1, fun k hk => (World.cell?_of_block (w := w) eB).trans (h.rows k hk), fun k j hk hj => (World.cell?_of_block (w := w) (eg k hk)).trans (h.row k j hk hj),
    fun k j hk => (World.frozen?_of_block (w := w) (eg k hk)).trans (h.free k j hk), fun j => (World.frozen?_of_block (w := w) (a := ⟨B, j, none⟩) eB).trans (h.fB j), h.len, h.inj, h.neR, h.neB, h.RB⟩
end
/-- Slots to be looked at. -/
structure SlV (w : World) (B cap s n : Nat) (gs cs : Nat → Nat) (zs : List Int) : Prop where
  rows : ∀ k, k < n → w.cell? ⟨B, k, none⟩ = some (.slice (some ⟨gs k, 0, none⟩) s (cs k))
  row : ∀ k j, k < n → j < s → w.cell? ⟨gs k, j, none⟩ = some (.int .u8 (zs.getD (k * s + j) 0))
  free : ∀ k j, k < n → w.frozen? ⟨gs k, j, none⟩ = false
  len : zs.length = s * n
theorem Ra.view {w : World} {R B cap s n : Nat} {gs cs : Nat → Nat} {zs : List Int} (h : Ra w R B cap s n gs cs zs) : SlV w B cap s n gs cs zs := ⟨h.rows, h.row, h.free, h.len⟩
theorem Rf.view {w : World} {R B cap s n : Nat} {gs : Nat → Nat} {zs : List Int} (h : Rf w R B cap s n (s * n) gs zs) : SlV w B cap s n gs (fun _ => s) zs := ⟨h.rows, h.row, h.free, h.len⟩
/-- The document's map in memory, its blocks S. -/
inductive DM (w : World) : (Nat → Prop) → Value → Value → Value → MSt → Prop
  | arr {S : Nat → Prop} {R B cap s n : Nat} {gs cs : Nat → Nat} {zs : List Int} (hd : Dim s n (s * n)) (h : Ra w R B cap s n gs cs zs) (hS : ∀ b, S b ↔ RaS R B n gs b) : DM w S (ptrV R) (.pointer none) (.pointer none) (.arr s n zs)
  | hash {S : Nat → Prop} {H K R B cap key s n : Nat} {gs : Nat → Nat} {ks : List ByteArray} {zs : List Int} (hd : Dim s n (s * n)) (hk : 1 ≤ key) (hk8 : key ≤ 8) (h : Hf w H K R B cap key s n (s * n) gs ks zs) (hS : ∀ b, S b ↔ RefS H K R B n gs b) : DM w S (.pointer none) (ptrV H) (.pointer none) (.hash key s n ks zs)
  | loc {S : Nat → Prop} {H R B cap kd s n : Nat} {kv : Value} {gs : Nat → Nat} {os : List Ob} {zs : List Int} (hd : Dim s n (s * n)) (hk : kd = 3 ∨ kd = 4) (h : Lf w H R B cap s n (s * n) kv gs os zs) (hS : ∀ b, S b ↔ LoS H R B n kv gs b) : DM w S (.pointer none) (.pointer none) (ptrV H) (.loc kd s n os zs)
  | ring {S : Nat → Prop} (hS : ∀ b, ¬ S b) : DM w S (.pointer none) (.pointer none) (.pointer none) .ring
section
variable {w w' : World} {S : Nat → Prop} {av hv lv : Value} {x : MSt}
theorem DM.lt (h : DM w S av hv lv x) : ∀ b, S b → b < w.heap.size := by
  intro b hb
  cases h with
  | arr hd h hS => exact h.lt hd b ((hS b).1 hb)
  | hash hd hk hk8 h hS => exact h.ltS hd b ((hS b).1 hb)
  | loc hd hk h hS => exact h.lt hd b ((hS b).1 hb)
  | ring hS => exact absurd hb (hS b)
theorem DM.kept (h : DM w S av hv lv x) (e : ∀ b, S b → w'.heap[b]? = w.heap[b]?) : DM w' S av hv lv x := by
  cases h with
  | arr hd h hS => exact .arr hd (h.kept fun b hb => e b ((hS b).2 hb)) hS
  | hash hd hk hk8 h hS => exact .hash hd hk hk8 (h.keptS fun b hb => e b ((hS b).2 hb)) hS
  | loc hd hk h hS => exact .loc hd hk (h.kept fun b hb => e b ((hS b).2 hb)) hS
  | ring hS => exact .ring hS
end
/-! ### All maps -/
/-- The document's maps in memory. -/
structure Ow (w : World) (O : Nat) (a : Option Addr) (c : Nat) (pv : Nat → Value × Value × Value) (Ss : Nat → Nat → Prop) (st : List MSt) : Prop where
  c0 : w.cell? ⟨O, 0, none⟩ = some (.slice a st.length c)
  row : ∀ m, m < st.length → ∃ g, a = some ⟨g, 0, none⟩ ∧ w.cell? ⟨g, m * 7, none⟩ = some (.int .i64 (st.getD m .ring).kind) ∧ w.cell? ⟨g, m * 7 + 1, none⟩ = some (.int .i64 (st.getD m .ring).key) ∧ w.cell? ⟨g, m * 7 + 2, none⟩ = some (.int .i64 (st.getD m .ring).val) ∧ w.cell? ⟨g, m * 7 + 3, none⟩ = some (.int .i64 (st.getD m .ring).max)
    ∧ w.cell? ⟨g, m * 7 + 4, none⟩ = some (pv m).1 ∧ w.cell? ⟨g, m * 7 + 5, none⟩ = some (pv m).2.1 ∧ w.cell? ⟨g, m * 7 + 6, none⟩ = some (pv m).2.2
  dm : ∀ m, m < st.length → DM w (Ss m) (pv m).1 (pv m).2.1 (pv m).2.2 (st.getD m .ring)
  OS : ∀ m, m < st.length → ¬ Ss m O
  gS : ∀ m g, m < st.length → a = some ⟨g, 0, none⟩ → ¬ Ss m g
  dis : ∀ i j b, i < st.length → j < st.length → i ≠ j → Ss i b → ¬ Ss j b
def OwS (O : Nat) (a : Option Addr) (Ss : Nat → Nat → Prop) (len : Nat) : Nat → Prop := fun b => b = O ∨ (0 < len ∧ a = some ⟨b, 0, none⟩) ∨ ∃ m, m < len ∧ Ss m b
/-- The document's maps, their blocks S. -/
def RD (w : World) (S : Nat → Prop) (O : Nat) (st : List MSt) : Prop := ∃ a c pv Ss, Ow w O a c pv Ss st ∧ ∀ b, S b ↔ OwS O a Ss st.length b
section
variable {w w' : World} {O : Nat} {a : Option Addr} {c : Nat} {pv : Nat → Value × Value × Value} {Ss : Nat → Nat → Prop} {st : List MSt} {S : Nat → Prop}
theorem Ow.lt (h : Ow w O a c pv Ss st) : ∀ b, OwS O a Ss st.length b → b < w.heap.size := by
  rintro b (rfl | ⟨h0, rfl⟩ | ⟨m, hm, hb⟩)
  · exact cell_block_lt h.c0
  · obtain ⟨g, e, hc, -⟩ := h.row 0 h0
    injection e with e
    injection e with e _ _
    subst e
    exact cell_block_lt hc
  · exact (h.dm m hm).lt b hb
theorem Ow.kept (h : Ow w O a c pv Ss st) (e : ∀ b, OwS O a Ss st.length b → w'.heap[b]? = w.heap[b]?) : Ow w' O a c pv Ss st := by
  have eO := e O (.inl rfl)
  refine ⟨(World.cell?_of_block (w := w) eO).trans h.c0, fun m hm => ?_, fun m hm => (h.dm m hm).kept fun b hb => e b (.inr (.inr ⟨m, hm, hb⟩)), h.OS, h.gS, h.dis⟩
  obtain ⟨g, rfl, c0, c1, c2, c3, c4, c5, c6⟩ := h.row m hm
  have eg := e g (.inr (.inl ⟨by omega, rfl⟩))
  have f : ∀ j, w'.cell? ⟨g, j, none⟩ = w.cell? ⟨g, j, none⟩ := fun j => World.cell?_of_block (w := w) (a := ⟨g, j, none⟩) eg
  exact ⟨g, rfl, (f _).trans c0, (f _).trans c1, (f _).trans c2, (f _).trans c3, (f _).trans c4, (f _).trans c5, (f _).trans c6⟩
theorem Ow.stay (h : Ow w O a c pv Ss st) (hb : Below w.heap.size w w') : Ow w' O a c pv Ss st := h.kept fun b hS => hb.block b (h.lt b hS)
theorem getD_setM {st : List MSt} {i j : Nat} {x : MSt} (hi : i < st.length) : (st.set i x).getD j .ring = if i = j then x else st.getD j .ring := by
  rw [List.getD_eq_getElem?_getD, List.getD_eq_getElem?_getD, List.getElem?_set]
  by_cases e : i = j
  · subst e; simp [hi]
  · simp [e]
/-- What is made of one map turns no other one. -/
theorem Ow.turn (h : Ow w O a c pv Ss st) {q : Nat} (hq : q < st.length) {S2 : Nat → Prop} {x : MSt} (hx : DM w' S2 (pv q).1 (pv q).2.1 (pv q).2.2 x) (hk : x.kind = (st.getD q .ring).kind) (hy : x.key = (st.getD q .ring).key) (hv : x.val = (st.getD q .ring).val) (hm : x.max = (st.getD q .ring).max)
    (ht : Turned (Ss q) w w') (hS : ∀ b, S2 b → Ss q b ∨ w.heap.size ≤ b) : Ow w' O a c pv (fun m => if m = q then S2 else Ss m) (st.set q x) := by
  have hlt := h.lt
  have hold : ∀ m b, m < st.length → m ≠ q → Ss m b → w'.heap[b]? = w.heap[b]? := fun m b hm2 hne hb => ht.block b (hlt b (.inr (.inr ⟨m, hm2, hb⟩))) (h.dis m q b hm2 hq hne hb)
  have eO := ht.block O (hlt O (.inl rfl)) (h.OS q hq)
  refine ⟨by rw [List.length_set]; exact (World.cell?_of_block (w := w) eO).trans h.c0, fun m hm2 => ?_, fun m hm2 => ?_, fun m hm2 => ?_, fun m g hm2 e => ?_, fun i j b hi hj hne hb => ?_⟩
  · rw [List.length_set] at hm2
    obtain ⟨g, rfl, c0, c1, c2, c3, c4, c5, c6⟩ := h.row m hm2
    have eg := ht.block g (hlt g (.inr (.inl ⟨by omega, rfl⟩))) (h.gS q g hq rfl)
    have f : ∀ j, w'.cell? ⟨g, j, none⟩ = w.cell? ⟨g, j, none⟩ := fun j => World.cell?_of_block (w := w) (a := ⟨g, j, none⟩) eg
    have e4 : ∀ F : MSt → Nat, F x = F (st.getD q .ring) → F ((st.set q x).getD m .ring) = F (st.getD m .ring) := fun F hF => by
      rw [getD_setM hq]
      by_cases e : q = m
      · rw [if_pos e, hF, e]
      · rw [if_neg e]
    rw [e4 MSt.kind hk, e4 MSt.key hy, e4 MSt.val hv, e4 MSt.max hm]
    exact ⟨g, rfl, (f _).trans c0, (f _).trans c1, (f _).trans c2, (f _).trans c3, (f _).trans c4, (f _).trans c5, (f _).trans c6⟩
  · rw [List.length_set] at hm2
    rw [getD_setM hq]
    by_cases e : m = q
    · subst e
      simp only [if_true]
      exact hx
    · simp only [if_neg e, if_neg (fun e2 : q = m => e e2.symm)]
      exact (h.dm m hm2).kept fun b hb => hold m b hm2 e hb
  · rw [List.length_set] at hm2
    by_cases e : m = q
    · simp only [if_pos e]
      intro hb
      rcases hS O hb with h1 | h1
      · exact h.OS q hq h1
      · have := hlt O (.inl rfl); omega
    · simp only [if_neg e]
      exact h.OS m hm2
  · rw [List.length_set] at hm2
    by_cases e2 : m = q
    · simp only [if_pos e2]
      intro hb
      rcases hS g hb with h1 | h1
      · exact h.gS q g hq e h1
      · have := hlt g (.inr (.inl ⟨by omega, e⟩)); omega
    · simp only [if_neg e2]
      exact h.gS m g hm2 e
  · rw [List.length_set] at hi hj
    by_cases e1 : i = q
    · by_cases e2 : j = q
      · omega
      · simp only [if_pos e1] at hb
        simp only [if_neg e2]
        rcases hS b hb with h1 | h1
        · exact h.dis q j b hq hj (by omega) h1
        · intro h2
          have := hlt b (.inr (.inr ⟨j, hj, h2⟩))
          omega
    · simp only [if_neg e1] at hb
      by_cases e2 : j = q
      · simp only [if_pos e2]
        intro h2
        rcases hS b h2 with h3 | h3
        · exact h.dis i q b hi hq e1 hb h3
        · have := hlt b (.inr (.inr ⟨i, hi, hb⟩))
          omega
      · simp only [if_neg e2]
        exact h.dis i j b hi hj hne hb
/-- What an operation on one map makes of all. -/
def DocQ (S : Nat → Prop) (O : Nat) (v : Value) (st : List MSt) (W : World) (e : Ending) (w : World) : Prop := ∃ S', e = .returned v ∧ RD w S' O st ∧ Turned S W w ∧ ∀ b, S' b → S b ∨ W.heap.size ≤ b
theorem Ow.docq (h : Ow w O a c pv Ss st) (hS : ∀ b, S b ↔ OwS O a Ss st.length b) {q : Nat} (hq : q < st.length) {S2 : Nat → Prop} {x : MSt} {v : Value} {e : Ending} (hx : DM w' S2 (pv q).1 (pv q).2.1 (pv q).2.2 x) (hk : x.kind = (st.getD q .ring).kind) (hy : x.key = (st.getD q .ring).key) (hv : x.val = (st.getD q .ring).val) (hm : x.max = (st.getD q .ring).max)
    (he : e = .returned v) (ht : Turned (Ss q) w w') (hS2 : ∀ b, S2 b → Ss q b ∨ w.heap.size ≤ b) : DocQ S O v (st.set q x) w e w' := by
  refine ⟨_, he, ⟨a, c, pv, _, h.turn hq hx hk hy hv hm ht hS2, fun b => Iff.rfl⟩, ht.more fun b hb => (hS b).2 (.inr (.inr ⟨q, hq, hb⟩)), ?_⟩
  rw [List.length_set]
  rintro b (h1 | h1 | ⟨m, hm2, h1⟩)
  · exact .inl ((hS b).2 (.inl h1))
  · exact .inl ((hS b).2 (.inr (.inl h1)))
  · by_cases e1 : m = q
    · simp only [if_pos e1] at h1
      rcases hS2 b h1 with h2 | h2
      · exact .inl ((hS b).2 (.inr (.inr ⟨q, hq, h2⟩)))
      · exact .inr h2
    · simp only [if_neg e1] at h1
      exact .inl ((hS b).2 (.inr (.inr ⟨m, hm2, h1⟩)))
theorem RD.same (h : RD w S O st) (hb : Below w.heap.size w w') {e : Ending} {v : Value} (he : e = .returned v) : DocQ S O v st w e w' := by
  obtain ⟨a, c, pv, Ss, h, hS⟩ := h
  exact ⟨S, he, ⟨a, c, pv, Ss, h.stay hb, hS⟩, Turned.of hb, fun _ hb => .inl hb⟩
end
end Go.Proofs.Ytenjdgoammaiiaa
