/-
  Proved here: what Get of the document's storages does. Conditions: as each says.
-/
import Derived.Test.YtijhoiheieighaaLo
import Derived.LoopTactic
import Derived.RegionTactic
import Derived.BigRegion
namespace Go.Proofs.Ytijhoiheieighaa
open Go.RowKit

/-- All blocks stay but those that are told. -/
structure Turned (S : Nat → Prop) (W w : World) : Prop where
  os : w.os = W.os
  tape : w.tape = W.tape
  output : w.output = W.output
  size : W.heap.size ≤ w.heap.size
  block : ∀ k, k < W.heap.size → ¬ S k → w.heap[k]? = W.heap[k]?
theorem Turned.of {S : Nat → Prop} {W w : World} (h : Below W.heap.size W w) : Turned S W w := ⟨h.os, h.tape, h.output, h.size, fun k hk _ => h.block k hk⟩
theorem Turned.refl (S : Nat → Prop) (W : World) : Turned S W W := ⟨rfl, rfl, rfl, Nat.le_refl _, fun _ _ _ => rfl⟩
theorem Turned.trans {S : Nat → Prop} {a b c : World} (h : Turned S a b) (k : Turned S b c) : Turned S a c :=
  ⟨k.os.trans h.os, k.tape.trans h.tape, k.output.trans h.output, Nat.le_trans h.size k.size, fun i hi hn => (k.block i (Nat.lt_of_lt_of_le hi h.size) hn).trans (h.block i hi hn)⟩
theorem Turned.set {S : Nat → Prop} {W w : World} (h : Turned S W w) {a : Addr} (ha : S a.block ∨ W.heap.size ≤ a.block) (v : Value) : Turned S W (w.setCell a v) :=
  ⟨h.os, h.tape, h.output, by simp [World.setCell]; exact h.size, fun k hk hn => by
    rw [Below.heap_setCell _ _ _ _ (fun e => by
      rcases ha with ha | ha
      · exact hn (by rw [e]; exact ha)
      · omega)]
    exact h.block k hk hn⟩
theorem Turned.drew {S : Nat → Prop} {W w : World} (h : Turned S W w) : Turned S W w.drew := ⟨h.os, h.tape, h.output, h.size, h.block⟩
theorem Turned.more {S T : Nat → Prop} {W w : World} (h : Turned S W w) (hST : ∀ k, S k → T k) : Turned T W w := ⟨h.os, h.tape, h.output, h.size, fun k hk hn => h.block k hk (fun hs => hn (hST k hs))⟩
theorem Turned.below {S : Nat → Prop} {W wr wx : World} (h : Turned S wr wx) (hb : Below W.heap.size W wr) (hS : ∀ b, S b → W.heap.size ≤ b) : Below W.heap.size W wx :=
  ⟨h.os.trans hb.os, h.tape.trans hb.tape, h.output.trans hb.output, Nat.le_trans hb.size h.size, fun k hk => (h.block k (Nat.lt_of_lt_of_le hk hb.size) (fun hs => by have := hS k hs; omega)).trans (hb.block k hk)⟩
/-- The document's blocks. -/
def LoS (H R B n : Nat) (kv : Value) (gs : Nat → Nat) : Nat → Prop := fun b => b = H ∨ b = R ∨ b = B ∨ some b = kv.ownBlock ∨ ∃ i, i < n ∧ b = gs i
/-- The document's storage, its blocks S. -/
def PD (s n L : Nat) (w : World) (S : Nat → Prop) (H : Nat) (os : List Ob) (zs : List Int) : Prop := ∃ R B cap kv gs, Lf w H R B cap s n L kv gs os zs ∧ ∀ b, S b ↔ LoS H R B n kv gs b
section
variable {w w' : World} {H R B cap s n L : Nat} {kv : Value} {gs : Nat → Nat} {os : List Ob} {zs : List Int}
theorem ObSl.kept (h : ObSl w kv os) (e : ∀ b, some b = kv.ownBlock → w'.heap[b]? = w.heap[b]?) : ObSl w' kv os := by
  refine ⟨h.1, ?_⟩
  rcases h.2 with h2 | ⟨g, cap, cur, rfl, hg, hh, r⟩
  · exact .inl h2
  · exact .inr ⟨g, cap, cur, rfl, hg, by rw [e g rfl]; exact hh, r⟩
theorem ObSl.lt (h : ObSl w kv os) : ∀ b, some b = kv.ownBlock → b < w.heap.size := by
  intro b hb
  rcases h.2 with ⟨rfl, -⟩ | ⟨g, cap, cur, rfl, hg, hh, r⟩
  · cases hb
  · injection hb with hb
    subst hb
    exact (Array.getElem?_eq_some_iff.1 hh).1
theorem Lf.lt (h : Lf w H R B cap s n L kv gs os zs) (hd : Dim s n L) : ∀ b, LoS H R B n kv gs b → b < w.heap.size := by
  rintro b (rfl | rfl | rfl | hb | ⟨i, hi, rfl⟩)
  · exact cell_block_lt h.h0
  · exact h.rf.ltR
  · exact h.rf.ltB hd.n0
  · exact h.ks.lt b hb
  · exact h.rf.ltG hd.s0 hi
theorem Lf.kept (h : Lf w H R B cap s n L kv gs os zs) (e : ∀ b, LoS H R B n kv gs b → w'.heap[b]? = w.heap[b]?) : Lf w' H R B cap s n L kv gs os zs := by
  have eH := e H (.inl rfl)
  have eR := e R (.inr (.inl rfl))
  have eB := e B (.inr (.inr (.inl rfl)))
  exact ⟨(World.cell?_of_block (w := w) eH).trans h.h0, (World.cell?_of_block (w := w) eH).trans h.h1, fun j => (World.frozen?_of_block (w := w) (a := ⟨H, j, none⟩) eH).trans (h.fH j), h.ks.kept (fun b hb => e b (.inr (.inr (.inr (.inl hb))))), h.hk, h.kR, h.kB, h.kg, h.le,
    h.rf.kept eR eB (fun k hk => e _ (.inr (.inr (.inr (.inr ⟨k, hk, rfl⟩))))), h.HR, h.HB, h.Hg, h.RB, fun j => (World.frozen?_of_block (w := w) (a := ⟨R, j, none⟩) eR).trans (h.fR j), fun j => (World.frozen?_of_block (w := w) (a := ⟨B, j, none⟩) eB).trans (h.fB j)⟩
theorem Lf.stay (h : Lf w H R B cap s n L kv gs os zs) (hd : Dim s n L) (hb : Below w.heap.size w w') : Lf w' H R B cap s n L kv gs os zs := h.kept fun b hS => hb.block b (h.lt hd b hS)
end
/-- A slot made all zeros. -/
def zeroS (zs : List Int) (s k : Nat) : List Int := (List.range zs.length).map fun j => if j / s = k then 0 else zs.getD j 0
theorem range_get {L : Nat} {f : Nat → Int} {j : Nat} (hj : j < L) : ((List.range L).map f).getD j 0 = f j := by
  rw [List.getD_eq_getElem?_getD, List.getElem?_map, List.getElem?_range hj]
  rfl
theorem place_div {s k j : Nat} (hj : j < s) : (k * s + j) / s = k := by
  rw [Nat.mul_comm, Nat.mul_add_div (by omega), Nat.div_eq_of_lt hj, Nat.add_zero]
theorem zeroS_length (zs : List Int) (s k : Nat) : (zeroS zs s k).length = zs.length := by simp [zeroS]
theorem zeroS_get {zs : List Int} {s n L k i j : Nat} (hd : Dim s n L) (hz : zs.length = L) (hi : i < n) (hj : j < s) : (zeroS zs s k).getD (i * s + j) 0 = if i = k then 0 else zs.getD (i * s + j) 0 := by
  have := hd.at hi
  unfold zeroS
  rw [range_get (by omega), place_div hj]
/-- What getting an object answers, and makes. -/
def getR (os : List Ob) (zs : List Int) (s n : Nat) (o : Ob) (c : Bool) : Int × Int × List Ob × List Int := match findO os o with
  | some i => (i, 0, os, zs)
  | none => if c = false then (0, 2, os, zs) else if os.length = n then (0, 28, os, zs) else (os.length, 0, os ++ [o], zeroS zs s os.length)
def GetP (PS : World → (Nat → Prop) → Nat → List Ob → List Int → Prop) (D : Nat → Prop) (h : Nat) (r : Int × Int × List Ob × List Int) (W : World) (e : Ending) (w : World) : Prop :=
  ∃ D', e = .returned (.tuple #[.int .i64 r.1, .int .i64 r.2.1]) ∧ PS w D' h r.2.2.1 r.2.2.2 ∧ Turned D W w ∧ ∀ b, D' b → D b ∨ W.heap.size ≤ b
theorem key_info : (Try.prog.info? 32).map (fun i => (i.zero, i.size, i.bytes)) = some (some (.agg #[.int .i64 0, .int .i64 0]), 2, 16) := by kernel_rfl
theorem obs_push {w : World} {H : Nat} {v : Value} {os : List Ob} (x y : Int) (hc : w.cell? ⟨H, 0, none⟩ = some v) (hs : ObSl w v os) (hne : some H ≠ v.ownBlock) (hl : os.length ≤ 15) :
    ∃ a2 c2 W3, (appendV #[43, 43] 43 #[v, .slice (some ⟨w.heap.size, 0, none⟩) 1 1]).run Try.prog (w.alloc (.cells #[.int .i64 x, .int .i64 y] 32)).drew = .ok (.slice a2 (os.length + 1) c2) W3 ∧
      W3.heap[H]? = w.heap[H]? ∧ ObSl W3 (.slice a2 (os.length + 1) c2) (os ++ [(x, y)]) ∧ (∀ b, b < w.heap.size → some b ≠ v.ownBlock → W3.heap[b]? = w.heap[b]?) ∧ W3.os = w.os ∧ W3.tape = w.tape ∧ W3.output = w.output ∧ w.heap.size ≤ W3.heap.size ∧
      (∀ b, some b = (Value.slice a2 (os.length + 1) c2).ownBlock → some b = v.ownBlock ∨ w.heap.size ≤ b) := by
  obtain ⟨i0, hi0, hz0, hz1, hz2⟩ := info_parts key_info
  have hH := cell_block_lt hc
  have hown : (w.alloc (.cells #[.int .i64 x, .int .i64 y] 32)).drew.ownsRow 0 32 2 v os.length (flatO os) := World.ownsRow.alloc hs _
  have hn : (w.alloc (.cells #[.int .i64 x, .int .i64 y] 32)).heap[w.heap.size]? = some (.cells #[.int .i64 x, .int .i64 y] 32 (0, 0)) := heap_alloc_new w _
  obtain ⟨v', W3, hrun, hown3, hgr, -, hat⟩ := run_append_own_at (P := Try.prog) (w.alloc (.cells #[.int .i64 x, .int .i64 y] 32)).drew 0 43 43 32 i0 _ 2 16 Try.underlying43 hi0 hz0 hz1 hz2 rfl (by omega) v os.length (flatO os) hown
    ⟨w.heap.size, 0, none⟩ 1 1 [.int .i64 x, .int .i64 y] rfl (fun j u hu => by
      rw [add_lit, Nat.zero_add]
      show (w.alloc (.cells #[.int .i64 x, .int .i64 y] 32)).cell? ⟨w.heap.size, j, none⟩ = some u
      unfold World.cell?
      simp only [hn]
      simpa using hu) (fun u hu => by simp at hu; rcases hu with rfl | rfl <;> rfl) (by unfold maxLen; omega) (by omega) (by omega)
  rw [show flatO os ++ [Value.int .i64 x, .int .i64 y] = flatO (os ++ [(x, y)]) from (flatO_snoc os (x, y)).symm] at hown3
  obtain ⟨a2, c2, rfl⟩ : ∃ a2 c2, v' = .slice a2 (os.length + 1) c2 := by
    rcases hown3.2 with ⟨_, h0⟩ | ⟨g, cap, cur, hv, -⟩
    · omega
    · exact ⟨_, cap, hv⟩
  have hold : ∀ b, b < w.heap.size → some b ≠ v.ownBlock → W3.heap[b]? = w.heap[b]? := fun b hb hn2 => by
    rw [hgr.block b (by simp; omega) hn2]
    exact Below.heap_alloc _ _ _ hb
  have hz : w.heap.size + 1 ≤ W3.heap.size := by have := hgr.size; simpa using this
  refine ⟨a2, c2, W3, hrun, hold H hH hne, ?_, hold, hgr.os, hgr.tape, hgr.output, by omega, fun b hb => ?_⟩
  · unfold ObSl
    rw [List.length_append]
    exact hown3
  · rcases hat with h1 | h1
    · exact .inl (by rw [← h1]; exact hb)
    · rw [h1] at hb
      simp at hb
      exact .inr (by omega)
end Go.Proofs.Ytijhoiheieighaa
