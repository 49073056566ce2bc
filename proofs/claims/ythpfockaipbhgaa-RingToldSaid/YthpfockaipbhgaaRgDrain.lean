/-
  Proved here: Drain of the document's rings. Conditions: as each says.
-/
import Derived.Test.YthpfockaipbhgaaRgBytes
namespace Go.Proofs.Ythpfockaipbhgaa
open Go.RowKit

def stopT (rs : List Rc) : Nat → Nat → Nat
  | 0, k => k
  | f + 1, k => if hasR rs (k : Int) = true then k else stopT rs f (k + 1)
/-- Where draining stops. -/
def drainK (rs : List Rc) : Nat := stopT rs rs.length 0
def goneT (rs : List Rc) : Nat → List Rc
  | 0 => rs
  | k + 1 => setGone (goneT rs k) k
theorem goneT_len (rs : List Rc) : ∀ k, (goneT rs k).length = rs.length
  | 0 => rfl
  | k + 1 => by show (setGone (goneT rs k) k).length = _; rw [setGone, List.length_set, goneT_len rs k]
theorem goneT_get {rs : List Rc} : ∀ k, k ≤ rs.length → ∀ j, k ≤ j → rget (goneT rs k) j = rget rs j
  | 0, _, _, _ => rfl
  | k + 1, hk, j, hj => by
    show rget (setGone (goneT rs k) k) j = _
    rw [setGone, rget_set (by rw [goneT_len]; omega), if_neg (by omega), goneT_get k (by omega) j (by omega)]
theorem hasR_gone {rs : List Rc} {k : Nat} (hk : k < rs.length) : hasR (goneT rs k) (k : Int) = hasR rs (k : Int) := by
  rw [hasR_nat (by rw [goneT_len]; exact hk), hasR_nat hk, goneT_get k (by omega) k (Nat.le_refl _)]
def isTold (r : Rc) : Bool := !r.gone && r.st == 1
/-- What draining gives of the first k: owners, blocks, bytes. -/
def audM (gs : Nat → Nat) (rs : List Rc) : Nat → List (Int × Nat × List Int)
  | 0 => []
  | k + 1 => audM gs rs k ++ if isTold (rget rs k) = true then [((rget rs k).own, gs k, (rget rs k).b)] else []
def audT (rs : List Rc) : Nat → List (Int × List Int)
  | 0 => []
  | k + 1 => audT rs k ++ if isTold (rget rs k) = true then [((rget rs k).own, (rget rs k).b)] else []
theorem audM_len (gs : Nat → Nat) (rs : List Rc) : ∀ k, (audM gs rs k).length ≤ k
  | 0 => Nat.le_refl _
  | k + 1 => by
    have := audM_len gs rs k
    show (audM gs rs k ++ _).length ≤ _
    rw [List.length_append]
    split <;> simp <;> omega
theorem audM_map (gs : Nat → Nat) (rs : List Rc) : ∀ k, (audM gs rs k).map (fun x => (x.1, x.2.2)) = audT rs k
  | 0 => rfl
  | k + 1 => by
    show (audM gs rs k ++ _).map _ = audT rs k ++ _
    rw [List.map_append, audM_map gs rs k]
    split <;> rfl
theorem audM_in {gs : Nat → Nat} {rs : List Rc} : ∀ k, ∀ x ∈ audM gs rs k, ∃ i, i < k ∧ x = ((rget rs i).own, gs i, (rget rs i).b)
  | 0, x, hx => by cases hx
  | k + 1, x, hx => by
    rcases List.mem_append.1 hx with h | h
    · obtain ⟨i, hi, e⟩ := audM_in k x h
      exact ⟨i, by omega, e⟩
    · split at h
      · exact ⟨k, by omega, List.mem_singleton.1 h⟩
      · cases h
/-- What draining answers, what the records are then. -/
def drainR (rs : List Rc) : List (Int × List Int) × List Rc := (audT rs (drainK rs), goneT rs (drainK rs))
def flatA (l : List (Int × Nat × List Int)) : List Value := l.flatMap fun x => [.int .i64 x.1, .slice (some ⟨x.2.1, 0, none⟩) x.2.2.length x.2.2.length]
theorem flatA_get {l : List (Int × Nat × List Int)} : ∀ {i : Nat}, i < l.length → (flatA l)[i * 2]? = some (.int .i64 (l.getD i (0, 0, [])).1) ∧ (flatA l)[i * 2 + 1]? = some (.slice (some ⟨(l.getD i (0, 0, [])).2.1, 0, none⟩) (l.getD i (0, 0, [])).2.2.length (l.getD i (0, 0, [])).2.2.length) := by
  induction l with
  | nil => intro i hi; simp at hi
  | cons a r ih =>
    intro i hi
    cases i with
    | zero => exact ⟨rfl, rfl⟩
    | succ i =>
      obtain ⟨h1, h2⟩ := ih (i := i) (by simpa using hi)
      have e1 : (i + 1) * 2 = i * 2 + 2 := by omega
      rw [e1]
      exact ⟨h1, h2⟩
theorem flatA_snoc (l : List (Int × Nat × List Int)) (x : Int × Nat × List Int) : flatA (l ++ [x]) = flatA l ++ [.int .i64 x.1, .slice (some ⟨x.2.1, 0, none⟩) x.2.2.length x.2.2.length] := by simp [flatA]
/-- A slice of audits to be looked at, all its blocks in E. -/
def AudIn (w : World) (E : Nat → Prop) (a : Option Addr) (l : List (Int × List Int)) : Prop := 0 < l.length → ∃ g, a = some ⟨g, 0, none⟩ ∧ E g ∧ g < w.heap.size ∧
  ∀ i, i < l.length → ∃ d off cap, w.cell? ⟨g, i * 2, none⟩ = some (.int .i64 (l.getD i (0, [])).1) ∧ w.cell? ⟨g, i * 2 + 1, none⟩ = some (.slice (some ⟨d, off, none⟩) (l.getD i (0, [])).2.length cap) ∧ E d ∧ d < w.heap.size ∧ RowAt w d off (l.getD i (0, [])).2.length (l.getD i (0, [])).2
theorem AudIn.kept {w w' : World} {E : Nat → Prop} {a : Option Addr} {l : List (Int × List Int)} (h : AudIn w E a l) (hz : w.heap.size ≤ w'.heap.size) (e : ∀ b, E b → b < w.heap.size → w'.heap[b]? = w.heap[b]?) : AudIn w' E a l := fun h0 => by
  obtain ⟨g, e1, e2, e3, hc⟩ := h h0
  refine ⟨g, e1, e2, Nat.lt_of_lt_of_le e3 hz, fun i hi => ?_⟩
  obtain ⟨d, off, cap, c1, c2, c3, c4, c5⟩ := hc i hi
  exact ⟨d, off, cap, (World.cell?_of_block (w := w) (a := ⟨g, i * 2, none⟩) (e g e2 e3)).trans c1, (World.cell?_of_block (w := w) (a := ⟨g, i * 2 + 1, none⟩) (e g e2 e3)).trans c2, c3, Nat.lt_of_lt_of_le c4 hz, fun j hj => (World.cell?_of_block (w := w) (a := ⟨d, off + j, none⟩) (e d c3 c4)).trans (c5 j hj)⟩
theorem aud_info : (Try.prog.info? 53).map (fun i => (i.zero, i.size, i.bytes)) = some (some (.agg #[.int .i64 0, .slice none 0 0]), 2, 32) := by kernel_rfl
theorem two_new (W : World) (a b : Value) (e : TypeId) : ∀ j u, [a, b][j]? = some u → (W.alloc (.cells #[a, b] e)).cell? ((⟨W.heap.size, 0, none⟩ : Addr).add j) = some u := by
  intro j u hu
  have hn : (W.alloc (.cells #[a, b] e)).heap[W.heap.size]? = some (.cells #[a, b] e) := heap_alloc_new W _
  rw [add_lit, Nat.zero_add]
  unfold World.cell?
  simp only [hn]
  simpa using hu
/-- How far draining has come. -/
structure Da (W wr : World) (H : Nat) (room drops : Int) (kv : Value) (gs : Nat → Nat) (rs ms : List Rc) (v : Value) (l : List (Int × Nat × List Int)) : Prop where
  rg : Rg wr H room drops kv gs ms
  own : wr.ownsRow W.heap.size 53 2 v l.length (flatA l)
  t : Turned (RgS H kv gs rs.length) W wr
  lt : ∀ b, RgS H kv gs rs.length b → b < W.heap.size
  len : ms.length = rs.length
theorem aud_push {W wr : World} {H : Nat} {room drops : Int} {kv v : Value} {gs : Nat → Nat} {rs ms : List Rc} {l : List (Int × Nat × List Int)} (h : Da W wr H room drops kv gs rs ms v l) (hl : l.length ≤ 1000) (o : Int) (g n : Nat) (b : List Int) (hb : b.length = n) :
    ∃ v' W3, (appendV #[41, 41] 41 #[v, .slice (some ⟨wr.heap.size, 0, none⟩) 1 1]).run Try.prog (wr.alloc (.cells #[.int .i64 o, .slice (some ⟨g, 0, none⟩) n n] 53)).drew = .ok v' W3 ∧ Da W W3 H room drops kv gs rs ms v' (l ++ [(o, g, b)]) := by
  subst hb
  obtain ⟨i0, hi0, hz0, hz1, hz2⟩ := info_parts aud_info
  have hs := h.t.size
  obtain ⟨v', W3, hrun, hown3, hgr, -, -⟩ := run_append_own_at (P := Try.prog) (wr.alloc (.cells #[.int .i64 o, .slice (some ⟨g, 0, none⟩) b.length b.length] 53)).drew W.heap.size 41 41 53 i0 _ 2 32 Try.underlying41 hi0 hz0 hz1 hz2 rfl (by omega) v l.length (flatA l) (h.own.alloc _).drew
    ⟨wr.heap.size, 0, none⟩ 1 1 [.int .i64 o, .slice (some ⟨g, 0, none⟩) b.length b.length] rfl (two_new _ _ _ _) (fun u hu => by simp at hu; rcases hu with rfl | rfl <;> rfl) (by unfold maxLen; omega) (by omega) (by simp [World.drew]; omega)
  have hsz := hgr.size
  have hz2 : (wr.alloc (.cells #[.int .i64 o, .slice (some ⟨g, 0, none⟩) b.length b.length] 53)).drew.heap.size = wr.heap.size + 1 := by simp [World.drew]
  have hk : ∀ k, k < W.heap.size → W3.heap[k]? = wr.heap[k]? := fun k hk => by
    rw [hgr.block k (by omega) (fun e => by have := (h.own.lt _ e.symm).1; omega)]
    exact Below.heap_alloc wr _ _ (by omega)
  refine ⟨v', W3, hrun, h.rg.kept (fun k hS => hk k (h.lt k (by rw [← h.len]; exact hS))), ?_, ⟨hgr.os.trans h.t.os, hgr.tape.trans h.t.tape, hgr.output.trans h.t.output, by omega, fun k h1 h2 => (hk k h1).trans (h.t.block k h1 h2)⟩, h.lt, h.len⟩
  rw [flatA_snoc, List.length_append]
  exact hown3
end Go.Proofs.Ythpfockaipbhgaa
