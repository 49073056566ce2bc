/-
  Proved here: a slice of operations that came in is a row of cells; a state of both arrays is kept where nothing of theirs is turned. Conditions: as each says.
-/
import Derived.Test.YtdboapeookmfkaaOpen
import Derived.Test.YtdboapeookmfkaaSlot
import Derived.Test.YtdboapeookmfkaaCopy
import Derived.Test.YtdboapeookmfkaaRef
import Derived.Test.YtdboapeookmfkaaAlive
namespace Go.Proofs.Ytdboapeookmfkaa
open Go.RowKit

/-- The cells of an operation. -/
structure OpAt (w : World) (g o : Nat) (K T C : Int) : Prop where
  c0 : w.cell? ⟨g, o, none⟩ = some (.int .i64 K)
  c1 : w.cell? ⟨g, o + 1, none⟩ = some (.int .i64 T)
  c2 : w.cell? ⟨g, o + 2, none⟩ = some (.int .u8 C)
  bK : -9223372036854775808 ≤ K ∧ K ≤ 9223372036854775807
  bT : -9223372036854775808 ≤ T ∧ T ≤ 9223372036854775807
  bC : 0 ≤ C ∧ C ≤ 255
theorem OpAt.below {w w' : World} {B g o : Nat} {K T C : Int} (h : OpAt w g o K T C) (hg : g < B) (hb : Below B w w') : OpAt w' g o K T C :=
  ⟨(hb.cell (p := ⟨g, o, none⟩) hg).trans h.c0, (hb.cell (p := ⟨g, o + 1, none⟩) hg).trans h.c1, (hb.cell (p := ⟨g, o + 2, none⟩) hg).trans h.c2, h.bK, h.bT, h.bC⟩
/-- The operations' row. -/
def OpsAt (w : World) (A : Option Addr) (len : Nat) : Prop := len = 0 ∨ ∃ g off, A = some ⟨g, off, none⟩ ∧ g < w.heap.size ∧ ∀ k, k < len → ∃ K T C, OpAt w g (off + k * 3) K T C
theorem rows_ops {w : World} {v : Value} (h : IsRows [.i64, .i64, .u8] w v) : ∃ A len cap, v = .slice A len cap ∧ len ≤ maxLen ∧ OpsAt w A len := by
  rcases h with rfl | ⟨a, len, cap, rfl, hl, hm, hc⟩
  · exact ⟨none, 0, 0, rfl, Nat.zero_le _, .inl rfl⟩
  · refine ⟨some a, len, cap, rfl, by omega, ?_⟩
    rcases Nat.eq_zero_or_pos len with h0 | h0
    · exact .inl h0
    · obtain ⟨b, off, spot⟩ := a
      obtain ⟨K0, h1, -⟩ := hc 0 h0 0 .i64 rfl
      have hspot : spot = none := by simpa [Addr.add] using World.cell?_spot h1
      subst hspot
      have hg : b < w.heap.size := by
        have := World.block_lt_of_cell? w _ h1
        simpa [Addr.add] using this
      refine .inr ⟨b, off, rfl, hg, fun j hj => ?_⟩
      obtain ⟨K, hK, wK⟩ := hc j hj 0 .i64 rfl
      obtain ⟨T, hT, wT⟩ := hc j hj 1 .i64 rfl
      obtain ⟨C, hC, wC⟩ := hc j hj 2 .u8 rfl
      rw [Go.WideShapes.add_plain] at hK hT hC
      exact ⟨K, T, C, hK, hT, hC, bounds_i64 wK, bounds_i64 wT, bounds_u8 wC⟩

/-- Where all that the law keeps lies: blocks that differ. -/
structure Apart (W : World) (A G R B n : Nat) (gs : Nat → Nat) : Prop where
  hA : W.heap.size ≤ A
  hG : W.heap.size ≤ G
  hgs : ∀ k, k < n → W.heap.size ≤ gs k
  GR : R ≠ G
  GB : B ≠ G
  Ggs : ∀ k, k < n → gs k ≠ G
  gA : ∀ k, k < n → A ≠ gs k
/-- Both arrays. -/
structure St (W wr : World) (A G R B cap s n L : Nat) (gs : Nat → Nat) (zs ys : List Int) : Prop where
  arr : Arr wr A G s n L L zs
  rf : Rf wr R B cap s n L gs ys
  below : Below W.heap.size W wr
/-- The copy, and what was told of it, if there is one. -/
def CopySt (wr : World) (G s n L : Nat) (gs : Nat → Nat) (c x : Value) : Prop :=
  c = .pointer none ∨ ∃ A2 G2 C2 zs, c = .pointer (some ⟨A2, 0, none⟩) ∧ x = .string (strOfNums zs) ∧ Arr wr A2 G2 s n L C2 zs ∧ A2 ≠ G ∧ G2 ≠ G ∧ ∀ k, k < n → A2 ≠ gs k ∧ G2 ≠ gs k
section
variable {W wr wx : World} {A G R B cap s n L : Nat} {gs : Nat → Nat} {zs ys : List Int} {c x : Value}
theorem St.stay (h : St W wr A G R B cap s n L gs zs ys) (hs : 0 < s) (hn : 0 < n) (hb : Below wr.heap.size wr wx) : St W wx A G R B cap s n L gs zs ys :=
  ⟨h.arr.stay hb, h.rf.stay hs hn hb, h.below.trans (hb.mono h.below.size)⟩
theorem CopySt.stay (h : CopySt wr G s n L gs c x) (hb : Below wr.heap.size wr wx) : CopySt wx G s n L gs c x := by
  rcases h with h | ⟨A2, G2, C2, zs, h1, h2, h3, h4⟩
  · exact .inl h
  · exact .inr ⟨A2, G2, C2, zs, h1, h2, h3.stay hb, h4⟩
/-- A store into another block. -/
theorem Arr.far {C : Nat} (h : Arr wr A G s n L C zs) (a : Addr) (v : Value) (hA : A ≠ a.block) (hG : G ≠ a.block) : Arr (wr.setCell a v) A G s n L C zs := by
  have eA := Below.heap_setCell wr a v A hA
  have eG := Below.heap_setCell wr a v G hG
  exact ⟨(World.cell?_of_block (w := wr) eA).trans h.c0, (World.cell?_of_block (w := wr) eA).trans h.c1, (World.cell?_of_block (w := wr) eA).trans h.c2, fun j hj => (World.cell?_of_block (w := wr) eG).trans (h.row j hj),
    fun j => (World.frozen?_of_block (w := wr) eG).trans (h.free j), h.len, h.ne, by simp [World.setCell]; exact h.lt⟩
theorem Arr.put {C p : Nat} {y : Int} (h : Arr wr A G s n L C zs) (hp : p < L) : Arr (wr.setCell ⟨G, p, none⟩ (.int .u8 y)) A G s n L C (zs.set p y) := by
  have eA := Below.heap_setCell wr ⟨G, p, none⟩ (.int .u8 y) A h.ne
  have hl := h.len
  refine ⟨(World.cell?_of_block (w := wr) eA).trans h.c0, (World.cell?_of_block (w := wr) eA).trans h.c1, (World.cell?_of_block (w := wr) eA).trans h.c2, fun j hj => ?_, fun j => ?_, by simp [hl], h.ne, by simp [World.setCell]; exact h.lt⟩
  · have hc := h.row j hj
    rw [Nat.zero_add] at hc ⊢
    rw [cell_set hc, set_get (by omega)]
    by_cases e : p = j <;> simp [e]
  · rw [World.frozen?_setCell]
    exact h.free j
theorem CopySt.far (h : CopySt wr G s n L gs c x) (a : Addr) (v : Value) (ha : a.block = G ∨ ∃ k, k < n ∧ a.block = gs k) : CopySt (wr.setCell a v) G s n L gs c x := by
  rcases h with h | ⟨A2, G2, C2, zs, h1, h2, h3, h4, h5, h6⟩
  · exact .inl h
  · refine .inr ⟨A2, G2, C2, zs, h1, h2, h3.far a v ?_ ?_, h4, h5, h6⟩
    · rcases ha with e | ⟨k, hk, e⟩ <;> rw [e]
      · exact h4
      · exact (h6 k hk).1
    · rcases ha with e | ⟨k, hk, e⟩ <;> rw [e]
      · exact h5
      · exact (h6 k hk).2
/-- A byte of the array is written. -/
theorem St.putA {p : Nat} {y : Int} (h : St W wr A G R B cap s n L gs zs ys) (ha : Apart W A G R B n gs) (hp : p < L) : St W (wr.setCell ⟨G, p, none⟩ (.int .u8 y)) A G R B cap s n L gs (zs.set p y) ys :=
  ⟨h.arr.put hp, h.rf.far _ _ ha.GR ha.GB ha.Ggs, h.below.setCell ha.hG _⟩
/-- A byte of the document's array is written. -/
theorem St.putR {k t : Nat} {y : Int} (h : St W wr A G R B cap s n L gs zs ys) (ha : Apart W A G R B n gs) (hd : Dim s n L) (hk : k < n) (ht : t < s) : St W (wr.setCell ⟨gs k, t, none⟩ (.int .u8 y)) A G R B cap s n L gs zs (ys.set (k * s + t) y) :=
  ⟨h.arr.far _ _ (ha.gA k hk) (fun e => ha.Ggs k hk e.symm), h.rf.put hk ht (hd.at hk), h.below.setCell (ha.hgs k hk) _⟩
theorem CopySt.new (hst : St W wr A G R B cap s n L gs zs ys) (hs : 0 < s) {A2 G2 C2 : Nat} {z2 : List Int} (h : Arr wx A2 G2 s n L C2 z2) (hA : wr.heap.size ≤ A2) (hG : wr.heap.size ≤ G2) :
    CopySt wx G s n L gs (.pointer (some ⟨A2, 0, none⟩)) (.string (strOfNums z2)) := by
  have h1 := hst.arr.lt
  refine .inr ⟨A2, G2, C2, z2, rfl, rfl, h, by omega, by omega, fun k hk => ?_⟩
  have := hst.rf.ltG hs hk
  exact ⟨by omega, by omega⟩
end

/-- What New of the document gives is an array of zeros. -/
theorem rf_of_new {W w : World} {R s n L : Nat} {v : Value} {gs : Nat → Nat} (h : NewAt W w R s n v gs) (hd : Dim s n L) : ∃ B cap, v = .slice (some ⟨B, 0, none⟩) n cap ∧ R < B ∧ Rf w R B cap s n L gs (zeros L) := by
  have hn := hd.n0
  obtain ⟨m, rfl⟩ : ∃ m, n = m + 1 := ⟨n - 1, by omega⟩
  obtain ⟨B, cap, rfl⟩ := own_shape h.own
  have hB := h.own.lt B rfl
  have hh : ∃ cur, w.heap[B]? = some (.cells cur 32 (0, 0)) := by
    rcases h.own.2 with ⟨h0, _⟩ | ⟨g, cap', cur, hv, _, hh, _⟩
    · cases h0
    · injection hv with hv; injection hv with hv; injection hv with hv
      subst hv
      exact ⟨cur, hh⟩
  obtain ⟨cur, hh⟩ := hh
  refine ⟨B, cap, rfl, by omega, h.c0, h.c1, fun k hk => ?_, fun k j hk hj => ?_, fun k j hk => ?_, zeros_length L, fun i j hi hj e => ?_, fun k hk => ?_, fun k hk => ?_⟩
  · have := h.own.cells (g := B) rfl k (.slice (some ⟨gs k, 0, none⟩) s s) (by simp [rowsOf, hk])
    rwa [add_lit, Nat.zero_add] at this
  · rw [zeros_get]
    simp [World.cell?, h.rows k hk, u8s, zeros, hj]
  · simp [World.frozen?, h.rows k hk]
  · rcases Nat.lt_trichotomy i j with hl | hl | hl
    · have := h.inc i j hl hj; omega
    · exact hl
    · have := h.inc j i hl hi; omega
  · have := h.lo k hk; omega
  · intro e
    have := h.rows k hk
    rw [e, hh] at this
    injection this with this
    injection this with _ h2 _
    cases h2
end Go.Proofs.Ytdboapeookmfkaa
