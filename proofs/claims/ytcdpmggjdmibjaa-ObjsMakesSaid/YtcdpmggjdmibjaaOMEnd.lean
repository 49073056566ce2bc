/-
  Proved here: words for the last loop of the law ObjsMakes: what is told of each part's word, an object and its part's side by side. Conditions: as each says.
-/
import Derived.Test.YtcdpmggjdmibjaaORLaw
import Derived.Test.YtcdpmggjdmibjaaOMk
namespace Go.Proofs.Ytcdpmggjdmibjaa
open Go.RowKit

theorem word_made {hook now : Int} {l : List Pt} {c : Cx} {j : Nat} (hm : IsMade hook now l c) (hb : mayB hook l = true) (hj : j < l.length) {nul hs : Bool} {k : Nat} {z : Int}
    (h1 : (l.getD j default).null = nul) (h2 : (l.getD j default).has = hs) (h3 : (objsOf (l.take j)).length = k) (h4 : (l.getD j default).num = z) :
    wordV c (j : Int) = if nul = true then .tuple #[.int .u64 0, .int .i64 (-1), .bool true] else if hs = true then .tuple #[.int .u64 0, .int .i64 (k : Int), .bool true] else .tuple #[.int .u64 z, .int .i64 (-1), .bool true] := by
  obtain ⟨m0, m1, m2⟩ := mayB_at hb
  have hs2 := m2 j hj
  have h5 := lettH_len hook
  have hw := hm.words j (by omega)
  have hr := made_right hm hb
  unfold wordV
  rw [hm.hook, Int.toNat_natCast, if_pos ⟨hr, by omega, by omega⟩, hw]
  unfold suitB at hs2
  unfold wordAt
  rw [if_pos hj]
  rw [h1, h2] at hs2
  rw [h1, h2, h3, h4]
  by_cases hz : byteAt (lettH hook) j = 110
  · rw [if_pos hz] at hs2
    rw [if_pos hz]
    cases nul <;> cases hs
    · simp
    · cases hs2
    · cases hs2
    · cases hs2
  · rw [if_neg hz] at hs2
    rw [if_neg hz]
    cases nul <;> cases hs
    · simp at hs2
    · simp
    · simp
    · simp
/-- An object of a context and the part that it came from, side by side. -/
structure Twin (w W : World) (C : Array Value) (c : Cx) (p9 o9 p o : Nat) (X Y : Array Value) (ob : Kob) : Prop where
  held : Held w W C c
  hp9 : p9 < W.heap.size
  hp : p < W.heap.size
  cx : ∀ j, j < 13 → W.cell? ⟨p9, o9 + j, none⟩ = X[j]?
  cy : ∀ j, j < 13 → W.cell? ⟨p, o + j, none⟩ = Y[j]?
  ox : ObX W X ob
  oy : ObX W Y ob
theorem twin_step {w W W' : World} {C : Array Value} {c : Cx} {p9 o9 p o : Nat} {X Y : Array Value} {ob : Kob} (h : Hid (Twin w W C c p9 o9 p o X Y ob)) (hb : Below W.heap.size W W') : Hid (Twin w W' C c p9 o9 p o X Y ob) :=
  Lib.hid ⟨h.out.held.stay hb, Nat.lt_of_lt_of_le h.out.hp9 hb.size, Nat.lt_of_lt_of_le h.out.hp hb.size,
    fun j hj => (hb.cell (p := ⟨p9, o9 + j, none⟩) h.out.hp9).trans (h.out.cx j hj), fun j hj => (hb.cell (p := ⟨p, o + j, none⟩) h.out.hp).trans (h.out.cy j hj), h.out.ox.stay hb, h.out.oy.stay hb⟩
theorem twin_four {w W : World} {C : Array Value} {c : Cx} {p9 o9 p o : Nat} {X Y : Array Value} {ob : Kob} {v9 : Value} (h : Hid (Twin w W C c p9 o9 p o X Y ob)) (h9 : C[9]? = some v9) :
    W.cell? ⟨w.heap.size, 9, none⟩ = some v9 ∧ (loadObjV (.pointer (some ⟨p9, o9, none⟩))).run Try.prog W = .ok (.agg X) W ∧ (loadObjV (.pointer (some ⟨p, o, none⟩))).run Try.prog W = .ok (.agg Y) W ∧ Hid (Twin w W C c p9 o9 p o X Y ob) :=
  ⟨(h.out.held.cell 9).trans h9, run_loadOb h.out.ox.size h.out.cx, run_loadOb h.out.oy.size h.out.cy, h⟩
end Go.Proofs.Ytcdpmggjdmibjaa
