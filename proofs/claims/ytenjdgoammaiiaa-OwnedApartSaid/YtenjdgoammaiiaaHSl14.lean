/-
  Proved here: a map's slot, as a string, of the program's own; the row of strings. Conditions: the contracts.
-/
import Derived.Test.YtenjdgoammaiiaaHKn14
namespace Go.Proofs.Ytenjdgoammaiiaa
open Go.RowKit
set_option maxRecDepth 100000

/-- The bytes of slot k of map m; none where there is none. -/
def slotZ (st : List MSt) (m k : Nat) : List Int := if k < (st.getD m .ring).max then (List.range (st.getD m .ring).val).map (fun j => (st.getD m .ring).zs.getD (k * (st.getD m .ring).val + j) 0) else []
theorem range_getD (n : Nat) (f : Nat → Int) {j : Nat} (hj : j < n) : ((List.range n).map f).getD j 0 = f j := by
  rw [List.getD_eq_getElem?_getD, List.getElem?_map, List.getElem?_range hj]
  rfl
theorem slot_any {PS : OwMem} {w : World} {D : Nat → Prop} {h : Nat} {st : List MSt} (A : Acts14 PS) (hp : PS w D h st) {m k : Nat} (hm : m < st.length) : Calls Try.prog 13 #[ptrV h, .int .i64 m, .int .i64 k] w (fun e w' => ∃ v b, e = .returned (.tuple #[v, .bool b]) ∧ KeyAt w' v (slotZ st m k) ∧ Below w.heap.size w w') := by
  by_cases hk : k < (st.getD m .ring).max
  · refine (A.slotIn hp hm hk).mono ?_
    rintro e w' ⟨g, o, C, rfl, hb, hD, hc⟩
    refine ⟨_, _, rfl, ?_, hb⟩
    have hl : (slotZ st m k).length = (st.getD m .ring).val := by rw [slotZ, if_pos hk]; simp
    refine .row g o _ C _ hl (fun j hj => ?_) (fun _ => Nat.lt_of_lt_of_le (A.lt hp g hD) hb.size)
    have e : (slotZ st m k).getD j 0 = (st.getD m .ring).zs.getD (k * (st.getD m .ring).val + j) 0 := by
      rw [slotZ, if_pos hk]
      exact range_getD _ _ hj
    rw [e]
    exact (hc j hj).1
  · refine (A.slotOut hp (m := (m : Int)) (k := (k : Int)) (by rw [Int.toNat_natCast]; omega)).mono ?_
    rintro e w' ⟨rfl, hb⟩
    refine ⟨_, _, rfl, ?_, hb⟩
    rw [slotZ, if_neg hk]
    exact .empty _ _
theorem slotZ_part {M : Int} {st st' : List MSt} (h : Part M st st') {m k : Nat} (hm : (m : Int) ≠ M) : slotZ st' m k = slotZ st m k := by
  unfold slotZ
  rw [h.2 m hm]
/-- The strings of the first n slots, 16 a map. -/
def strsOf (st : List MSt) (n : Nat) : List Value := (List.range n).map fun i => .string (strOfNums (slotZ st (i / 16) (i % 16)))
theorem strsOf_snoc (st : List MSt) (q r : Nat) (hr : r < 16) : strsOf st (16 * q + (r + 1)) = strsOf st (16 * q + r) ++ [.string (strOfNums (slotZ st q r))] := by
  have h1 : (16 * q + r) / 16 = q := by omega
  have h2 : (16 * q + r) % 16 = r := by omega
  unfold strsOf
  rw [show 16 * q + (r + 1) = (16 * q + r) + 1 by omega, List.range_succ, List.map_append]
  simp [h1, h2]
/-- The row of strings, read. -/
def WasAt (w : World) (v : Value) (st : List MSt) (n : Nat) : Prop := ∃ a cap, v = .slice a n cap ∧ ∀ q r, r < 16 → 16 * q + r < n → ∃ g, a = some ⟨g, 0, none⟩ ∧ g < w.heap.size ∧ w.cell? ⟨g, 16 * q + r, none⟩ = some (.string (strOfNums (slotZ st q r)))
theorem was_own {w : World} {B n : Nat} {v : Value} {st : List MSt} (h : w.ownsRow B 9 1 v n (strsOf st n)) : ∃ a cap, v = .slice a n cap ∧ ∀ q r, r < 16 → 16 * q + r < n → ∃ g, a = some ⟨g, 0, none⟩ ∧ B ≤ g ∧ g < w.heap.size ∧ w.cell? ⟨g, 16 * q + r, none⟩ = some (.string (strOfNums (slotZ st q r))) := by
  rcases h.2 with ⟨rfl, h0⟩ | ⟨g, cap, cur, rfl, hg, hh, -⟩
  · exact ⟨none, 0, by rw [h0], fun q r _ hn => by omega⟩
  · refine ⟨_, cap, rfl, fun q r hr hn => ⟨g, rfl, hg, ?_, ?_⟩⟩
    · rcases Nat.lt_or_ge g w.heap.size with h2 | h2
      · exact h2
      · rw [Array.getElem?_eq_none h2] at hh; cases hh
    · have h1 : (16 * q + r) / 16 = q := by omega
      have h2 : (16 * q + r) % 16 = r := by omega
      have hc := h.cells (g := g) rfl (16 * q + r) (.string (strOfNums (slotZ st q r))) (by
        unfold strsOf
        rw [List.getElem?_map, List.getElem?_range hn]
        simp [h1, h2])
      rwa [add_lit, Nat.zero_add] at hc
theorem WasAt.stay {w w' : World} {v : Value} {st : List MSt} {n : Nat} (h : WasAt w v st n) (hb : Below w.heap.size w w') : WasAt w' v st n := by
  obtain ⟨a, cap, e, hc⟩ := h
  refine ⟨a, cap, e, fun q r hr hn => ?_⟩
  obtain ⟨g, e1, hg, h1⟩ := hc q r hr hn
  exact ⟨g, e1, Nat.lt_of_lt_of_le hg hb.size, (hb.cell (p := ⟨g, 16 * q + r, none⟩) hg).trans h1⟩
theorem was_turn {PS : OwMem} {W w wx : World} {D S D' S' : Nat → Prop} {h O B n : Nat} {v : Value} {st st' : List MSt} (ho : w.ownsRow B 9 1 v n (strsOf st n)) (hk : K14 PS W w wx D S D' S' h O st' st') (hD : ∀ b, D b → b < B) (hS : ∀ b, S b → b < B) : WasAt wx v st n := by
  obtain ⟨a, cap, e, hc⟩ := was_own ho
  refine ⟨a, cap, e, fun q r hr hn => ?_⟩
  obtain ⟨g, e1, hB, hg, h1⟩ := hc q r hr hn
  have hblk := hk.t.block g hg (fun hx => by
    rcases hx with hx | hx
    · have := hD g hx; omega
    · have := hS g hx; omega)
  exact ⟨g, e1, Nat.lt_of_lt_of_le hg hk.t.size, (World.cell?_of_block (w := w) (a := ⟨g, 16 * q + r, none⟩) hblk).trans h1⟩
/-- Operations that came in stay. -/
theorem OpV.stay {w w' : World} {kd : Int} {a1 a2 : Option Addr} {l1 c1 l2 c2 : Nat} {kz vz : List Int} (h : OpV w kd a1 l1 c1 a2 l2 c2 kz vz) (hb : Below w.heap.size w w') : OpV w' kd a1 l1 c1 a2 l2 c2 kz vz :=
  ⟨h.z1, h.z2, h.m1, h.m2, h.k1.stay rfl hb, h.k2.stay rfl hb, h.y1, h.bd⟩
theorem OpsIn.stay {w w' : World} {A : Option Addr} {len : Nat} (h : OpsIn w A len) (hb : Below w.heap.size w w') : OpsIn w' A len := by
  rcases h with h0 | ⟨g, off, e, hg, ho⟩
  · exact .inl h0
  · refine .inr ⟨g, off, e, Nat.lt_of_lt_of_le hg hb.size, fun j hj => ?_⟩
    obtain ⟨kd, M, a1, l1, c1, a2, l2, c2, kz, vz, id, gn, fl, K, T, C, q, r⟩ := ho j hj
    exact ⟨kd, M, a1, l1, c1, a2, l2, c2, kz, vz, id, gn, fl, K, T, C, fun i hi => (hb.cell (p := ⟨g, off + j * 10 + i, none⟩) hg).trans (q i hi), r.stay hb⟩
theorem was_grown {w w' : World} {B n : Nat} {v : Value} {xs : List Value} {W : World} (hb : Below B W w) (hB : B ≤ W.heap.size) (ho : w.ownsRow B 9 1 v n xs) (hg : w.grownBy w' v.ownBlock) : Below B W w' :=
  hb.grown hg (Nat.le_trans hB hb.size) (fun b hb => (ho.lt b hb).1)
theorem own_belowS {w w' : World} {base e n : Nat} {v : Value} {xs : List Value} (h : w.ownsRow base e 1 v n xs) (hb : Below w.heap.size w w') : w'.ownsRow base e 1 v n xs := by
  refine ⟨h.1, ?_⟩
  rcases h.2 with h2 | ⟨g, cap, cur, rfl, hg, hh, r⟩
  · exact .inl h2
  · exact .inr ⟨g, cap, cur, rfl, hg, by rw [hb.block g (Array.getElem?_eq_some_iff.1 hh).1]; exact hh, r⟩
end Go.Proofs.Ytenjdgoammaiiaa
