/-
  Proved here: Drain of the program's rings. Conditions: as each lemma says.
-/
import Derived.Test.YthpfockaipbhgaaPmD
namespace Go.Proofs.Ythpfockaipbhgaa
open Go.RowKit

theorem rget_drop {ls : List Rc} {k i : Nat} : rget (ls.drop k) i = rget ls (k + i) := by
  unfold rget
  rw [List.getD_eq_getElem?_getD, List.getD_eq_getElem?_getD, List.getElem?_drop]
theorem lv_one {xs : List Value} {ds : Nat → Nat} {ls : List Rc} (h : LvCells xs ds ls) (hl : xs.length = ls.length * 3) : ∀ u ∈ xs, u.oneCell' = true := by
  intro u hu
  obtain ⟨j, hj, rfl⟩ := List.mem_iff_getElem.1 hu
  obtain ⟨a0, a1, a2⟩ := h (j / 3) (by omega)
  have hm : j % 3 < 3 := Nat.mod_lt _ (by decide)
  have hd : j = j / 3 * 3 + j % 3 := by omega
  rcases (by omega : j % 3 = 0 ∨ j % 3 = 1 ∨ j % 3 = 2) with e | e | e
  · rw [show j / 3 * 3 = j by omega, List.getElem?_eq_getElem hj] at a0
    injection a0 with a0
    rw [a0]; rfl
  · rw [show j / 3 * 3 + 1 = j by omega, List.getElem?_eq_getElem hj] at a1
    injection a1 with a1
    rw [a1]; rfl
  · rw [show j / 3 * 3 + 2 = j by omega, List.getElem?_eq_getElem hj] at a2
    injection a2 with a2
    rw [a2]; rfl
section
variable {w : World} {h g b n c : Nat} {room drops : Int} {ds : Nat → Nat} {ls : List Rc}
/-- The first record goes. -/
theorem Pr.pop (H : Pr w h room drops g (.slice (some ⟨b, 0, none⟩) (n + 1) c) ds ls) (hl : ls.length = n + 1) :
    ∃ xs, w.ownsRow 0 62 3 (.slice (some ⟨b, 0, none⟩) (n + 1) c) (n + 1) xs ∧ (∀ u ∈ xs, u.oneCell' = true) ∧ n + 1 ≤ c ∧ c ≤ maxLen ∧
      ∀ w3, w3.ownsRow 0 62 3 (.slice (some ⟨b, 0, none⟩) n c) n (xs.drop 3) → Turned (fun k => k = b) w w3 →
        w3.cell? ⟨h, 3, none⟩ = some (.slice (some ⟨b, 0, none⟩) (n + 1) c) ∧ w3.frozen? ⟨h, 3, none⟩ = false ∧ Pr (w3.setCell ⟨h, 3, none⟩ (.slice (some ⟨b, 0, none⟩) n c)) h room drops g (.slice (some ⟨b, 0, none⟩) n c) (fun i => ds (1 + i)) (ls.drop 1) := by
  obtain ⟨xs, hx, hc⟩ := H.row
  have hxl := hx.1
  have hx1 := lv_one hc hxl
  rw [hl] at hx
  have hcc : n + 1 ≤ c ∧ c ≤ maxLen := by
    rcases hx.2 with ⟨h', _⟩ | ⟨g', cap, cur, he, _, _, hnc, hcm, _⟩
    · simp at h'
    · simp only [Value.slice.injEq, Option.some.injEq, Addr.mk.injEq, and_true, true_and] at he
      obtain ⟨rfl, rfl⟩ := he
      exact ⟨hnc, hcm⟩
  refine ⟨xs, hx, hx1, hcc.1, hcc.2, fun w3 ho ht => ?_⟩
  have hhb : h ≠ b := fun e => H.hk (by rw [e]; rfl)
  have hdb : ∀ i, i < ls.length → ds i ≠ b := fun i hi e => H.kg i hi (by rw [e]; rfl)
  have hlt := H.lt
  have eH : w3.heap[h]? = w.heap[h]? := ht.block h (hlt h (.inl rfl)) hhb
  have eD : ∀ i, i < ls.length → w3.heap[ds i]? = w.heap[ds i]? := fun i hi => ht.block _ (hlt _ (.inr (.inr ⟨i, hi, rfl⟩))) (hdb i hi)
  have c3 : w3.cell? ⟨h, 3, none⟩ = some (.slice (some ⟨b, 0, none⟩) (n + 1) c) := (World.cell?_of_block (w := w) (a := ⟨h, 3, none⟩) eH).trans H.h3
  have hs3 : ∀ k, k ≠ h → (w3.setCell ⟨h, 3, none⟩ (.slice (some ⟨b, 0, none⟩) n c)).heap[k]? = w3.heap[k]? := fun k hk => Below.heap_setCell w3 ⟨h, 3, none⟩ _ k hk
  have hdl : (ls.drop 1).length = n := by rw [List.length_drop]; omega
  refine ⟨c3, (World.frozen?_of_block (w := w) (a := ⟨h, 3, none⟩) eH).trans (H.fH 3), ?_, ?_, ?_, World.cell?_setCell_same _ _ _ c3, fun j => ?_, ⟨xs.drop 3, ?_, fun i hi => ?_⟩, H.hk, fun i hi => ?_, fun i hi => ?_, fun i j hi hj e => ?_, fun i hi => ?_, fun i hi j => ?_, fun i hi => ?_, fun i hi => ?_, ?_⟩
  · rw [World.cell?_setCell_other _ _ _ _ (by simp)]
    exact (World.cell?_of_block (w := w) (a := ⟨h, 0, none⟩) eH).trans H.h0
  · rw [World.cell?_setCell_other _ _ _ _ (by simp)]
    exact (World.cell?_of_block (w := w) (a := ⟨h, 1, none⟩) eH).trans H.h1
  · rw [World.cell?_setCell_other _ _ _ _ (by simp)]
    exact (World.cell?_of_block (w := w) (a := ⟨h, 2, none⟩) eH).trans H.h2
  · rw [World.frozen?_setCell]
    exact (World.frozen?_of_block (w := w) (a := ⟨h, j, none⟩) eH).trans (H.fH j)
  · rw [hdl]
    exact own_kept ho (fun k hk => hs3 k (fun e => hhb (by injection hk with hk; rw [← e]; exact hk)))
  · rw [hdl] at hi
    obtain ⟨a0, a1, a2⟩ := hc (1 + i) (by omega)
    rw [rget_drop, List.getElem?_drop, List.getElem?_drop, List.getElem?_drop, show 3 + i * 3 = (1 + i) * 3 by omega, show 3 + (i * 3 + 1) = (1 + i) * 3 + 1 by omega, show 3 + (i * 3 + 2) = (1 + i) * 3 + 2 by omega]
    exact ⟨a0, a1, a2⟩
  · rw [hdl] at hi; exact H.kg (1 + i) (by omega)
  · rw [hdl] at hi; exact H.Hg (1 + i) (by omega)
  · rw [hdl] at hi hj; have := H.gi (1 + i) (1 + j) (by omega) (by omega) e; omega
  · rw [hdl] at hi
    rw [rget_drop]
    exact fun j hj => (World.cell?_of_block (w := w) (a := ⟨ds (1 + i), 0 + j, none⟩) ((hs3 _ (H.Hg (1 + i) (by omega))).trans (eD (1 + i) (by omega)))).trans (H.data (1 + i) (by omega) j hj)
  · rw [hdl] at hi
    exact (World.frozen?_of_block (w := w) (a := ⟨ds (1 + i), j, none⟩) ((hs3 _ (H.Hg (1 + i) (by omega))).trans (eD (1 + i) (by omega)))).trans (H.free (1 + i) (by omega) j)
  · rw [hdl] at hi; rw [rget_drop]; exact H.len (1 + i) (by omega)
  · rw [hdl] at hi; rw [rget_drop]; exact H.st (1 + i) (by omega)
  · rw [hdl]; have := H.le; omega
end
/-! ### What draining makes, by those that are there -/
section
variable {rs pre ls : List Rc}
theorem Split.stop (S : Split rs pre ls) : ∀ k, k ≤ pre.length → stopT rs (rs.length - k) k = drainK rs
  | 0, _ => rfl
  | k + 1, hk => by
    have hl : rs.length = pre.length + ls.length := by rw [S.eq, List.length_append]
    rw [← S.stop k (by omega), drain_stop (k := k) (by omega), if_neg (by rw [S.low (by omega)]; decide)]
theorem Split.audLow (S : Split rs pre ls) : ∀ k, k ≤ pre.length → audT rs k = []
  | 0, _ => rfl
  | k + 1, hk => by
    show audT rs k ++ _ = []
    rw [S.audLow k (by omega), S.eq, rget_pre (by omega), isTold, S.gone k (by omega)]
    rfl
theorem Split.aud (S : Split rs pre ls) : ∀ k, k ≤ ls.length → audT rs (pre.length + k) = audT ls k
  | 0, _ => S.audLow _ (Nat.le_refl _)
  | k + 1, hk => by
    show audT rs (pre.length + k) ++ (if isTold (rget rs (pre.length + k)) = true then [((rget rs (pre.length + k)).own, (rget rs (pre.length + k)).b)] else []) = audT ls k ++ _
    rw [S.aud k (by omega), S.eq, rget_post]
theorem goneT_low {rs : List Rc} : ∀ k, k ≤ rs.length → ∀ j, j < k → (rget (goneT rs k) j).gone = true
  | 0, _, j, hj => by omega
  | k + 1, hk, j, hj => by
    show (rget (setGone (goneT rs k) k) j).gone = true
    rw [setGone, rget_set (by rw [goneT_len]; omega)]
    by_cases e : k = j
    · rw [if_pos e]
    · rw [if_neg e]; exact goneT_low k (by omega) j (by omega)
theorem rget_take {l : List Rc} {n i : Nat} (h : i < n) : rget (l.take n) i = rget l i := by
  unfold rget
  rw [List.getD_eq_getElem?_getD, List.getD_eq_getElem?_getD, List.getElem?_take, if_pos h]
theorem list_ext {a b : List Rc} (hl : a.length = b.length) (h : ∀ i, i < a.length → rget a i = rget b i) : a = b := by
  apply List.ext_getElem hl
  intro i h1 h2
  have := h i h1
  unfold rget at this
  rw [List.getD_eq_getElem?_getD, List.getD_eq_getElem?_getD, List.getElem?_eq_getElem h1, List.getElem?_eq_getElem h2] at this
  exact this
/-- What is there behind k more that are gone. -/
theorem Split.goneBy (S : Split rs pre ls) {k : Nat} (hk : k ≤ ls.length) : Split (goneT rs (pre.length + k)) ((goneT rs (pre.length + k)).take (pre.length + k)) (ls.drop k) := by
  have hl : rs.length = pre.length + ls.length := by rw [S.eq, List.length_append]
  have hgl := goneT_len rs (pre.length + k)
  have htl : ((goneT rs (pre.length + k)).take (pre.length + k)).length = pre.length + k := by rw [List.length_take, hgl]; omega
  refine ⟨?_, fun i hi => ?_, fun i hi => ?_⟩
  · refine list_ext (by rw [List.length_append, htl, hgl, List.length_drop]; omega) fun i hi => ?_
    rw [hgl] at hi
    by_cases e : i < pre.length + k
    · rw [rget_pre (by rw [htl]; exact e), rget_take e]
    · obtain ⟨j, rfl⟩ : ∃ j, i = pre.length + k + j := ⟨i - (pre.length + k), by omega⟩
      have := rget_post (pre := (goneT rs (pre.length + k)).take (pre.length + k)) (ls := ls.drop k) (i := j)
      rw [htl] at this
      rw [this, rget_drop, goneT_get _ (by omega) _ (by omega), S.eq, Nat.add_assoc, rget_post]
  · rw [htl] at hi
    rw [rget_take hi]
    exact goneT_low _ (by omega) _ hi
  · rw [List.length_drop] at hi
    rw [rget_drop]
    exact S.there _ (by omega)
end
/-- How far draining has come. -/
structure Pda (W wr : World) (h : Nat) (room drops : Int) (g : Nat) (kv kw : Value) (ds : Nat → Nat) (ls : List Rc) (k : Nat) (v : Value) (l : List (Int × Nat × List Int)) : Prop where
  pr : Pr wr h room drops (g + k) kw (fun i => ds (k + i)) (ls.drop k)
  blk : kw.ownBlock = kv.ownBlock
  own : wr.ownsRow W.heap.size 53 2 v l.length (flatA l)
  t : Turned (fun b => b = h ∨ some b = kv.ownBlock) W wr
  lt : ∀ b, PrS h kv ds ls.length b → b < W.heap.size
def Pda.gone (h : Nat) (w : World) : Nat := match w.cell? ⟨h, 2, none⟩ with
  | some (.int _ n) => n.toNat
  | _ => 0
theorem gone_at {w : World} {h g : Nat} (c : w.cell? ⟨h, 2, none⟩ = some (.int .i64 (g : Int))) : Pda.gone h w = g := by
  unfold Pda.gone
  rw [c]
  simp
end Go.Proofs.Ythpfockaipbhgaa
