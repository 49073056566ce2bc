/-
  Proved here: what a ring of the document is in memory, and what Has and Used of it tell. Conditions: as each says.
-/
import Derived.Test.YthpfockaipbhgaaBase
import Derived.Laws.OwnMore
import Derived.LoopTactic
import Derived.RegionTactic
import Derived.BigRegion
import Derived.Deep.QuietTactic
import Derived.BigQuiet
import Derived.Deep.RegionWith
import Derived.Deep.RegionHeld
import Derived.Deep.DeepCutAuto
namespace Go.Proofs.Ythpfockaipbhgaa
open Go.RowKit

/-- A record: its owner, its state, its bytes, is it gone? -/
structure Rc where
  own : Int
  st : Int
  b : List Int
  gone : Bool
deriving Inhabited
def Rc.d : Rc := ⟨0, 0, [], false⟩
def rget (rs : List Rc) (i : Nat) : Rc := rs.getD i Rc.d
theorem rget_set {rs : List Rc} {i j : Nat} {r : Rc} (hi : i < rs.length) : rget (rs.set i r) j = if i = j then r else rget rs j := by
  unfold rget
  rw [List.getD_eq_getElem?_getD, List.getElem?_set]
  split
  · rename_i h; subst h; simp
  · rw [List.getD_eq_getElem?_getD]
theorem rget_snoc {rs : List Rc} {j : Nat} {r : Rc} : rget (rs ++ [r]) j = if j < rs.length then rget rs j else if j = rs.length then r else Rc.d := by
  unfold rget
  rw [List.getD_eq_getElem?_getD, List.getElem?_append]
  split
  · rw [List.getD_eq_getElem?_getD]
  · rename_i h
    by_cases e : j = rs.length
    · subst e; simp
    · rw [if_neg e, List.getElem?_eq_none (by simp; omega)]; rfl
/-- The records' cells. -/
def RcCells (xs : List Value) (gs : Nat → Nat) (rs : List Rc) : Prop :=
  ∀ i, i < rs.length → xs[i * 4]? = some (.int .i64 (rget rs i).own) ∧ xs[i * 4 + 1]? = some (.int .i64 (rget rs i).st) ∧ xs[i * 4 + 2]? = some (.slice (some ⟨gs i, 0, none⟩) (rget rs i).b.length (rget rs i).b.length) ∧ xs[i * 4 + 3]? = some (.bool (rget rs i).gone)
/-- The ring of the document in memory. -/
structure Rg (w : World) (H : Nat) (room drops : Int) (kv : Value) (gs : Nat → Nat) (rs : List Rc) : Prop where
  h0 : w.cell? ⟨H, 0, none⟩ = some (.int .i64 room)
  h1 : w.cell? ⟨H, 1, none⟩ = some (.int .i64 drops)
  h2 : w.cell? ⟨H, 2, none⟩ = some kv
  fH : ∀ j, w.frozen? ⟨H, j, none⟩ = false
  row : ∃ xs, w.ownsRow 0 46 4 kv rs.length xs ∧ RcCells xs gs rs
  hk : some H ≠ kv.ownBlock
  kg : ∀ i, i < rs.length → some (gs i) ≠ kv.ownBlock
  Hg : ∀ i, i < rs.length → gs i ≠ H
  gi : ∀ i j, i < rs.length → j < rs.length → gs i = gs j → i = j
  data : ∀ i, i < rs.length → RowAt w (gs i) 0 (rget rs i).b.length (rget rs i).b
  free : ∀ i, i < rs.length → ∀ j, w.frozen? ⟨gs i, j, none⟩ = false
  len : ∀ i, i < rs.length → 1 ≤ (rget rs i).b.length ∧ (rget rs i).b.length ≤ 32
  le : rs.length ≤ 1000
/-- The records' row, to be looked at. -/
structure RcRow (w : World) (a : Option Addr) (gs : Nat → Nat) (rs : List Rc) : Prop where
  at_ : 0 < rs.length → ∃ g, a = some ⟨g, 0, none⟩ ∧ g < w.heap.size ∧ (∀ j, w.frozen? ⟨g, j, none⟩ = false) ∧ ∀ i, i < rs.length → w.cell? ⟨g, i * 4, none⟩ = some (.int .i64 (rget rs i).own) ∧ w.cell? ⟨g, i * 4 + 1, none⟩ = some (.int .i64 (rget rs i).st) ∧ w.cell? ⟨g, i * 4 + 2, none⟩ = some (.slice (some ⟨gs i, 0, none⟩) (rget rs i).b.length (rget rs i).b.length) ∧ w.cell? ⟨g, i * 4 + 3, none⟩ = some (.bool (rget rs i).gone)
section
variable {w w' : World} {H : Nat} {room drops : Int} {kv : Value} {gs : Nat → Nat} {rs : List Rc}
theorem Rg.shape (h : Rg w H room drops kv gs rs) : ∃ a c, kv = .slice a rs.length c ∧ RcRow w a gs rs := by
  obtain ⟨xs, hx, hc⟩ := h.row
  rcases hx.2 with ⟨rfl, h0⟩ | ⟨g, cap, cur, hv, hg, hh, -⟩
  · exact ⟨none, 0, by rw [h0], ⟨fun hp => by omega⟩⟩
  · subst hv
    refine ⟨_, cap, rfl, ⟨fun _ => ⟨g, rfl, (Array.getElem?_eq_some_iff.1 hh).1, fun j => hx.frozenAt j, fun i hi => ?_⟩⟩⟩
    obtain ⟨h1, h2, h3, h4⟩ := hc i hi
    exact ⟨(hx.cellAt _ (by omega)).trans h1, (hx.cellAt _ (by omega)).trans h2, (hx.cellAt _ (by omega)).trans h3, (hx.cellAt _ (by omega)).trans h4⟩
/-- The document's blocks. -/
def RgS (H : Nat) (kv : Value) (gs : Nat → Nat) (n : Nat) : Nat → Prop := fun b => b = H ∨ some b = kv.ownBlock ∨ ∃ i, i < n ∧ b = gs i
theorem own_lt {e : TypeId} {m n : Nat} {v : Value} {xs : List Value} (h : w.ownsRow 0 e m v n xs) : ∀ b, some b = v.ownBlock → b < w.heap.size := fun b hb => (h.lt b hb.symm).2
theorem own_kept {e : TypeId} {m n : Nat} {v : Value} {xs : List Value} (h : w.ownsRow 0 e m v n xs) (k : ∀ b, some b = v.ownBlock → w'.heap[b]? = w.heap[b]?) : w'.ownsRow 0 e m v n xs := by
  refine ⟨h.1, ?_⟩
  rcases h.2 with h2 | ⟨g, cap, cur, rfl, hg, hh, r⟩
  · exact .inl h2
  · exact .inr ⟨g, cap, cur, rfl, hg, by rw [k g rfl]; exact hh, r⟩
theorem Rg.lt (h : Rg w H room drops kv gs rs) : ∀ b, RgS H kv gs rs.length b → b < w.heap.size := by
  rintro b (rfl | hb | ⟨i, hi, rfl⟩)
  · exact cell_block_lt h.h0
  · obtain ⟨xs, hx, -⟩ := h.row
    exact own_lt hx b hb
  · exact cell_block_lt (h.data i hi 0 (by have := h.len i hi; omega))
theorem Rg.kept (h : Rg w H room drops kv gs rs) (e : ∀ b, RgS H kv gs rs.length b → w'.heap[b]? = w.heap[b]?) : Rg w' H room drops kv gs rs := by
  have eH := e H (.inl rfl)
  obtain ⟨xs, hx, hc⟩ := h.row
  exact ⟨(World.cell?_of_block (w := w) eH).trans h.h0, (World.cell?_of_block (w := w) eH).trans h.h1, (World.cell?_of_block (w := w) eH).trans h.h2, fun j => (World.frozen?_of_block (w := w) (a := ⟨H, j, none⟩) eH).trans (h.fH j),
    ⟨xs, own_kept hx (fun b hb => e b (.inr (.inl hb))), hc⟩, h.hk, h.kg, h.Hg, h.gi, fun i hi j hj => (World.cell?_of_block (w := w) (a := ⟨gs i, 0 + j, none⟩) (e _ (.inr (.inr ⟨i, hi, rfl⟩)))).trans (h.data i hi j hj),
    fun i hi j => (World.frozen?_of_block (w := w) (a := ⟨gs i, j, none⟩) (e _ (.inr (.inr ⟨i, hi, rfl⟩)))).trans (h.free i hi j), h.len, h.le⟩
theorem Rg.stay (h : Rg w H room drops kv gs rs) (hb : Below w.heap.size w w') : Rg w' H room drops kv gs rs := h.kept fun b hS => hb.block b (h.lt b hS)
end
/-! ### Has -/
def hasR (rs : List Rc) (id : Int) : Bool := decide (0 ≤ id ∧ id < rs.length) && (!(rget rs id.toNat).gone && decide ((rget rs id.toNat).st = 0))
theorem hasR_nat {rs : List Rc} {i : Nat} (hi : i < rs.length) : hasR rs (i : Int) = (!(rget rs i).gone && decide ((rget rs i).st = 0)) := by
  unfold hasR
  rw [Int.toNat_natCast]
  simp [hi]
theorem hasR_out {rs : List Rc} {id : Int} (h : ¬ (0 ≤ id ∧ id < rs.length)) : hasR rs id = false := by simp [hasR, h]
set_option maxRecDepth 100000 in
theorem rg_has {w : World} {H : Nat} {room drops : Int} {kv : Value} {gs : Nat → Nat} {rs : List Rc} (h : Rg w H room drops kv gs rs) (id : Int) :
    Calls Try.prog 18 #[.pointer (some ⟨H, 0, none⟩), .int .i64 id] w (Ret (.bool (hasR rs id)) w) := by
  obtain ⟨a, c, rfl, hrow⟩ := h.shape
  have c2 := h.h2
  have hle := h.le
  by_cases hin : 0 ≤ id ∧ id < rs.length
  · obtain ⟨h0, h1⟩ := hin
    obtain ⟨i, rfl⟩ := Int.eq_ofNat_of_zero_le h0
    have hi : i < rs.length := by omega
    rw [hasR_nat hi]
    obtain ⟨g, rfl, -, -, hcs⟩ := hrow.at_ (by omega)
    obtain ⟨-, d1, -, d3⟩ := hcs i hi
    obtain ⟨r, hr⟩ : ∃ r, rget rs i = r := ⟨_, rfl⟩
    obtain ⟨m, hm⟩ : ∃ m, rs.length = m := ⟨_, rfl⟩
    rw [hr] at d1 d3 ⊢
    rw [hm] at c2 hi h1 hle
    obtain ⟨ro, rst, rb, rg⟩ := r
    simp only at d1 d3 ⊢
    clear hr hm hcs hrow h h0
    cases rg
    · by_cases e : rst = 0
      · subst e
        go_enter Try.func18, Try.ntmps18
        go_wp2
        go_ret
        exact ⟨rfl, rfl⟩
      · have e2 : (rst == 0) = false := by simpa using e
        go_enter Try.func18, Try.ntmps18
        go_wp2
        go_ret
        exact ⟨by simp [e], rfl⟩
    · go_enter Try.func18, Try.ntmps18
      go_wp2
      go_ret
      exact ⟨rfl, rfl⟩
  · rw [hasR_out hin]
    by_cases h0 : 0 ≤ id
    · have h1 : (rs.length : Int) ≤ id := by omega
      obtain ⟨m, hm⟩ : ∃ m, rs.length = m := ⟨_, rfl⟩
      rw [hm] at c2 h1 hle
      clear h hrow hin hm
      go_enter Try.func18, Try.ntmps18
      go_wp2
      go_ret
      exact ⟨rfl, rfl⟩
    · go_enter Try.func18, Try.ntmps18
      go_wp2
      go_ret
      exact ⟨rfl, rfl⟩
/-! ### Used -/
def usedN (r : Rc) : Nat := if r.gone = true then 0 else 8 + r.b.length
def usedT (rs : List Rc) : Nat → Nat
  | 0 => 0
  | k + 1 => usedT rs k + usedN (rget rs k)
def usedR (rs : List Rc) : Nat := usedT rs rs.length
set_option maxRecDepth 100000 in
theorem rg_used {w : World} {H : Nat} {room drops : Int} {kv : Value} {gs : Nat → Nat} {rs : List Rc} (h : Rg w H room drops kv gs rs) :
    Calls Try.prog 30 #[.pointer (some ⟨H, 0, none⟩)] w (Ret (.int .i64 (usedR rs)) w) := by
  obtain ⟨a, c, rfl, hrow⟩ := h.shape
  have c2 := h.h2
  have hle := h.le
  have HL := Lib.hid h.len
  have HR := Lib.hid hrow
  obtain ⟨m, hm⟩ : ∃ m, rs.length = m := ⟨_, rfl⟩
  rw [hm] at c2 hle
  have HM := Lib.hid hm
  clear h hrow hm
  go_enter Try.func30, Try.ntmps30
  go_wp2
  go_loopw [3, 4] (fun s v wr => ∃ k : Nat, k ≤ m ∧ v = .int .i64 k ∧ s = .int .i64 (usedT rs k) ∧ usedT rs k ≤ k * 40 ∧ wr = w) (fun _ v _ => 1001 - (intOf v).toNat)
  case atStart => exact ⟨0, by omega, rfl, rfl, by simp [usedT], rfl⟩
  case round =>
    obtain ⟨k, hk, rfl, rfl, hu, rfl⟩ := hrel
    by_cases hlt : k < m
    · obtain ⟨g, rfl, -, -, hcs⟩ := HR.out.at_ (by rw [HM.out]; omega)
      obtain ⟨-, -, d2, d3⟩ := hcs k (by rw [HM.out]; omega)
      have hl := HL.out k (by rw [HM.out]; omega)
      obtain ⟨r, hr⟩ : ∃ r, rget rs k = r := ⟨_, rfl⟩
      have HRK := Lib.hid hr
      rw [hr] at d2 d3 hl
      obtain ⟨n, hn⟩ : ∃ n, r.b.length = n := ⟨_, rfl⟩
      have HN := Lib.hid hn
      rw [hn] at d2 hl
      obtain ⟨u, hue⟩ : ∃ u, usedT rs k = u := ⟨_, rfl⟩
      rw [hue] at hu ⊢
      have HU := Lib.hid hue
      clear hcs hr hn hue
      cases hg : r.gone
      · rw [hg] at d3
        have HG := Lib.hid hg
        clear hg
        have hs : usedT rs (k + 1) = u + (8 + n) := by
          show usedT rs k + usedN (rget rs k) = _
          rw [HU.out, HRK.out, usedN, HG.out, HN.out]; rfl
        have HS := Lib.hid hs
        clear hs
        go_wp2
        go_roundw
        case rel => exact ⟨k + 1, by omega, by go_num, by rw [HS.out]; go_num, by rw [HS.out]; omega, trivial⟩
        case measure => simp [intOf]; omega
      · rw [hg] at d3
        have HG := Lib.hid hg
        clear hg
        have hs : usedT rs (k + 1) = u := by
          show usedT rs k + usedN (rget rs k) = _
          rw [HU.out, HRK.out, usedN, HG.out]; rfl
        have HS := Lib.hid hs
        clear hs
        go_wp2
        go_roundw
        case rel => exact ⟨k + 1, by omega, by go_num, by rw [HS.out], by rw [HS.out]; omega, trivial⟩
        case measure => simp [intOf]; omega
    · obtain rfl : k = m := by omega
      go_wp2
      go_ret
      exact ⟨by rw [usedR, HM.out]; rfl, rfl⟩
end Go.Proofs.Ythpfockaipbhgaa
