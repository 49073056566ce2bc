/-
  Proved here: what Find and Keyed of the document's storages tell. Conditions: as each says.
-/
import Derived.Test.YtenjdgoammaiiaaHRefHA
import Derived.Deep.QuietTactic
import Derived.BigQuiet
import Derived.LoopTactic
import Derived.RegionTactic
import Derived.BigRegion
namespace Go.Proofs.Ytenjdgoammaiiaa
open Go.RowKit
set_option maxRecDepth 100000

/-- An object: its number, its generation. -/
abbrev Ob := Int × Int
def obV (o : Ob) : Value := .agg #[.int .i64 o.1, .int .i64 o.2]
def flatO (os : List Ob) : List Value := os.flatMap fun o => [.int .i64 o.1, .int .i64 o.2]
theorem flatO_length (os : List Ob) : (flatO os).length = os.length * 2 := by
  induction os with
  | nil => rfl
  | cons a r ih => rw [flatO, List.flatMap_cons, List.length_append, ← flatO, ih]; simp; omega
theorem flatO_get {os : List Ob} : ∀ {i : Nat}, i < os.length → (flatO os)[i * 2]? = some (.int .i64 (os.getD i (0, 0)).1) ∧ (flatO os)[i * 2 + 1]? = some (.int .i64 (os.getD i (0, 0)).2) := by
  induction os with
  | nil => intro i hi; simp at hi
  | cons a r ih =>
    intro i hi
    cases i with
    | zero => exact ⟨rfl, rfl⟩
    | succ i =>
      obtain ⟨h1, h2⟩ := ih (i := i) (by simpa using hi)
      have e1 : (i + 1) * 2 = i * 2 + 2 := by omega
      rw [e1]
      exact ⟨h1, h2⟩
theorem flatO_snoc (os : List Ob) (o : Ob) : flatO (os ++ [o]) = flatO os ++ [.int .i64 o.1, .int .i64 o.2] := by simp [flatO]
/-- The cells of a row of objects. -/
def ObsAt (w : World) (g : Nat) (os : List Ob) : Prop := ∀ i, i < os.length → w.cell? ⟨g, i * 2, none⟩ = some (.int .i64 (os.getD i (0, 0)).1) ∧ w.cell? ⟨g, i * 2 + 1, none⟩ = some (.int .i64 (os.getD i (0, 0)).2)
theorem obsAt_of_own {w : World} {base g n c : Nat} {os : List Ob} (h : w.ownsRow base 34 2 (.slice (some ⟨g, 0, none⟩) n c) n (flatO os)) : ObsAt w g os := by
  intro i hi
  obtain ⟨h1, h2⟩ := flatO_get hi
  have a1 := h.cells (g := g) rfl (i * 2) _ h1
  have a2 := h.cells (g := g) rfl (i * 2 + 1) _ h2
  rw [add_lit, Nat.zero_add] at a1 a2
  exact ⟨a1, a2⟩
theorem own_len {w : World} {base n : Nat} {v : Value} {os : List Ob} (h : w.ownsRow base 34 2 v n (flatO os)) : os.length = n := by
  have := h.1
  rw [flatO_length] at this
  omega
/-- A slice of objects: none, or a row. -/
def ObSl (w : World) (v : Value) (os : List Ob) : Prop := w.ownsRow 0 34 2 v os.length (flatO os)
theorem ObSl.shape {w : World} {v : Value} {os : List Ob} (h : ObSl w v os) : ∃ a c, v = .slice a os.length c ∧ (0 < os.length → ∃ g, a = some ⟨g, 0, none⟩ ∧ g < w.heap.size ∧ ObsAt w g os) := by
  rcases h.2 with ⟨rfl, h0⟩ | ⟨g, cap, cur, hv, hg, hh, -⟩
  · exact ⟨none, 0, by rw [h0], fun hp => by omega⟩
  · refine ⟨_, cap, hv, fun _ => ⟨g, rfl, (Array.getElem?_eq_some_iff.1 hh).1, ?_⟩⟩
    unfold ObSl at h
    rw [hv] at h
    exact obsAt_of_own h
/-- The document's storage in memory. -/
structure Lf (w : World) (H R B cap s n L : Nat) (kv : Value) (gs : Nat → Nat) (os : List Ob) (zs : List Int) : Prop where
  h0 : w.cell? ⟨H, 0, none⟩ = some kv
  h1 : w.cell? ⟨H, 1, none⟩ = some (.pointer (some ⟨R, 0, none⟩))
  fH : ∀ j, w.frozen? ⟨H, j, none⟩ = false
  ks : ObSl w kv os
  hk : some H ≠ kv.ownBlock
  kR : some R ≠ kv.ownBlock
  kB : some B ≠ kv.ownBlock
  kg : ∀ k, k < n → some (gs k) ≠ kv.ownBlock
  le : os.length ≤ n
  rf : Rf w R B cap s n L gs zs
  HR : H ≠ R
  HB : H ≠ B
  Hg : ∀ k, k < n → gs k ≠ H
  RB : R ≠ B
  fR : ∀ j, w.frozen? ⟨R, j, none⟩ = false
  fB : ∀ j, w.frozen? ⟨B, j, none⟩ = false
/-- The place of an object. -/
def findO (os : List Ob) (o : Ob) : Option Nat := os.findIdx? (· = o)
def findV (os : List Ob) (o : Ob) : Int := match findO os o with
  | some i => (i : Int)
  | none => -1
theorem ob_same {a b : Ob} (h : a = b) : (a.1 == b.1) = true ∧ (a.2 == b.2) = true := by subst h; simp
theorem findO_some {os : List Ob} {o : Ob} {i : Nat} (h : findO os o = some i) : i < os.length ∧ os.getD i (0, 0) = o ∧ ∀ j, j < i → os.getD j (0, 0) ≠ o := by
  obtain ⟨hi, h1, h2⟩ := List.findIdx?_eq_some_iff_getElem.1 h
  refine ⟨hi, ?_, fun j hj e => ?_⟩
  · rw [List.getD_eq_getElem?_getD, List.getElem?_eq_getElem hi]
    simpa using h1
  · have h3 := h2 j hj
    rw [List.getD_eq_getElem?_getD, List.getElem?_eq_getElem (by omega)] at e
    simp only [Option.getD_some] at e
    simp [e] at h3
theorem findO_none {os : List Ob} {o : Ob} (h : findO os o = none) : ∀ j, j < os.length → os.getD j (0, 0) ≠ o := by
  intro j hj e
  have h1 := List.findIdx?_eq_none_iff.1 h (os.getD j (0, 0)) (by
    rw [List.getD_eq_getElem?_getD, List.getElem?_eq_getElem hj]
    exact List.getElem_mem _)
  simp only [decide_eq_false_iff_not] at h1
  exact h1 e
theorem findV_of {os : List Ob} {o : Ob} {k : Nat} (hk : k < os.length) (h1 : os.getD k (0, 0) = o) (h2 : ∀ j, j < k → os.getD j (0, 0) ≠ o) : findV os o = (k : Int) := by
  have : findO os o = some k := by
    unfold findO
    rw [List.findIdx?_eq_some_iff_getElem]
    refine ⟨hk, ?_, fun j hj => ?_⟩
    · rw [List.getD_eq_getElem?_getD, List.getElem?_eq_getElem hk] at h1
      simpa using h1
    · have h3 := h2 j hj
      rw [List.getD_eq_getElem?_getD, List.getElem?_eq_getElem (by omega)] at h3
      simpa using h3
  unfold findV
  rw [this]
theorem findV_none {os : List Ob} {o : Ob} (h : ∀ j, j < os.length → os.getD j (0, 0) ≠ o) : findV os o = -1 := by
  have : findO os o = none := by
    unfold findO
    rw [List.findIdx?_eq_none_iff]
    intro x hx
    obtain ⟨j, hj, rfl⟩ := List.mem_iff_getElem.1 hx
    have := h j hj
    rw [List.getD_eq_getElem?_getD, List.getElem?_eq_getElem hj] at this
    simpa using this
  unfold findV
  rw [this]
theorem lo_find {w : World} {H R B cap s n L : Nat} {kv : Value} {gs : Nat → Nat} {os : List Ob} {zs : List Int} (h : Lf w H R B cap s n L kv gs os zs) (hn : n ≤ 16) (x y : Int) :
    Calls Try.prog 79 #[.pointer (some ⟨H, 0, none⟩), .agg #[.int .i64 x, .int .i64 y]] w (fun e w' => e = .returned (.int .i64 (findV os (x, y))) ∧ Below w.heap.size w w') := by
  have c0 := h.h0
  obtain ⟨a, c, rfl, hrow⟩ := h.ks.shape
  have hHl : H < w.heap.size := cell_block_lt c0
  have hle := h.le
  have hb0 : Below w.heap.size w (w.alloc (.cells #[.int .i64 x, .int .i64 y] 34)) := (Below.refl _ _).alloc (Nat.le_refl _) _
  have HB0 := Lib.hid hb0
  have hx : (w.alloc (.cells #[.int .i64 x, .int .i64 y] 34)).cell? ⟨w.heap.size, 0, none⟩ = some (.int .i64 x) := by simp [go_sem]
  have hy : (w.alloc (.cells #[.int .i64 x, .int .i64 y] 34)).cell? ⟨w.heap.size, 1, none⟩ = some (.int .i64 y) := by simp [go_sem]
  have HX := Lib.hid (And.intro hx hy)
  have HROW := Lib.hid hrow
  have hz1 : (w.alloc (.cells #[.int .i64 x, .int .i64 y] 34)).heap.size = w.heap.size + 1 := by simp
  clear h hb0 hx hy hrow
  go_enter Try.func79, Try.ntmps79
  go_wp2
  go_loopw [5] (fun v wr => ∃ k : Nat, k ≤ os.length ∧ v = .int .i64 k ∧ Below (w.heap.size + 1) (w.alloc (.cells #[.int .i64 x, .int .i64 y] 34)) wr ∧ ∀ j, j < k → os.getD j (0, 0) ≠ (x, y)) (fun v _ => 17 - (intOf v).toNat)
  case atStart => exact ⟨0, by omega, rfl, by rw [← hz1]; exact Below.refl _ _, fun j hj => by omega⟩
  case round =>
    obtain ⟨k, hk, rfl, hb, hno⟩ := hrel
    have hbw : Below w.heap.size w wr := HB0.out.trans (hb.mono (by omega))
    have c1 := (hbw.cell (p := ⟨H, 0, none⟩) hHl).trans c0
    have HBW := Lib.hid hbw
    have HNO := Lib.hid hno
    have HBX := Lib.hid hb
    by_cases hlt : k < os.length
    · obtain ⟨g, rfl, hg, hobs⟩ := HROW.out (by omega)
      obtain ⟨d1, d2⟩ := hobs k hlt
      have d1 := (hbw.cell (p := ⟨g, k * 2, none⟩) hg).trans d1
      have d2 := (hbw.cell (p := ⟨g, k * 2 + 1, none⟩) hg).trans d2
      have x1 := (hb.cell (p := ⟨w.heap.size, 0, none⟩) (by show w.heap.size < _; omega)).trans HX.out.1
      have x2 := (hb.cell (p := ⟨w.heap.size, 1, none⟩) (by show w.heap.size < _; omega)).trans HX.out.2
      obtain ⟨o, ho⟩ : ∃ o, os.getD k (0, 0) = o := ⟨_, rfl⟩
      obtain ⟨p, q⟩ := o
      rw [ho] at d1 d2
      have HOB := Lib.hid ho
      clear hobs ho hb hbw hno
      by_cases e1 : p = x
      · subst e1
        by_cases e2 : q = y
        · subst e2
          go_wp2
          go_quiet (fail)
          go_wp2
          go_ret
          exact ⟨by rw [findV_of hlt HOB.out HNO.out]; rfl, bdrewN HBW.out _⟩
        · have hq : (q == y) = false := by simpa using e2
          go_wp2
          go_quiet (fail)
          go_wp2
          go_roundw
          case rel =>
            refine ⟨k + 1, by omega, by go_num, bdrewN HBX.out _, fun j hj => ?_⟩
            by_cases e : j = k
            · rw [e, HOB.out]; intro e3; injection e3 with _ e3; exact e2 e3
            · exact HNO.out j (by omega)
          case measure => simp [intOf]; omega
      · have hp : (p == x) = false := by simpa using e1
        go_wp2
        go_quiet (fail)
        go_wp2
        go_roundw
        case rel =>
          refine ⟨k + 1, by omega, by go_num, bdrewN HBX.out _, fun j hj => ?_⟩
          by_cases e : j = k
          · rw [e, HOB.out]; intro e3; injection e3 with e3 _; exact e1 e3
          · exact HNO.out j (by omega)
        case measure => simp [intOf]; omega
    · obtain rfl : k = os.length := by omega
      clear hb hbw hno
      go_wp2
      go_ret
      exact ⟨by rw [findV_none HNO.out]; rfl, HBW.out⟩
end Go.Proofs.Ytenjdgoammaiiaa

/-
  Proved here: what Get of the document's storages does. Conditions: as each says.
-/
namespace Go.Proofs.Ytenjdgoammaiiaa
open Go.RowKit
set_option maxRecDepth 100000

theorem Turned.setN {S : Nat → Prop} {W w : World} (h : Turned S W w) {a : Addr} (ha : S a.block ∨ W.heap.size ≤ a.block) (v : Value) : Turned S W (w.setCell a v) :=
  ⟨h.os, h.tape, h.output, by simp [World.setCell]; exact h.size, fun k hk hn => by
    rw [Below.heap_setCell _ _ _ _ (fun e => by
      rcases ha with ha | ha
      · exact hn (by rw [e]; exact ha)
      · omega)]
    exact h.block k hk hn⟩
theorem Turned.belowN {S : Nat → Prop} {W wr wx : World} (h : Turned S wr wx) (hb : Below W.heap.size W wr) (hS : ∀ b, S b → W.heap.size ≤ b) : Below W.heap.size W wx :=
  ⟨h.os.trans hb.os, h.tape.trans hb.tape, h.output.trans hb.output, Nat.le_trans hb.size h.size, fun k hk => (h.block k (Nat.lt_of_lt_of_le hk hb.size) (fun hs => by have := hS k hs; omega)).trans (hb.block k hk)⟩
/-- The document's blocks. -/
def LoS (H R B n : Nat) (kv : Value) (gs : Nat → Nat) : Nat → Prop := fun b => b = H ∨ b = R ∨ b = B ∨ some b = kv.ownBlock ∨ ∃ i, i < n ∧ b = gs i
/-- The document's storage, its blocks S. -/
def PD (s n L : Nat) (w : World) (S : Nat → Prop) (H : Nat) (os : List Ob) (zs : List Int) : Prop := ∃ R B cap kv gs, Lf w H R B cap s n L kv gs os zs ∧ ∀ b, S b ↔ LoS H R B n kv gs b
section
variable {w w' : World} {H R B cap s n L : Nat} {kv : Value} {gs : Nat → Nat} {os : List Ob} {zs : List Int}
theorem ObSl.kept (h : ObSl w kv os) (e : ∀ b, some b = kv.ownBlock → w'.heap[b]? = w.heap[b]?) : ObSl w' kv os := by
  refine ⟨h.1, ?_⟩
  rcases h.2 with h2 | ⟨g, cap, cur, rfl, hg, hh, r⟩
  · exact .inl h2
  · exact .inr ⟨g, cap, cur, rfl, hg, by rw [e g rfl]; exact hh, r⟩
theorem ObSl.lt (h : ObSl w kv os) : ∀ b, some b = kv.ownBlock → b < w.heap.size := by
  intro b hb
  rcases h.2 with ⟨rfl, -⟩ | ⟨g, cap, cur, rfl, hg, hh, r⟩
  · cases hb
  · injection hb with hb
    subst hb
    exact (Array.getElem?_eq_some_iff.1 hh).1
theorem Lf.lt (h : Lf w H R B cap s n L kv gs os zs) (hd : Dim s n L) : ∀ b, LoS H R B n kv gs b → b < w.heap.size := by
  rintro b (rfl | rfl | rfl | hb | ⟨i, hi, rfl⟩)
  · exact cell_block_lt h.h0
  · exact h.rf.ltR
  · exact h.rf.ltB hd.n0
  · exact h.ks.lt b hb
  · exact h.rf.ltG hd.s0 hi
theorem Lf.kept (h : Lf w H R B cap s n L kv gs os zs) (e : ∀ b, LoS H R B n kv gs b → w'.heap[b]? = w.heap[b]?) : Lf w' H R B cap s n L kv gs os zs := by
  have eH := e H (.inl rfl)
  have eR := e R (.inr (.inl rfl))
  have eB := e B (.inr (.inr (.inl rfl)))
  exact ⟨(World.cell?_of_block (w := w) eH).trans h.h0, (World.cell?_of_block (w := w) eH).trans h.h1, fun j => (World.frozen?_of_block (w := w) (a := ⟨H, j, none⟩) eH).trans (h.fH j), h.ks.kept (fun b hb => e b (.inr (.inr (.inr (.inl hb))))), h.hk, h.kR, h.kB, h.kg, h.le,
    h.rf.kept eR eB (fun k hk => e _ (.inr (.inr (.inr (.inr ⟨k, hk, rfl⟩))))), h.HR, h.HB, h.Hg, h.RB, fun j => (World.frozen?_of_block (w := w) (a := ⟨R, j, none⟩) eR).trans (h.fR j), fun j => (World.frozen?_of_block (w := w) (a := ⟨B, j, none⟩) eB).trans (h.fB j)⟩
theorem Lf.stay (h : Lf w H R B cap s n L kv gs os zs) (hd : Dim s n L) (hb : Below w.heap.size w w') : Lf w' H R B cap s n L kv gs os zs := h.kept fun b hS => hb.block b (h.lt hd b hS)
end
/-- A slot made all zeros. -/
def zeroS (zs : List Int) (s k : Nat) : List Int := (List.range zs.length).map fun j => if j / s = k then 0 else zs.getD j 0
theorem range_get {L : Nat} {f : Nat → Int} {j : Nat} (hj : j < L) : ((List.range L).map f).getD j 0 = f j := by
  rw [List.getD_eq_getElem?_getD, List.getElem?_map, List.getElem?_range hj]
  rfl
theorem place_div {s k j : Nat} (hj : j < s) : (k * s + j) / s = k := by
  rw [Nat.mul_comm, Nat.mul_add_div (by omega), Nat.div_eq_of_lt hj, Nat.add_zero]
theorem zeroS_length (zs : List Int) (s k : Nat) : (zeroS zs s k).length = zs.length := by simp [zeroS]
theorem zeroS_get {zs : List Int} {s n L k i j : Nat} (hd : Dim s n L) (hz : zs.length = L) (hi : i < n) (hj : j < s) : (zeroS zs s k).getD (i * s + j) 0 = if i = k then 0 else zs.getD (i * s + j) 0 := by
  have := hd.at hi
  unfold zeroS
  rw [range_get (by omega), place_div hj]
/-- What getting an object answers, and makes. -/
def getR (os : List Ob) (zs : List Int) (s n : Nat) (o : Ob) (c : Bool) : Int × Int × List Ob × List Int := match findO os o with
  | some i => (i, 0, os, zs)
  | none => if c = false then (0, 2, os, zs) else if os.length = n then (0, 28, os, zs) else (os.length, 0, os ++ [o], zeroS zs s os.length)
def GetP (PS : World → (Nat → Prop) → Nat → List Ob → List Int → Prop) (D : Nat → Prop) (h : Nat) (r : Int × Int × List Ob × List Int) (W : World) (e : Ending) (w : World) : Prop :=
  ∃ D', e = .returned (.tuple #[.int .i64 r.1, .int .i64 r.2.1]) ∧ PS w D' h r.2.2.1 r.2.2.2 ∧ Turned D W w ∧ ∀ b, D' b → D b ∨ W.heap.size ≤ b
theorem key_info : (Try.prog.info? 34).map (fun i => (i.zero, i.size, i.bytes)) = some (some (.agg #[.int .i64 0, .int .i64 0]), 2, 16) := by kernel_rfl
theorem obs_push {w : World} {H : Nat} {v : Value} {os : List Ob} (x y : Int) (hc : w.cell? ⟨H, 0, none⟩ = some v) (hs : ObSl w v os) (hne : some H ≠ v.ownBlock) (hl : os.length ≤ 15) :
    ∃ a2 c2 W3, (appendV #[83, 83] 83 #[v, .slice (some ⟨w.heap.size, 0, none⟩) 1 1]).run Try.prog (w.alloc (.cells #[.int .i64 x, .int .i64 y] 34)).drew = .ok (.slice a2 (os.length + 1) c2) W3 ∧
      W3.heap[H]? = w.heap[H]? ∧ ObSl W3 (.slice a2 (os.length + 1) c2) (os ++ [(x, y)]) ∧ (∀ b, b < w.heap.size → some b ≠ v.ownBlock → W3.heap[b]? = w.heap[b]?) ∧ W3.os = w.os ∧ W3.tape = w.tape ∧ W3.output = w.output ∧ w.heap.size ≤ W3.heap.size ∧
      (∀ b, some b = (Value.slice a2 (os.length + 1) c2).ownBlock → some b = v.ownBlock ∨ w.heap.size ≤ b) := by
  obtain ⟨i0, hi0, hz0, hz1, hz2⟩ := info_parts key_info
  have hH := cell_block_lt hc
  have hown : (w.alloc (.cells #[.int .i64 x, .int .i64 y] 34)).drew.ownsRow 0 34 2 v os.length (flatO os) := World.ownsRow.alloc hs _
  have hn : (w.alloc (.cells #[.int .i64 x, .int .i64 y] 34)).heap[w.heap.size]? = some (.cells #[.int .i64 x, .int .i64 y] 34 (0, 0)) := heap_alloc_new w _
  obtain ⟨v', W3, hrun, hown3, hgr, -, hat⟩ := run_append_own_at (P := Try.prog) (w.alloc (.cells #[.int .i64 x, .int .i64 y] 34)).drew 0 83 83 34 i0 _ 2 16 Try.underlying83 hi0 hz0 hz1 hz2 rfl (by omega) v os.length (flatO os) hown
    ⟨w.heap.size, 0, none⟩ 1 1 [.int .i64 x, .int .i64 y] rfl (fun j u hu => by
      rw [add_lit, Nat.zero_add]
      show (w.alloc (.cells #[.int .i64 x, .int .i64 y] 34)).cell? ⟨w.heap.size, j, none⟩ = some u
      unfold World.cell?
      simp only [hn]
      simpa using hu) (fun u hu => by simp at hu; rcases hu with rfl | rfl <;> rfl) (by unfold maxLen; omega) (by omega) (by omega)
  rw [show flatO os ++ [Value.int .i64 x, .int .i64 y] = flatO (os ++ [(x, y)]) from (flatO_snoc os (x, y)).symm] at hown3
  obtain ⟨a2, c2, rfl⟩ : ∃ a2 c2, v' = .slice a2 (os.length + 1) c2 := by
    rcases hown3.2 with ⟨_, h0⟩ | ⟨g, cap, cur, hv, -⟩
    · omega
    · exact ⟨_, cap, hv⟩
  have hold : ∀ b, b < w.heap.size → some b ≠ v.ownBlock → W3.heap[b]? = w.heap[b]? := fun b hb hn2 => by
    rw [hgr.block b (by simp; omega) hn2]
    exact Below.heap_alloc _ _ _ hb
  have hz : w.heap.size + 1 ≤ W3.heap.size := by have := hgr.size; simpa using this
  refine ⟨a2, c2, W3, hrun, hold H hH hne, ?_, hold, hgr.os, hgr.tape, hgr.output, by omega, fun b hb => ?_⟩
  · unfold ObSl
    rw [List.length_append]
    exact hown3
  · rcases hat with h1 | h1
    · exact .inl (by rw [← h1]; exact hb)
    · rw [h1] at hb
      simp at hb
      exact .inr (by omega)
end Go.Proofs.Ytenjdgoammaiiaa

/-
  Proved here: Get of the document's storages, walked. Conditions: as each says.
-/
namespace Go.Proofs.Ytenjdgoammaiiaa
open Go.RowKit
set_option maxRecDepth 100000

attribute [local go_sem ↓] append_veil
section
variable {H R B cap s n L : Nat} {kv : Value} {gs : Nat → Nat} {os : List Ob} {zs : List Int}
/-- A slot's bytes are a new row of zeros. -/
theorem Lf.zeroed {W : World} {k : Nat} (h : Lf W H R B cap s n L kv gs os zs) (hd : Dim s n L) (_hk : k < n) : Lf ((W.alloc (.cells (u8s (zeros s)).toArray 5)).setCell ⟨B, k, none⟩ (.slice (some ⟨W.heap.size, 0, none⟩) s s)) H R B cap s n L kv (fun j => if j = k then W.heap.size else gs j) os (zeroS zs s k) := by
  have hlt := h.lt hd
  have h2 := h.stay hd ((Below.refl W.heap.size W).alloc (Nat.le_refl _) (.cells (u8s (zeros s)).toArray 5))
  have hnew : (W.alloc (.cells (u8s (zeros s)).toArray 5)).heap[W.heap.size]? = some (.cells (u8s (zeros s)).toArray 5 (0, 0)) := heap_alloc_new W _
  generalize hW2 : W.alloc (.cells (u8s (zeros s)).toArray 5) = W2 at h2 hnew ⊢
  have hBl : B < W.heap.size := hlt B (.inr (.inr (.inl rfl)))
  have eb : ∀ b, b ≠ B → (W2.setCell ⟨B, k, none⟩ (.slice (some ⟨W.heap.size, 0, none⟩) s s)).heap[b]? = W2.heap[b]? := fun b hb => Below.heap_setCell _ _ _ _ hb
  have eH := eb H h.HB
  have eR := eb R h.RB
  have enew := (eb W.heap.size (by omega)).trans hnew
  have hgl : ∀ j, j < n → gs j < W.heap.size := fun j hj => hlt (gs j) (.inr (.inr (.inr (.inr ⟨j, hj, rfl⟩))))
  have hgB : ∀ j, j < n → gs j ≠ B := fun j hj e => h.rf.neB j hj e
  refine ⟨(World.cell?_of_block (w := W2) (a := ⟨H, 0, none⟩) eH).trans h2.h0, (World.cell?_of_block (w := W2) (a := ⟨H, 1, none⟩) eH).trans h2.h1, fun j => (World.frozen?_of_block (w := W2) (a := ⟨H, j, none⟩) eH).trans (h2.fH j), h2.ks.kept (fun b hb => eb b (fun e => h.kB (by rw [← e]; exact hb))), h.hk, h.kR, h.kB, fun j hj => ?_, h.le, ⟨(World.cell?_of_block (w := W2) (a := ⟨R, 0, none⟩) eR).trans h2.rf.r0, (World.cell?_of_block (w := W2) (a := ⟨R, 1, none⟩) eR).trans h2.rf.r1, fun j hj => ?_, fun i j hi hj => ?_, fun i j hi => ?_, by rw [zeroS_length]; exact h.rf.len, fun i j hi hj e => ?_, fun j hj => ?_, fun j hj => ?_⟩, h.HR, h.HB, fun j hj => ?_, h.RB, fun j => (World.frozen?_of_block (w := W2) (a := ⟨R, j, none⟩) eR).trans (h2.fR j), fun j => by rw [World.frozen?_setCell]; exact h2.fB j⟩
  · by_cases e : j = k
    · simp only [if_pos e]
      intro e2
      have := h.ks.lt _ e2
      omega
    · simp only [if_neg e]; exact h.kg j hj
  · rw [cell_set (h2.rf.rows j hj)]
    by_cases e : k = j
    · subst e; simp
    · rw [if_neg e, if_neg (fun e2 => e e2.symm)]
  · rw [zeroS_get hd h.rf.len hi hj]
    by_cases e : i = k
    · simp only [if_pos e]
      unfold World.cell?
      simp only [enew]
      simp [u8s, zeros, hj]
    · simp only [if_neg e]
      exact (World.cell?_of_block (w := W2) (a := ⟨gs i, j, none⟩) (eb _ (hgB i hi))).trans (h2.rf.row i j hi hj)
  · by_cases e : i = k
    · simp only [if_pos e]
      unfold World.frozen?
      simp only [enew]
      simp
    · simp only [if_neg e]
      exact (World.frozen?_of_block (w := W2) (a := ⟨gs i, j, none⟩) (eb _ (hgB i hi))).trans (h2.rf.free i j hi)
  · by_cases e1 : i = k <;> by_cases e2 : j = k
    · omega
    · simp only [if_pos e1, if_neg e2] at e
      have := hgl j hj; omega
    · simp only [if_neg e1, if_pos e2] at e
      have := hgl i hi; omega
    · simp only [if_neg e1, if_neg e2] at e
      exact h.rf.inj i j hi hj e
  · by_cases e : j = k
    · simp only [if_pos e]
      have := h.rf.ltR; omega
    · simp only [if_neg e]; exact h.rf.neR j hj
  · by_cases e : j = k
    · simp only [if_pos e]; omega
    · simp only [if_neg e]; exact h.rf.neB j hj
  · by_cases e : j = k
    · simp only [if_pos e]
      have := hlt H (.inl rfl); omega
    · simp only [if_neg e]; exact h.Hg j hj
/-- One object more. -/
theorem Lf.pushed {W W3 : World} {a2 : Option Addr} {c2 : Nat} {x y : Int} (h : Lf W H R B cap s n L kv gs os zs) (hd : Dim s n L) (hroom : os.length < n) (hH : W3.heap[H]? = W.heap[H]?) (ho : ObSl W3 (.slice a2 (os.length + 1) c2) (os ++ [(x, y)])) (hold : ∀ b, b < W.heap.size → some b ≠ kv.ownBlock → W3.heap[b]? = W.heap[b]?)
    (hv : ∀ b, some b = (Value.slice a2 (os.length + 1) c2).ownBlock → some b = kv.ownBlock ∨ W.heap.size ≤ b) : Lf (W3.setCell ⟨H, 0, none⟩ (.slice a2 (os.length + 1) c2)) H R B cap s n L (.slice a2 (os.length + 1) c2) gs (os ++ [(x, y)]) zs := by
  have hlt := h.lt hd
  have hvn : ∀ b, b < W.heap.size → some b ≠ kv.ownBlock → some b ≠ (Value.slice a2 (os.length + 1) c2).ownBlock := fun b hb hn e => by
    rcases hv b e with h1 | h1
    · exact hn h1
    · omega
  have eb : ∀ b, b < W.heap.size → b ≠ H → some b ≠ kv.ownBlock → (W3.setCell ⟨H, 0, none⟩ (.slice a2 (os.length + 1) c2)).heap[b]? = W.heap[b]? := fun b h1 h2 h3 => (Below.heap_setCell _ _ _ _ h2).trans (hold b h1 h3)
  have hHl := hlt H (.inl rfl)
  have eR := eb R (hlt R (.inr (.inl rfl))) (fun e => h.HR e.symm) h.kR
  have eB := eb B (hlt B (.inr (.inr (.inl rfl)))) (fun e => h.HB e.symm) h.kB
  have eg : ∀ k, k < n → (W3.setCell ⟨H, 0, none⟩ (.slice a2 (os.length + 1) c2)).heap[gs k]? = W.heap[gs k]? := fun k hk => eb _ (hlt _ (.inr (.inr (.inr (.inr ⟨k, hk, rfl⟩))))) (h.Hg k hk) (h.kg k hk)
  have hHo := hvn H hHl h.hk
  refine ⟨World.cell?_setCell_same _ _ _ ((World.cell?_of_block (w := W) (a := ⟨H, 0, none⟩) hH).trans h.h0), ?_, fun j => ?_, ho.kept (fun b hb => Below.heap_setCell _ _ _ _ (fun e => hHo (by simp only at e; rw [← e]; exact hb))), hHo, hvn R (hlt R (.inr (.inl rfl))) h.kR, hvn B (hlt B (.inr (.inr (.inl rfl)))) h.kB, fun k hk => hvn _ (hlt _ (.inr (.inr (.inr (.inr ⟨k, hk, rfl⟩))))) (h.kg k hk), by rw [List.length_append]; exact hroom,
    h.rf.kept eR eB eg, h.HR, h.HB, h.Hg, h.RB, fun j => (World.frozen?_of_block (w := W) (a := ⟨R, j, none⟩) eR).trans (h.fR j), fun j => (World.frozen?_of_block (w := W) (a := ⟨B, j, none⟩) eB).trans (h.fB j)⟩
  · rw [World.cell?_setCell_other _ _ _ _ (by intro e; injection e with _ e _; cases e)]
    exact (World.cell?_of_block (w := W) (a := ⟨H, 1, none⟩) hH).trans h.h1
  · rw [World.frozen?_setCell]
    exact (World.frozen?_of_block (w := W) (a := ⟨H, j, none⟩) hH).trans (h.fH j)
theorem get_same {w w' : World} {e : Ending} {S : Nat → Prop} {x : Int} {k : Int} (h : Lf w H R B cap s n L kv gs os zs) (hd : Dim s n L) (hS : ∀ b, S b ↔ LoS H R B n kv gs b) (he : e = .returned (.tuple #[.int .i64 k, .int .i64 x])) (hb : Below w.heap.size w w') : GetP (PD s n L) S H (k, x, os, zs) w e w' :=
  ⟨S, he, ⟨R, B, cap, kv, gs, h.stay hd hb, hS⟩, Turned.of hb, fun _ hb => .inl hb⟩
theorem findV_some {o : Ob} {i : Nat} (h : findO os o = some i) : findV os o = (i : Int) := by unfold findV; rw [h]
theorem findV_no {o : Ob} (h : findO os o = none) : findV os o = -1 := by unfold findV; rw [h]
theorem box_below (w : World) (o : Obj) : Below w.heap.size w (w.alloc o) := (Below.refl _ _).alloc (Nat.le_refl _) _
theorem lo_get_had {w : World} {x y : Int} {i : Nat} (c : Bool) (h : Lf w H R B cap s n L kv gs os zs) (hd : Dim s n L) (hf : findO os (x, y) = some i) :
    Calls Try.prog 56 #[.pointer (some ⟨H, 0, none⟩), .agg #[.int .i64 x, .int .i64 y], .bool c] w (fun e w' => e = .returned (.tuple #[.int .i64 i, .int .i64 0]) ∧ Below w.heap.size w w') := by
  have h1 := Lib.hid (h.stay hd (box_below w (.cells #[.int .i64 x, .int .i64 y] 34)))
  have HB := Lib.hid (box_below w (.cells #[.int .i64 x, .int .i64 y] 34))
  have hn1 := hd.n1
  have HF := Lib.hid (findV_some hf)
  clear h hf
  go_enter Try.func56, Try.ntmps56
  go_wp2_with (go_at_call 79; refine (lo_find h1.out (by omega) x y).mono ?_; rintro e w1 ⟨he, hb1⟩; rw [HF.out] at he; subst he; have HB1 := Lib.hid hb1; clear hb1)
  go_ret2
  exact ⟨rfl, HB.out.trans (HB1.out.mono HB.out.size)⟩
theorem lo_get_not {w : World} {x y : Int} (h : Lf w H R B cap s n L kv gs os zs) (hd : Dim s n L) (hf : findO os (x, y) = none) :
    Calls Try.prog 56 #[.pointer (some ⟨H, 0, none⟩), .agg #[.int .i64 x, .int .i64 y], .bool false] w (fun e w' => e = .returned (.tuple #[.int .i64 0, .int .i64 2]) ∧ Below w.heap.size w w') := by
  have h1 := Lib.hid (h.stay hd (box_below w (.cells #[.int .i64 x, .int .i64 y] 34)))
  have HB := Lib.hid (box_below w (.cells #[.int .i64 x, .int .i64 y] 34))
  have hn1 := hd.n1
  have HF := Lib.hid (findV_no hf)
  clear h hf
  go_enter Try.func56, Try.ntmps56
  go_wp2_with (go_at_call 79; refine (lo_find h1.out (by omega) x y).mono ?_; rintro e w1 ⟨he, hb1⟩; rw [HF.out] at he; subst he; have HB1 := Lib.hid hb1; clear hb1)
  go_ret2
  exact ⟨rfl, HB.out.trans (HB1.out.mono HB.out.size)⟩
theorem lo_get_full {w : World} {x y : Int} (h : Lf w H R B cap s n L kv gs os zs) (hd : Dim s n L) (hf : findO os (x, y) = none) (hfull : os.length = n) :
    Calls Try.prog 56 #[.pointer (some ⟨H, 0, none⟩), .agg #[.int .i64 x, .int .i64 y], .bool true] w (fun e w' => e = .returned (.tuple #[.int .i64 0, .int .i64 28]) ∧ Below w.heap.size w w') := by
  obtain ⟨a, c, rfl, -⟩ := h.ks.shape
  have h1 := Lib.hid (h.stay hd (box_below w (.cells #[.int .i64 x, .int .i64 y] 34)))
  have HB := Lib.hid (box_below w (.cells #[.int .i64 x, .int .i64 y] 34))
  have hn1 := hd.n1
  have HF := Lib.hid (findV_no hf)
  have HFU := Lib.hid hfull
  have HD := Lib.hid hd
  clear h hf hfull hd
  go_enter Try.func56, Try.ntmps56
  go_wp2_with (go_at_call 79; refine (lo_find h1.out (by omega) x y).mono ?_; rintro e w1 ⟨he, hb1⟩; rw [HF.out] at he; subst he; have HB1 := Lib.hid hb1; have H1 := Lib.hid (h1.out.stay HD.out hb1); have c0 := H1.out.h0; have c1 := H1.out.h1; have r1 := H1.out.rf.r1; rw [HFU.out] at c0; clear hb1)
  go_quiet (fail)
  go_wp2
  go_ret2
  exact ⟨rfl, bdrewN (HB.out.trans (HB1.out.mono HB.out.size)) _⟩
set_option maxHeartbeats 1000000 in
theorem lo_get_new {w : World} {x y : Int} {S : Nat → Prop} (h : Lf w H R B cap s n L kv gs os zs) (hd : Dim s n L) (hS : ∀ b, S b ↔ LoS H R B n kv gs b) (hf : findO os (x, y) = none) (hroom : os.length < n) :
    Calls Try.prog 56 #[.pointer (some ⟨H, 0, none⟩), .agg #[.int .i64 x, .int .i64 y], .bool true] w (GetP (PD s n L) S H (os.length, 0, os ++ [(x, y)], zeroS zs s os.length) w) := by
  obtain ⟨a, c, rfl, -⟩ := h.ks.shape
  have h1 := Lib.hid (h.stay hd (box_below w (.cells #[.int .i64 x, .int .i64 y] 34)))
  have HB := Lib.hid (box_below w (.cells #[.int .i64 x, .int .i64 y] 34))
  have hx : (w.alloc (.cells #[.int .i64 x, .int .i64 y] 34)).cell? ⟨w.heap.size, 0, none⟩ = some (.int .i64 x) := by simp [go_sem]
  have hy : (w.alloc (.cells #[.int .i64 x, .int .i64 y] 34)).cell? ⟨w.heap.size, 1, none⟩ = some (.int .i64 y) := by simp [go_sem]
  have hz0 : (w.alloc (.cells #[.int .i64 x, .int .i64 y] 34)).heap.size = w.heap.size + 1 := by simp
  have HXY := Lib.hid (And.intro hx (And.intro hy hz0))
  have hn1 := hd.n1
  have hs1 := hd.s1
  have HF := Lib.hid (findV_no hf)
  have HD := Lib.hid hd
  have hne : ((os.length : Int) == (n : Int)) = false := by simp; omega
  obtain ⟨k, hk⟩ : ∃ k, os.length = k := ⟨_, rfl⟩
  have HK := Lib.hid hk
  have HSS := Lib.hid hS
  have HLT := Lib.hid (h.lt hd)
  have hmk := make_any s (by omega)
  rw [hk] at h1 hroom hne ⊢
  clear h hf hd hx hy hk hz0 hS
  unfold GetP
  go_enter Try.func56, Try.ntmps56
  go_wp2_with (go_at_call 79; refine (lo_find h1.out (by omega) x y).mono ?_; rintro e w1 ⟨he, hb1⟩; rw [HF.out] at he; subst he; have HB1 := Lib.hid hb1; have H1 := Lib.hid (h1.out.stay HD.out hb1); have c0 := H1.out.h0; have c1 := H1.out.h1; have r1 := H1.out.rf.r1; clear hb1)
  go_quiet (fail)
  go_wp2
  obtain ⟨W, hW⟩ : ∃ W, w1.drewN nq = W := ⟨_, rfl⟩
  have hbW : Below w1.heap.size w1 W := by rw [← hW]; exact bdrewN (Below.refl _ _) _
  have HW := Lib.hid (H1.out.stay HD.out hbW)
  have HWA := Lib.hid (HW.out.stay HD.out (box_below W (.cells (u8s (zeros s)).toArray 5)))
  rw [hW]
  clear c0 c1 r1
  have q1 := HW.out.h1
  have q0 := HW.out.rf.r0
  have q2 := HW.out.rf.r1
  have p1 := HWA.out.h1
  have p0 := HWA.out.rf.r0
  have p2 := HWA.out.rf.r1
  have pB := HWA.out.rf.rows k hroom
  have pf := HWA.out.fB k
  have HBW := Lib.hid ((HB.out.trans (HB1.out.mono HB.out.size)).trans (hbW.mono (HB.out.trans (HB1.out.mono HB.out.size)).size))
  have hxy : W.cell? ⟨w.heap.size, 0, none⟩ = some (.int .i64 x) ∧ W.cell? ⟨w.heap.size, 1, none⟩ = some (.int .i64 y) := by
    obtain ⟨g1, g2, g3⟩ := HXY.out
    have hb2 := HB1.out.trans (hbW.mono HB1.out.size)
    rw [g3] at hb2
    exact ⟨(hb2.cell (p := ⟨w.heap.size, 0, none⟩) (by show w.heap.size < _; omega)).trans g1, (hb2.cell (p := ⟨w.heap.size, 1, none⟩) (by show w.heap.size < _; omega)).trans g2⟩
  have HXW := Lib.hid hxy
  clear hbW hxy
  go_region
  obtain ⟨W2, hW2⟩ : ∃ W2, ((W.alloc (.cells (u8s (zeros s)).toArray 5)).setCell ⟨B, k, none⟩ (.slice (some ⟨W.heap.size, 0, none⟩) s s)).drew = W2 := ⟨_, rfl⟩
  have hZ := (HW.out.zeroed HD.out hroom).stay HD.out (Below.refl _ _).drew
  rw [hW2] at hZ
  have hBl := HLT.out B (.inr (.inr (.inl rfl)))
  have hT2 : Turned S w W2 := by
    rw [← hW2]
    exact ((Turned.of HBW.out).trans (Turned.of (box_below W _))).setN (a := ⟨B, k, none⟩) (.inl ((HSS.out B).2 (.inr (.inr (.inl rfl))))) _ |>.drew
  have hz2 : W.heap.size ≤ W2.heap.size := by rw [← hW2]; show W.heap.size ≤ ((W.alloc _).setCell _ _).heap.size; simp [World.setCell]
  have hwW := HBW.out.size
  have hx2 : W2.cell? ⟨w.heap.size, 0, none⟩ = some (.int .i64 x) ∧ W2.cell? ⟨w.heap.size, 1, none⟩ = some (.int .i64 y) := by
    have hwl : w.heap.size < W.heap.size := by
      have := HB1.out.size
      obtain ⟨_, _, g3⟩ := HXY.out
      have h3 : W.heap.size = w1.heap.size := by rw [← hW]; rfl
      omega
    have e : ∀ j, W2.cell? ⟨w.heap.size, j, none⟩ = W.cell? ⟨w.heap.size, j, none⟩ := fun j => by
      rw [← hW2]
      show ((W.alloc _).setCell _ _).cell? _ = _
      rw [World.cell?_setCell_other _ _ _ _ (by intro e; injection e with e _ _; omega)]
      exact World.cell?_alloc_lt _ _ _ hwl
    exact ⟨(e 0).trans HXW.out.1, (e 1).trans HXW.out.2⟩
  obtain ⟨x1, x2⟩ := hx2
  obtain ⟨a2, c2, W3, hrun, hH3, ho3, hold3, hos3, htp3, hou3, hsz3, hv3⟩ := obs_push x y hZ.h0 hZ.ks hZ.hk (by have := HK.out; omega)
  have hP := hZ.pushed HD.out (by rw [HK.out]; exact hroom) hH3 ho3 hold3 hv3
  have c2' := hZ.h0
  have c3' : (W2.alloc (.cells #[.int .i64 x, .int .i64 y] 34)).cell? ⟨H, 0, none⟩ = some (.slice a k c) := by rw [World.cell?_alloc_lt _ _ _ (cell_block_lt hZ.h0)]; exact hZ.h0
  have c4' : W3.cell? ⟨H, 0, none⟩ = some (.slice a k c) := (World.cell?_of_block (w := W2) (a := ⟨H, 0, none⟩) hH3).trans hZ.h0
  have f4' : W3.frozen? ⟨H, 0, none⟩ = false := (World.frozen?_of_block (w := W2) (a := ⟨H, 0, none⟩) hH3).trans (hZ.fH 0)
  rw [HK.out] at hrun hP hv3
  have hT3 : Turned S w (W3.setCell ⟨H, 0, none⟩ (.slice a2 (k + 1) c2)) := by
    refine (hT2.trans ⟨hos3, htp3, hou3, hsz3, fun b hb hn => hold3 b hb (fun e => hn ?_)⟩).setN (a := ⟨H, 0, none⟩) (.inl ((HSS.out H).2 (.inl rfl))) _
    rw [HSS.out b]
    exact .inr (.inr (.inr (.inl (by rw [HK.out]; exact e))))
  have HP := Lib.hid hP
  have HT3 := Lib.hid hT3
  have HV3 := Lib.hid hv3
  have HZS := Lib.hid hz2
  rw [hW2]
  clear hZ hT2 hP hT3 hv3 hold3 ho3 hH3 hos3 htp3 hou3 hsz3 q0 q1 q2 p0 p1 p2 pB pf hW2 hW hmk
  go_wp2
  go_region
  go_wp2
  go_ret2
  refine ⟨LoS H R B n (.slice a2 (k + 1) c2) (fun j => if j = k then W.heap.size else gs j), rfl, ⟨R, B, cap, _, _, HP.out, fun b => Iff.rfl⟩, HT3.out, ?_⟩
  rintro b (h1 | h1 | h1 | h1 | ⟨i, hi, h1⟩)
  · exact .inl ((HSS.out b).2 (.inl h1))
  · exact .inl ((HSS.out b).2 (.inr (.inl h1)))
  · exact .inl ((HSS.out b).2 (.inr (.inr (.inl h1))))
  · rcases HV3.out b h1 with h2 | h2
    · exact .inl ((HSS.out b).2 (.inr (.inr (.inr (.inl (by rw [HK.out]; exact h2))))))
    · exact .inr (Nat.le_trans hwW (Nat.le_trans HZS.out h2))
  · by_cases e : i = k
    · simp only [if_pos e] at h1
      exact .inr (by omega)
    · simp only [if_neg e] at h1
      exact .inl ((HSS.out b).2 (.inr (.inr (.inr (.inr ⟨i, hi, h1⟩)))))
/-- Get, in one. -/
theorem lo_get {w : World} {S : Nat → Prop} {o : Ob} {c : Bool} (h : PD s n L w S H os zs) (hd : Dim s n L) :
    Calls Try.prog 56 #[.pointer (some ⟨H, 0, none⟩), obV o, .bool c] w (GetP (PD s n L) S H (getR os zs s n o c) w) := by
  obtain ⟨R, B, cap, kv, gs, h, hS⟩ := h
  obtain ⟨x, y⟩ := o
  unfold getR
  cases hf : findO os (x, y) with
  | some i => exact (lo_get_had c h hd hf).mono fun e w' ⟨he, hb⟩ => get_same h hd hS he hb
  | none =>
    simp only
    cases c with
    | false =>
      rw [if_pos rfl]
      exact (lo_get_not h hd hf).mono fun e w' ⟨he, hb⟩ => get_same h hd hS he hb
    | true =>
      rw [if_neg (by simp)]
      by_cases hl : os.length = n
      · rw [if_pos hl]
        exact (lo_get_full h hd hf hl).mono fun e w' ⟨he, hb⟩ => get_same h hd hS he hb
      · rw [if_neg hl]
        exact lo_get_new h hd hS hf (by have := h.le; omega)
end
end Go.Proofs.Ytenjdgoammaiiaa

/-
  Proved here: what Drop of the document's storages makes of objects and slots, as lists. No Go text is walked. Conditions: as each says.
-/
namespace Go.Proofs.Ytenjdgoammaiiaa
open Go.RowKit
set_option maxRecDepth 100000

/-- The bytes behind an object's drop: those behind its slot move up by one. -/
def dropS (zs : List Int) (s k m : Nat) : List Int := (List.range zs.length).map fun j => if j / s < k then zs.getD j 0 else if j / s + 1 < m then zs.getD (j + s) 0 else if j / s + 1 = m then 0 else zs.getD j 0
theorem dropS_length (zs : List Int) (s k m : Nat) : (dropS zs s k m).length = zs.length := by simp [dropS]
theorem dropS_get {zs : List Int} {s n L k m i j : Nat} (hd : Dim s n L) (hz : zs.length = L) (hi : i < n) (hj : j < s) :
    (dropS zs s k m).getD (i * s + j) 0 = if i < k then zs.getD (i * s + j) 0 else if i + 1 < m then zs.getD ((i + 1) * s + j) 0 else if i + 1 = m then 0 else zs.getD (i * s + j) 0 := by
  have := hd.at hi
  unfold dropS
  rw [range_get (by omega), place_div hj, Nat.add_mul, Nat.one_mul, Nat.add_right_comm]
/-- What dropping an object answers, and makes. -/
def dropR (os : List Ob) (zs : List Int) (s : Nat) (o : Ob) : Int × List Ob × List Int := match findO os o with
  | some k => (0, os.eraseIdx k, dropS zs s k os.length)
  | none => (2, os, zs)
def DropO (PS : World → (Nat → Prop) → Nat → List Ob → List Int → Prop) (D : Nat → Prop) (h : Nat) (r : Int × List Ob × List Int) (W : World) (e : Ending) (w : World) : Prop :=
  ∃ D', e = .returned (.int .i64 r.1) ∧ PS w D' h r.2.1 r.2.2 ∧ Turned D W w ∧ ∀ b, D' b → D b ∨ W.heap.size ≤ b
/-- The objects kept of the first i. -/
def osD (os : List Ob) (k : Nat) : Nat → List Ob
  | 0 => []
  | i + 1 => osD os k i ++ if i < os.length ∧ i ≠ k then [os.getD i (0, 0)] else []
theorem osD_yes {os : List Ob} {k i : Nat} (h : i < os.length) (hk : i ≠ k) : osD os k (i + 1) = osD os k i ++ [os.getD i (0, 0)] := by
  show osD os k i ++ _ = _
  rw [if_pos ⟨h, hk⟩]
theorem osD_no {os : List Ob} {k i : Nat} (h : ¬ (i < os.length ∧ i ≠ k)) : osD os k (i + 1) = osD os k i := by
  show osD os k i ++ _ = _
  rw [if_neg h, List.append_nil]
theorem osD_take {os : List Ob} {k : Nat} : ∀ i, i ≤ k → i ≤ os.length → osD os k i = os.take i
  | 0, _, _ => rfl
  | i + 1, h, hl => by
    rw [osD_yes (by omega) (by omega), osD_take i (by omega) (by omega), List.take_succ_eq_append_getElem (by omega), List.getD_eq_getElem?_getD, List.getElem?_eq_getElem (by omega)]
    rfl
theorem osD_erase {os : List Ob} {k : Nat} (hk : k < os.length) : ∀ i, k < i → i ≤ os.length → osD os k i = (os.take i).eraseIdx k
  | 0, h, _ => by omega
  | i + 1, h, hl => by
    by_cases e : i = k
    · subst e
      rw [osD_no (by omega), osD_take i (Nat.le_refl _) (by omega), List.take_succ_eq_append_getElem hk, List.eraseIdx_append_of_length_le (by simp; omega)]
      simp [Nat.min_eq_left (show i ≤ os.length by omega)]
    · rw [osD_yes (by omega) e, osD_erase hk i (by omega) (by omega), List.take_succ_eq_append_getElem (by omega), List.eraseIdx_append_of_lt_length (by simp; omega), List.getD_eq_getElem?_getD, List.getElem?_eq_getElem (by omega)]
      rfl
theorem osD_stay {os : List Ob} {k : Nat} : ∀ i, os.length ≤ i → osD os k i = osD os k os.length
  | 0, h => by rw [show os.length = 0 by omega]
  | i + 1, h => by
    by_cases e : os.length = i + 1
    · rw [e]
    · rw [osD_no (by omega), osD_stay i (by omega)]
theorem osD_all {os : List Ob} {k n : Nat} (hk : k < os.length) (hn : os.length ≤ n) : osD os k n = os.eraseIdx k := by
  rw [osD_stay n hn, osD_erase hk _ hk (Nat.le_refl _), List.take_length]
theorem osD_len (os : List Ob) (k : Nat) : ∀ i, (osD os k i).length ≤ i
  | 0 => Nat.le_refl _
  | i + 1 => by
    have := osD_len os k i
    show (osD os k i ++ _).length ≤ _
    rw [List.length_append]
    split <;> simp <;> omega
/-- The blocks of the slots under way. -/
def slD (gs : Nat → Nat) (k m Z : Nat) : Nat → List Nat
  | 0 => []
  | i + 1 => slD gs k m Z i ++ (if i = m then [Z] else []) ++ if i = k then [] else [gs i]
theorem slD_indep {gs : Nat → Nat} {k m Z Z' : Nat} : ∀ i, i ≤ m → slD gs k m Z i = slD gs k m Z' i
  | 0, _ => rfl
  | i + 1, h => by
    show slD gs k m Z i ++ _ ++ _ = slD gs k m Z' i ++ _ ++ _
    rw [slD_indep (Z' := Z') i (by omega)]
    have hne : i ≠ m := by omega
    rw [if_neg hne, if_neg hne]
theorem slD_at {gs : Nat → Nat} {k m Z i : Nat} (h : i ≠ m) (hk : i ≠ k) : slD gs k m Z (i + 1) = slD gs k m Z i ++ [gs i] := by
  show slD gs k m Z i ++ _ ++ _ = _
  rw [if_neg h, if_neg hk, List.append_nil]
theorem slD_k {gs : Nat → Nat} {k m Z : Nat} (h : k ≠ m) : slD gs k m Z (k + 1) = slD gs k m Z k := by
  show slD gs k m Z k ++ _ ++ _ = _
  rw [if_neg h, if_pos rfl, List.append_nil, List.append_nil]
theorem slD_m {gs : Nat → Nat} {k m Z : Nat} (h : m ≠ k) : slD gs k m Z (m + 1) = (slD gs k m Z m ++ [Z]) ++ [gs m] := by
  show slD gs k m Z m ++ _ ++ _ = _
  rw [if_pos rfl, if_neg h]
/-- The blocks of the slots behind it. -/
def gsD (gs : Nat → Nat) (k m Z j : Nat) : Nat := if j < k then gs j else if j + 1 < m then gs (j + 1) else if j + 1 = m then Z else gs j
theorem slD_spec {gs : Nat → Nat} {k m Z : Nat} (hk : k < m) : ∀ i, (slD gs k m Z i).length = (if i ≤ k then i else if i ≤ m then i - 1 else i) ∧ ∀ j, j < (slD gs k m Z i).length → (slD gs k m Z i).getD j 0 = gsD gs k m Z j
  | 0 => ⟨by simp [slD], fun j hj => by simp [slD] at hj⟩
  | i + 1 => by
    obtain ⟨h1, h2⟩ := slD_spec hk i
    by_cases e1 : i = k
    · subst e1
      rw [slD_k (by omega)]
      refine ⟨by rw [h1, if_pos (Nat.le_refl _), if_neg (by omega), if_pos (by omega)]; omega, h2⟩
    · by_cases e2 : i = m
      · subst e2
        rw [slD_m e1]
        rw [if_neg (by omega), if_pos (Nat.le_refl _)] at h1
        refine ⟨by simp only [List.length_append, h1, List.length_singleton]; rw [if_neg (by omega), if_neg (by omega)]; omega, fun j hj => ?_⟩
        simp only [List.length_append, List.length_singleton, h1] at hj
        rw [List.getD_eq_getElem?_getD]
        by_cases e3 : j < i - 1
        · rw [List.getElem?_append_left (by simp [h1]; omega), List.getElem?_append_left (by omega), ← List.getD_eq_getElem?_getD]
          exact h2 j (by omega)
        · by_cases e4 : j = i - 1
          · rw [List.getElem?_append_left (by simp [h1]; omega), List.getElem?_append_right (by omega), h1, e4]
            unfold gsD
            rw [if_neg (by omega), if_neg (by omega), if_pos (by omega)]
            simp
          · have e5 : j = i := by omega
            rw [List.getElem?_append_right (by simp [h1]; omega)]
            unfold gsD
            rw [if_neg (by omega), if_neg (by omega), if_neg (by omega), e5]
            simp [h1, show i - (i - 1 + 1) = 0 by omega]
      · rw [slD_at e2 e1]
        refine ⟨by simp only [List.length_append, h1, List.length_singleton]; split <;> split <;> (try split) <;> (try split) <;> omega, fun j hj => ?_⟩
        simp only [List.length_append, List.length_singleton] at hj
        rw [List.getD_eq_getElem?_getD]
        by_cases e3 : j < (slD gs k m Z i).length
        · rw [List.getElem?_append_left e3, ← List.getD_eq_getElem?_getD]
          exact h2 j e3
        · have e4 : j = (slD gs k m Z i).length := by omega
          rw [List.getElem?_append_right (by omega), e4]
          rw [h1]
          unfold gsD
          simp only [Nat.sub_self, List.getElem?_cons_zero, Option.getD_some]
          by_cases a1 : i ≤ k
          · rw [if_pos a1, if_pos (by omega)]
          · by_cases a2 : i ≤ m
            · rw [if_neg a1, if_pos a2, if_neg (by omega), if_pos (by omega)]
              congr 1
              omega
            · rw [if_neg a1, if_neg a2, if_neg (by omega), if_neg (by omega), if_neg (by omega)]
/-- All the slots. -/
def slF (gs : Nat → Nat) (k m Z n : Nat) : List Nat := slD gs k m Z n ++ if m = n then [Z] else []
theorem slF_spec {gs : Nat → Nat} {k m Z n : Nat} (hk : k < m) (hm : m ≤ n) : (slF gs k m Z n).length = n ∧ ∀ j, j < n → (slF gs k m Z n).getD j 0 = gsD gs k m Z j := by
  obtain ⟨h1, h2⟩ := slD_spec (gs := gs) (Z := Z) hk n
  unfold slF
  by_cases e : m = n
  · subst e
    rw [if_pos rfl]
    rw [if_neg (by omega), if_pos (Nat.le_refl _)] at h1
    refine ⟨by simp [h1]; omega, fun j hj => ?_⟩
    rw [List.getD_eq_getElem?_getD]
    by_cases e2 : j < m - 1
    · rw [List.getElem?_append_left (by omega), ← List.getD_eq_getElem?_getD]
      exact h2 j (by omega)
    · have e3 : j = m - 1 := by omega
      rw [List.getElem?_append_right (by omega), h1, e3]
      unfold gsD
      rw [if_neg (by omega), if_neg (by omega), if_pos (by omega)]
      simp
  · rw [if_neg e, List.append_nil]
    rw [if_neg (by omega), if_neg (by omega)] at h1
    exact ⟨h1, fun j hj => h2 j (by omega)⟩
/-- The slices of these blocks. -/
def slV (s : Nat) (l : List Nat) : List Value := l.map fun b => .slice (some ⟨b, 0, none⟩) s s
theorem slV_length (s : Nat) (l : List Nat) : (slV s l).length = l.length := by simp [slV]
theorem slV_snoc (s : Nat) (l : List Nat) (b : Nat) : slV s (l ++ [b]) = slV s l ++ [.slice (some ⟨b, 0, none⟩) s s] := by simp [slV]
theorem slV_get {s : Nat} {l : List Nat} {j : Nat} (hj : j < l.length) : (slV s l)[j]? = some (.slice (some ⟨l.getD j 0, 0, none⟩) s s) := by
  simp [slV, List.getD_eq_getElem?_getD, hj]
end Go.Proofs.Ytenjdgoammaiiaa
