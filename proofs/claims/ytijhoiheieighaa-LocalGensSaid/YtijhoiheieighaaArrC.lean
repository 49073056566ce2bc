/-
  Proved here: an array's bytes, copy and slots where its room is known; a byte of a slot, and several, written. Conditions: as each lemma says.
-/
import Derived.Test.YtijhoiheieighaaArr
import Derived.Test.YtijhoiheieighaaLoG
import Derived.Deep.QuietTactic
import Derived.BigQuiet
import Derived.Deep.RegionHeld3
import Derived.Laws.IdiomCopy
namespace Go.Proofs.Ytijhoiheieighaa
open Go.RowKit

/-! ### What the array's own contracts leave out -/
/-- A new row of bytes, with its room. -/
def GaveRowC (W : World) (len : Nat) (zs : List Int) (e : Ending) (w : World) : Prop := ∃ g cap, e = .returned (.slice (some ⟨g, 0, none⟩) len cap) ∧ Fresh W w g len zs ∧ len ≤ cap ∧ cap ≤ maxLen
theorem cloneC_row (g len cap : Nat) (zs : List Int) (w : World) (hz : zs.length = len) (h0 : 0 < len) (hl : len ≤ 1000) (hr : RowAt w g 0 len zs) (hg : g < w.heap.size) :
    Calls Try.prog 34 #[.slice (some ⟨g, 0, none⟩) len cap] w (GaveRowC w len zs) := by
  have HZ := Lib.hid hz
  have HR := Lib.hid hr
  clear hz hr
  obtain ⟨i0, hi0, hz0, hz1, hz2⟩ := info_parts u8_info
  have q := fun (w : World) (a : Option Addr) (n c n' c' : Nat) => Lib.run_eql_slice_nil (P := Try.prog) w 36 5 a n c n' c' Try.underlying36
  go_enter Try.func34, Try.ntmps34
  go_wp2_with (at_builtin; refine wpList_append_own_at _ rfl _ _ 36 rfl w.heap.size 5 i0 _ 1 1 Try.underlying36 hi0 hz0 hz1 hz2 rfl (by omega) _ 0 [] rfl (own_empty w) ⟨g, 0, none⟩ len cap (u8s zs) rfl (by rw [u8s_length, HZ.out]; omega) (fun j u hu => by rw [add_lit, World.cell?_alloc_lt _ _ _ hg]; exact u8s_cells HZ.out HR.out j u hu) u8s_one (by unfold maxLen; omega) (by omega) (by simp) ?_; intro v1 w1 hown hgr _ hat; have HO := Lib.hid hown; have HG := Lib.hid hgr; clear hown hgr hat)
  go_ret
  have hown := HO.out
  have hb : Below w.heap.size w w1 := ((Below.refl _ _).alloc (Nat.le_refl _) _).grown HG.out (by simp) (fun k hk => by
    first | (have h9 : some w.heap.size = some k := hk; injection h9 with h9; omega) | (have h9 : some k = some w.heap.size := hk; injection h9 with h9; omega))
  rw [Nat.zero_add, List.nil_append] at hown
  have hcap : ∀ g1 cap1, v1 = .slice (some ⟨g1, 0, none⟩) len cap1 → len ≤ cap1 ∧ cap1 ≤ maxLen := by
    intro g1 cap1 e
    rcases hown.2 with ⟨h1, -⟩ | ⟨g2, cap2, cur, h1, -, -, h2, h3, -⟩
    · rw [e] at h1; cases h1
    · rw [e] at h1; injection h1 with _ _ h1; subst h1; exact ⟨h2, h3⟩
  obtain ⟨g1, cap1, e, hf⟩ := fresh_of_own HZ.out h0 hown hb
  obtain ⟨h2, h3⟩ := hcap g1 cap1 e
  exact ⟨g1, cap1, by rw [e]; rfl, hf, h2, h3⟩
theorem arrC_bytes (A G s n L C : Nat) (zs : List Int) (w : World) (h0 : 0 < L) (hl : L ≤ 1000) (h : Arr w A G s n L C zs) : Calls Try.prog 24 #[.pointer (some ⟨A, 0, none⟩)] w (GaveRowC w L zs) := by
  have h2 := h.c2
  go_enter Try.func24, Try.ntmps24
  go_wp2_with (go_at_call 34; refine (cloneC_row _ _ _ zs _ h.len h0 hl h.row h.lt).mono ?_; rintro e w' ⟨g1, cap1, rfl, hf, hc1, hc2⟩)
  go_ret
  exact ⟨_, _, rfl, hf, hc1, hc2⟩
def GaveCopyC (W : World) (s n L : Nat) (zs : List Int) (e : Ending) (w : World) : Prop :=
  ∃ A G C, e = .returned (.pointer (some ⟨A, 0, none⟩)) ∧ Below W.heap.size W w ∧ W.heap.size ≤ A ∧ W.heap.size ≤ G ∧ Arr w A G s n L C zs ∧ L ≤ C ∧ C ≤ maxLen
theorem arrC_copy (A G s n L C : Nat) (zs : List Int) (w : World) (h0 : 0 < L) (hl : L ≤ 1000) (h : Arr w A G s n L C zs) : Calls Try.prog 22 #[.pointer (some ⟨A, 0, none⟩)] w (GaveCopyC w s n L zs) := by
  have hd : Arr w.drew A G s n L C zs := h.stay (Below.refl _ _).drew
  go_enter Try.func22, Try.ntmps22
  go_wp2
  go_region_held3 (fun W => W.cell? ⟨A, 0, none⟩ = some (.int .i64 s) ∧ W.cell? ⟨A, 1, none⟩ = some (.int .i64 n))
    (first | exact ⟨(hd1.stay ((Below.refl _ _).alloc (Nat.le_refl _) _)).c0, (hd1.stay ((Below.refl _ _).alloc (Nat.le_refl _) _)).c1⟩ | exact ⟨hd1.c0, hd1.c1⟩ | exact ⟨hd.c0, hd.c1⟩)
    ((go_at_call 24; refine (arrC_bytes _ _ _ _ _ _ zs _ h0 hl hd).mono ?_; rintro e w1 ⟨g1, cap1, rfl, hf, hc1, hc2⟩; have hd1 := hd.stay hf.below))
  go_wp2
  have hg1 : g1 < w1.heap.size := cell_block_lt (hf.row 0 h0)
  have hb : Below w.heap.size w w1 := ((Below.refl _ _).drew).trans hf.below
  have hsz := hb.size
  go_ret
  refine ⟨_, _, cap1, rfl, hb.alloc hb.size _, hb.size, hf.at_, ⟨?_, ?_, ?_, fun j hj => ?_, fun j => ?_, h.len, by omega, by simp; omega⟩, hc1, hc2⟩
  · simp [go_sem]
  · simp [go_sem]
  · simp [go_sem]
  · rw [World.cell?_alloc_lt _ _ _ hg1]
    exact hf.row j hj
  · rw [frozen?_alloc_cells]
    exact hf.free j
theorem slotC_no (A : Nat) (n : Nat) (k : Int) (w : World) (h : w.cell? ⟨A, 1, none⟩ = some (.int .i64 n)) (hk : ¬ (0 ≤ k ∧ k < n)) :
    Calls Try.prog 29 #[.pointer (some ⟨A, 0, none⟩), .int .i64 k] w (fun e w' => e = .returned (.tuple #[.slice none 0 0, .bool false]) ∧ Below w.heap.size w w') := by
  have HC := Lib.hid h
  clear h
  by_cases h1 : k < 0
  · go_enter Try.func29, Try.ntmps29
    go_wp2_with (go_at_call 30; refine (arr_len _ _ _ HC.out).mono ?_; rintro e w' ⟨rfl, rfl⟩)
    go_ret2
    exact ⟨rfl, Below.refl _ _⟩
  · have h2 : (n : Int) ≤ k := by omega
    go_enter Try.func29, Try.ntmps29
    go_wp2_with (go_at_call 30; refine (arr_len _ _ _ HC.out).mono ?_; rintro e w' ⟨rfl, rfl⟩)
    go_ret2
    exact ⟨rfl, Below.refl _ _⟩
theorem slotC_yes (A G s n L C k p : Nat) (zs : List Int) (w : World) (hd : Dim s n L) (hLC : L ≤ C) (h : Arr w A G s n L C zs) (hk : k < n) (hp : k * s = p) :
    Calls Try.prog 29 #[.pointer (some ⟨A, 0, none⟩), .int .i64 k] w (fun e w' => e = .returned (.tuple #[.slice (some ⟨G, p, none⟩) s s, .bool true]) ∧ Below w.heap.size w w') := by
  have hps : p + s ≤ L := by rw [← hp]; exact hd.at hk
  have hps2 : p + s ≤ C := by omega
  have hle := hd.le
  have s0 := hd.s0
  have n1 := hd.n1
  have hc0 := h.c0
  have HC := Lib.hid h.c1
  have hc2 := h.c2
  have e0 : IntKind.i64.wrap ((k : Int) + 1) = k + 1 := IntWalk.i64_in _ (by omega)
  have e1 : IntKind.i64.wrap ((k : Int) * s) = p := by rw [← Int.natCast_mul, hp]; exact IntWalk.i64_in _ (by omega)
  have e2 : IntKind.i64.wrap (((k : Int) + 1) * s) = ((p + s : Nat) : Int) := by
    rw [Int.add_mul, ← Int.natCast_mul, hp, Int.one_mul, ← Int.natCast_add]; exact IntWalk.i64_in _ (by omega)
  have hk2 : ((k : Int) < 0) = False := by simp
  clear h hp hd
  go_enter Try.func29, Try.ntmps29
  go_wp2_with (go_at_call 30; refine (arr_len _ _ _ HC.out).mono ?_; rintro e w' ⟨rfl, rfl⟩)
  go_quiet (fail)
  go_wp2
  go_ret2
  have e3 : p + s - p = s := by omega
  refine ⟨?_, ⟨rfl, rfl, rfl, Nat.le_refl _, fun _ _ => rfl⟩⟩
  show Ending.returned (.tuple #[.slice (some ⟨G, p, none⟩) (p + s - p) (p + s - p), .bool true]) = _
  rw [e3]

/-! ### Stores -/
theorem Arr.kept {w w' : World} {A G s n L C : Nat} {zs : List Int} (h : Arr w A G s n L C zs) (eA : w'.heap[A]? = w.heap[A]?) (eG : w'.heap[G]? = w.heap[G]?) (hz : G < w'.heap.size) : Arr w' A G s n L C zs :=
  ⟨(World.cell?_of_block (w := w) eA).trans h.c0, (World.cell?_of_block (w := w) eA).trans h.c1, (World.cell?_of_block (w := w) eA).trans h.c2, fun j hj => (World.cell?_of_block (w := w) eG).trans (h.row j hj),
    fun j => (World.frozen?_of_block (w := w) eG).trans (h.free j), h.len, h.ne, hz⟩
theorem Arr.put {w : World} {A G s n L C p : Nat} {zs : List Int} {y : Int} (h : Arr w A G s n L C zs) (hp : p < L) : Arr (w.setCell ⟨G, p, none⟩ (.int .u8 y)) A G s n L C (zs.set p y) := by
  have eA := Below.heap_setCell w ⟨G, p, none⟩ (.int .u8 y) A h.ne
  have hl := h.len
  refine ⟨(World.cell?_of_block (w := w) eA).trans h.c0, (World.cell?_of_block (w := w) eA).trans h.c1, (World.cell?_of_block (w := w) eA).trans h.c2, fun j hj => ?_, fun j => ?_, by simp [hl], h.ne, by simp [World.setCell]; exact h.lt⟩
  · have hc := h.row j hj
    rw [Nat.zero_add] at hc ⊢
    rw [cell_set hc, set_get (by omega)]
    by_cases e : p = j <;> simp [e]
  · rw [World.frozen?_setCell]
    exact h.free j
/-- Bytes written one behind the other. -/
def setL (zs : List Int) : Nat → List Int → List Int
  | _, [] => zs
  | p, v :: r => setL (zs.set p v) (p + 1) r
theorem setL_snoc : ∀ (a : List Int) (zs : List Int) (p : Nat) (x : Int), setL zs p (a ++ [x]) = (setL zs p a).set (p + a.length) x
  | [], zs, p, x => rfl
  | v :: r, zs, p, x => by
    show setL (zs.set p v) (p + 1) (r ++ [x]) = _
    rw [setL_snoc r]
    show _ = (setL (zs.set p v) (p + 1) r).set (p + (r.length + 1)) x
    rw [show p + 1 + r.length = p + (r.length + 1) by omega]
theorem Arr.puts {A G s n L C : Nat} : ∀ (vz : List Int) {w : World} {p : Nat} {zs : List Int}, Arr w A G s n L C zs → p + vz.length ≤ L → Arr (w.setCells G p (u8s vz)) A G s n L C (setL zs p vz)
  | [], _, _, _, h, _ => h
  | v :: r, w, p, zs, h, hp => by
    have h1 := h.put (p := p) (y := v) (by simp at hp; omega)
    exact Arr.puts r h1 (by simp at hp; omega)
theorem heap_setCells (b : Nat) : ∀ (vs : List Value) (o : Nat) (w : World) (k : Nat), k ≠ b → (w.setCells b o vs).heap[k]? = w.heap[k]?
  | [], _, _, _, _ => rfl
  | v :: r, o, w, k, h => by
    rw [World.setCells, heap_setCells b r _ _ k h]
    exact Below.heap_setCell w ⟨b, o, none⟩ v k h
theorem turned_setCells {S : Nat → Prop} {W : World} (b : Nat) (hb : S b) : ∀ (vs : List Value) (o : Nat) {w : World}, Turned S W w → Turned S W (w.setCells b o vs)
  | [], _, _, h => h
  | v :: r, o, _, h => turned_setCells b hb r (o + 1) (h.set (a := ⟨b, o, none⟩) (.inl hb) v)

theorem block_lt_of_eq {w w' : World} {k : Nat} (hk : k < w.heap.size) (e : w'.heap[k]? = w.heap[k]?) : k < w'.heap.size := by
  rw [Array.getElem?_eq_getElem hk] at e
  exact (Array.getElem?_eq_some_iff.1 e).1
end Go.Proofs.Ytijhoiheieighaa
