/-
  Proved here: a map of the program in memory: what it stays under; a byte of a slot written; an array's copy with its room. Conditions: as each lemma says.
-/
import Derived.Test.YtcociipcimdjjaaMapK
import Derived.Test.YtcociipcimdjjaaHeapP
import Derived.Test.YtcociipcimdjjaaActs
import Derived.Deep.QuietTactic
import Derived.BigQuiet
import Derived.Deep.RegionHeld3
import Derived.Laws.IdiomCopy
namespace Go.Proofs.Ytcociipcimdjjaa
open Go.RowKit

/-! ### What the array's own contracts leave out -/
/-- A new row of bytes, with its room. -/
def GaveRowC (W : World) (len : Nat) (zs : List Int) (e : Ending) (w : World) : Prop := ∃ g cap, e = .returned (.slice (some ⟨g, 0, none⟩) len cap) ∧ Fresh W w g len zs ∧ len ≤ cap ∧ cap ≤ maxLen
theorem cloneC_row (g len cap : Nat) (zs : List Int) (w : World) (hz : zs.length = len) (h0 : 0 < len) (hl : len ≤ 1000) (hr : RowAt w g 0 len zs) (hg : g < w.heap.size) :
    Calls Try.prog 38 #[.slice (some ⟨g, 0, none⟩) len cap] w (GaveRowC w len zs) := by
  have HZ := Lib.hid hz
  have HR := Lib.hid hr
  clear hz hr
  obtain ⟨i0, hi0, hz0, hz1, hz2⟩ := info_parts u8_info
  have q := fun (w : World) (a : Option Addr) (n c n' c' : Nat) => Lib.run_eql_slice_nil (P := Try.prog) w 31 5 a n c n' c' Try.underlying31
  go_enter Try.func38, Try.ntmps38
  go_wp2_with (at_builtin; refine wpList_append_own_at _ rfl _ _ 31 rfl w.heap.size 5 i0 _ 1 1 Try.underlying31 hi0 hz0 hz1 hz2 rfl (by omega) _ 0 [] rfl (own_empty w) ⟨g, 0, none⟩ len cap (u8s zs) rfl (by rw [u8s_length, HZ.out]; omega) (fun j u hu => by rw [add_lit, World.cell?_alloc_lt _ _ _ hg]; exact u8s_cells HZ.out HR.out j u hu) u8s_one (by unfold maxLen; omega) (by omega) (by simp) ?_; intro v1 w1 hown hgr _ hat; have HO := Lib.hid hown; have HG := Lib.hid hgr; clear hown hgr hat)
  go_ret
  have hown := HO.out
  have hb : Below w.heap.size w w1 := ((Below.refl _ _).alloc (Nat.le_refl _) _).grown HG.out (by simp) (fun k hk => by
    first | (have h9 : some w.heap.size = some k := hk; injection h9 with h9; omega) | (have h9 : some k = some w.heap.size := hk; injection h9 with h9; omega))
  rw [Nat.zero_add, List.nil_append] at hown
  have hcap : ∀ g1 cap1, v1 = .slice (some ⟨g1, 0, none⟩) len cap1 → len ≤ cap1 ∧ cap1 ≤ maxLen := by
    intro g1 cap1 e
    rcases hown.2 with ⟨h1, -⟩ | ⟨g2, cap2, cur, h1, -, -, h2, h3, -⟩
    · rw [e] at h1; cases h1
    · rw [e] at h1; injection h1 with _ _ h1; subst h1; exact ⟨h2, h3⟩
  obtain ⟨g1, cap1, e, hf⟩ := fresh_of_own HZ.out h0 hown hb
  obtain ⟨h2, h3⟩ := hcap g1 cap1 e
  exact ⟨g1, cap1, by rw [e]; rfl, hf, h2, h3⟩
theorem arrC_bytes (A G s n L C : Nat) (zs : List Int) (w : World) (h0 : 0 < L) (hl : L ≤ 1000) (h : Arr w A G s n L C zs) : Calls Try.prog 28 #[.pointer (some ⟨A, 0, none⟩)] w (GaveRowC w L zs) := by
  have h2 := h.c2
  go_enter Try.func28, Try.ntmps28
  go_wp2_with (go_at_call 38; refine (cloneC_row _ _ _ zs _ h.len h0 hl h.row h.lt).mono ?_; rintro e w' ⟨g1, cap1, rfl, hf, hc1, hc2⟩)
  go_ret
  exact ⟨_, _, rfl, hf, hc1, hc2⟩
def GaveCopyC (W : World) (s n L : Nat) (zs : List Int) (e : Ending) (w : World) : Prop :=
  ∃ A G C, e = .returned (.pointer (some ⟨A, 0, none⟩)) ∧ Below W.heap.size W w ∧ W.heap.size ≤ A ∧ W.heap.size ≤ G ∧ Arr w A G s n L C zs ∧ L ≤ C ∧ C ≤ maxLen
theorem arrC_copy (A G s n L C : Nat) (zs : List Int) (w : World) (h0 : 0 < L) (hl : L ≤ 1000) (h : Arr w A G s n L C zs) : Calls Try.prog 25 #[.pointer (some ⟨A, 0, none⟩)] w (GaveCopyC w s n L zs) := by
  have hd : Arr w.drew A G s n L C zs := h.stay (Below.refl _ _).drew
  go_enter Try.func25, Try.ntmps25
  go_wp2
  go_region_held3 (fun W => W.cell? ⟨A, 0, none⟩ = some (.int .i64 s) ∧ W.cell? ⟨A, 1, none⟩ = some (.int .i64 n))
    (first | exact ⟨(hd1.stay ((Below.refl _ _).alloc (Nat.le_refl _) _)).c0, (hd1.stay ((Below.refl _ _).alloc (Nat.le_refl _) _)).c1⟩ | exact ⟨hd1.c0, hd1.c1⟩ | exact ⟨hd.c0, hd.c1⟩)
    ((go_at_call 28; refine (arrC_bytes _ _ _ _ _ _ zs _ h0 hl hd).mono ?_; rintro e w1 ⟨g1, cap1, rfl, hf, hc1, hc2⟩; have hd1 := hd.stay hf.below))
  go_wp2
  have hg1 : g1 < w1.heap.size := cell_block_lt (hf.row 0 h0)
  have hb : Below w.heap.size w w1 := ((Below.refl _ _).drew).trans hf.below
  have hsz := hb.size
  go_ret
  refine ⟨_, _, cap1, rfl, hb.alloc hb.size _, hb.size, hf.at_, ⟨?_, ?_, ?_, fun j hj => ?_, fun j => ?_, h.len, by omega, by simp; omega⟩, hc1, hc2⟩
  · simp [go_sem]
  · simp [go_sem]
  · simp [go_sem]
  · rw [World.cell?_alloc_lt _ _ _ hg1]
    exact hf.row j hj
  · rw [frozen?_alloc_cells]
    exact hf.free j
theorem slotC_no (A : Nat) (n : Nat) (k : Int) (w : World) (h : w.cell? ⟨A, 1, none⟩ = some (.int .i64 n)) (hk : ¬ (0 ≤ k ∧ k < n)) :
    Calls Try.prog 30 #[.pointer (some ⟨A, 0, none⟩), .int .i64 k] w (fun e w' => e = .returned (.tuple #[.slice none 0 0, .bool false]) ∧ Below w.heap.size w w') := by
  have HC := Lib.hid h
  clear h
  by_cases h1 : k < 0
  · go_enter Try.func30, Try.ntmps30
    go_wp2_with (go_at_call 40; refine (arr_len _ _ _ HC.out).mono ?_; rintro e w' ⟨rfl, rfl⟩)
    go_ret2
    exact ⟨rfl, Below.refl _ _⟩
  · have h2 : (n : Int) ≤ k := by omega
    go_enter Try.func30, Try.ntmps30
    go_wp2_with (go_at_call 40; refine (arr_len _ _ _ HC.out).mono ?_; rintro e w' ⟨rfl, rfl⟩)
    go_ret2
    exact ⟨rfl, Below.refl _ _⟩
theorem slotC_yes (A G s n L C k p : Nat) (zs : List Int) (w : World) (hd : Dim s n L) (hLC : L ≤ C) (h : Arr w A G s n L C zs) (hk : k < n) (hp : k * s = p) :
    Calls Try.prog 30 #[.pointer (some ⟨A, 0, none⟩), .int .i64 k] w (fun e w' => e = .returned (.tuple #[.slice (some ⟨G, p, none⟩) s s, .bool true]) ∧ Below w.heap.size w w') := by
  have hps : p + s ≤ L := by rw [← hp]; exact hd.at hk
  have hps2 : p + s ≤ C := by omega
  have hle := hd.le
  have s0 := hd.s0
  have n1 := hd.n1
  have hc0 := h.c0
  have HC := Lib.hid h.c1
  have hc2 := h.c2
  have e0 : IntKind.i64.wrap ((k : Int) + 1) = k + 1 := IntWalk.i64_in _ (by omega)
  have e1 : IntKind.i64.wrap ((k : Int) * s) = p := by rw [← Int.natCast_mul, hp]; exact IntWalk.i64_in _ (by omega)
  have e2 : IntKind.i64.wrap (((k : Int) + 1) * s) = ((p + s : Nat) : Int) := by
    rw [Int.add_mul, ← Int.natCast_mul, hp, Int.one_mul, ← Int.natCast_add]; exact IntWalk.i64_in _ (by omega)
  have hk2 : ((k : Int) < 0) = False := by simp
  clear h hp hd
  go_enter Try.func30, Try.ntmps30
  go_wp2_with (go_at_call 40; refine (arr_len _ _ _ HC.out).mono ?_; rintro e w' ⟨rfl, rfl⟩)
  go_quiet (fail)
  go_wp2
  go_ret2
  have e3 : p + s - p = s := by omega
  refine ⟨?_, ⟨rfl, rfl, rfl, Nat.le_refl _, fun _ _ => rfl⟩⟩
  show Ending.returned (.tuple #[.slice (some ⟨G, p, none⟩) (p + s - p) (p + s - p), .bool true]) = _
  rw [e3]

/-! ### Stores -/
theorem Arr.kept {w w' : World} {A G s n L C : Nat} {zs : List Int} (h : Arr w A G s n L C zs) (eA : w'.heap[A]? = w.heap[A]?) (eG : w'.heap[G]? = w.heap[G]?) (hz : G < w'.heap.size) : Arr w' A G s n L C zs :=
  ⟨(World.cell?_of_block (w := w) eA).trans h.c0, (World.cell?_of_block (w := w) eA).trans h.c1, (World.cell?_of_block (w := w) eA).trans h.c2, fun j hj => (World.cell?_of_block (w := w) eG).trans (h.row j hj),
    fun j => (World.frozen?_of_block (w := w) eG).trans (h.free j), h.len, h.ne, hz⟩
theorem Arr.put {w : World} {A G s n L C p : Nat} {zs : List Int} {y : Int} (h : Arr w A G s n L C zs) (hp : p < L) : Arr (w.setCell ⟨G, p, none⟩ (.int .u8 y)) A G s n L C (zs.set p y) := by
  have eA := Below.heap_setCell w ⟨G, p, none⟩ (.int .u8 y) A h.ne
  have hl := h.len
  refine ⟨(World.cell?_of_block (w := w) eA).trans h.c0, (World.cell?_of_block (w := w) eA).trans h.c1, (World.cell?_of_block (w := w) eA).trans h.c2, fun j hj => ?_, fun j => ?_, by simp [hl], h.ne, by simp [World.setCell]; exact h.lt⟩
  · have hc := h.row j hj
    rw [Nat.zero_add] at hc ⊢
    rw [cell_set hc, set_get (by omega)]
    by_cases e : p = j <;> simp [e]
  · rw [World.frozen?_setCell]
    exact h.free j
/-- Bytes written one behind the other. -/
def setL (zs : List Int) : Nat → List Int → List Int
  | _, [] => zs
  | p, v :: r => setL (zs.set p v) (p + 1) r
theorem setL_snoc : ∀ (a : List Int) (zs : List Int) (p : Nat) (x : Int), setL zs p (a ++ [x]) = (setL zs p a).set (p + a.length) x
  | [], zs, p, x => rfl
  | v :: r, zs, p, x => by
    show setL (zs.set p v) (p + 1) (r ++ [x]) = _
    rw [setL_snoc r]
    show _ = (setL (zs.set p v) (p + 1) r).set (p + (r.length + 1)) x
    rw [show p + 1 + r.length = p + (r.length + 1) by omega]
theorem putN_setL (zs : List Int) (p : Nat) (vz : List Int) : ∀ i, i ≤ vz.length → putN zs p vz i = setL zs p (vz.take i)
  | 0, _ => rfl
  | i + 1, h => by
    have hi : i < vz.length := h
    rw [List.take_succ_eq_append_getElem hi, setL_snoc, List.length_take, Nat.min_eq_left (by omega), ← putN_setL zs p vz i (by omega)]
    show (putN zs p vz i).set (p + i) (vz.getD i 0) = _
    rw [List.getD_eq_getElem?_getD, List.getElem?_eq_getElem hi]
    rfl
theorem Arr.puts {A G s n L C : Nat} : ∀ (vz : List Int) {w : World} {p : Nat} {zs : List Int}, Arr w A G s n L C zs → p + vz.length ≤ L → Arr (w.setCells G p (u8s vz)) A G s n L C (setL zs p vz)
  | [], _, _, _, h, _ => h
  | v :: r, w, p, zs, h, hp => by
    have h1 := h.put (p := p) (y := v) (by simp at hp; omega)
    exact Arr.puts r h1 (by simp at hp; omega)
theorem heap_setCells (b : Nat) : ∀ (vs : List Value) (o : Nat) (w : World) (k : Nat), k ≠ b → (w.setCells b o vs).heap[k]? = w.heap[k]?
  | [], _, _, _, _ => rfl
  | v :: r, o, w, k, h => by
    rw [World.setCells, heap_setCells b r _ _ k h]
    exact Below.heap_setCell w ⟨b, o, none⟩ v k h
theorem turned_setCells {S : Nat → Prop} {W : World} (b : Nat) (hb : S b) : ∀ (vs : List Value) (o : Nat) {w : World}, Turned S W w → Turned S W (w.setCells b o vs)
  | [], _, _, h => h
  | v :: r, o, _, h => turned_setCells b hb r (o + 1) (h.set (a := ⟨b, o, none⟩) hb v)

/-! ### The program's map -/
/-- A map of the program in memory. -/
structure Hm (w : World) (h A G C M : Nat) (v : Value) (len : Nat) (l : List Int) (Dm : DataW Unit) (key s n L : Nat) (ks : List ByteArray) (zs : List Int) : Prop where
  h0 : w.cell? ⟨h, 0, none⟩ = some (.int .i64 key)
  h1 : w.cell? ⟨h, 1, none⟩ = some (.pointer (some ⟨A, 0, none⟩))
  h2 : w.cell? ⟨h, 2, none⟩ = some (.map (some M))
  fr : FreeAt w ⟨h, 3, none⟩ v len l
  ff : w.frozen? ⟨h, 3, none⟩ = false
  hp : IsHeap l len
  pm : l.Perm (freeK ks)
  ar : Arr w A G s n L C zs
  c0 : L ≤ C
  c1 : C ≤ maxLen
  ow : w.ownsMap Try.prog 9 (plainElem Try.prog 3) M 16 Dm
  ag : Agr Dm ks
  un : Uniq ks
  kl : ks.length = n
  kz : ∀ y, y ∈ ks → y ≠ ⟨#[]⟩ → y.size = key
  vA : some A ≠ v.ownBlock
  vG : some G ≠ v.ownBlock
/-- Its blocks. -/
def HmS (h A G M : Nat) (v : Value) : Nat → Prop := fun b => b = h ∨ b = A ∨ b = G ∨ b = M ∨ some b = v.ownBlock
theorem FreeAt.kept {w w' : World} {p : Addr} {v : Value} {len : Nat} {l : List Int} (h : FreeAt w p v len l) (e1 : w'.heap[p.block]? = w.heap[p.block]?) (e2 : ∀ b, some b = v.ownBlock → w'.heap[b]? = w.heap[b]?) : FreeAt w' p v len l := by
  refine ⟨(World.cell?_of_block (w := w) e1).trans h.c, ⟨h.own.1, ?_⟩, h.ne⟩
  rcases h.own.2 with h2 | ⟨g, cap, cur, rfl, hg, hh, r⟩
  · exact .inl h2
  · exact .inr ⟨g, cap, cur, rfl, hg, by rw [e2 g rfl]; exact hh, r⟩
theorem FreeAt.len {w : World} {p : Addr} {v : Value} {len : Nat} {l : List Int} (h : FreeAt w p v len l) : l.length = len := by
  have := h.own.1
  rw [ints_length] at this
  omega
theorem FreeAt.lt {w : World} {p : Addr} {v : Value} {len : Nat} {l : List Int} (h : FreeAt w p v len l) : ∀ b, some b = v.ownBlock → b < w.heap.size := by
  intro b hb
  rcases h.own.2 with ⟨rfl, -⟩ | ⟨g, cap, cur, rfl, hg, hh, r⟩
  · cases hb
  · injection hb with hb
    subst hb
    exact (Array.getElem?_eq_some_iff.1 hh).1
theorem ownsMap_kept {w w' : World} {M c : Nat} {R : Value → Option (DataW Unit × List MemPlace)} {Dm : DataW Unit} (h : w.ownsMap Try.prog 9 R M c Dm) (e : w'.heap[M]? = w.heap[M]?) : w'.ownsMap Try.prog 9 R M c Dm := by
  obtain ⟨es, clock, hb, r⟩ := h
  exact ⟨es, clock, e.trans hb, r⟩
theorem map_no_cell {w : World} {M c : Nat} {R : Value → Option (DataW Unit × List MemPlace)} {Dm : DataW Unit} (h : w.ownsMap Try.prog 9 R M c Dm) (o : Nat) : w.cell? ⟨M, o, none⟩ = none := by
  obtain ⟨es, clock, hb, r⟩ := h
  simp [World.cell?, hb]
section
variable {w w' : World} {h A G C M : Nat} {v : Value} {len : Nat} {l : List Int} {Dm : DataW Unit} {key s n L : Nat} {ks : List ByteArray} {zs : List Int}
theorem Hm.hA (H : Hm w h A G C M v len l Dm key s n L ks zs) : h ≠ A := fun e => by
  have h1 := H.h1
  have h2 := H.ar.c1
  rw [← e, h1] at h2
  cases h2
theorem Hm.hG (H : Hm w h A G C M v len l Dm key s n L ks zs) (hd : Dim s n L) : h ≠ G := fun e => by
  have h1 := H.h0
  have h2 := H.ar.row 0 hd.pos
  rw [← e, Nat.zero_add, h1] at h2
  cases h2
theorem Hm.hM (H : Hm w h A G C M v len l Dm key s n L ks zs) : h ≠ M := fun e => by
  have h1 := H.h0
  have h2 := map_no_cell H.ow 0
  rw [← e, h1] at h2
  cases h2
theorem Hm.AM (H : Hm w h A G C M v len l Dm key s n L ks zs) : A ≠ M := fun e => by
  have h1 := H.ar.c0
  have h2 := map_no_cell H.ow 0
  rw [← e, h1] at h2
  cases h2
theorem Hm.GM (H : Hm w h A G C M v len l Dm key s n L ks zs) (hd : Dim s n L) : G ≠ M := fun e => by
  have h1 := H.ar.row 0 hd.pos
  have h2 := map_no_cell H.ow 0
  rw [← e, ← Nat.zero_add 0, h1] at h2
  cases h2
theorem Hm.vM (H : Hm w h A G C M v len l Dm key s n L ks zs) : some M ≠ v.ownBlock := fun e => by
  obtain ⟨es, clock, hb, -⟩ := H.ow
  rcases H.fr.own.2 with ⟨rfl, -⟩ | ⟨g, cap, cur, rfl, hg, hh, r⟩
  · cases e
  · injection e with e
    subst e
    rw [hb] at hh
    cases hh
theorem Hm.lt (H : Hm w h A G C M v len l Dm key s n L ks zs) : ∀ b, HmS h A G M v b → b < w.heap.size := by
  rintro b (rfl | rfl | rfl | rfl | hb)
  · exact cell_block_lt H.h0
  · exact H.ar.ltA
  · exact H.ar.lt
  · exact H.ow.lt
  · exact H.fr.lt b hb
theorem block_lt_of_eq {w w' : World} {k : Nat} (hk : k < w.heap.size) (e : w'.heap[k]? = w.heap[k]?) : k < w'.heap.size := by
  rw [Array.getElem?_eq_getElem hk] at e
  exact (Array.getElem?_eq_some_iff.1 e).1
theorem Hm.kept (H : Hm w h A G C M v len l Dm key s n L ks zs) (e : ∀ b, HmS h A G M v b → w'.heap[b]? = w.heap[b]?) : Hm w' h A G C M v len l Dm key s n L ks zs := by
  have eh := e h (.inl rfl)
  have eG := e G (.inr (.inr (.inl rfl)))
  exact ⟨(World.cell?_of_block (w := w) eh).trans H.h0, (World.cell?_of_block (w := w) eh).trans H.h1, (World.cell?_of_block (w := w) eh).trans H.h2, H.fr.kept eh (fun b hb => e b (.inr (.inr (.inr (.inr hb))))), (World.frozen?_of_block (w := w) eh).trans H.ff, H.hp, H.pm,
    H.ar.kept (e A (.inr (.inl rfl))) eG (block_lt_of_eq H.ar.lt eG), H.c0, H.c1, ownsMap_kept H.ow (e M (.inr (.inr (.inr (.inl rfl))))), H.ag, H.un, H.kl, H.kz, H.vA, H.vG⟩
theorem Hm.stay (H : Hm w h A G C M v len l Dm key s n L ks zs) (hb : Below w.heap.size w w') : Hm w' h A G C M v len l Dm key s n L ks zs :=
  H.kept fun b hS => hb.block b (H.lt b hS)
/-- Another array stands in the place of the one that there was, in the same blocks. -/
theorem Hm.bytes {zs' : List Int} (H : Hm w h A G C M v len l Dm key s n L ks zs) (hd : Dim s n L) (e : ∀ b, b ≠ G → w'.heap[b]? = w.heap[b]?) (ha : Arr w' A G s n L C zs') : Hm w' h A G C M v len l Dm key s n L ks zs' := by
  have eh := e h (H.hG hd)
  exact ⟨(World.cell?_of_block (w := w) eh).trans H.h0, (World.cell?_of_block (w := w) eh).trans H.h1, (World.cell?_of_block (w := w) eh).trans H.h2, H.fr.kept eh (fun b hb => e b (fun e2 => H.vG (by rw [← e2]; exact hb))), (World.frozen?_of_block (w := w) eh).trans H.ff, H.hp, H.pm,
    ha, H.c0, H.c1, ownsMap_kept H.ow (e M (fun e2 => H.GM hd e2.symm)), H.ag, H.un, H.kl, H.kz, H.vA, H.vG⟩
theorem Hm.put1 (H : Hm w h A G C M v len l Dm key s n L ks zs) (hd : Dim s n L) {p : Nat} {y : Int} (hp : p < L) : Hm (w.setCell ⟨G, p, none⟩ (.int .u8 y)) h A G C M v len l Dm key s n L ks (zs.set p y) :=
  H.bytes hd (fun b hb => Below.heap_setCell w ⟨G, p, none⟩ _ b hb) (H.ar.put hp)
theorem Hm.puts (H : Hm w h A G C M v len l Dm key s n L ks zs) (hd : Dim s n L) {p : Nat} {vz : List Int} (hp : p + vz.length ≤ L) : Hm (w.setCells G p (u8s vz)) h A G C M v len l Dm key s n L ks (setL zs p vz) :=
  H.bytes hd (fun b hb => heap_setCells G _ _ w b hb) (H.ar.puts vz hp)
theorem Hm.size (H : Hm w h A G C M v len l Dm key s n L ks zs) (hd : Dim s n L) : len ≤ 16 := by
  have h1 := H.fr.len
  have h2 := H.pm.length_eq
  have h3 := freeK_len ks
  have h4 := H.kl
  have h5 := hd.n1
  omega
end
/-- A map of the program in memory, its blocks D. -/
def PM (key s n L : Nat) : MapMem := fun w D h ks zs => ∃ A G C M v len l Dm, Hm w h A G C M v len l Dm key s n L ks zs ∧ ∀ b, D b ↔ HmS h A G M v b
end Go.Proofs.Ytcociipcimdjjaa
