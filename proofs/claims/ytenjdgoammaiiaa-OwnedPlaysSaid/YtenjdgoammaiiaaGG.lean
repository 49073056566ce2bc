/-
  Proved here: a map of the program in memory: what it stays under; a byte of a slot written; an array's copy with its room. Conditions: as each lemma says.
-/
import Derived.Test.YtenjdgoammaiiaaHMapK
import Derived.Test.YtenjdgoammaiiaaGF
import Derived.Test.YtenjdgoammaiiaaHPMem
import Derived.Deep.QuietTactic
import Derived.BigQuiet
import Derived.Deep.RegionHeld3
import Derived.Laws.IdiomCopy
import Derived.Deep.DeepCutAuto
namespace Go.Proofs.Ytenjdgoammaiiaa
open Go.RowKit
set_option maxRecDepth 100000

/-! ### What the array's own contracts leave out -/
/-- A new row of bytes, with its room. -/
def GaveRowC (W : World) (len : Nat) (zs : List Int) (e : Ending) (w : World) : Prop := ∃ g cap, e = .returned (.slice (some ⟨g, 0, none⟩) len cap) ∧ Fresh W w g len zs ∧ len ≤ cap ∧ cap ≤ maxLen
theorem cloneC_row (g len cap : Nat) (zs : List Int) (w : World) (hz : zs.length = len) (h0 : 0 < len) (hl : len ≤ 1000) (hr : RowAt w g 0 len zs) (hg : g < w.heap.size) :
    Calls Try.prog 83 #[.slice (some ⟨g, 0, none⟩) len cap] w (GaveRowC w len zs) := by
  have HZ := Lib.hid hz
  have HR := Lib.hid hr
  clear hz hr
  obtain ⟨i0, hi0, hz0, hz1, hz2⟩ := info_parts u8_info
  have q := fun (w : World) (a : Option Addr) (n c n' c' : Nat) => Lib.run_eql_slice_nil (P := Try.prog) w 32 5 a n c n' c' Try.underlying32
  go_enter Try.func83, Try.ntmps83
  go_wp2_with (at_builtin; refine wpList_append_own_at _ rfl _ _ 32 rfl w.heap.size 5 i0 _ 1 1 Try.underlying32 hi0 hz0 hz1 hz2 rfl (by omega) _ 0 [] rfl (own_empty w) ⟨g, 0, none⟩ len cap (u8s zs) rfl (by rw [u8s_length, HZ.out]; omega) (fun j u hu => by rw [add_lit, World.cell?_alloc_lt _ _ _ hg]; exact u8s_cells HZ.out HR.out j u hu) u8s_one (by unfold maxLen; omega) (by omega) (by simp) ?_; intro v1 w1 hown hgr _ hat; have HO := Lib.hid hown; have HG := Lib.hid hgr; clear hown hgr hat)
  go_ret
  have hown := HO.out
  have hb : Below w.heap.size w w1 := ((Below.refl _ _).alloc (Nat.le_refl _) _).grown HG.out (by simp) (fun k hk => by
    first | (have h9 : some w.heap.size = some k := hk; injection h9 with h9; omega) | (have h9 : some k = some w.heap.size := hk; injection h9 with h9; omega))
  rw [Nat.zero_add, List.nil_append] at hown
  have hcap : ∀ g1 cap1, v1 = .slice (some ⟨g1, 0, none⟩) len cap1 → len ≤ cap1 ∧ cap1 ≤ maxLen := by
    intro g1 cap1 e
    rcases hown.2 with ⟨h1, -⟩ | ⟨g2, cap2, cur, h1, -, -, h2, h3, -⟩
    · rw [e] at h1; cases h1
    · rw [e] at h1; injection h1 with _ _ h1; subst h1; exact ⟨h2, h3⟩
  obtain ⟨g1, cap1, e, hf⟩ := fresh_of_own HZ.out h0 hown hb
  obtain ⟨h2, h3⟩ := hcap g1 cap1 e
  exact ⟨g1, cap1, by rw [e]; rfl, hf, h2, h3⟩
theorem arrC_bytes (A G s n L C : Nat) (zs : List Int) (w : World) (h0 : 0 < L) (hl : L ≤ 1000) (h : Arr w A G s n L C zs) : Calls Try.prog 70 #[.pointer (some ⟨A, 0, none⟩)] w (GaveRowC w L zs) := by
  have h2 := h.c2
  go_enter Try.func70, Try.ntmps70
  go_wp2_with (go_at_call 83; refine (cloneC_row _ _ _ zs _ h.len h0 hl h.row h.lt).mono ?_; rintro e w' ⟨g1, cap1, rfl, hf, hc1, hc2⟩)
  go_ret
  exact ⟨_, _, rfl, hf, hc1, hc2⟩
def GaveCopyC (W : World) (s n L : Nat) (zs : List Int) (e : Ending) (w : World) : Prop :=
  ∃ A G C, e = .returned (.pointer (some ⟨A, 0, none⟩)) ∧ Below W.heap.size W w ∧ W.heap.size ≤ A ∧ W.heap.size ≤ G ∧ Arr w A G s n L C zs ∧ L ≤ C ∧ C ≤ maxLen
theorem arrC_copy (A G s n L C : Nat) (zs : List Int) (w : World) (h0 : 0 < L) (hl : L ≤ 1000) (h : Arr w A G s n L C zs) : Calls Try.prog 45 #[.pointer (some ⟨A, 0, none⟩)] w (GaveCopyC w s n L zs) := by
  have hd : Arr w.drew A G s n L C zs := h.stay (Below.refl _ _).drew
  go_enter Try.func45, Try.ntmps45
  go_wp2
  go_region_held3 (fun W => W.cell? ⟨A, 0, none⟩ = some (.int .i64 s) ∧ W.cell? ⟨A, 1, none⟩ = some (.int .i64 n))
    (first | exact ⟨(hd1.stay ((Below.refl _ _).alloc (Nat.le_refl _) _)).c0, (hd1.stay ((Below.refl _ _).alloc (Nat.le_refl _) _)).c1⟩ | exact ⟨hd1.c0, hd1.c1⟩ | exact ⟨hd.c0, hd.c1⟩)
    ((go_at_call 70; refine (arrC_bytes _ _ _ _ _ _ zs _ h0 hl hd).mono ?_; rintro e w1 ⟨g1, cap1, rfl, hf, hc1, hc2⟩; have hd1 := hd.stay hf.below))
  go_wp2
  have hg1 : g1 < w1.heap.size := cell_block_lt (hf.row 0 h0)
  have hb : Below w.heap.size w w1 := ((Below.refl _ _).drew).trans hf.below
  have hsz := hb.size
  go_ret
  refine ⟨_, _, cap1, rfl, hb.alloc hb.size _, hb.size, hf.at_, ⟨?_, ?_, ?_, fun j hj => ?_, fun j => ?_, h.len, by omega, by simp; omega⟩, hc1, hc2⟩
  · simp [go_sem]
  · simp [go_sem]
  · simp [go_sem]
  · rw [World.cell?_alloc_lt _ _ _ hg1]
    exact hf.row j hj
  · rw [frozen?_alloc_cells]
    exact hf.free j
theorem slotC_no (A : Nat) (n : Nat) (k : Int) (w : World) (h : w.cell? ⟨A, 1, none⟩ = some (.int .i64 n)) (hk : ¬ (0 ≤ k ∧ k < n)) :
    Calls Try.prog 62 #[.pointer (some ⟨A, 0, none⟩), .int .i64 k] w (fun e w' => e = .returned (.tuple #[.slice none 0 0, .bool false]) ∧ Below w.heap.size w w') := by
  have HC := Lib.hid h
  clear h
  by_cases h1 : k < 0
  · go_enter Try.func62, Try.ntmps62
    go_wp2_with (go_at_call 66; refine (arr_len _ _ _ HC.out).mono ?_; rintro e w' ⟨rfl, rfl⟩)
    go_ret2
    exact ⟨rfl, Below.refl _ _⟩
  · have h2 : (n : Int) ≤ k := by omega
    go_enter Try.func62, Try.ntmps62
    go_wp2_with (go_at_call 66; refine (arr_len _ _ _ HC.out).mono ?_; rintro e w' ⟨rfl, rfl⟩)
    go_ret2
    exact ⟨rfl, Below.refl _ _⟩
theorem slotC_yes (A G s n L C k p : Nat) (zs : List Int) (w : World) (hd : Dim s n L) (hLC : L ≤ C) (h : Arr w A G s n L C zs) (hk : k < n) (hp : k * s = p) :
    Calls Try.prog 62 #[.pointer (some ⟨A, 0, none⟩), .int .i64 k] w (fun e w' => e = .returned (.tuple #[.slice (some ⟨G, p, none⟩) s s, .bool true]) ∧ Below w.heap.size w w') := by
  have hps : p + s ≤ L := by rw [← hp]; exact hd.at hk
  have hps2 : p + s ≤ C := by omega
  have hle := hd.le
  have s0 := hd.s0
  have n1 := hd.n1
  have hc0 := h.c0
  have HC := Lib.hid h.c1
  have hc2 := h.c2
  have e0 : IntKind.i64.wrap ((k : Int) + 1) = k + 1 := IntWalk.i64_in _ (by omega)
  have e1 : IntKind.i64.wrap ((k : Int) * s) = p := by rw [← Int.natCast_mul, hp]; exact IntWalk.i64_in _ (by omega)
  have e2 : IntKind.i64.wrap (((k : Int) + 1) * s) = ((p + s : Nat) : Int) := by
    rw [Int.add_mul, ← Int.natCast_mul, hp, Int.one_mul, ← Int.natCast_add]; exact IntWalk.i64_in _ (by omega)
  have hk2 : ((k : Int) < 0) = False := by simp
  clear h hp hd
  go_enter Try.func62, Try.ntmps62
  go_wp2_with (go_at_call 66; refine (arr_len _ _ _ HC.out).mono ?_; rintro e w' ⟨rfl, rfl⟩)
  go_quiet (fail)
  go_wp2
  go_ret2
  have e3 : p + s - p = s := by omega
  refine ⟨?_, ⟨rfl, rfl, rfl, Nat.le_refl _, fun _ _ => rfl⟩⟩
  show Ending.returned (.tuple #[.slice (some ⟨G, p, none⟩) (p + s - p) (p + s - p), .bool true]) = _
  rw [e3]

/-! ### Stores -/
theorem Arr.kept {w w' : World} {A G s n L C : Nat} {zs : List Int} (h : Arr w A G s n L C zs) (eA : w'.heap[A]? = w.heap[A]?) (eG : w'.heap[G]? = w.heap[G]?) (hz : G < w'.heap.size) : Arr w' A G s n L C zs :=
  ⟨(World.cell?_of_block (w := w) eA).trans h.c0, (World.cell?_of_block (w := w) eA).trans h.c1, (World.cell?_of_block (w := w) eA).trans h.c2, fun j hj => (World.cell?_of_block (w := w) eG).trans (h.row j hj),
    fun j => (World.frozen?_of_block (w := w) eG).trans (h.free j), h.len, h.ne, hz⟩
theorem Arr.put {w : World} {A G s n L C p : Nat} {zs : List Int} {y : Int} (h : Arr w A G s n L C zs) (hp : p < L) : Arr (w.setCell ⟨G, p, none⟩ (.int .u8 y)) A G s n L C (zs.set p y) := by
  have eA := Below.heap_setCell w ⟨G, p, none⟩ (.int .u8 y) A h.ne
  have hl := h.len
  refine ⟨(World.cell?_of_block (w := w) eA).trans h.c0, (World.cell?_of_block (w := w) eA).trans h.c1, (World.cell?_of_block (w := w) eA).trans h.c2, fun j hj => ?_, fun j => ?_, by simp [hl], h.ne, by simp [World.setCell]; exact h.lt⟩
  · have hc := h.row j hj
    rw [Nat.zero_add] at hc ⊢
    rw [cell_set hc, set_get (by omega)]
    by_cases e : p = j <;> simp [e]
  · rw [World.frozen?_setCell]
    exact h.free j
/-- Bytes written one behind the other. -/
def setL (zs : List Int) : Nat → List Int → List Int
  | _, [] => zs
  | p, v :: r => setL (zs.set p v) (p + 1) r
theorem setL_snoc : ∀ (a : List Int) (zs : List Int) (p : Nat) (x : Int), setL zs p (a ++ [x]) = (setL zs p a).set (p + a.length) x
  | [], zs, p, x => rfl
  | v :: r, zs, p, x => by
    show setL (zs.set p v) (p + 1) (r ++ [x]) = _
    rw [setL_snoc r]
    show _ = (setL (zs.set p v) (p + 1) r).set (p + (r.length + 1)) x
    rw [show p + 1 + r.length = p + (r.length + 1) by omega]
theorem putN_setL (zs : List Int) (p : Nat) (vz : List Int) : ∀ i, i ≤ vz.length → putN zs p vz i = setL zs p (vz.take i)
  | 0, _ => rfl
  | i + 1, h => by
    have hi : i < vz.length := h
    rw [List.take_succ_eq_append_getElem hi, setL_snoc, List.length_take, Nat.min_eq_left (by omega), ← putN_setL zs p vz i (by omega)]
    show (putN zs p vz i).set (p + i) (vz.getD i 0) = _
    rw [List.getD_eq_getElem?_getD, List.getElem?_eq_getElem hi]
    rfl
theorem Arr.puts {A G s n L C : Nat} : ∀ (vz : List Int) {w : World} {p : Nat} {zs : List Int}, Arr w A G s n L C zs → p + vz.length ≤ L → Arr (w.setCells G p (u8s vz)) A G s n L C (setL zs p vz)
  | [], _, _, _, h, _ => h
  | v :: r, w, p, zs, h, hp => by
    have h1 := h.put (p := p) (y := v) (by simp at hp; omega)
    exact Arr.puts r h1 (by simp at hp; omega)
theorem heap_setCells (b : Nat) : ∀ (vs : List Value) (o : Nat) (w : World) (k : Nat), k ≠ b → (w.setCells b o vs).heap[k]? = w.heap[k]?
  | [], _, _, _, _ => rfl
  | v :: r, o, w, k, h => by
    rw [World.setCells, heap_setCells b r _ _ k h]
    exact Below.heap_setCell w ⟨b, o, none⟩ v k h
theorem turned_setCells {S : Nat → Prop} {W : World} (b : Nat) (hb : S b) : ∀ (vs : List Value) (o : Nat) {w : World}, Turned S W w → Turned S W (w.setCells b o vs)
  | [], _, _, h => h
  | v :: r, o, _, h => turned_setCells b hb r (o + 1) (h.set (a := ⟨b, o, none⟩) hb v)

/-! ### The program's map -/
/-- A map of the program in memory. -/
structure Hm (w : World) (h A G C M : Nat) (v : Value) (len : Nat) (l : List Int) (Dm : DataW Unit) (key s n L : Nat) (ks : List ByteArray) (zs : List Int) : Prop where
  h0 : w.cell? ⟨h, 0, none⟩ = some (.int .i64 key)
  h1 : w.cell? ⟨h, 1, none⟩ = some (.pointer (some ⟨A, 0, none⟩))
  h2 : w.cell? ⟨h, 2, none⟩ = some (.map (some M))
  fr : FreeAt w ⟨h, 3, none⟩ v len l
  ff : w.frozen? ⟨h, 3, none⟩ = false
  hp : IsHeap l len
  pm : l.Perm (freeK ks)
  ar : Arr w A G s n L C zs
  c0 : L ≤ C
  c1 : C ≤ maxLen
  ow : w.ownsMap Try.prog 9 (plainElem Try.prog 3) M 16 Dm
  ag : Agr Dm ks
  un : Uniq ks
  kl : ks.length = n
  kz : ∀ y, y ∈ ks → y ≠ ⟨#[]⟩ → y.size = key
  vA : some A ≠ v.ownBlock
  vG : some G ≠ v.ownBlock
/-- Its blocks. -/
def HmS (h A G M : Nat) (v : Value) : Nat → Prop := fun b => b = h ∨ b = A ∨ b = G ∨ b = M ∨ some b = v.ownBlock
theorem FreeAt.kept {w w' : World} {p : Addr} {v : Value} {len : Nat} {l : List Int} (h : FreeAt w p v len l) (e1 : w'.heap[p.block]? = w.heap[p.block]?) (e2 : ∀ b, some b = v.ownBlock → w'.heap[b]? = w.heap[b]?) : FreeAt w' p v len l := by
  refine ⟨(World.cell?_of_block (w := w) e1).trans h.c, ⟨h.own.1, ?_⟩, h.ne⟩
  rcases h.own.2 with h2 | ⟨g, cap, cur, rfl, hg, hh, r⟩
  · exact .inl h2
  · exact .inr ⟨g, cap, cur, rfl, hg, by rw [e2 g rfl]; exact hh, r⟩
theorem FreeAt.len {w : World} {p : Addr} {v : Value} {len : Nat} {l : List Int} (h : FreeAt w p v len l) : l.length = len := by
  have := h.own.1
  rw [ints_length] at this
  omega
theorem FreeAt.lt {w : World} {p : Addr} {v : Value} {len : Nat} {l : List Int} (h : FreeAt w p v len l) : ∀ b, some b = v.ownBlock → b < w.heap.size := by
  intro b hb
  rcases h.own.2 with ⟨rfl, -⟩ | ⟨g, cap, cur, rfl, hg, hh, r⟩
  · cases hb
  · injection hb with hb
    subst hb
    exact (Array.getElem?_eq_some_iff.1 hh).1
theorem ownsMap_kept {w w' : World} {M c : Nat} {R : Value → Option (DataW Unit × List MemPlace)} {Dm : DataW Unit} (h : w.ownsMap Try.prog 9 R M c Dm) (e : w'.heap[M]? = w.heap[M]?) : w'.ownsMap Try.prog 9 R M c Dm := by
  obtain ⟨es, clock, hb, r⟩ := h
  exact ⟨es, clock, e.trans hb, r⟩
theorem map_no_cell {w : World} {M c : Nat} {R : Value → Option (DataW Unit × List MemPlace)} {Dm : DataW Unit} (h : w.ownsMap Try.prog 9 R M c Dm) (o : Nat) : w.cell? ⟨M, o, none⟩ = none := by
  obtain ⟨es, clock, hb, r⟩ := h
  simp [World.cell?, hb]
section
variable {w w' : World} {h A G C M : Nat} {v : Value} {len : Nat} {l : List Int} {Dm : DataW Unit} {key s n L : Nat} {ks : List ByteArray} {zs : List Int}
theorem Hm.hA (H : Hm w h A G C M v len l Dm key s n L ks zs) : h ≠ A := fun e => by
  have h1 := H.h1
  have h2 := H.ar.c1
  rw [← e, h1] at h2
  cases h2
theorem Hm.hG (H : Hm w h A G C M v len l Dm key s n L ks zs) (hd : Dim s n L) : h ≠ G := fun e => by
  have h1 := H.h0
  have h2 := H.ar.row 0 hd.pos
  rw [← e, Nat.zero_add, h1] at h2
  cases h2
theorem Hm.hM (H : Hm w h A G C M v len l Dm key s n L ks zs) : h ≠ M := fun e => by
  have h1 := H.h0
  have h2 := map_no_cell H.ow 0
  rw [← e, h1] at h2
  cases h2
theorem Hm.AM (H : Hm w h A G C M v len l Dm key s n L ks zs) : A ≠ M := fun e => by
  have h1 := H.ar.c0
  have h2 := map_no_cell H.ow 0
  rw [← e, h1] at h2
  cases h2
theorem Hm.GM (H : Hm w h A G C M v len l Dm key s n L ks zs) (hd : Dim s n L) : G ≠ M := fun e => by
  have h1 := H.ar.row 0 hd.pos
  have h2 := map_no_cell H.ow 0
  rw [← e, ← Nat.zero_add 0, h1] at h2
  cases h2
theorem Hm.vM (H : Hm w h A G C M v len l Dm key s n L ks zs) : some M ≠ v.ownBlock := fun e => by
  obtain ⟨es, clock, hb, -⟩ := H.ow
  rcases H.fr.own.2 with ⟨rfl, -⟩ | ⟨g, cap, cur, rfl, hg, hh, r⟩
  · cases e
  · injection e with e
    subst e
    rw [hb] at hh
    cases hh
theorem Hm.lt (H : Hm w h A G C M v len l Dm key s n L ks zs) : ∀ b, HmS h A G M v b → b < w.heap.size := by
  rintro b (rfl | rfl | rfl | rfl | hb)
  · exact cell_block_lt H.h0
  · exact H.ar.ltA
  · exact H.ar.lt
  · exact H.ow.lt
  · exact H.fr.lt b hb
theorem block_lt_of_eq {w w' : World} {k : Nat} (hk : k < w.heap.size) (e : w'.heap[k]? = w.heap[k]?) : k < w'.heap.size := by
  rw [Array.getElem?_eq_getElem hk] at e
  exact (Array.getElem?_eq_some_iff.1 e).1
theorem Hm.kept (H : Hm w h A G C M v len l Dm key s n L ks zs) (e : ∀ b, HmS h A G M v b → w'.heap[b]? = w.heap[b]?) : Hm w' h A G C M v len l Dm key s n L ks zs := by
  have eh := e h (.inl rfl)
  have eG := e G (.inr (.inr (.inl rfl)))
  exact ⟨(World.cell?_of_block (w := w) eh).trans H.h0, (World.cell?_of_block (w := w) eh).trans H.h1, (World.cell?_of_block (w := w) eh).trans H.h2, H.fr.kept eh (fun b hb => e b (.inr (.inr (.inr (.inr hb))))), (World.frozen?_of_block (w := w) eh).trans H.ff, H.hp, H.pm,
    H.ar.kept (e A (.inr (.inl rfl))) eG (block_lt_of_eq H.ar.lt eG), H.c0, H.c1, ownsMap_kept H.ow (e M (.inr (.inr (.inr (.inl rfl))))), H.ag, H.un, H.kl, H.kz, H.vA, H.vG⟩
theorem Hm.stay (H : Hm w h A G C M v len l Dm key s n L ks zs) (hb : Below w.heap.size w w') : Hm w' h A G C M v len l Dm key s n L ks zs :=
  H.kept fun b hS => hb.block b (H.lt b hS)
/-- Another array stands in the place of the one that there was, in the same blocks. -/
theorem Hm.bytes {zs' : List Int} (H : Hm w h A G C M v len l Dm key s n L ks zs) (hd : Dim s n L) (e : ∀ b, b ≠ G → w'.heap[b]? = w.heap[b]?) (ha : Arr w' A G s n L C zs') : Hm w' h A G C M v len l Dm key s n L ks zs' := by
  have eh := e h (H.hG hd)
  exact ⟨(World.cell?_of_block (w := w) eh).trans H.h0, (World.cell?_of_block (w := w) eh).trans H.h1, (World.cell?_of_block (w := w) eh).trans H.h2, H.fr.kept eh (fun b hb => e b (fun e2 => H.vG (by rw [← e2]; exact hb))), (World.frozen?_of_block (w := w) eh).trans H.ff, H.hp, H.pm,
    ha, H.c0, H.c1, ownsMap_kept H.ow (e M (fun e2 => H.GM hd e2.symm)), H.ag, H.un, H.kl, H.kz, H.vA, H.vG⟩
theorem Hm.put1 (H : Hm w h A G C M v len l Dm key s n L ks zs) (hd : Dim s n L) {p : Nat} {y : Int} (hp : p < L) : Hm (w.setCell ⟨G, p, none⟩ (.int .u8 y)) h A G C M v len l Dm key s n L ks (zs.set p y) :=
  H.bytes hd (fun b hb => Below.heap_setCell w ⟨G, p, none⟩ _ b hb) (H.ar.put hp)
theorem Hm.puts (H : Hm w h A G C M v len l Dm key s n L ks zs) (hd : Dim s n L) {p : Nat} {vz : List Int} (hp : p + vz.length ≤ L) : Hm (w.setCells G p (u8s vz)) h A G C M v len l Dm key s n L ks (setL zs p vz) :=
  H.bytes hd (fun b hb => heap_setCells G _ _ w b hb) (H.ar.puts vz hp)
theorem Hm.size (H : Hm w h A G C M v len l Dm key s n L ks zs) (hd : Dim s n L) : len ≤ 16 := by
  have h1 := H.fr.len
  have h2 := H.pm.length_eq
  have h3 := freeK_len ks
  have h4 := H.kl
  have h5 := hd.n1
  omega
end
/-- A map of the program in memory, its blocks D. -/
def PM (key s n L : Nat) : MapMem := fun w D h ks zs => ∃ A G C M v len l Dm, Hm w h A G C M v len l Dm key s n L ks zs ∧ ∀ b, D b ↔ HmS h A G M v b
end Go.Proofs.Ytenjdgoammaiiaa

/-
  Proved here: what Len, Bytes, Slot and Find of the program's map tell. Conditions: as each lemma says.
-/
namespace Go.Proofs.Ytenjdgoammaiiaa
open Go.RowKit
set_option maxRecDepth 100000

theorem conv_empty (a : Option Addr) (c : Nat) (w : World) : (convert 32 9 (.slice a 0 c)).run Try.prog w = .ok (.string ⟨#[]⟩) w := by
  cases a <;> kernel_rfl
theorem zero3 (w : World) : (zeroValue 3).run Try.prog w = .ok (.int .i64 0) w := by kernel_rfl
/-- A key looked up. -/
def lookV (o : Option Nat) : Value := .tuple #[.int .i64 (match o with
  | some i => (i : Int)
  | none => 0), .bool o.isSome]
theorem look_run {w : World} {M : Nat} {Dm : DataW Unit} {ks : List ByteArray} (h : w.ownsMap Try.prog 9 (plainElem Try.prog 3) M 16 Dm) (ag : Agr Dm ks) {y : ByteArray} (hy : y.size ≤ maxLen) :
    (Instr.lookup 122 (.map (some M)) (.string y) true).run Try.prog w = .ok (lookV (slotOf ks y)) w := by
  obtain ⟨v, ps, hrun, hv⟩ := h.look_ok keyed9 Try.underlying122 (zero3 w) (plainElem_int Try.underlying3 (q := .i64) (a := 0) (by decide)) (key9 hy)
  obtain ⟨c, rfl, hc, -⟩ := plainElem_int_inv Try.underlying3 hv
  have hc1 := congrArg Prod.fst hc
  simp only at hc1
  rw [ag.at_] at hc1
  rw [hrun]
  unfold lookV
  cases hs : slotOf ks y with
  | some i =>
    rw [hs] at hc1
    simp only [DataW.lit.injEq, Lit.int.injEq, true_and] at hc1
    rw [ag.yes hs, ← hc1]
    rfl
  | none =>
    rw [hs] at hc1
    simp only [DataW.lit.injEq, Lit.int.injEq, true_and] at hc1
    rw [ag.no hs, ← hc1]
    rfl
section
variable {h A G C M : Nat} {v : Value} {len : Nat} {l : List Int} {Dm : DataW Unit} {key s n L : Nat} {ks : List ByteArray} {zs : List Int}
theorem slot_found {w : World} (H : Hm w h A G C M v len l Dm key s n L ks zs) (hk : 1 ≤ key) (kz : List Int) : slotOf ks (strOfNums kz) = if kz.length = key then ks.findIdx? (· = strOfNums kz) else none := by
  by_cases h0 : strOfNums kz = ⟨#[]⟩
  · have h1 := strOfNums_size kz
    rw [h0] at h1
    have h3 : 0 = kz.length := h1
    rw [if_neg (by omega)]
    unfold slotOf
    rw [if_pos h0]
  · split
    · unfold slotOf
      rw [if_neg h0]
    · rename_i e
      refine slotOf_none fun i hi e2 => ?_
      have h1 := H.kz _ (getD_mem hi) (by rw [e2]; exact h0)
      rw [e2, strOfNums_size] at h1
      exact e h1
/-- The bytes of a key made a string. -/
theorem conv_key {w : World} {a : Value} {kz : List Int} (h : KeyAt w a kz) : (convert 32 9 a).run Try.prog w = .ok (.string (strOfNums kz)) w := by
  cases h with
  | empty a c => exact conv_empty a c w
  | row g off len c kz hl hr hg => exact str_of hl hr
theorem key_drewN {w : World} {a : Value} {kz : List Int} (h : KeyAt w a kz) (m : Nat) : KeyAt (w.drewN m) a kz := by
  cases h with
  | empty a c => exact .empty a c
  | row g off len c kz hl hr hg => exact .row g off len c kz hl hr hg
theorem key_len {w : World} {a : Value} {kz : List Int} (h : KeyAt w a kz) : ∃ x c, a = .slice x kz.length c := by
  cases h with
  | empty a c => exact ⟨a, c, rfl⟩
  | row g off len c kz hl hr hg => exact ⟨_, c, by rw [hl]⟩
theorem hm_len {w : World} (H : Hm w h A G C M v len l Dm key s n L ks zs) : Calls Try.prog 110 #[.pointer (some ⟨h, 0, none⟩)] w (fun e w' => e = .returned (.int .i64 (listK ks).length) ∧ Below w.heap.size w w') := by
  have c2 := H.h2
  have hl := fun ty => H.ow.len Try.underlying122 ty
  rw [H.ag.size] at hl
  clear H
  go_enter Try.func110, Try.ntmps110
  go_wp2
  go_ret
  exact ⟨rfl, Below.refl _ _⟩
theorem hm_bytes {w : World} (H : Hm w h A G C M v len l Dm key s n L ks zs) (hd : Dim s n L) : Calls Try.prog 109 #[.pointer (some ⟨h, 0, none⟩)] w (GaveRow w L zs) := by
  have c1 := H.h1
  have HA := Lib.hid H.ar
  have hle := hd.le
  clear H
  go_enter Try.func109, Try.ntmps109
  go_wp2_with (go_at_call 70; refine (arr_bytes _ _ _ _ _ _ zs _ hd.pos (by omega) HA.out).mono ?_; rintro e w' ⟨g1, cap1, rfl, hf⟩)
  go_ret
  exact ⟨_, _, rfl, hf⟩
theorem hm_slot_no {w : World} {K : Int} (H : Hm w h A G C M v len l Dm key s n L ks zs) (hK : ¬ (0 ≤ K ∧ K < n)) : Calls Try.prog 111 #[.pointer (some ⟨h, 0, none⟩), .int .i64 K] w (fun e w' => e = .returned (.tuple #[.slice none 0 0, .bool false]) ∧ Below w.heap.size w w') := by
  have c1 := H.h1
  have HA := Lib.hid H.ar.c1
  have HK := Lib.hid hK
  clear H hK
  go_enter Try.func111, Try.ntmps111
  go_wp2_with (go_at_call 62; refine (slotC_no _ _ _ _ HA.out HK.out).mono ?_; rintro e w' ⟨rfl, hb⟩)
  go_ret2
  exact ⟨rfl, hb⟩
theorem hm_slot_yes {w : World} {q : Nat} (H : Hm w h A G C M v len l Dm key s n L ks zs) (hd : Dim s n L) (hq : q < n) : Calls Try.prog 111 #[.pointer (some ⟨h, 0, none⟩), .int .i64 (q : Int)] w (fun e w' => e = .returned (.tuple #[.slice (some ⟨G, q * s, none⟩) s s, .bool true]) ∧ Below w.heap.size w w') := by
  have c1 := H.h1
  have HA := Lib.hid H.ar
  have HC := H.c0
  clear H
  go_enter Try.func111, Try.ntmps111
  go_wp2_with (go_at_call 62; refine (slotC_yes _ _ _ _ _ _ _ _ _ _ hd HC HA.out hq rfl).mono ?_; rintro e w' ⟨rfl, hb⟩)
  go_ret2
  exact ⟨rfl, hb⟩
theorem hm_find {w : World} {a : Value} {kz : List Int} (H : Hm w h A G C M v len l Dm key s n L ks zs) (hk : 1 ≤ key) (ha : KeyAt w a kz) (hm : kz.length ≤ maxLen) : Calls Try.prog 38 #[.pointer (some ⟨h, 0, none⟩), a] w (FoundP ks key kz w) := by
  have c2 := H.h2
  have hsl := slot_found H hk kz
  have hcv : ∀ m, (convert 32 9 a).run Try.prog (w.drewN m) = .ok (.string (strOfNums kz)) (w.drewN m) := fun m => conv_key (key_drewN ha m)
  have hlk : ∀ m, (Instr.lookup 122 (.map (some M)) (.string (strOfNums kz)) true).run Try.prog (w.drewN m) = .ok (lookV (slotOf ks (strOfNums kz))) (w.drewN m) := fun m => look_run (w := w.drewN m) H.ow H.ag (by rw [strOfNums_size]; exact hm)
  obtain ⟨x, c, rfl⟩ := key_len ha
  obtain ⟨y, hy⟩ : ∃ y, strOfNums kz = y := ⟨_, rfl⟩
  have HP : ∀ v1 b1, lookV (slotOf ks y) = .tuple #[.int .i64 v1, .bool b1] → FoundP ks key kz w (.returned (.tuple #[.int .i64 v1, .bool b1])) w := by
    intro v1 b1 e
    refine ⟨?_, Below.refl _ _⟩
    rw [← e, ← hy, hsl]
    by_cases e3 : kz.length = key
    · rw [if_pos e3, if_pos e3]
      cases ks.findIdx? (· = strOfNums kz) <;> rfl
    · rw [if_neg e3, if_neg e3]
      rfl
  rw [hy] at hcv hlk
  obtain ⟨v1, b1, hv⟩ : ∃ v1 b1, lookV (slotOf ks y) = .tuple #[.int .i64 v1, .bool b1] := ⟨_, _, rfl⟩
  have HPV := Lib.hid (HP v1 b1 hv)
  rw [hv] at hlk
  clear H hsl HP hv hy ha
  go_enter Try.func38, Try.ntmps38
  go_wp2
  go_quiet (fail)
  go_wp2
  go_ret2
  exact ⟨HPV.out.1, bdrewN (Below.refl _ _) _⟩
end
end Go.Proofs.Ytenjdgoammaiiaa

/-
  Proved here: what Drop of the program's map does. Conditions: as each lemma says.
-/
namespace Go.Proofs.Ytenjdgoammaiiaa
open Go.RowKit
set_option maxRecDepth 100000

section
variable {h A G C M : Nat} {v : Value} {len : Nat} {l : List Int} {Dm : DataW Unit} {key s n L : Nat} {ks : List ByteArray} {zs : List Int}
theorem set_keys {x : ByteArray} {i : Nat} (hk : ∀ y, y ∈ ks → y ≠ ⟨#[]⟩ → y.size = key) (hx : x ≠ ⟨#[]⟩ → x.size = key) : ∀ y, y ∈ ks.set i x → y ≠ ⟨#[]⟩ → y.size = key := by
  intro y hy hne
  rcases List.mem_or_eq_of_mem_set hy with h1 | h1
  · exact hk y h1 hne
  · rw [h1]; exact hx (by rw [← h1]; exact hne)
theorem turned_other {w w1 : World} {M : Nat} (ht : w.mapTurned w1 M) : (∀ b, b ≠ M → w1.heap[b]? = w.heap[b]?) ∧ w1.heap.size = w.heap.size := by
  obtain ⟨es, clock, es', clock', hb, rfl⟩ := ht
  exact ⟨fun b h => ChangeMaps.heap_setBlock_other hb _ h, by simp [ChangeMaps.setBlock]⟩
/-- A key is struck, its slot pushed. -/
theorem Hm.dropped {w W1 w2 : World} (H : Hm w h A G C M v len l Dm key s n L ks zs) (hd : Dim s n L) {y : ByteArray} {i B cap : Nat} {l2 : List Int} (hs : slotOf ks y = some i) (e1 : ∀ b, b ≠ M → W1.heap[b]? = w.heap[b]?) (hz : W1.heap.size = w.heap.size)
    (ho : W1.ownsMap Try.prog 9 (plainElem Try.prog 3) M 16 (Dm.del (keyL y))) (hL : ListAt w2 ⟨h, 3, none⟩ B (len + 1) cap l2) (hh : IsHeap l2 (len + 1)) (hp : l2.Perm (l ++ [(i : Int)])) (hb : But2 h v.ownBlock W1 w2) (hB : some B = v.ownBlock ∨ W1.heap.size ≤ B)
    (hf : w2.frozen? ⟨h, 3, none⟩ = false) (hc : ∀ o, o ≠ 3 → w2.cell? ⟨h, o, none⟩ = W1.cell? ⟨h, o, none⟩) : Hm w2 h A G C M (.slice (some ⟨B, 0, none⟩) (len + 1) cap) (len + 1) l2 (Dm.del (keyL y)) key s n L (ks.set i ⟨#[]⟩) zs := by
  obtain ⟨hi, hy, hne⟩ := slotOf_some hs
  have e2 : ∀ b, b ≠ M → b ≠ h → some b ≠ v.ownBlock → b < w.heap.size → w2.heap[b]? = w.heap[b]? := fun b h1 h2 h3 h4 => (hb.block b (by omega) h2 h3).trans (e1 b h1)
  have eA := e2 A H.AM (fun e => H.hA e.symm) H.vA H.ar.ltA
  have eG := e2 G (H.GM hd) (fun e => H.hG hd e.symm) H.vG H.ar.lt
  have eM : w2.heap[M]? = W1.heap[M]? := hb.block M (by have := H.ow.lt; omega) (fun e => H.hM e.symm) H.vM
  have hBv : ∀ b, some b ≠ v.ownBlock → b < w.heap.size → some b ≠ (Value.slice (some ⟨B, 0, none⟩) (len + 1) cap).ownBlock := by
    intro b h1 h2 h3
    have h4 : b = B := by injection h3
    rcases hB with h5 | h5
    · exact h1 (by rw [h4]; exact h5)
    · omega
  refine ⟨(hc 0 (by omega)).trans ((World.cell?_of_block (w := w) (e1 h H.hM)).trans H.h0), (hc 1 (by omega)).trans ((World.cell?_of_block (w := w) (e1 h H.hM)).trans H.h1), (hc 2 (by omega)).trans ((World.cell?_of_block (w := w) (e1 h H.hM)).trans H.h2),
    ⟨hL.c, hL.own, fun e => hL.ne (by injection e)⟩, hf, hh, (hp.trans (H.pm.append_right _)).trans (freeK_drop hi (by rw [hy]; exact hne)).symm, H.ar.kept eA eG (block_lt_of_eq H.ar.lt eG), H.c0, H.c1, ownsMap_kept ho eM, H.ag.drop H.un hs, H.un.drop hi,
    by rw [List.length_set]; exact H.kl, set_keys H.kz (fun e => absurd rfl e), hBv A H.vA H.ar.ltA, hBv G H.vG H.ar.lt⟩
theorem hm_drop {w : World} {D : Nat → Prop} {a : Option Addr} {ln c : Nat} {kz : List Int} (H : Hm w h A G C M v len l Dm key s n L ks zs) (hD : ∀ b, D b ↔ HmS h A G M v b) (hd : Dim s n L) (hk : 1 ≤ key) (hl : kz.length = ln) (hm : ln ≤ maxLen) (ha : KeyAt w (.slice a ln c) kz) :
    Calls Try.prog 53 #[.pointer (some ⟨h, 0, none⟩), .slice a ln c] w (DropP (PM key s n L) D h key ks zs kz w) := by
  have c0 := H.h0
  have c2 := H.h2
  have hsl := slot_found H hk kz
  have HH := Lib.hid H
  have HD := Lib.hid hD
  have HDM := Lib.hid hd
  have HKA := Lib.hid ha
  unfold DropP
  by_cases hlk : ln = key
  · subst hlk
    have hcv : ∀ m, (convert 32 9 (.slice a ln c)).run Try.prog (w.drewN m) = .ok (.string (strOfNums kz)) (w.drewN m) := fun m => conv_key (key_drewN ha m)
    have hlk2 : ∀ m, (Instr.lookup 122 (.map (some M)) (.string (strOfNums kz)) true).run Try.prog (w.drewN m) = .ok (lookV (slotOf ks (strOfNums kz))) (w.drewN m) := fun m => look_run (w := w.drewN m) H.ow H.ag (by rw [strOfNums_size]; omega)
    have hf : slotOf ks (strOfNums kz) = ks.findIdx? (· = strOfNums kz) := by rw [hsl, if_pos hl]
    obtain ⟨y, hy⟩ : ∃ y, strOfNums kz = y := ⟨_, rfl⟩
    have HF := Lib.hid hf
    have HY := Lib.hid hy
    have HKL := Lib.hid hl
    rw [hy] at hcv hlk2
    clear hsl hf H hD hd ha hl
    cases hs : slotOf ks y with
    | none =>
      have HS := Lib.hid hs
      rw [hs] at hlk2
      unfold lookV at hlk2
      simp only [Option.isSome_none] at hlk2
      clear hs hy
      go_enter Try.func53, Try.ntmps53
      go_wp2
      go_quiet (fail)
      go_wp2
      go_ret
      refine ⟨D, ?_, ?_, Turned.of (bdrewN (Below.refl _ _) _), fun b hb => .inl hb⟩
      · unfold dropE
        rw [if_pos HKL.out, ← HF.out, HY.out, HS.out]
        rfl
      · unfold dropK
        rw [if_pos HKL.out, ← HF.out, HY.out, HS.out]
        exact ⟨A, G, C, M, v, len, l, Dm, HH.out.stay (bdrewN (Below.refl _ _) _), HD.out⟩
    | some i =>
      have HS := Lib.hid hs
      rw [hs] at hlk2
      unfold lookV at hlk2
      simp only [Option.isSome_some] at hlk2
      clear hs hy
      go_enter Try.func53, Try.ntmps53
      go_wp2
      go_quiet (fail)
      go_wp2
      obtain ⟨W, hW⟩ : ∃ W, w.drewN nq = W := ⟨_, rfl⟩
      have hb : Below w.heap.size w W := by rw [← hW]; exact bdrewN (Below.refl _ _) _
      have hheap : W.heap = w.heap := by rw [← hW]; rfl
      rw [hW]
      have hkw : KeyAt W.drew (.slice a ln c) kz := by rw [← hW]; exact key_drewN HKA.out (nq + 1)
      have HW := Lib.hid (HH.out.stay hb)
      have d2 := HW.out.h2
      have hys : y.size ≤ maxLen := by rw [← HY.out, strOfNums_size, HKL.out]; exact hm
      have hcv3 := conv_key hkw
      rw [HY.out] at hcv3
      obtain ⟨W1, hdel, ho1, ht1⟩ := (show W.drew.ownsMap Try.prog 9 (plainElem Try.prog 3) M 16 Dm from HW.out.ow).drop keyed9 Try.underlying122 (key9 hys) 0
      have hg1 := ht1.grown
      obtain ⟨e0, hz1⟩ := turned_other ht1
      have e1 : ∀ b, b ≠ M → W1.heap[b]? = w.heap[b]? := fun b hb' => by rw [← hheap]; exact e0 b hb'
      have hz1 : W1.heap.size = w.heap.size := by rw [← hheap]; exact hz1
      clear e0
      have hfr : FreeAt W1 ⟨h, 3, none⟩ v len l := HH.out.fr.kept (e1 h HH.out.hM) (fun b hb' => e1 b (fun e => HH.out.vM (by rw [← e]; exact hb')))
      have hff : W1.frozen? ⟨h, 3, none⟩ = false := (World.frozen?_of_block (w := w) (e1 h HH.out.hM)).trans HH.out.ff
      have hT1 : Turned D w W1 := ⟨hg1.os.trans hb.os, hg1.tape.trans hb.tape, hg1.output.trans hb.output, by omega, fun k hk2 hnd => e1 k (fun e => hnd ((HD.out k).2 (.inr (.inr (.inr (.inl e))))))⟩
      have HO1 := Lib.hid ho1
      have HE1 := Lib.hid e1
      have HFR := Lib.hid hfr
      have HT1 := Lib.hid hT1
      have h16 := HH.out.size HDM.out
      have hhp := HH.out.hp
      have HHP := Lib.hid hhp
      clear hb hheap hkw hcv hlk2 ho1 ht1 hg1 e1 hfr hT1 hhp
      go_region
      go_wp2_with (go_at_call 76; refine (heap_push _ _ _ _ _ _ HFR.out hff (by omega) HHP.out).mono ?_; rintro e w2 ⟨rfl, B, cap, l2, hL2, hh2, hp2, hb2, hB2, hf2, ho2⟩; have HHm := Lib.hid (HH.out.dropped HDM.out HS.out HE1.out hz1 HO1.out hL2 hh2 hp2 hb2 hB2 hf2 ho2); have HB2 := Lib.hid hb2; have HBB := Lib.hid hB2; clear hL2 hh2 hp2 hb2 hB2 hf2 ho2)
      go_ret
      refine ⟨HmS h A G M (.slice (some ⟨B, 0, none⟩) (len + 1) cap), ?_, ?_, ?_, ?_⟩
      · unfold dropE
        rw [if_pos HKL.out, ← HF.out, HY.out, HS.out]
        rfl
      · unfold dropK
        rw [if_pos HKL.out, ← HF.out, HY.out, HS.out]
        exact ⟨A, G, C, M, _, _, _, _, HHm.out, fun b => Iff.rfl⟩
      · refine HT1.out.trans ⟨HB2.out.os, HB2.out.tape, HB2.out.output, HB2.out.size, fun k hk2 hnd => HB2.out.block k hk2 (fun e => hnd ((HD.out k).2 (.inl e))) (fun e => hnd ((HD.out k).2 (.inr (.inr (.inr (.inr e))))))⟩
      · rintro b (h1 | h1 | h1 | h1 | h1)
        · exact .inl ((HD.out b).2 (.inl h1))
        · exact .inl ((HD.out b).2 (.inr (.inl h1)))
        · exact .inl ((HD.out b).2 (.inr (.inr (.inl h1))))
        · exact .inl ((HD.out b).2 (.inr (.inr (.inr (.inl h1)))))
        · have h4 : b = B := by injection h1
          rcases HBB.out with h5 | h5
          · exact .inl ((HD.out b).2 (.inr (.inr (.inr (.inr (by rw [h4]; exact h5))))))
          · exact .inr (by omega)
  · have hne : ((ln : Int) == (key : Int)) = false := by simp; omega
    clear H hD hd ha hsl
    go_enter Try.func53, Try.ntmps53
    go_wp2
    go_ret
    refine ⟨D, ?_, ?_, Turned.refl _ _, fun b hb => .inl hb⟩
    · unfold dropE
      rw [if_neg (by omega)]
      rfl
    · unfold dropK
      rw [if_neg (by omega)]
      exact ⟨A, G, C, M, v, len, l, Dm, HH.out, HD.out⟩
end
end Go.Proofs.Ytenjdgoammaiiaa

/-
  Proved here: what Put of the program's map does. Conditions: as each lemma says.
-/
namespace Go.Proofs.Ytenjdgoammaiiaa
open Go.RowKit
set_option maxRecDepth 100000

theorem own_bound {w : World} {M c m : Nat} {R : Value → Option (DataW Unit × List MemPlace)} {Dm : DataW Unit} (h : w.ownsMap Try.prog 9 R M c Dm) (hm : Maps.size Dm ≤ m) : w.ownsMap Try.prog 9 R M m Dm := by
  obtain ⟨es, clock, hb, F, hs, rfl⟩ := h
  refine ⟨es, clock, hb, F, ?_, rfl⟩
  simpa [Maps.size, length_sorted] using hm
theorem FreeAt.shape {w : World} {p : Addr} {v : Value} {len : Nat} {l : List Int} (h : FreeAt w p v len l) : ∃ a cap, v = .slice a len cap := by
  rcases h.own.2 with ⟨rfl, h0⟩ | ⟨g, cap, cur, rfl, -⟩
  · exact ⟨none, 0, by rw [h0]⟩
  · exact ⟨_, cap, rfl⟩
theorem FreeAt.list {w : World} {p : Addr} {v : Value} {len : Nat} {l : List Int} (h : FreeAt w p v len l) (h0 : 0 < len) : ∃ F cap, v = .slice (some ⟨F, 0, none⟩) len cap ∧ ListAt w p F len cap l := by
  rcases h.own.2 with ⟨-, h1⟩ | ⟨g, cap, cur, rfl, hr⟩
  · omega
  · exact ⟨g, cap, rfl, h.c, h.own, fun e => h.ne (by rw [e]; rfl)⟩
section
variable {h A G C M : Nat} {v : Value} {len : Nat} {l : List Int} {Dm : DataW Unit} {key s n L : Nat} {ks : List ByteArray} {zs : List Int}
/-- The least free slot is taken, a key is put. -/
theorem Hm.added {w W1 w1 w2 : World} {F m cap i : Nat} {y : ByteArray} {l2 : List Int} (H : Hm w h A G C M (.slice (some ⟨F, 0, none⟩) (m + 1) cap) (m + 1) l Dm key s n L ks zs) (hd : Dim s n L) (hs : slotOf ks y = none) (hne : y ≠ ⟨#[]⟩) (hy : y.size = key)
    (hi : i < ks.length) (h0 : ks.getD i .empty = ⟨#[]⟩) (ha : at0 l 0 = (i : Int)) (ho1 : Only F w W1) (hw1 : w1 = W1.setCell ⟨h, 3, none⟩ (.slice (some ⟨F, 0, none⟩) m cap)) (hL : ListAt w1 ⟨h, 3, none⟩ F m cap l2) (hh : IsHeap l2 m) (hp : (l2 ++ [at0 l 0]).Perm l)
    (e2 : ∀ b, b ≠ M → w2.heap[b]? = w1.heap[b]?) (ho : w2.ownsMap Try.prog 9 (plainElem Try.prog 3) M 17 (Dm.put (keyL y) (.lit (.int .i64 i)))) : Hm w2 h A G C M (.slice (some ⟨F, 0, none⟩) m cap) m l2 (Dm.put (keyL y) (.lit (.int .i64 i))) key s n L (ks.set i y) zs := by
  have hF : F ≠ h := fun e => hL.ne e.symm
  have hag := H.ag.put H.un hi h0 hs hne
  have ec : ∀ o, o ≠ 3 → w2.cell? ⟨h, o, none⟩ = w.cell? ⟨h, o, none⟩ := fun o ho3 => by
    rw [World.cell?_of_block (w := w1) (w' := w2) (a := ⟨h, o, none⟩) (e2 h H.hM), hw1, World.cell?_setCell_other _ _ _ _ (by intro e; injection e with _ e _; exact ho3 e.symm)]
    exact ho1.cell (p := ⟨h, o, none⟩) (fun e => hF e.symm)
  have eb : ∀ b, b ≠ M → b ≠ h → b ≠ F → w2.heap[b]? = w.heap[b]? := fun b h1 h2 h3 => by
    rw [e2 b h1, hw1, Below.heap_setCell _ _ _ _ (show b ≠ (⟨h, 3, none⟩ : Addr).block from h2)]
    exact ho1.block b h3
  have vA : A ≠ F := fun e => H.vA (by rw [e]; rfl)
  have vG : G ≠ F := fun e => H.vG (by rw [e]; rfl)
  have eA := eb A H.AM (fun e => H.hA e.symm) vA
  have eG := eb G (H.GM hd) (fun e => H.hG hd e.symm) vG
  have hFM : F ≠ M := fun e => H.vM (by rw [← e]; rfl)
  have hfr : FreeAt w2 ⟨h, 3, none⟩ (.slice (some ⟨F, 0, none⟩) m cap) m l2 := FreeAt.kept (w := w1) ⟨hL.c, hL.own, fun e => hL.ne (by injection e)⟩ (e2 h H.hM) (fun b hb => e2 b (by injection hb with hb; rw [hb]; exact hFM))
  have hff : w2.frozen? ⟨h, 3, none⟩ = false := by
    rw [World.frozen?_of_block (w := w1) (w' := w2) (a := ⟨h, 3, none⟩) (e2 h H.hM), hw1, World.frozen?_setCell, ho1.frozen (p := ⟨h, 3, none⟩) (fun e => hF e.symm)]
    exact H.ff
  have hpm : l2.Perm (freeK (ks.set i y)) := by
    have h1 := (hp.trans H.pm).trans (freeK_put hi h0 hne).symm
    rw [ha] at h1
    exact (List.perm_append_right_iff _).1 h1
  refine ⟨(ec 0 (by omega)).trans H.h0, (ec 1 (by omega)).trans H.h1, (ec 2 (by omega)).trans H.h2, hfr, hff, hh, hpm, H.ar.kept eA eG (block_lt_of_eq H.ar.lt eG), H.c0, H.c1, own_bound ho ?_, hag, H.un.put hi hs, by rw [List.length_set]; exact H.kl, set_keys H.kz (fun _ => hy), fun e => vA (by injection e), fun e => vG (by injection e)⟩
  rw [hag.size]
  have h1 := listK_len (ks.set i y)
  rw [List.length_set, H.kl] at h1
  have := hd.n1
  omega
theorem hm_put_no {w : World} {a1 a2 : Option Addr} {l1 l2 c1 c2 : Nat} {fl : Int} (H : Hm w h A G C M v len l Dm key s n L ks zs) (hne : ¬ (l1 = key ∧ l2 = s ∧ fl ≤ 2)) :
    Calls Try.prog 36 #[.pointer (some ⟨h, 0, none⟩), .slice a1 l1 c1, .slice a2 l2 c2, .int .u64 fl] w (Ret (.tuple #[.int .i64 0, .int .i64 22]) w) := by
  have c0 := H.h0
  have c1' := H.h1
  have HS := Lib.hid H.ar.c0
  unfold Ret
  clear H
  by_cases h1 : l1 = key
  · subst h1
    by_cases h2 : l2 = s
    · subst h2
      have h3 : 2 < fl := by
        rcases Int.lt_or_le 2 fl with h | h
        · exact h
        · exact absurd ⟨rfl, rfl, h⟩ hne
      have h3d : decide (2 < fl) = true := by simpa using h3
      clear hne
      go_enter Try.func36, Try.ntmps36
      go_wp2_with (go_at_call 61; refine (arr_size _ _ _ HS.out).mono ?_; rintro e w' ⟨rfl, rfl⟩)
      go_ret2
      exact ⟨rfl, rfl⟩
    · have hn2 : ((l2 : Int) == (s : Int)) = false := by simp; omega
      clear hne
      go_enter Try.func36, Try.ntmps36
      go_wp2_with (go_at_call 61; refine (arr_size _ _ _ HS.out).mono ?_; rintro e w' ⟨rfl, rfl⟩)
      go_ret2
      exact ⟨rfl, rfl⟩
  · have hn1 : ((l1 : Int) == (key : Int)) = false := by simp; omega
    clear hne
    go_enter Try.func36, Try.ntmps36
    go_wp2_with (go_at_call 61; refine (arr_size _ _ _ HS.out).mono ?_; rintro e w' ⟨rfl, rfl⟩)
    go_ret2
    exact ⟨rfl, rfl⟩
end
end Go.Proofs.Ytenjdgoammaiiaa
