/-
  Proved here: a storage of the program in memory; what New, Len, Bytes, Keys, Slot and Copy of it give. Conditions: as each lemma says.
-/
import Derived.Test.YtijhoiheieighaaArrC
import Derived.Test.YtijhoiheieighaaActs12
import Derived.Lib.SliceRun
namespace Go.Proofs.Ytijhoiheieighaa
open Go.RowKit

/-- A storage of the program in memory. -/
structure Lm (w : World) (h A G C : Nat) (v : Value) (s n L : Nat) (os : List Ob) (zs : List Int) : Prop where
  h0 : w.cell? ⟨h, 0, none⟩ = some (.pointer (some ⟨A, 0, none⟩))
  h1 : w.cell? ⟨h, 1, none⟩ = some v
  fh : ∀ j, w.frozen? ⟨h, j, none⟩ = false
  ks : ObSl w v os
  ar : Arr w A G s n L C zs
  c0 : L ≤ C
  le : os.length ≤ n
  vh : some h ≠ v.ownBlock
  vA : some A ≠ v.ownBlock
  vG : some G ≠ v.ownBlock
/-- Its blocks. -/
def LmS (h A G : Nat) (v : Value) : Nat → Prop := fun b => b = h ∨ b = A ∨ b = G ∨ some b = v.ownBlock
section
variable {w w' : World} {h A G C : Nat} {v : Value} {s n L : Nat} {os : List Ob} {zs : List Int}
theorem Lm.hA (H : Lm w h A G C v s n L os zs) : h ≠ A := fun e => by
  have h1 := H.h0
  have h2 := H.ar.c0
  rw [← e, h1] at h2
  cases h2
theorem Lm.hG (H : Lm w h A G C v s n L os zs) (hd : Dim s n L) : h ≠ G := fun e => by
  have h1 := H.h0
  have h2 := H.ar.row 0 hd.pos
  rw [← e, Nat.zero_add, h1] at h2
  cases h2
theorem Lm.lt (H : Lm w h A G C v s n L os zs) : ∀ b, LmS h A G v b → b < w.heap.size := by
  rintro b (rfl | rfl | rfl | hb)
  · exact cell_block_lt H.h0
  · exact H.ar.ltA
  · exact H.ar.lt
  · exact H.ks.lt b hb
theorem Lm.kept (H : Lm w h A G C v s n L os zs) (e : ∀ b, LmS h A G v b → w'.heap[b]? = w.heap[b]?) : Lm w' h A G C v s n L os zs := by
  have eh := e h (.inl rfl)
  have eG := e G (.inr (.inr (.inl rfl)))
  exact ⟨(World.cell?_of_block (w := w) eh).trans H.h0, (World.cell?_of_block (w := w) eh).trans H.h1, fun j => (World.frozen?_of_block (w := w) (a := ⟨h, j, none⟩) eh).trans (H.fh j), H.ks.kept (fun b hb => e b (.inr (.inr (.inr hb)))),
    H.ar.kept (e A (.inr (.inl rfl))) eG (block_lt_of_eq H.ar.lt eG), H.c0, H.le, H.vh, H.vA, H.vG⟩
theorem Lm.stay (H : Lm w h A G C v s n L os zs) (hb : Below w.heap.size w w') : Lm w' h A G C v s n L os zs := H.kept fun b hD => hb.block b (H.lt b hD)
theorem Lm.bytes (H : Lm w h A G C v s n L os zs) (hd : Dim s n L) {zs' : List Int} (e : ∀ b, b ≠ G → w'.heap[b]? = w.heap[b]?) (ha : Arr w' A G s n L C zs') : Lm w' h A G C v s n L os zs' := by
  have eh := e h (H.hG hd)
  exact ⟨(World.cell?_of_block (w := w) eh).trans H.h0, (World.cell?_of_block (w := w) eh).trans H.h1, fun j => (World.frozen?_of_block (w := w) (a := ⟨h, j, none⟩) eh).trans (H.fh j), H.ks.kept (fun b hb => e b (fun e2 => H.vG (by rw [← e2]; exact hb))),
    ha, H.c0, H.le, H.vh, H.vA, H.vG⟩
theorem Lm.put1 (H : Lm w h A G C v s n L os zs) (hd : Dim s n L) {p : Nat} {y : Int} (hp : p < L) : Lm (w.setCell ⟨G, p, none⟩ (.int .u8 y)) h A G C v s n L os (zs.set p y) :=
  H.bytes hd (fun b hb => Below.heap_setCell w ⟨G, p, none⟩ _ b hb) (H.ar.put hp)
theorem Lm.puts (H : Lm w h A G C v s n L os zs) (hd : Dim s n L) {p : Nat} {vz : List Int} (hp : p + vz.length ≤ L) : Lm (w.setCells G p (u8s vz)) h A G C v s n L os (setL zs p vz) :=
  H.bytes hd (fun b hb => heap_setCells G _ _ w b hb) (H.ar.puts vz hp)
/-! ### What is told -/
theorem lm_len (H : Lm w h A G C v s n L os zs) : Calls Try.prog 12 #[.pointer (some ⟨h, 0, none⟩)] w (fun e w' => e = .returned (.int .i64 os.length) ∧ Below w.heap.size w w') := by
  obtain ⟨a, c, rfl, -⟩ := H.ks.shape
  have c1 := H.h1
  clear H
  go_enter Try.func12, Try.ntmps12
  go_wp2
  go_ret
  exact ⟨rfl, Below.refl _ _⟩
theorem lm_bytes (H : Lm w h A G C v s n L os zs) (hd : Dim s n L) : Calls Try.prog 11 #[.pointer (some ⟨h, 0, none⟩)] w (GaveRow w L zs) := by
  have c0 := H.h0
  have HD := Lib.hid hd
  have HA := Lib.hid H.ar
  clear H hd
  go_enter Try.func11, Try.ntmps11
  go_wp2_with (go_at_call 24; refine (arr_bytes _ _ _ _ _ _ zs _ HD.out.pos (by have := HD.out.le; omega) HA.out).mono ?_; rintro e w' ⟨g1, cap1, rfl, hf⟩)
  go_ret
  exact ⟨_, _, rfl, hf⟩
theorem lm_slot_yes (H : Lm w h A G C v s n L os zs) (hd : Dim s n L) {q : Nat} (hq : q < n) : Calls Try.prog 15 #[.pointer (some ⟨h, 0, none⟩), .int .i64 (q : Int)] w (fun e w' => e = .returned (.tuple #[.slice (some ⟨G, q * s, none⟩) s s, .bool true]) ∧ Below w.heap.size w w') := by
  have c0 := H.h0
  have HD := Lib.hid hd
  have HA := Lib.hid H.ar
  have HC := Lib.hid H.c0
  clear H hd
  go_enter Try.func15, Try.ntmps15
  go_wp2_with (go_at_call 29; refine (slotC_yes _ _ _ _ _ _ _ _ _ _ HD.out HC.out HA.out hq rfl).mono ?_; rintro e w' ⟨rfl, hb⟩)
  go_ret2
  exact ⟨rfl, hb⟩
theorem lm_slot_no (H : Lm w h A G C v s n L os zs) {q : Int} (hq : ¬ (0 ≤ q ∧ q < n)) : Calls Try.prog 15 #[.pointer (some ⟨h, 0, none⟩), .int .i64 q] w (fun e w' => e = .returned (.tuple #[.slice none 0 0, .bool false]) ∧ Below w.heap.size w w') := by
  have c0 := H.h0
  have HA := Lib.hid H.ar.c1
  clear H
  go_enter Try.func15, Try.ntmps15
  go_wp2_with (go_at_call 29; refine (slotC_no _ _ _ _ HA.out hq).mono ?_; rintro e w' ⟨rfl, hb⟩)
  go_ret2
  exact ⟨rfl, hb⟩
/-- A slot's bytes themselves. -/
theorem lm_bytesOf (H : Lm w h A G C v s n L os zs) (hd : Dim s n L) {q : Nat} (hq : q < n) : Calls Try.prog 27 #[.pointer (some ⟨h, 0, none⟩), .int .i64 (q : Int)] w (fun e w' => e = .returned (.slice (some ⟨G, q * s, none⟩) s s) ∧ Below w.heap.size w w') := by
  have c0 := H.h0
  have HD := Lib.hid hd
  have HA := Lib.hid H.ar
  have HC := Lib.hid H.c0
  clear H hd
  go_enter Try.func27, Try.ntmps27
  go_wp2_with (go_at_call 29; refine (slotC_yes _ _ _ _ _ _ _ _ _ _ HD.out HC.out HA.out hq rfl).mono ?_; rintro e w' ⟨rfl, hb⟩)
  go_ret
  exact ⟨rfl, hb⟩
/-! ### Keys -/
theorem flatO_one (os : List Ob) : ∀ u ∈ flatO os, u.oneCell' = true := by
  intro u hu
  obtain ⟨o, -, ho⟩ := List.mem_flatMap.1 hu
  simp at ho
  rcases ho with rfl | rfl <;> rfl
theorem obs_cells {g : Nat} (ho : ObsAt w g os) : ∀ j u, (flatO os)[j]? = some u → w.cell? ⟨g, j, none⟩ = some u := by
  intro j u hu
  have hj : j < os.length * 2 := by
    have := (List.getElem?_eq_some_iff.1 hu).1
    rwa [flatO_length] at this
  obtain ⟨i, hi⟩ : ∃ i, j / 2 = i := ⟨_, rfl⟩
  obtain ⟨a1, a2⟩ := flatO_get (os := os) (i := i) (by omega)
  obtain ⟨b1, b2⟩ := ho i (by omega)
  by_cases e : j % 2 = 0
  · have : j = i * 2 := by omega
    subst this
    rw [b1, ← a1, hu]
  · have : j = i * 2 + 1 := by omega
    subst this
    rw [b2, ← a2, hu]
theorem own_none (W : World) : (W.alloc (.cells #[] 32)).ownsRow W.heap.size 32 2 (.slice (some ⟨W.heap.size, 0, none⟩) 0 0) 0 [] :=
  ⟨rfl, .inr ⟨W.heap.size, 0, #[], rfl, Nat.le_refl _, heap_alloc_new W _, Nat.le_refl _, Nat.zero_le _, rfl, rfl⟩⟩
/-- A copy of objects. -/
def GaveObs (W : World) (os : List Ob) (e : Ending) (w : World) : Prop := ∃ v, e = .returned v ∧ w.ownsRow W.heap.size 32 2 v os.length (flatO os) ∧ Below W.heap.size W w
theorem clone_obs {a : Option Addr} {c : Nat} (hk : ObSl w (.slice a os.length c) os) (hl : os.length ≤ 16) : Calls Try.prog 33 #[.slice a os.length c] w (GaveObs w os) := by
  have q := fun (w : World) (a : Option Addr) (n c n' c' : Nat) => Lib.run_eql_slice_nil (P := Try.prog) w 43 32 a n c n' c' Try.underlying43
  obtain ⟨i0, hi0, hz0, hz1, hz2⟩ := info_parts key_info
  have HK := Lib.hid hk
  rcases hk.2 with ⟨hv, h0⟩ | ⟨g, cap, cur, hv, -, hh, -, -, -, -⟩
  · injection hv with hv1 hv2 hv3
    subst hv1 hv3
    obtain rfl : os = [] := List.length_eq_zero_iff.1 h0
    clear hk hv2
    go_enter Try.func33, Try.ntmps33
    go_wp2
    go_ret
    exact ⟨.slice none 0 0, rfl, World.ownsRow_nil _ _ _ _, Below.refl _ _⟩
  · injection hv with hv1 hv2 hv3
    subst hv1 hv3
    have hg : g < w.heap.size := (Array.getElem?_eq_some_iff.1 hh).1
    have hobs := obs_cells (obsAt_of_own hk)
    have HO := Lib.hid hobs
    clear hk hh hobs
    go_enter Try.func33, Try.ntmps33
    go_wp2_with (at_builtin; refine wpList_append_own_at _ rfl _ _ 43 rfl w.heap.size 32 i0 _ 2 16 Try.underlying43 hi0 hz0 hz1 hz2 rfl (by omega) _ 0 [] rfl (own_none w) ⟨g, 0, none⟩ os.length c (flatO os) rfl (flatO_length os) (fun j u hu => by rw [add_lit, Nat.zero_add, World.cell?_alloc_lt _ _ _ hg]; exact HO.out j u hu) (flatO_one os) (by unfold maxLen; omega) (by omega) (by simp) ?_; intro v1 w1 hown hgr _ hat; have HW := Lib.hid hown; have HG := Lib.hid hgr; clear hown hgr hat)
    go_ret
    have hown := HW.out
    rw [Nat.zero_add, List.nil_append] at hown
    refine ⟨v1, rfl, hown, ((Below.refl _ _).alloc (Nat.le_refl _) _).grown HG.out (by simp) (fun k hk => ?_)⟩
    first | (have h9 : some w.heap.size = some k := hk; injection h9 with h9; omega) | (have h9 : some k = some w.heap.size := hk; injection h9 with h9; omega)
theorem lm_keysv (H : Lm w h A G C v s n L os zs) (hd : Dim s n L) : Calls Try.prog 23 #[.pointer (some ⟨h, 0, none⟩)] w (GaveObs w os) := by
  obtain ⟨a, c, rfl, -⟩ := H.ks.shape
  have c1 := H.h1
  have HK := Lib.hid H.ks
  have h16 : os.length ≤ 16 := Nat.le_trans H.le hd.n1
  clear H hd
  go_enter Try.func23, Try.ntmps23
  go_wp2_with (go_at_call 33; refine (clone_obs HK.out h16).mono ?_; rintro e w' ⟨v1, rfl, ho, hb⟩; have HO := Lib.hid ho; clear ho)
  go_ret
  exact ⟨v1, rfl, HO.out, hb⟩
theorem obs_of_own {W : World} {v1 : Value} {base : Nat} (ho : W.ownsRow base 32 2 v1 os.length (flatO os)) : ∃ a c, v1 = .slice a os.length c ∧ ObsIn W a os := by
  rcases ho.2 with ⟨rfl, h0⟩ | ⟨g, cap, cur, hv, -, hh, -⟩
  · exact ⟨none, 0, by rw [h0], fun hp => by omega⟩
  · subst hv
    exact ⟨_, _, rfl, fun _ => ⟨g, rfl, (Array.getElem?_eq_some_iff.1 hh).1, obsAt_of_own ho⟩⟩
theorem lm_keys (H : Lm w h A G C v s n L os zs) (hd : Dim s n L) : Calls Try.prog 23 #[.pointer (some ⟨h, 0, none⟩)] w (fun e w' => ∃ a c, e = .returned (.slice a os.length c) ∧ ObsIn w' a os ∧ Below w.heap.size w w') := by
  refine (lm_keysv H hd).mono ?_
  rintro e w' ⟨v1, rfl, ho, hb⟩
  obtain ⟨a, c, rfl, hi⟩ := obs_of_own ho
  exact ⟨a, c, rfl, hi, hb⟩
end
/-- A storage of the program in memory, its blocks D. -/
def LP (s n L : Nat) : StMem := fun w D h G os zs => ∃ A C v, Lm w h A G C v s n L os zs ∧ ∀ b, D b ↔ LmS h A G v b
end Go.Proofs.Ytijhoiheieighaa
