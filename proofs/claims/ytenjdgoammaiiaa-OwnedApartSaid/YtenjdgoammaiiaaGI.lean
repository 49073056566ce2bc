/-
  Proved here: a storage of the program in memory; what New, Len, Bytes, Keys, Slot and Copy of it give. Conditions: as each lemma says.
-/
import Derived.Test.YtenjdgoammaiiaaGG
import Derived.Lib.SliceRun
import Derived.LoopTactic
import Derived.Test.YtenjdgoammaiiaaGD
import Derived.RegionTactic
import Derived.BigRegion
namespace Go.Proofs.Ytenjdgoammaiiaa
open Go.RowKit
set_option maxRecDepth 100000

/-- A storage of the program in memory. -/
structure Lm (w : World) (h A G C : Nat) (v : Value) (s n L : Nat) (os : List Ob) (zs : List Int) : Prop where
  h0 : w.cell? ⟨h, 0, none⟩ = some (.pointer (some ⟨A, 0, none⟩))
  h1 : w.cell? ⟨h, 1, none⟩ = some v
  fh : ∀ j, w.frozen? ⟨h, j, none⟩ = false
  ks : ObSl w v os
  ar : Arr w A G s n L C zs
  c0 : L ≤ C
  le : os.length ≤ n
  vh : some h ≠ v.ownBlock
  vA : some A ≠ v.ownBlock
  vG : some G ≠ v.ownBlock
/-- Its blocks. -/
def LmS (h A G : Nat) (v : Value) : Nat → Prop := fun b => b = h ∨ b = A ∨ b = G ∨ some b = v.ownBlock
section
variable {w w' : World} {h A G C : Nat} {v : Value} {s n L : Nat} {os : List Ob} {zs : List Int}
theorem Lm.hA (H : Lm w h A G C v s n L os zs) : h ≠ A := fun e => by
  have h1 := H.h0
  have h2 := H.ar.c0
  rw [← e, h1] at h2
  cases h2
theorem Lm.hG (H : Lm w h A G C v s n L os zs) (hd : Dim s n L) : h ≠ G := fun e => by
  have h1 := H.h0
  have h2 := H.ar.row 0 hd.pos
  rw [← e, Nat.zero_add, h1] at h2
  cases h2
theorem Lm.lt (H : Lm w h A G C v s n L os zs) : ∀ b, LmS h A G v b → b < w.heap.size := by
  rintro b (rfl | rfl | rfl | hb)
  · exact cell_block_lt H.h0
  · exact H.ar.ltA
  · exact H.ar.lt
  · exact H.ks.lt b hb
theorem Lm.kept (H : Lm w h A G C v s n L os zs) (e : ∀ b, LmS h A G v b → w'.heap[b]? = w.heap[b]?) : Lm w' h A G C v s n L os zs := by
  have eh := e h (.inl rfl)
  have eG := e G (.inr (.inr (.inl rfl)))
  exact ⟨(World.cell?_of_block (w := w) eh).trans H.h0, (World.cell?_of_block (w := w) eh).trans H.h1, fun j => (World.frozen?_of_block (w := w) (a := ⟨h, j, none⟩) eh).trans (H.fh j), H.ks.kept (fun b hb => e b (.inr (.inr (.inr hb)))),
    H.ar.kept (e A (.inr (.inl rfl))) eG (block_lt_of_eq H.ar.lt eG), H.c0, H.le, H.vh, H.vA, H.vG⟩
theorem Lm.stay (H : Lm w h A G C v s n L os zs) (hb : Below w.heap.size w w') : Lm w' h A G C v s n L os zs := H.kept fun b hD => hb.block b (H.lt b hD)
theorem Lm.bytes (H : Lm w h A G C v s n L os zs) (hd : Dim s n L) {zs' : List Int} (e : ∀ b, b ≠ G → w'.heap[b]? = w.heap[b]?) (ha : Arr w' A G s n L C zs') : Lm w' h A G C v s n L os zs' := by
  have eh := e h (H.hG hd)
  exact ⟨(World.cell?_of_block (w := w) eh).trans H.h0, (World.cell?_of_block (w := w) eh).trans H.h1, fun j => (World.frozen?_of_block (w := w) (a := ⟨h, j, none⟩) eh).trans (H.fh j), H.ks.kept (fun b hb => e b (fun e2 => H.vG (by rw [← e2]; exact hb))),
    ha, H.c0, H.le, H.vh, H.vA, H.vG⟩
theorem Lm.put1 (H : Lm w h A G C v s n L os zs) (hd : Dim s n L) {p : Nat} {y : Int} (hp : p < L) : Lm (w.setCell ⟨G, p, none⟩ (.int .u8 y)) h A G C v s n L os (zs.set p y) :=
  H.bytes hd (fun b hb => Below.heap_setCell w ⟨G, p, none⟩ _ b hb) (H.ar.put hp)
theorem Lm.puts (H : Lm w h A G C v s n L os zs) (hd : Dim s n L) {p : Nat} {vz : List Int} (hp : p + vz.length ≤ L) : Lm (w.setCells G p (u8s vz)) h A G C v s n L os (setL zs p vz) :=
  H.bytes hd (fun b hb => heap_setCells G _ _ w b hb) (H.ar.puts vz hp)
/-! ### What is told -/
theorem lm_len (H : Lm w h A G C v s n L os zs) : Calls Try.prog 113 #[.pointer (some ⟨h, 0, none⟩)] w (fun e w' => e = .returned (.int .i64 os.length) ∧ Below w.heap.size w w') := by
  obtain ⟨a, c, rfl, -⟩ := H.ks.shape
  have c1 := H.h1
  clear H
  go_enter Try.func113, Try.ntmps113
  go_wp2
  go_ret
  exact ⟨rfl, Below.refl _ _⟩
theorem lm_bytes (H : Lm w h A G C v s n L os zs) (hd : Dim s n L) : Calls Try.prog 112 #[.pointer (some ⟨h, 0, none⟩)] w (GaveRow w L zs) := by
  have c0 := H.h0
  have HD := Lib.hid hd
  have HA := Lib.hid H.ar
  clear H hd
  go_enter Try.func112, Try.ntmps112
  go_wp2_with (go_at_call 70; refine (arr_bytes _ _ _ _ _ _ zs _ HD.out.pos (by have := HD.out.le; omega) HA.out).mono ?_; rintro e w' ⟨g1, cap1, rfl, hf⟩)
  go_ret
  exact ⟨_, _, rfl, hf⟩
theorem lm_slot_yes (H : Lm w h A G C v s n L os zs) (hd : Dim s n L) {q : Nat} (hq : q < n) : Calls Try.prog 114 #[.pointer (some ⟨h, 0, none⟩), .int .i64 (q : Int)] w (fun e w' => e = .returned (.tuple #[.slice (some ⟨G, q * s, none⟩) s s, .bool true]) ∧ Below w.heap.size w w') := by
  have c0 := H.h0
  have HD := Lib.hid hd
  have HA := Lib.hid H.ar
  have HC := Lib.hid H.c0
  clear H hd
  go_enter Try.func114, Try.ntmps114
  go_wp2_with (go_at_call 62; refine (slotC_yes _ _ _ _ _ _ _ _ _ _ HD.out HC.out HA.out hq rfl).mono ?_; rintro e w' ⟨rfl, hb⟩)
  go_ret2
  exact ⟨rfl, hb⟩
theorem lm_slot_no (H : Lm w h A G C v s n L os zs) {q : Int} (hq : ¬ (0 ≤ q ∧ q < n)) : Calls Try.prog 114 #[.pointer (some ⟨h, 0, none⟩), .int .i64 q] w (fun e w' => e = .returned (.tuple #[.slice none 0 0, .bool false]) ∧ Below w.heap.size w w') := by
  have c0 := H.h0
  have HA := Lib.hid H.ar.c1
  clear H
  go_enter Try.func114, Try.ntmps114
  go_wp2_with (go_at_call 62; refine (slotC_no _ _ _ _ HA.out hq).mono ?_; rintro e w' ⟨rfl, hb⟩)
  go_ret2
  exact ⟨rfl, hb⟩
/-- A slot's bytes themselves. -/
theorem lm_bytesOf (H : Lm w h A G C v s n L os zs) (hd : Dim s n L) {q : Nat} (hq : q < n) : Calls Try.prog 78 #[.pointer (some ⟨h, 0, none⟩), .int .i64 (q : Int)] w (fun e w' => e = .returned (.slice (some ⟨G, q * s, none⟩) s s) ∧ Below w.heap.size w w') := by
  have c0 := H.h0
  have HD := Lib.hid hd
  have HA := Lib.hid H.ar
  have HC := Lib.hid H.c0
  clear H hd
  go_enter Try.func78, Try.ntmps78
  go_wp2_with (go_at_call 62; refine (slotC_yes _ _ _ _ _ _ _ _ _ _ HD.out HC.out HA.out hq rfl).mono ?_; rintro e w' ⟨rfl, hb⟩)
  go_ret
  exact ⟨rfl, hb⟩
/-! ### Keys -/
theorem flatO_one (os : List Ob) : ∀ u ∈ flatO os, u.oneCell' = true := by
  intro u hu
  obtain ⟨o, -, ho⟩ := List.mem_flatMap.1 hu
  simp at ho
  rcases ho with rfl | rfl <;> rfl
theorem obs_cells {g : Nat} (ho : ObsAt w g os) : ∀ j u, (flatO os)[j]? = some u → w.cell? ⟨g, j, none⟩ = some u := by
  intro j u hu
  have hj : j < os.length * 2 := by
    have := (List.getElem?_eq_some_iff.1 hu).1
    rwa [flatO_length] at this
  obtain ⟨i, hi⟩ : ∃ i, j / 2 = i := ⟨_, rfl⟩
  obtain ⟨a1, a2⟩ := flatO_get (os := os) (i := i) (by omega)
  obtain ⟨b1, b2⟩ := ho i (by omega)
  by_cases e : j % 2 = 0
  · have : j = i * 2 := by omega
    subst this
    rw [b1, ← a1, hu]
  · have : j = i * 2 + 1 := by omega
    subst this
    rw [b2, ← a2, hu]
theorem own_none (W : World) : (W.alloc (.cells #[] 34)).ownsRow W.heap.size 34 2 (.slice (some ⟨W.heap.size, 0, none⟩) 0 0) 0 [] :=
  ⟨rfl, .inr ⟨W.heap.size, 0, #[], rfl, Nat.le_refl _, heap_alloc_new W _, Nat.le_refl _, Nat.zero_le _, rfl, rfl⟩⟩
/-- A copy of objects. -/
def GaveObs (W : World) (os : List Ob) (e : Ending) (w : World) : Prop := ∃ v, e = .returned v ∧ w.ownsRow W.heap.size 34 2 v os.length (flatO os) ∧ Below W.heap.size W w
theorem clone_obs {a : Option Addr} {c : Nat} (hk : ObSl w (.slice a os.length c) os) (hl : os.length ≤ 16) : Calls Try.prog 75 #[.slice a os.length c] w (GaveObs w os) := by
  have q := fun (w : World) (a : Option Addr) (n c n' c' : Nat) => Lib.run_eql_slice_nil (P := Try.prog) w 83 34 a n c n' c' Try.underlying83
  obtain ⟨i0, hi0, hz0, hz1, hz2⟩ := info_parts key_info
  have HK := Lib.hid hk
  rcases hk.2 with ⟨hv, h0⟩ | ⟨g, cap, cur, hv, -, hh, -, -, -, -⟩
  · injection hv with hv1 hv2 hv3
    subst hv1 hv3
    obtain rfl : os = [] := List.length_eq_zero_iff.1 h0
    clear hk hv2
    go_enter Try.func75, Try.ntmps75
    go_wp2
    go_ret
    exact ⟨.slice none 0 0, rfl, World.ownsRow_nil _ _ _ _, Below.refl _ _⟩
  · injection hv with hv1 hv2 hv3
    subst hv1 hv3
    have hg : g < w.heap.size := (Array.getElem?_eq_some_iff.1 hh).1
    have hobs := obs_cells (obsAt_of_own hk)
    have HO := Lib.hid hobs
    clear hk hh hobs
    go_enter Try.func75, Try.ntmps75
    go_wp2_with (at_builtin; refine wpList_append_own_at _ rfl _ _ 83 rfl w.heap.size 34 i0 _ 2 16 Try.underlying83 hi0 hz0 hz1 hz2 rfl (by omega) _ 0 [] rfl (own_none w) ⟨g, 0, none⟩ os.length c (flatO os) rfl (flatO_length os) (fun j u hu => by rw [add_lit, Nat.zero_add, World.cell?_alloc_lt _ _ _ hg]; exact HO.out j u hu) (flatO_one os) (by unfold maxLen; omega) (by omega) (by simp) ?_; intro v1 w1 hown hgr _ hat; have HW := Lib.hid hown; have HG := Lib.hid hgr; clear hown hgr hat)
    go_ret
    have hown := HW.out
    rw [Nat.zero_add, List.nil_append] at hown
    refine ⟨v1, rfl, hown, ((Below.refl _ _).alloc (Nat.le_refl _) _).grown HG.out (by simp) (fun k hk => ?_)⟩
    first | (have h9 : some w.heap.size = some k := hk; injection h9 with h9; omega) | (have h9 : some k = some w.heap.size := hk; injection h9 with h9; omega)
theorem lm_keysv (H : Lm w h A G C v s n L os zs) (hd : Dim s n L) : Calls Try.prog 49 #[.pointer (some ⟨h, 0, none⟩)] w (GaveObs w os) := by
  obtain ⟨a, c, rfl, -⟩ := H.ks.shape
  have c1 := H.h1
  have HK := Lib.hid H.ks
  have h16 : os.length ≤ 16 := Nat.le_trans H.le hd.n1
  clear H hd
  go_enter Try.func49, Try.ntmps49
  go_wp2_with (go_at_call 75; refine (clone_obs HK.out h16).mono ?_; rintro e w' ⟨v1, rfl, ho, hb⟩; have HO := Lib.hid ho; clear ho)
  go_ret
  exact ⟨v1, rfl, HO.out, hb⟩
theorem obs_of_own {W : World} {v1 : Value} {base : Nat} (ho : W.ownsRow base 34 2 v1 os.length (flatO os)) : ∃ a c, v1 = .slice a os.length c ∧ ObsIn W a os := by
  rcases ho.2 with ⟨rfl, h0⟩ | ⟨g, cap, cur, hv, -, hh, -⟩
  · exact ⟨none, 0, by rw [h0], fun hp => by omega⟩
  · subst hv
    exact ⟨_, _, rfl, fun _ => ⟨g, rfl, (Array.getElem?_eq_some_iff.1 hh).1, obsAt_of_own ho⟩⟩
theorem lm_keys (H : Lm w h A G C v s n L os zs) (hd : Dim s n L) : Calls Try.prog 49 #[.pointer (some ⟨h, 0, none⟩)] w (fun e w' => ∃ a c, e = .returned (.slice a os.length c) ∧ ObsIn w' a os ∧ Below w.heap.size w w') := by
  refine (lm_keysv H hd).mono ?_
  rintro e w' ⟨v1, rfl, ho, hb⟩
  obtain ⟨a, c, rfl, hi⟩ := obs_of_own ho
  exact ⟨a, c, rfl, hi, hb⟩
end
/-- A storage of the program in memory, its blocks D. -/
def LP (s n L : Nat) : StMem := fun w D h G os zs => ∃ A C v, Lm w h A G C v s n L os zs ∧ ∀ b, D b ↔ LmS h A G v b
end Go.Proofs.Ytenjdgoammaiiaa

/-
  Proved here: a slot is found by a closure: slotOf of the program's storage. Conditions: as each lemma says.
-/
namespace Go.Proofs.Ytenjdgoammaiiaa
open Go.RowKit
set_option maxRecDepth 100000

theorem eqlF_key (p q x y : Int) (w : World) : (binOp .eql 34 (.agg #[.int .i64 p, .int .i64 q]) (.agg #[.int .i64 x, .int .i64 y])).run Try.prog w = .ok (.bool (keyEq (p, q) (x, y))) w := by
  unfold keyEq
  by_cases h1 : p = x <;> by_cases h2 : q = y <;> simp [go_sem, h1, h2]
attribute [local go_sem ↓] eqlF_key
/-- The closure: is it the object that lies in box B? -/
theorem same_key {p q x y : Int} {B : Nat} {w : World} (h0 : w.cell? ⟨B, 0, none⟩ = some (.int .i64 x)) (h1 : w.cell? ⟨B, 1, none⟩ = some (.int .i64 y)) :
    Calls Try.prog 88 #[.agg #[.int .i64 p, .int .i64 q], .pointer (some ⟨B, 0, none⟩)] w (fun e w' => e = .returned (.bool (keyEq (p, q) (x, y))) ∧ Below w.heap.size w w') := by
  have hB := cell_block_lt h0
  have hb0 : Below w.heap.size w (w.alloc (.cells #[.int .i64 p, .int .i64 q] 34)) := (Below.refl _ _).alloc (Nat.le_refl _) _
  have HB0 := Lib.hid hb0
  have g0 := (hb0.cell (p := ⟨B, 0, none⟩) hB).trans h0
  have g1 := (hb0.cell (p := ⟨B, 1, none⟩) hB).trans h1
  have hx : (w.alloc (.cells #[.int .i64 p, .int .i64 q] 34)).cell? ⟨w.heap.size, 0, none⟩ = some (.int .i64 p) := by simp [go_sem]
  have hy : (w.alloc (.cells #[.int .i64 p, .int .i64 q] 34)).cell? ⟨w.heap.size, 1, none⟩ = some (.int .i64 q) := by simp [go_sem]
  clear hb0 h0 h1
  go_enter Try.func88, Try.ntmps88
  go_wp2
  go_ret
  exact ⟨rfl, HB0.out⟩
theorem index_key {a : Option Addr} {c B n : Nat} {os : List Ob} {x y : Int} {w : World} (ha : ObsIn w a os) (hl : os.length = n) (hn : n ≤ 16) (h0 : w.cell? ⟨B, 0, none⟩ = some (.int .i64 x)) (h1 : w.cell? ⟨B, 1, none⟩ = some (.int .i64 y)) :
    Calls Try.prog 87 #[.slice a n c, .func (.func 88) #[] #[.pointer (some ⟨B, 0, none⟩)]] w (fun e w' => e = .returned (.int .i64 (findV os (x, y))) ∧ Below w.heap.size w w') := by
  have hBl := cell_block_lt h0
  have HA := Lib.hid ha
  have HL := Lib.hid hl
  have HX := Lib.hid (And.intro h0 h1)
  clear ha hl h0 h1
  go_enter Try.func87, Try.ntmps87
  go_wp2
  go_loopw [8] (fun v wr => ∃ k : Nat, k ≤ n ∧ v = .int .i64 k ∧ Below w.heap.size w wr ∧ ∀ j, j < k → os.getD j (0, 0) ≠ (x, y)) (fun v _ => n - (intOf v).toNat)
  case atStart => exact ⟨0, by omega, rfl, Below.refl _ _, fun j hj => by omega⟩
  case round =>
    obtain ⟨k, hk, rfl, hb, hno⟩ := hrel
    have HB := Lib.hid hb
    have HN := Lib.hid hno
    by_cases hlt : k < n
    · obtain ⟨g, rfl, hg, hobs⟩ := HA.out (by rw [HL.out]; omega)
      obtain ⟨d1, d2⟩ := hobs k (by rw [HL.out]; exact hlt)
      have d1 := (hb.cell (p := ⟨g, k * 2, none⟩) hg).trans d1
      have d2 := (hb.cell (p := ⟨g, k * 2 + 1, none⟩) hg).trans d2
      have x1 := (hb.cell (p := ⟨B, 0, none⟩) hBl).trans HX.out.1
      have x2 := (hb.cell (p := ⟨B, 1, none⟩) hBl).trans HX.out.2
      have X1 := Lib.hid x1
      have X2 := Lib.hid x2
      obtain ⟨o, ho⟩ : ∃ o, os.getD k (0, 0) = o := ⟨_, rfl⟩
      obtain ⟨p, q⟩ := o
      rw [ho] at d1 d2
      have HOB := Lib.hid ho
      clear hobs ho hb hno x1 x2
      by_cases e1 : (p, q) = ((x, y) : Ob)
      · have hq : keyEq (p, q) (x, y) = true := by simp [keyEq, e1]
        have HQ := Lib.hid hq
        clear hq
        go_wp2_with (go_at_call 88; refine (same_key X1.out X2.out).mono ?_; rintro e w1 ⟨rfl, hb1⟩; rw [HQ.out]; have HB1 := Lib.hid hb1; clear hb1)
        go_ret
        exact ⟨by rw [findV_of (by rw [HL.out]; exact hlt) (by rw [HOB.out]; exact e1) HN.out]; rfl, HB.out.trans (HB1.out.mono HB.out.size)⟩
      · have hq : keyEq (p, q) (x, y) = false := by simp [keyEq, e1]
        have HQ := Lib.hid hq
        clear hq
        go_wp2_with (go_at_call 88; refine (same_key X1.out X2.out).mono ?_; rintro e w1 ⟨rfl, hb1⟩; rw [HQ.out]; have HB1 := Lib.hid hb1; clear hb1)
        go_roundw
        case rel =>
          refine ⟨k + 1, by omega, by go_num, HB.out.trans (HB1.out.mono HB.out.size), fun j hj => ?_⟩
          by_cases e : j = k
          · rw [e, HOB.out]; exact e1
          · exact HN.out j (by omega)
        case measure => simp [intOf]; omega
    · obtain rfl : k = n := by omega
      clear hb hno
      go_wp2
      go_ret
      exact ⟨by rw [findV_none (fun j hj => HN.out j (by rw [← HL.out]; exact hj))]; rfl, HB.out⟩
section
variable {w w' : World} {h A G C : Nat} {v : Value} {s n L : Nat} {os : List Ob} {zs : List Int}
theorem lm_slotOf (H : Lm w h A G C v s n L os zs) (hd : Dim s n L) (x y : Int) :
    Calls Try.prog 77 #[.pointer (some ⟨h, 0, none⟩), .agg #[.int .i64 x, .int .i64 y]] w (fun e w' => e = .returned (.int .i64 (findV os (x, y))) ∧ Below w.heap.size w w') := by
  obtain ⟨a, c, rfl, hsh⟩ := H.ks.shape
  have h16 : os.length ≤ 16 := Nat.le_trans H.le hd.n1
  have hb0 : Below w.heap.size w (w.alloc (.cells #[.int .i64 x, .int .i64 y] 34)) := (Below.refl _ _).alloc (Nat.le_refl _) _
  have HB0 := Lib.hid hb0
  have c1 := (H.stay hb0).h1
  have hoi : ObsIn (w.alloc (.cells #[.int .i64 x, .int .i64 y] 34)) a os := ObsIn.stay (w := w) hsh hb0
  have HOI := Lib.hid hoi
  have hx : (w.alloc (.cells #[.int .i64 x, .int .i64 y] 34)).cell? ⟨w.heap.size, 0, none⟩ = some (.int .i64 x) := by simp [go_sem]
  have hy : (w.alloc (.cells #[.int .i64 x, .int .i64 y] 34)).cell? ⟨w.heap.size, 1, none⟩ = some (.int .i64 y) := by simp [go_sem]
  have HX := Lib.hid hx
  have HY := Lib.hid hy
  clear hb0 hoi H hsh hx hy
  go_enter Try.func77, Try.ntmps77
  go_wp2_with (go_at_call 87; refine (index_key HOI.out rfl h16 HX.out HY.out).mono ?_; rintro e w1 ⟨rfl, hb1⟩; have HB1 := Lib.hid hb1; clear hb1)
  go_ret
  exact ⟨rfl, HB0.out.trans (HB1.out.mono HB0.out.size)⟩
end
end Go.Proofs.Ytenjdgoammaiiaa

/-
  Proved here: what Get of the program's storage does. Conditions: as each lemma says.
-/
namespace Go.Proofs.Ytenjdgoammaiiaa
open Go.RowKit
set_option maxRecDepth 100000

attribute [local go_sem ↓] append_veil
theorem setL_length : ∀ (vz zs : List Int) (p : Nat), (setL zs p vz).length = zs.length
  | [], _, _ => rfl
  | v :: r, zs, p => by
    show (setL (zs.set p v) (p + 1) r).length = _
    rw [setL_length r, List.length_set]
theorem setL_get : ∀ (vz zs : List Int) (p j : Nat), p + vz.length ≤ zs.length → (setL zs p vz).getD j 0 = if p ≤ j ∧ j < p + vz.length then vz.getD (j - p) 0 else zs.getD j 0
  | [], zs, p, j, _ => by rw [if_neg (by simp only [List.length_nil]; omega)]; rfl
  | v :: r, zs, p, j, h => by
    simp only [List.length_cons] at h ⊢
    show (setL (zs.set p v) (p + 1) r).getD j 0 = _
    rw [setL_get r _ _ _ (by rw [List.length_set]; omega), set_get (by omega)]
    by_cases e : p = j
    · subst e
      rw [if_neg (by omega), if_pos rfl, if_pos (by omega), Nat.sub_self]
      rfl
    · by_cases e2 : p + 1 ≤ j ∧ j < p + 1 + r.length
      · rw [if_pos e2, if_pos (by omega), show j - p = j - (p + 1) + 1 by omega]
        rfl
      · rw [if_neg e2, if_neg e, if_neg (by omega)]
theorem getD_ext {a b : List Int} (hl : a.length = b.length) (h : ∀ j, j < a.length → a.getD j 0 = b.getD j 0) : a = b := by
  refine List.ext_getElem hl fun j h1 h2 => ?_
  have := h j h1
  rw [List.getD_eq_getElem?_getD, List.getD_eq_getElem?_getD, List.getElem?_eq_getElem h1, List.getElem?_eq_getElem h2] at this
  simpa using this
theorem div_iff {s k j : Nat} (hs : 1 ≤ s) : j / s = k ↔ k * s ≤ j ∧ j < k * s + s := by
  constructor
  · rintro rfl
    have h1 := Nat.div_add_mod j s
    have h2 := Nat.mod_lt j (show 0 < s by omega)
    rw [Nat.mul_comm] at h1
    omega
  · rintro ⟨h1, h2⟩
    obtain ⟨t, rfl⟩ : ∃ t, j = k * s + t := ⟨j - k * s, by omega⟩
    exact place_div (by omega)
theorem setL_zeros {s n L k : Nat} {zs : List Int} (hd : Dim s n L) (hz : zs.length = L) (hk : k < n) : setL zs (k * s) (zeros s) = zeroS zs s k := by
  have hat := hd.at hk
  refine getD_ext (by rw [setL_length, zeroS_length]) fun j hj => ?_
  rw [setL_length] at hj
  rw [setL_get _ _ _ _ (by rw [zeros_length]; omega), zeros_length]
  unfold zeroS
  rw [range_get hj]
  by_cases e : k * s ≤ j ∧ j < k * s + s
  · rw [if_pos e, if_pos ((div_iff hd.s0).2 e), zeros_get]
  · rw [if_neg e, if_neg (fun e2 => e ((div_iff hd.s0).1 e2))]
theorem u8s_zeros (s : Nat) : u8s (zeros s) = List.replicate s (Value.int .u8 0) := by simp [u8s, zeros]
theorem zero_u8 (w : World) : (zeroValue 5).run Try.prog w = .ok (.int .u8 0) w := by kernel_rfl
theorem obs_add {w : World} {H : Nat} {v : Value} {os : List Ob} (x y : Int) (hH : H < w.heap.size) (hs : ObSl w v os) (hne : some H ≠ v.ownBlock) (hl : os.length ≤ 15) :
    ∃ a2 c2 W3, (appendV #[83, 83] 83 #[v, .slice (some ⟨w.heap.size, 0, none⟩) 1 1]).run Try.prog (w.alloc (.cells #[.int .i64 x, .int .i64 y] 34)).drew = .ok (.slice a2 (os.length + 1) c2) W3 ∧
      W3.heap[H]? = w.heap[H]? ∧ ObSl W3 (.slice a2 (os.length + 1) c2) (os ++ [(x, y)]) ∧ (∀ b, b < w.heap.size → some b ≠ v.ownBlock → W3.heap[b]? = w.heap[b]?) ∧ W3.os = w.os ∧ W3.tape = w.tape ∧ W3.output = w.output ∧ w.heap.size ≤ W3.heap.size ∧
      (∀ b, some b = (Value.slice a2 (os.length + 1) c2).ownBlock → some b = v.ownBlock ∨ w.heap.size ≤ b) := by
  obtain ⟨i0, hi0, hz0, hz1, hz2⟩ := info_parts key_info
  have hown : (w.alloc (.cells #[.int .i64 x, .int .i64 y] 34)).drew.ownsRow 0 34 2 v os.length (flatO os) := World.ownsRow.alloc hs _
  have hn : (w.alloc (.cells #[.int .i64 x, .int .i64 y] 34)).heap[w.heap.size]? = some (.cells #[.int .i64 x, .int .i64 y] 34 (0, 0)) := heap_alloc_new w _
  obtain ⟨v', W3, hrun, hown3, hgr, -, hat⟩ := run_append_own_at (P := Try.prog) (w.alloc (.cells #[.int .i64 x, .int .i64 y] 34)).drew 0 83 83 34 i0 _ 2 16 Try.underlying83 hi0 hz0 hz1 hz2 rfl (by omega) v os.length (flatO os) hown
    ⟨w.heap.size, 0, none⟩ 1 1 [.int .i64 x, .int .i64 y] rfl (fun j u hu => by
      rw [add_lit, Nat.zero_add]
      show (w.alloc (.cells #[.int .i64 x, .int .i64 y] 34)).cell? ⟨w.heap.size, j, none⟩ = some u
      unfold World.cell?
      simp only [hn]
      simpa using hu) (fun u hu => by simp at hu; rcases hu with rfl | rfl <;> rfl) (by unfold maxLen; omega) (by omega) (by omega)
  rw [show flatO os ++ [Value.int .i64 x, .int .i64 y] = flatO (os ++ [(x, y)]) from (flatO_snoc os (x, y)).symm] at hown3
  obtain ⟨a2, c2, rfl⟩ : ∃ a2 c2, v' = .slice a2 (os.length + 1) c2 := by
    rcases hown3.2 with ⟨_, h0⟩ | ⟨g, cap, cur, hv, -⟩
    · omega
    · exact ⟨_, cap, hv⟩
  have hold : ∀ b, b < w.heap.size → some b ≠ v.ownBlock → W3.heap[b]? = w.heap[b]? := fun b hb hn2 => by
    rw [hgr.block b (by simp; omega) hn2]
    exact Below.heap_alloc _ _ _ hb
  have hz : w.heap.size + 1 ≤ W3.heap.size := by have := hgr.size; simpa using this
  refine ⟨a2, c2, W3, hrun, hold H hH hne, ?_, hold, hgr.os, hgr.tape, hgr.output, by omega, fun b hb => ?_⟩
  · unfold ObSl
    rw [List.length_append]
    exact hown3
  · rcases hat with h1 | h1
    · exact .inl (by rw [← h1]; exact hb)
    · rw [h1] at hb
      simp at hb
      exact .inr (by omega)
section
variable {w w' : World} {h A G C : Nat} {v : Value} {s n L : Nat} {os : List Ob} {zs : List Int}
/-- A slot's bytes cleared. -/
theorem Lm.clears {W : World} {k : Nat} (H : Lm W h A G C v s n L os zs) (hd : Dim s n L) (hk : k < n) (ty : TypeId) :
    (Builtin.clear_ #[32] ty #[.slice (some ⟨G, k * s, none⟩) s s]).run Try.prog W = .ok (.tuple #[]) (W.setCells G (k * s) (List.replicate s (.int .u8 0))) := by
  have hat := hd.at hk
  refine Lib.run_clear_slice W _ _ ty _ Try.underlying32 zero_u8 rfl rfl G (k * s) s s hd.s0 (fun j hj => ?_) (fun j hj => H.ar.free _)
  have := H.ar.row (k * s + j) (by omega)
  rw [Nat.zero_add] at this
  rw [this]
  rfl
theorem Lm.cleared {W : World} {k : Nat} (H : Lm W h A G C v s n L os zs) (hd : Dim s n L) (hk : k < n) : Lm (W.setCells G (k * s) (List.replicate s (.int .u8 0))) h A G C v s n L os (zeroS zs s k) := by
  have hat := hd.at hk
  rw [← u8s_zeros, ← setL_zeros hd H.ar.len hk]
  exact H.puts hd (by rw [zeros_length]; exact hat)
/-- One object more. -/
theorem Lm.pushed {W W3 : World} {a2 : Option Addr} {c2 : Nat} {x y : Int} (H : Lm W h A G C v s n L os zs) (hd : Dim s n L) (hroom : os.length < n) (ho : ObSl W3 (.slice a2 (os.length + 1) c2) (os ++ [(x, y)])) (hold : ∀ b, b < W.heap.size → some b ≠ v.ownBlock → W3.heap[b]? = W.heap[b]?)
    (hv : ∀ b, some b = (Value.slice a2 (os.length + 1) c2).ownBlock → some b = v.ownBlock ∨ W.heap.size ≤ b) : Lm (W3.setCell ⟨h, 1, none⟩ (.slice a2 (os.length + 1) c2)) h A G C (.slice a2 (os.length + 1) c2) s n L (os ++ [(x, y)]) zs := by
  have hlt := H.lt
  have hvn : ∀ b, b < W.heap.size → some b ≠ v.ownBlock → some b ≠ (Value.slice a2 (os.length + 1) c2).ownBlock := fun b hb hn e => by
    rcases hv b e with h1 | h1
    · exact hn h1
    · omega
  have hhl := hlt h (.inl rfl)
  have hAl := hlt A (.inr (.inl rfl))
  have hGl := hlt G (.inr (.inr (.inl rfl)))
  have eh := hold h hhl H.vh
  have eb : ∀ b, b < W.heap.size → b ≠ h → some b ≠ v.ownBlock → (W3.setCell ⟨h, 1, none⟩ (.slice a2 (os.length + 1) c2)).heap[b]? = W.heap[b]? := fun b h1 h2 h3 => (Below.heap_setCell _ _ _ _ h2).trans (hold b h1 h3)
  have eA := eb A hAl (fun e => H.hA e.symm) H.vA
  have eG := eb G hGl (fun e => H.hG hd e.symm) H.vG
  have hho := hvn h hhl H.vh
  refine ⟨?_, World.cell?_setCell_same _ _ _ ((World.cell?_of_block (w := W) (a := ⟨h, 1, none⟩) eh).trans H.h1), fun j => ?_, ho.kept (fun b hb => Below.heap_setCell _ _ _ _ (fun e => hho (by simp only at e; rw [← e]; exact hb))), H.ar.kept eA eG (block_lt_of_eq hGl eG), H.c0, by rw [List.length_append]; exact hroom, hho, hvn A hAl H.vA, hvn G hGl H.vG⟩
  · rw [World.cell?_setCell_other _ _ _ _ (by intro e; injection e with _ e _; cases e)]
    exact (World.cell?_of_block (w := W) (a := ⟨h, 0, none⟩) eh).trans H.h0
  · rw [World.frozen?_setCell]
    exact (World.frozen?_of_block (w := W) (a := ⟨h, j, none⟩) eh).trans (H.fh j)
theorem boxL (w : World) (o : Obj) : Below w.heap.size w (w.alloc o) := (Below.refl _ _).alloc (Nat.le_refl _) _
theorem findL_some {o : Ob} {i : Nat} (h : findO os o = some i) : findV os o = (i : Int) := by unfold findV; rw [h]
theorem findL_no {o : Ob} (h : findO os o = none) : findV os o = -1 := by unfold findV; rw [h]
theorem lm_get_had {x y : Int} {i : Nat} (c : Bool) (H : Lm w h A G C v s n L os zs) (hd : Dim s n L) (hf : findO os (x, y) = some i) :
    Calls Try.prog 55 #[.pointer (some ⟨h, 0, none⟩), .agg #[.int .i64 x, .int .i64 y], .bool c] w (fun e w' => e = .returned (.tuple #[.int .i64 i, .int .i64 0]) ∧ Below w.heap.size w w') := by
  have H1 := Lib.hid (H.stay (boxL w (.cells #[.int .i64 x, .int .i64 y] 34)))
  have HB := Lib.hid (boxL w (.cells #[.int .i64 x, .int .i64 y] 34))
  have HD := Lib.hid hd
  have HF := Lib.hid (findL_some hf)
  have hx : (w.alloc (.cells #[.int .i64 x, .int .i64 y] 34)).cell? ⟨w.heap.size, 0, none⟩ = some (.int .i64 x) := by simp [go_sem]
  have hy : (w.alloc (.cells #[.int .i64 x, .int .i64 y] 34)).cell? ⟨w.heap.size, 1, none⟩ = some (.int .i64 y) := by simp [go_sem]
  clear H hf hd
  go_enter Try.func55, Try.ntmps55
  go_wp2_with (go_at_call 77; refine (lm_slotOf H1.out HD.out x y).mono ?_; rintro e w1 ⟨he, hb1⟩; rw [HF.out] at he; subst he; have HB1 := Lib.hid hb1; clear hb1)
  go_ret2
  exact ⟨rfl, HB.out.trans (HB1.out.mono HB.out.size)⟩
theorem lm_get_not {x y : Int} (H : Lm w h A G C v s n L os zs) (hd : Dim s n L) (hf : findO os (x, y) = none) :
    Calls Try.prog 55 #[.pointer (some ⟨h, 0, none⟩), .agg #[.int .i64 x, .int .i64 y], .bool false] w (fun e w' => e = .returned (.tuple #[.int .i64 0, .int .i64 2]) ∧ Below w.heap.size w w') := by
  obtain ⟨a, c, rfl, -⟩ := H.ks.shape
  have H1 := Lib.hid (H.stay (boxL w (.cells #[.int .i64 x, .int .i64 y] 34)))
  have HB := Lib.hid (boxL w (.cells #[.int .i64 x, .int .i64 y] 34))
  have HD := Lib.hid hd
  have HF := Lib.hid (findL_no hf)
  have hx : (w.alloc (.cells #[.int .i64 x, .int .i64 y] 34)).cell? ⟨w.heap.size, 0, none⟩ = some (.int .i64 x) := by simp [go_sem]
  have hy : (w.alloc (.cells #[.int .i64 x, .int .i64 y] 34)).cell? ⟨w.heap.size, 1, none⟩ = some (.int .i64 y) := by simp [go_sem]
  clear H hf hd
  go_enter Try.func55, Try.ntmps55
  go_wp2_with (go_at_call 77; refine (lm_slotOf H1.out HD.out x y).mono ?_; rintro e w1 ⟨he, hb1⟩; rw [HF.out] at he; subst he; have HB1 := Lib.hid hb1; have c1 := (H1.out.stay hb1).h1; clear hb1)
  go_ret2
  exact ⟨rfl, HB.out.trans (HB1.out.mono HB.out.size)⟩
theorem lm_get_full {x y : Int} (H : Lm w h A G C v s n L os zs) (hd : Dim s n L) (hf : findO os (x, y) = none) (hfull : os.length = n) :
    Calls Try.prog 55 #[.pointer (some ⟨h, 0, none⟩), .agg #[.int .i64 x, .int .i64 y], .bool true] w (fun e w' => e = .returned (.tuple #[.int .i64 0, .int .i64 28]) ∧ Below w.heap.size w w') := by
  obtain ⟨a, c, rfl, -⟩ := H.ks.shape
  have H1 := Lib.hid (H.stay (boxL w (.cells #[.int .i64 x, .int .i64 y] 34)))
  have HB := Lib.hid (boxL w (.cells #[.int .i64 x, .int .i64 y] 34))
  have HD := Lib.hid hd
  have HF := Lib.hid (findL_no hf)
  have HFU := Lib.hid hfull
  have hx : (w.alloc (.cells #[.int .i64 x, .int .i64 y] 34)).cell? ⟨w.heap.size, 0, none⟩ = some (.int .i64 x) := by simp [go_sem]
  have hy : (w.alloc (.cells #[.int .i64 x, .int .i64 y] 34)).cell? ⟨w.heap.size, 1, none⟩ = some (.int .i64 y) := by simp [go_sem]
  clear H hf hd hfull
  go_enter Try.func55, Try.ntmps55
  go_wp2_with (first
    | (go_at_call 77; refine (lm_slotOf H1.out HD.out x y).mono ?_; rintro e w1 ⟨he, hb1⟩; rw [HF.out] at he; subst he; have HB1 := Lib.hid hb1; have H2 := Lib.hid (H1.out.stay hb1); have c1 := H2.out.h1; have c0 := H2.out.h0; rw [HFU.out] at c1; clear hb1)
    | (go_at_call 66; refine (arr_len _ _ _ H2.out.ar.c1).mono ?_; rintro e w2 ⟨rfl, rfl⟩))
  go_ret2
  exact ⟨rfl, HB.out.trans (HB1.out.mono HB.out.size)⟩
set_option maxHeartbeats 1000000 in
theorem lm_get_new {x y : Int} {D : Nat → Prop} (H : Lm w h A G C v s n L os zs) (hd : Dim s n L) (hD : ∀ b, D b ↔ LmS h A G v b) (hf : findO os (x, y) = none) (hroom : os.length < n) :
    Calls Try.prog 55 #[.pointer (some ⟨h, 0, none⟩), .agg #[.int .i64 x, .int .i64 y], .bool true] w (GetQ (LP s n L) D h G (os.length, 0, os ++ [(x, y)], zeroS zs s os.length) w) := by
  obtain ⟨a, c, rfl, -⟩ := H.ks.shape
  have H1 := Lib.hid (H.stay (boxL w (.cells #[.int .i64 x, .int .i64 y] 34)))
  have HB := Lib.hid (boxL w (.cells #[.int .i64 x, .int .i64 y] 34))
  have HLT := Lib.hid H.lt
  have HD := Lib.hid hd
  have HDD := Lib.hid hD
  have HF := Lib.hid (findL_no hf)
  have hne : ((os.length : Int) == (n : Int)) = false := by simp; omega
  obtain ⟨k, hk⟩ : ∃ k, os.length = k := ⟨_, rfl⟩
  have HK := Lib.hid hk
  rw [hk] at H1 hroom hne ⊢
  have n1 := hd.n1
  have hx : (w.alloc (.cells #[.int .i64 x, .int .i64 y] 34)).cell? ⟨w.heap.size, 0, none⟩ = some (.int .i64 x) := by simp [go_sem]
  have hy : (w.alloc (.cells #[.int .i64 x, .int .i64 y] 34)).cell? ⟨w.heap.size, 1, none⟩ = some (.int .i64 y) := by simp [go_sem]
  have hz0 : (w.alloc (.cells #[.int .i64 x, .int .i64 y] 34)).heap.size = w.heap.size + 1 := by simp
  have HXY := Lib.hid (And.intro hx (And.intro hy hz0))
  have HRM := Lib.hid hroom
  clear H hf hd hD hk hz0
  unfold GetQ
  go_enter Try.func55, Try.ntmps55
  go_wp2_with (first
    | (go_at_call 77; refine (lm_slotOf H1.out HD.out x y).mono ?_; rintro e w1 ⟨he, hb1⟩; rw [HF.out] at he; subst he; have HB1 := Lib.hid hb1; have H2 := Lib.hid (H1.out.stay hb1); have c1 := H2.out.h1; have c0 := H2.out.h0; clear hb1)
    | (go_at_call 66; refine (arr_len _ _ _ H2.out.ar.c1).mono ?_; rintro e w2 ⟨rfl, rfl⟩)
    | (go_at_call 78; refine (lm_bytesOf H2.out HD.out HRM.out).mono ?_; rintro e w3 ⟨rfl, hb3⟩; have HB3 := Lib.hid hb3; have H3 := Lib.hid (H2.out.stay hb3); have hcl := H3.out.clears HD.out HRM.out; clear hb3))
  obtain ⟨W2, hW2⟩ : ∃ W2, w3.setCells G (k * s) (List.replicate s (Value.int .u8 0)) = W2 := ⟨_, rfl⟩
  have H4 := H3.out.cleared HD.out HRM.out
  have hw1 := (HB.out.trans (HB1.out.mono HB.out.size)).trans (HB3.out.mono (HB.out.trans (HB1.out.mono HB.out.size)).size)
  have hDG : D G := (HDD.out G).2 (.inr (.inr (.inl rfl)))
  have hT2 : Turned D w W2 := by rw [← hW2]; exact turned_setCells G hDG _ _ (Turned.of hw1)
  have hGl := HLT.out G (.inr (.inr (.inl rfl)))
  have hx2 : W2.cell? ⟨w.heap.size, 0, none⟩ = some (.int .i64 x) ∧ W2.cell? ⟨w.heap.size, 1, none⟩ = some (.int .i64 y) := by
    obtain ⟨g1, g2, g3⟩ := HXY.out
    have hb2 := HB1.out.trans (HB3.out.mono HB1.out.size)
    rw [g3] at hb2
    have e : ∀ j, W2.cell? ⟨w.heap.size, j, none⟩ = w3.cell? ⟨w.heap.size, j, none⟩ := fun j => by
      rw [← hW2]
      exact World.cell?_setCells_out _ _ _ _ _ (fun e _ => by simp only at e; omega)
    exact ⟨(e 0).trans ((hb2.cell (p := ⟨w.heap.size, 0, none⟩) (by show w.heap.size < _; omega)).trans g1), (e 1).trans ((hb2.cell (p := ⟨w.heap.size, 1, none⟩) (by show w.heap.size < _; omega)).trans g2)⟩
  rw [hW2] at H4 ⊢
  have hhl : h < W2.heap.size := H4.lt h (.inl rfl)
  have hwW : w.heap.size ≤ W2.heap.size := hT2.size
  obtain ⟨x1, x2⟩ := hx2
  obtain ⟨a2, c2, W3, hrun, hH3, ho3, hold3, hos3, htp3, hou3, hsz3, hv3⟩ := obs_add x y hhl H4.ks H4.vh (by have := HK.out; omega)
  have hP := H4.pushed HD.out (by rw [HK.out]; exact HRM.out) ho3 hold3 hv3
  have q1 := H4.h1
  have q2 : (W2.alloc (.cells #[.int .i64 x, .int .i64 y] 34)).cell? ⟨h, 1, none⟩ = some (.slice a k c) := by rw [World.cell?_alloc_lt _ _ _ hhl]; exact q1
  have q3 : W3.cell? ⟨h, 1, none⟩ = some (.slice a k c) := (World.cell?_of_block (w := W2) (a := ⟨h, 1, none⟩) hH3).trans q1
  have q4 : W3.frozen? ⟨h, 1, none⟩ = false := (World.frozen?_of_block (w := W2) (a := ⟨h, 1, none⟩) hH3).trans (H4.fh 1)
  rw [HK.out] at hrun hP hv3
  have hT3 : Turned D w (W3.setCell ⟨h, 1, none⟩ (.slice a2 (k + 1) c2)) := by
    refine (hT2.trans ⟨hos3, htp3, hou3, hsz3, fun b hb hn => hold3 b hb (fun e => hn ?_)⟩).setN (a := ⟨h, 1, none⟩) (.inl ((HDD.out h).2 (.inl rfl))) _
    rw [HDD.out b]
    exact .inr (.inr (.inr (by rw [HK.out]; exact e)))
  have HP := Lib.hid hP
  have HT3 := Lib.hid hT3
  have HV3 := Lib.hid hv3
  have HWW := Lib.hid hwW
  clear H4 hw1 hT2 hP hT3 hv3 hold3 ho3 hH3 hos3 htp3 hou3 hsz3 hcl c1 c0 hx hy hW2 hDG hGl hwW
  go_region
  go_wp2
  go_ret2
  refine ⟨LmS h A G (.slice a2 (k + 1) c2), rfl, ⟨A, C, _, HP.out, fun b => Iff.rfl⟩, HT3.out, ?_⟩
  rintro b (h1 | h1 | h1 | h1)
  · exact .inl ((HDD.out b).2 (.inl h1))
  · exact .inl ((HDD.out b).2 (.inr (.inl h1)))
  · exact .inl ((HDD.out b).2 (.inr (.inr (.inl h1))))
  · rcases HV3.out b h1 with h2 | h2
    · exact .inl ((HDD.out b).2 (.inr (.inr (.inr (by rw [HK.out]; exact h2)))))
    · exact .inr (Nat.le_trans HWW.out h2)
theorem lmget_same {e : Ending} {D : Nat → Prop} {x k : Int} (H : Lm w h A G C v s n L os zs) (hD : ∀ b, D b ↔ LmS h A G v b) (he : e = .returned (.tuple #[.int .i64 k, .int .i64 x])) (hb : Below w.heap.size w w') : GetQ (LP s n L) D h G (k, x, os, zs) w e w' :=
  ⟨D, he, ⟨A, C, v, H.stay hb, hD⟩, Turned.of hb, fun _ hb => .inl hb⟩
/-- Get, in one. -/
theorem lm_get {D : Nat → Prop} {o : Ob} {c : Bool} (h1 : LP s n L w D h G os zs) (hd : Dim s n L) : Calls Try.prog 55 #[.pointer (some ⟨h, 0, none⟩), obV o, .bool c] w (GetQ (LP s n L) D h G (getR os zs s n o c) w) := by
  obtain ⟨A, C, v, H, hD⟩ := h1
  obtain ⟨x, y⟩ := o
  unfold getR
  cases hf : findO os (x, y) with
  | some i => exact (lm_get_had c H hd hf).mono fun e w' ⟨he, hb⟩ => lmget_same H hD he hb
  | none =>
    simp only
    cases c with
    | false =>
      rw [if_pos rfl]
      exact (lm_get_not H hd hf).mono fun e w' ⟨he, hb⟩ => lmget_same H hD he hb
    | true =>
      rw [if_neg (by simp)]
      by_cases hl : os.length = n
      · rw [if_pos hl]
        exact (lm_get_full H hd hf hl).mono fun e w' ⟨he, hb⟩ => lmget_same H hD he hb
      · rw [if_neg hl]
        exact lm_get_new H hd hD hf (by have := H.le; omega)
end
end Go.Proofs.Ytenjdgoammaiiaa
