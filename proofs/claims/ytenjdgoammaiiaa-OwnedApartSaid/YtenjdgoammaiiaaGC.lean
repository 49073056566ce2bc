/-
  Proved here: what Find, Drop and List of the document's maps by keys do. Conditions: as each says.
-/
import Derived.Test.YtenjdgoammaiiaaGB
import Derived.Deep.QuietTactic
import Derived.BigQuiet
import Derived.Deep.RegionWith
namespace Go.Proofs.Ytenjdgoammaiiaa
open Go.RowKit
set_option maxRecDepth 100000

/-- The document's map in memory: its box lies in block H, its keys in block K; its array. -/
structure Hf (w : World) (H K R B cap key s n L : Nat) (gs : Nat → Nat) (ks : List ByteArray) (zs : List Int) : Prop where
  h0 : w.cell? ⟨H, 0, none⟩ = some (.int .i64 key)
  h1 : w.cell? ⟨H, 1, none⟩ = some (.slice (some ⟨K, 0, none⟩) n n)
  h2 : w.cell? ⟨H, 2, none⟩ = some (.pointer (some ⟨R, 0, none⟩))
  keys : ∀ k, k < n → w.cell? ⟨K, k, none⟩ = some (.string (ks.getD k .empty))
  free : ∀ j, w.frozen? ⟨K, j, none⟩ = false
  klen : ks.length = n
  rf : Rf w R B cap s n L gs zs
  HK : H ≠ K
  KR : K ≠ R
  KB : K ≠ B
  Kg : ∀ k, k < n → gs k ≠ K
  Hg : ∀ k, k < n → gs k ≠ H
theorem ba_yes {a b : ByteArray} (h : a = b) : (a.toList == b.toList) = true := by subst h; simp
theorem ba_no {a b : ByteArray} (h : a ≠ b) : (a.toList == b.toList) = false := by
  rw [beq_eq_false_iff_ne]
  intro e
  rw [ByteArray.toList_eq, ByteArray.toList_eq] at e
  apply h
  cases a
  cases b
  simp only [Array.toList_inj] at e
  rw [e]
theorem bdrewN {B : Nat} {a w : World} (h : Below B a w) (n : Nat) : Below B a (w.drewN n) := h.trans ⟨rfl, rfl, rfl, Nat.le_refl _, fun _ _ => rfl⟩
theorem find_other (H K R B cap key s n L : Nat) (gs : Nat → Nat) (ks : List ByteArray) (zs : List Int) (a : Option Addr) (len c : Nat) (w : World) (h : Hf w H K R B cap key s n L gs ks zs) (hn : n ≤ 16) (hne : len ≠ key) :
    Calls Try.prog 59 #[.pointer (some ⟨H, 0, none⟩), .slice a len c] w (fun e w' => e = .returned (.int .i64 (-1)) ∧ Below w.heap.size w w') := by
  have H0 := h.h0
  have H1 := h.h1
  have hb0 : Below w.heap.size w w := Below.refl _ _
  have HB := Lib.hid hb0
  have hlk : ((len : Int) == (key : Int)) = false := by simp; omega
  have hbh : H < w.heap.size := cell_block_lt H0
  clear h hb0
  go_enter Try.func59, Try.ntmps59
  go_wp2
  go_loopw [5] (fun i wr => ∃ k : Nat, k ≤ n ∧ i = .int .i64 k ∧ Below w.heap.size w wr) (fun i _ => n - (intOf i).toNat)
  case atStart => exact ⟨0, by omega, rfl, HB.out⟩
  case round =>
    obtain ⟨k, hk2, rfl, hb⟩ := hrel
    have c0 := (hb.cell (p := ⟨H, 0, none⟩) hbh).trans H0
    have c1 := (hb.cell (p := ⟨H, 1, none⟩) hbh).trans H1
    have HB2 := Lib.hid hb
    clear hb HB
    by_cases hlt : k < n
    · go_wp2
      go_quiet (fail)
      go_wp2
      go_roundw
      case rel => exact ⟨k + 1, by omega, by go_num, bdrewN HB2.out _⟩
      case measure => simp [intOf]; omega
    · obtain rfl : k = n := by omega
      go_wp2
      go_ret
      exact ⟨rfl, HB2.out⟩
theorem find_try (H K R B cap key s n L : Nat) (gs : Nat → Nat) (ks : List ByteArray) (zs : List Int) (g off c i : Nat) (kz : List Int) (kS : ByteArray) (w : World) (h : Hf w H K R B cap key s n L gs ks zs) (hn : n ≤ 16) (hk0 : 1 ≤ key)
    (hz : kz.length = key) (hr : RowAt w g off key kz) (hS : strOfNums kz = kS) (hi : i < n) (hat : ks.getD i .empty = kS) (hbe : ∀ j, j < i → ks.getD j .empty ≠ kS) :
    Calls Try.prog 59 #[.pointer (some ⟨H, 0, none⟩), .slice (some ⟨g, off, none⟩) key c] w (fun e w' => e = .returned (.int .i64 i) ∧ Below w.heap.size w w') := by
  have H0 := h.h0
  have H1 := h.h1
  have hb0 : Below w.heap.size w w := Below.refl _ _
  have HB := Lib.hid hb0
  have hbh : H < w.heap.size := cell_block_lt H0
  have hbk : K < w.heap.size := cell_block_lt (h.keys 0 (by omega))
  have hbg : g < w.heap.size := cell_block_lt (hr 0 (by omega))
  have HH := Lib.hid h
  have HZ := Lib.hid hz
  have HR := Lib.hid hr
  have HS := Lib.hid hS
  have HAT := Lib.hid hat
  clear h hb0 hz hr hS hat
  go_enter Try.func59, Try.ntmps59
  go_wp2
  go_loopw [5] (fun v wr => ∃ k : Nat, k ≤ i ∧ v = .int .i64 k ∧ Below w.heap.size w wr) (fun v _ => n - (intOf v).toNat)
  case atStart => exact ⟨0, by omega, rfl, HB.out⟩
  case round =>
    obtain ⟨k, hk2, rfl, hb⟩ := hrel
    have c0 := (hb.cell (p := ⟨H, 0, none⟩) hbh).trans H0
    have c1 := (hb.cell (p := ⟨H, 1, none⟩) hbh).trans H1
    have c2 := (hb.cell (p := ⟨K, k, none⟩) hbk).trans (HH.out.keys k (by omega))
    have hcv : ∀ m, (convert 32 9 (.slice (some ⟨g, off, none⟩) key c)).run Try.prog (wr.drewN m) = .ok (.string kS) (wr.drewN m) := fun m => by
      rw [← HS.out]; exact str_of (w := wr.drewN m) HZ.out (rowAt_below HR.out hbg (bdrewN hb m))
    have HB2 := Lib.hid hb
    clear hb HB
    have hlt : k < n := by omega
    obtain ⟨y, hy⟩ : ∃ y, ks.getD k .empty = y := ⟨_, rfl⟩
    rw [hy] at c2
    have HY := Lib.hid hy
    clear hy
    by_cases he : k = i
    · subst he
      have hd := ba_yes (HY.out.symm.trans HAT.out)
      go_wp2
      go_quiet (fail)
      go_wp2
      go_ret
      exact ⟨rfl, bdrewN HB2.out _⟩
    · have hd := ba_no (a := y) (b := kS) (by rw [← HY.out]; exact hbe k (by omega))
      go_wp2
      go_quiet (fail)
      go_wp2
      go_roundw
      case rel => exact ⟨k + 1, by omega, by go_num, bdrewN HB2.out _⟩
      case measure => simp [intOf]; omega
theorem find_none (H K R B cap key s n L : Nat) (gs : Nat → Nat) (ks : List ByteArray) (zs : List Int) (g off c : Nat) (kz : List Int) (kS : ByteArray) (w : World) (h : Hf w H K R B cap key s n L gs ks zs) (hn : n ≤ 16) (hk : 1 ≤ key) (hn0 : 1 ≤ n)
    (hz : kz.length = key) (hr : RowAt w g off key kz) (hS : strOfNums kz = kS) (hbe : ∀ j, j < n → ks.getD j .empty ≠ kS) :
    Calls Try.prog 59 #[.pointer (some ⟨H, 0, none⟩), .slice (some ⟨g, off, none⟩) key c] w (fun e w' => e = .returned (.int .i64 (-1)) ∧ Below w.heap.size w w') := by
  have H0 := h.h0
  have H1 := h.h1
  have hb0 : Below w.heap.size w w := Below.refl _ _
  have HB := Lib.hid hb0
  have hbh : H < w.heap.size := cell_block_lt H0
  have hbk : K < w.heap.size := cell_block_lt (h.keys 0 (by omega))
  have hbg : g < w.heap.size := cell_block_lt (hr 0 (by omega))
  have HH := Lib.hid h
  have HZ := Lib.hid hz
  have HR := Lib.hid hr
  have HS := Lib.hid hS
  clear h hb0 hz hr hS
  go_enter Try.func59, Try.ntmps59
  go_wp2
  go_loopw [5] (fun v wr => ∃ k : Nat, k ≤ n ∧ v = .int .i64 k ∧ Below w.heap.size w wr) (fun v _ => n - (intOf v).toNat)
  case atStart => exact ⟨0, by omega, rfl, HB.out⟩
  case round =>
    obtain ⟨k, hk2, rfl, hb⟩ := hrel
    have c0 := (hb.cell (p := ⟨H, 0, none⟩) hbh).trans H0
    have c1 := (hb.cell (p := ⟨H, 1, none⟩) hbh).trans H1
    by_cases hlt : k < n
    · have c2 := (hb.cell (p := ⟨K, k, none⟩) hbk).trans (HH.out.keys k (by omega))
      have hcv : ∀ m, (convert 32 9 (.slice (some ⟨g, off, none⟩) key c)).run Try.prog (wr.drewN m) = .ok (.string kS) (wr.drewN m) := fun m => by
        rw [← HS.out]; exact str_of (w := wr.drewN m) HZ.out (rowAt_below HR.out hbg (bdrewN hb m))
      have HB2 := Lib.hid hb
      clear hb HB
      obtain ⟨y, hy⟩ : ∃ y, ks.getD k .empty = y := ⟨_, rfl⟩
      rw [hy] at c2
      have hd := ba_no (a := y) (b := kS) (by rw [← hy]; exact hbe k (by omega))
      clear hy
      go_wp2
      go_quiet (fail)
      go_wp2
      go_roundw
      case rel => exact ⟨k + 1, by omega, by go_num, bdrewN HB2.out _⟩
      case measure => simp [intOf]; omega
    · obtain rfl : k = n := by omega
      have HB2 := Lib.hid hb
      clear hb HB
      go_wp2
      go_ret
      exact ⟨rfl, HB2.out⟩

/-! ### What is found, in one -/
/-- The slot that has a key, if there is one: -1 else. -/
def findK (ks : List ByteArray) (k : ByteArray) : Int := match ks.findIdx? (· = k) with
  | some i => (i : Int)
  | none => -1
theorem findK_some {ks : List ByteArray} {k : ByteArray} {i : Nat} (h : ks.findIdx? (· = k) = some i) : findK ks k = (i : Int) := by simp [findK, h]
theorem findK_none {ks : List ByteArray} {k : ByteArray} (h : ks.findIdx? (· = k) = none) : findK ks k = -1 := by simp [findK, h]
/-- Bytes that came in: none, or a row below. -/
inductive KeyAt (w : World) : Value → List Int → Prop
  | empty (a : Option Addr) (c : Nat) : KeyAt w (.slice a 0 c) []
  | row (g off len c : Nat) (kz : List Int) (hl : kz.length = len) (hr : RowAt w g off len kz) (hg : 0 < len → g < w.heap.size) : KeyAt w (.slice (some ⟨g, off, none⟩) len c) kz
def FindPost (key : Nat) (ks : List ByteArray) (kz : List Int) (W : World) (e : Ending) (w : World) : Prop :=
  e = .returned (.int .i64 (if kz.length = key then findK ks (strOfNums kz) else -1)) ∧ Below W.heap.size W w
theorem find_any (H K R B cap key s n L : Nat) (gs : Nat → Nat) (ks : List ByteArray) (zs : List Int) (v : Value) (kz : List Int) (w : World) (h : Hf w H K R B cap key s n L gs ks zs) (hn : n ≤ 16) (hn0 : 1 ≤ n) (hk : 1 ≤ key) (hv : KeyAt w v kz) :
    Calls Try.prog 59 #[.pointer (some ⟨H, 0, none⟩), v] w (FindPost key ks kz w) := by
  unfold FindPost
  cases hv with
  | empty a c =>
    rw [if_neg (by simp; omega)]
    exact find_other H K R B cap key s n L gs ks zs a 0 c w h hn (by omega)
  | row g off len c kz hl hr hg =>
    by_cases e : len = key
    · subst e
      rw [if_pos hl]
      cases hf : ks.findIdx? (· = strOfNums kz) with
      | none =>
        rw [findK_none hf]
        refine find_none H K R B cap len s n L gs ks zs g off c kz _ w h hn hk hn0 hl hr rfl fun j hj e2 => ?_
        have h2 := List.findIdx?_eq_none_iff.1 hf (ks.getD j .empty) (by
          rw [List.getD_eq_getElem?_getD, List.getElem?_eq_getElem (by rw [h.klen]; exact hj)]
          exact List.getElem_mem _)
        simp at h2
        rw [List.getD_eq_getElem?_getD] at e2
        exact h2 e2
      | some i =>
        rw [findK_some hf]
        obtain ⟨hi, h1, h2⟩ := List.findIdx?_eq_some_iff_getElem.1 hf
        have hin : i < n := by rw [← h.klen]; exact hi
        refine find_try H K R B cap len s n L gs ks zs g off c i kz _ w h hn hk hl hr rfl hin ?_ fun j hj e2 => ?_
        · rw [List.getD_eq_getElem?_getD, List.getElem?_eq_getElem hi]
          simpa using h1
        · have h3 := h2 j hj
          rw [List.getD_eq_getElem?_getD, List.getElem?_eq_getElem (by omega)] at e2
          simp at h3 e2
          exact h3 e2
    · rw [if_neg (by omega)]
      exact find_other H K R B cap key s n L gs ks zs _ len c w h hn e

/-! ### Drop -/
/-- The map stays where its blocks stay. -/
theorem Hf.kept {w w' : World} {H K R B cap key s n L : Nat} {gs : Nat → Nat} {ks : List ByteArray} {zs : List Int} (h : Hf w H K R B cap key s n L gs ks zs) (eH : w'.heap[H]? = w.heap[H]?) (eK : w'.heap[K]? = w.heap[K]?)
    (eR : w'.heap[R]? = w.heap[R]?) (eB : w'.heap[B]? = w.heap[B]?) (eG : ∀ k, k < n → w'.heap[gs k]? = w.heap[gs k]?) : Hf w' H K R B cap key s n L gs ks zs :=
  ⟨(World.cell?_of_block (w := w) eH).trans h.h0, (World.cell?_of_block (w := w) eH).trans h.h1, (World.cell?_of_block (w := w) eH).trans h.h2, fun k hk => (World.cell?_of_block (w := w) eK).trans (h.keys k hk),
    fun j => (World.frozen?_of_block (w := w) eK).trans (h.free j), h.klen, h.rf.kept eR eB eG, h.HK, h.KR, h.KB, h.Kg, h.Hg⟩
theorem Hf.stay {w w' : World} {H K R B cap key s n L : Nat} {gs : Nat → Nat} {ks : List ByteArray} {zs : List Int} (h : Hf w H K R B cap key s n L gs ks zs) (hs : 0 < s) (hn : 0 < n) (hb : Below w.heap.size w w') : Hf w' H K R B cap key s n L gs ks zs :=
  h.kept (hb.block _ (cell_block_lt h.h0)) (hb.block _ (cell_block_lt (h.keys 0 hn))) (hb.block _ h.rf.ltR) (hb.block _ (h.rf.ltB hn)) (fun _ hk => hb.block _ (h.rf.ltG hs hk))
/-- A key is written. -/
theorem Hf.setKey {w : World} {H K R B cap key s n L i : Nat} {gs : Nat → Nat} {ks : List ByteArray} {zs : List Int} {x : ByteArray} (h : Hf w H K R B cap key s n L gs ks zs) (hi : i < n) : Hf (w.setCell ⟨K, i, none⟩ (.string x)) H K R B cap key s n L gs (ks.set i x) zs := by
  have eH := Below.heap_setCell w ⟨K, i, none⟩ (.string x) H h.HK
  refine ⟨(World.cell?_of_block (w := w) eH).trans h.h0, (World.cell?_of_block (w := w) eH).trans h.h1, (World.cell?_of_block (w := w) eH).trans h.h2, fun k hk => ?_, fun j => ?_, by simp [h.klen], h.rf.far _ _ (fun e => h.KR e.symm) (fun e => h.KB e.symm) h.Kg, h.HK, h.KR, h.KB, h.Kg, h.Hg⟩
  · rw [cell_set (h.keys k hk)]
    rw [List.getD_eq_getElem?_getD, List.getD_eq_getElem?_getD, List.getElem?_set]
    by_cases e : i = k
    · subst e; simp [h.klen, hi]
    · simp [e]
  · rw [World.frozen?_setCell]
    exact h.free j
/-- All blocks stay but those that are told. -/
structure Turned (S : Nat → Prop) (W w : World) : Prop where
  os : w.os = W.os
  tape : w.tape = W.tape
  output : w.output = W.output
  size : W.heap.size ≤ w.heap.size
  block : ∀ k, k < W.heap.size → ¬ S k → w.heap[k]? = W.heap[k]?
theorem Turned.of {S : Nat → Prop} {W w : World} (h : Below W.heap.size W w) : Turned S W w := ⟨h.os, h.tape, h.output, h.size, fun k hk _ => h.block k hk⟩
theorem Turned.refl (S : Nat → Prop) (W : World) : Turned S W W := ⟨rfl, rfl, rfl, Nat.le_refl _, fun _ _ _ => rfl⟩
theorem Turned.trans {S : Nat → Prop} {a b c : World} (h : Turned S a b) (k : Turned S b c) : Turned S a c :=
  ⟨k.os.trans h.os, k.tape.trans h.tape, k.output.trans h.output, Nat.le_trans h.size k.size, fun i hi hn => (k.block i (Nat.lt_of_lt_of_le hi h.size) hn).trans (h.block i hi hn)⟩
theorem Turned.set {S : Nat → Prop} {W w : World} (h : Turned S W w) {a : Addr} (ha : S a.block) (v : Value) : Turned S W (w.setCell a v) :=
  ⟨h.os, h.tape, h.output, by simp [World.setCell]; exact h.size, fun k hk hn => by rw [Below.heap_setCell _ _ _ _ (fun e => hn (by rw [e]; exact ha))]; exact h.block k hk hn⟩
theorem Turned.drew {S : Nat → Prop} {W w : World} (h : Turned S W w) : Turned S W w.drew := ⟨h.os, h.tape, h.output, h.size, h.block⟩
theorem Turned.more {S T : Nat → Prop} {W w : World} (h : Turned S W w) (hST : ∀ k, S k → T k) : Turned T W w := ⟨h.os, h.tape, h.output, h.size, fun k hk hn => h.block k hk (fun hs => hn (hST k hs))⟩
/-- What dropping a key answers, and makes of the keys. -/
def dropE (ks : List ByteArray) (key : Nat) (kz : List Int) : Int := if kz.length = key then (match ks.findIdx? (· = strOfNums kz) with
  | some _ => 0
  | none => 2) else 22
def dropK (ks : List ByteArray) (key : Nat) (kz : List Int) : List ByteArray := if kz.length = key then (match ks.findIdx? (· = strOfNums kz) with
  | some i => ks.set i .empty
  | none => ks) else ks
def DropPost (w0 : World) (H K R B cap key s n L : Nat) (gs : Nat → Nat) (ks : List ByteArray) (zs : List Int) (kz : List Int) (e : Ending) (w : World) : Prop :=
  e = .returned (.int .i64 (dropE ks key kz)) ∧ Hf w H K R B cap key s n L gs (dropK ks key kz) zs ∧ Turned (fun k => k = K) w0 w
theorem drop_ref (H K R B cap key s n L : Nat) (gs : Nat → Nat) (ks : List ByteArray) (zs : List Int) (a : Option Addr) (len c : Nat) (kz : List Int) (w : World) (h : Hf w H K R B cap key s n L gs ks zs) (hn : n ≤ 16) (hn0 : 1 ≤ n) (hs : 1 ≤ s) (hk : 1 ≤ key) (hlen : kz.length = len)
    (hv : KeyAt w (.slice a len c) kz) : Calls Try.prog 54 #[.pointer (some ⟨H, 0, none⟩), .slice a len c] w (DropPost w H K R B cap key s n L gs ks zs kz) := by
  have H0 := h.h0
  have HH := Lib.hid h
  have HV := Lib.hid hv
  have HL := Lib.hid hlen
  clear h hv hlen
  by_cases e : len = key
  · subst e
    cases hf : ks.findIdx? (· = strOfNums kz) with
    | none =>
      have HF := Lib.hid hf
      clear hf
      go_enter Try.func54, Try.ntmps54
      go_wp2_with (go_at_call 59; refine (find_any _ _ _ _ _ _ _ _ _ _ _ _ _ _ _ HH.out hn hn0 hk HV.out).mono ?_; rintro e w1 ⟨he, hb1⟩; rw [if_pos HL.out, findK_none HF.out] at he; subst he; have HB1 := Lib.hid hb1; clear hb1)
      go_ret
      refine ⟨by rw [dropE, if_pos HL.out, HF.out]; rfl, ?_, Turned.of HB1.out⟩
      rw [dropK, if_pos HL.out, HF.out]
      exact HH.out.stay hs hn0 HB1.out
    | some i =>
      have hin : i < n := by
        obtain ⟨hi, -⟩ := List.findIdx?_eq_some_iff_getElem.1 hf
        rw [← HH.out.klen]; exact hi
      have HF := Lib.hid hf
      clear hf
      go_enter Try.func54, Try.ntmps54
      go_wp2_with (go_at_call 59; refine (find_any _ _ _ _ _ _ _ _ _ _ _ _ _ _ _ HH.out hn hn0 hk HV.out).mono ?_; rintro e w1 ⟨he, hb1⟩; rw [if_pos HL.out, findK_some HF.out] at he; subst he; have hh1 := HH.out.stay hs hn0 hb1; have c1 := hh1.h1; have ck := hh1.keys i hin; have cf := hh1.free i; have HB1 := Lib.hid hb1; have HH1 := Lib.hid hh1; clear hb1 hh1)
      go_ret
      refine ⟨by rw [dropE, if_pos HL.out, HF.out]; rfl, ?_, (Turned.of (S := fun k => k = K) HB1.out).set (a := ⟨K, i, none⟩) rfl _⟩
      rw [dropK, if_pos HL.out, HF.out]
      exact HH1.out.setKey hin
  · have hne : ((len : Int) == (key : Int)) = false := by simp; omega
    go_enter Try.func54, Try.ntmps54
    go_wp2
    go_ret
    have e2 : ¬ kz.length = key := by rw [HL.out]; exact e
    refine ⟨by rw [dropE, if_neg e2]; rfl, ?_, Turned.refl _ _⟩
    rw [dropK, if_neg e2]
    exact HH.out
end Go.Proofs.Ytenjdgoammaiiaa

/-
  Proved here: what List of the document's maps by keys gives. Conditions: as each says.
-/
namespace Go.Proofs.Ytenjdgoammaiiaa
open Go.RowKit
set_option maxRecDepth 100000

/-- The keys that there are. -/
def listK (ks : List ByteArray) : List ByteArray := ks.filter fun k => decide (k ≠ ⟨#[]⟩)
def strs (l : List ByteArray) : List Value := l.map Value.string
theorem ba_empty {a : ByteArray} (h : a = ⟨#[]⟩) : a.toList.isEmpty = true := by
  subst h
  rw [ByteArray.toList_eq]
  rfl
theorem ba_full {a : ByteArray} (h : a ≠ ⟨#[]⟩) : a.toList.isEmpty = false := by
  have := ba_no h
  rw [ByteArray.toList_eq ⟨#[]⟩] at this
  cases e : a.toList
  · rw [e] at this; simp at this
  · rfl
theorem listK_snoc {ks : List ByteArray} {k : Nat} {y : ByteArray} (hk : k < ks.length) (hy : ks.getD k .empty = y) : listK (ks.take (k + 1)) = listK (ks.take k) ++ if y = ⟨#[]⟩ then [] else [y] := by
  have e : ks[k] = y := by rw [← hy, List.getD_eq_getElem?_getD, List.getElem?_eq_getElem hk]; rfl
  rw [listK, listK, List.take_succ_eq_append_getElem hk, List.filter_append, e]
  congr 1
  by_cases h : y = ⟨#[]⟩ <;> simp [h]
theorem listK_len (ks : List ByteArray) : (listK ks).length ≤ ks.length := List.length_filter_le _ _
theorem str_info9 : (Try.prog.info? 9).map (fun i => (i.zero, i.size, i.bytes)) = some (some (.string ⟨#[]⟩), 1, 16) := by kernel_rfl
def GaveList (W : World) (l : List ByteArray) (e : Ending) (w : World) : Prop := ∃ v, e = .returned v ∧ w.ownsRow W.heap.size 9 1 v l.length (strs l) ∧ Below W.heap.size W w
end Go.Proofs.Ytenjdgoammaiiaa

/-
  Proved here: what New and May of the document's maps by keys give. Conditions: as each says.
-/
namespace Go.Proofs.Ytenjdgoammaiiaa
open Go.RowKit
set_option maxRecDepth 100000

/-- What New of the document's arrays gives is an array of zeros. -/
theorem rf_of_new {W w : World} {R s n L : Nat} {v : Value} {gs : Nat → Nat} (h : NewAt W w R s n v gs) (hd : Dim s n L) : ∃ B cap, v = .slice (some ⟨B, 0, none⟩) n cap ∧ R < B ∧ Rf w R B cap s n L gs (zeros L) := by
  have hn := hd.n0
  obtain ⟨m, rfl⟩ : ∃ m, n = m + 1 := ⟨n - 1, by omega⟩
  obtain ⟨B, cap, rfl⟩ := own_shape h.own
  have hB := h.own.lt B rfl
  have hh : ∃ cur, w.heap[B]? = some (.cells cur 32 (0, 0)) := by
    rcases h.own.2 with ⟨h0, _⟩ | ⟨g, cap', cur, hv, _, hh, _⟩
    · cases h0
    · injection hv with hv; injection hv with hv; injection hv with hv
      subst hv
      exact ⟨cur, hh⟩
  obtain ⟨cur, hh⟩ := hh
  refine ⟨B, cap, rfl, by omega, h.c0, h.c1, fun k hk => ?_, fun k j hk hj => ?_, fun k j hk => ?_, zeros_length L, fun i j hi hj e => ?_, fun k hk => ?_, fun k hk => ?_⟩
  · have := h.own.cells (g := B) rfl k (.slice (some ⟨gs k, 0, none⟩) s s) (by simp [rowsOf, hk])
    rwa [add_lit, Nat.zero_add] at this
  · rw [zeros_get]
    simp [World.cell?, h.rows k hk, u8s, zeros, hj]
  · simp [World.frozen?, h.rows k hk]
  · rcases Nat.lt_trichotomy i j with hl | hl | hl
    · have := h.inc i j hl hj; omega
    · exact hl
    · have := h.inc j i hl hi; omega
  · have := h.lo k hk; omega
  · intro e
    have := h.rows k hk
    rw [e, hh] at this
    injection this with this
    injection this with _ h2 _
    cases h2
def mayH (key s n : Int) : Bool := decide (1 ≤ key) && decide (key ≤ 8) && mayB s n
theorem str_info : (Try.prog.info? 9).map (fun i => (i.zero, i.size, i.bytes)) = some (some (.string ⟨#[]⟩), 1, 16) := by kernel_rfl
def noKeys (n : Nat) : List ByteArray := List.replicate n ⟨#[]⟩
theorem make_str (n : Nat) (h : n ≤ 1000) : ∀ w : World, (Instr.makeSlice 42 (.int .i64 n) (.int .i64 n)).run Try.prog w = .ok (.slice (some ⟨w.heap.size, 0, none⟩) n n) (w.alloc (.cells ((noKeys n).map Value.string).toArray 9)) := fun w => by
  obtain ⟨i0, hi0, hz0, hz1, hz2⟩ := info_parts str_info
  have hr := run_make (P := Try.prog) w 42 9 i0 _ Try.underlying42 hi0 hz0 .i64 .i64 n n (by omega) (by omega) (by rw [hz2]; omega) (by omega)
  rw [hz1, Int.toNat_natCast, Nat.mul_one] at hr
  have e : madeCells (Value.cells (.string ⟨#[]⟩)) n = ((noKeys n).map Value.string).toArray := by
    apply Array.ext
    · simp [noKeys, size_madeCells]
    · intro i h1 h2
      simp [madeCells, Value.cells, noKeys, Nat.mod_one]
  rw [e] at hr
  exact hr
/-- What New gives: a map whose slots are all free, in new memory. -/
def GaveH (W : World) (key s n L : Nat) (e : Ending) (w : World) : Prop :=
  ∃ H K R B cap gs, e = .returned (.pointer (some ⟨H, 0, none⟩)) ∧ Hf w H K R B cap key s n L gs (noKeys n) (zeros L) ∧ Below W.heap.size W w ∧ W.heap.size ≤ H ∧ W.heap.size ≤ K ∧ W.heap.size ≤ R ∧ W.heap.size ≤ B ∧ ∀ k, k < n → W.heap.size ≤ gs k
theorem hf_mk {w2 : World} {K R B cap key s n L : Nat} {gs : Nat → Nat} (hrf : Rf w2 R B cap s n L gs (zeros L)) (hd : Dim s n L) (hK : w2.heap[K]? = some (.cells ((noKeys n).map Value.string).toArray 9 (0, 0)))
    (hKR : K ≠ R) (hKB : K ≠ B) (hKg : ∀ k, k < n → gs k ≠ K) :
    Hf (w2.alloc (.cells #[.int .i64 key, .slice (some ⟨K, 0, none⟩) n n, .pointer (some ⟨R, 0, none⟩)] 82)) w2.heap.size K R B cap key s n L gs (noKeys n) (zeros L) := by
  have hb : Below w2.heap.size w2 (w2.alloc (.cells #[.int .i64 key, .slice (some ⟨K, 0, none⟩) n n, .pointer (some ⟨R, 0, none⟩)] 82)) := (Below.refl _ _).alloc (Nat.le_refl _) _
  have hKl := lt_of_heap hK
  have eK := hb.block K hKl
  rw [hK] at eK
  refine ⟨by simp [go_sem], by simp [go_sem], by simp [go_sem], fun k hk => ?_, fun j => by simp [World.frozen?, eK], by simp [noKeys], hrf.stay hd.s0 hd.n0 hb, by omega, hKR, hKB, hKg, fun k hk => by have := hrf.ltG hd.s0 hk; omega⟩
  simp [World.cell?, eK, noKeys, hk]
theorem ref_newH (key s n L : Nat) (w : World) (hd : Dim s n L) : Calls Try.prog 20 #[.int .i64 key, .int .i64 s, .int .i64 n] w (GaveH w key s n L) := by
  have hmk := make_str n (by have := hd.n1; omega)
  have s1 := hd.s1
  have n1 := hd.n1
  have HD := Lib.hid hd
  clear hd
  go_enter Try.func20, Try.ntmps20
  go_wp2
  go_region_with (go_at_call 19; refine (ref_new _ _ _ s1 n1).mono ?_; rintro e w3 ⟨R, v, gs, rfl, hn3⟩; have HN3 := Lib.hid hn3; clear hn3)
  · go_wp2
    go_ret
    have hn := HN3.out
    obtain ⟨B, cap, rfl, hRB, hrf⟩ := rf_of_new hn HD.out
    have hz := hn.below.size
    have ha := hn.at_
    simp at hz ha
    have hKb := hn.below.block w.heap.size (by omega)
    refine ⟨_, w.heap.size, R, B, cap, gs, rfl, hf_mk hrf HD.out (hKb.trans (heap_alloc_new w _)) (by omega) (by omega) (fun k hk => by have := hn.lo k hk; omega), ?_, by omega, by omega, by omega, by omega, fun k hk => by have := hn.lo k hk; omega⟩
    exact ((((Below.refl _ _).alloc (Nat.le_refl _) _).drew).trans (hn.below.mono (by omega))).alloc (by omega) _
  · go_wp2
    go_ret
    have hn := HN3.out
    obtain ⟨B, cap, rfl, hRB, hrf⟩ := rf_of_new hn HD.out
    have hz := hn.below.size
    have ha := hn.at_
    simp at hz ha
    have hb : Below w3.heap.size w3 (w3.alloc (.cells ((noKeys n).map Value.string).toArray 9)) := (Below.refl _ _).alloc (Nat.le_refl _) _
    have hrf2 := hrf.stay HD.out.s0 HD.out.n0 hb
    have hm := hf_mk (key := key) hrf2 HD.out (K := w3.heap.size) (heap_alloc_new w3 _) (by have := hrf.ltR; omega) (by have := hrf.ltB HD.out.n0; omega) (fun k hk => by have := hrf.ltG HD.out.s0 hk; omega)
    have e9 : (w3.alloc (.cells ((noKeys n).map Value.string).toArray 9)).heap.size = w3.heap.size + 1 := by simp
    rw [e9] at hm
    refine ⟨_, w3.heap.size, R, B, cap, gs, rfl, hm, ?_, by omega, by omega, by omega, by omega, fun k hk => by have := hn.lo k hk; omega⟩
    exact ((((Below.refl _ _).drew).trans (hn.below.mono (by omega))).trans (hb.mono (by omega))).alloc (by omega) _
end Go.Proofs.Ytenjdgoammaiiaa
