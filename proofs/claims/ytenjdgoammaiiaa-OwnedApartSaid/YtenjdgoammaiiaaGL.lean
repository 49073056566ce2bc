/-
  Stated here: the program's maps of one program in memory: what they stay under. No Go text is walked. Conditions: as each lemma says.
-/
import Derived.Test.YtenjdgoammaiiaaHHacts
import Derived.Test.YtenjdgoammaiiaaGJ
import Derived.Test.YtenjdgoammaiiaaHActs14
import Derived.Test.YtenjdgoammaiiaaGK
namespace Go.Proofs.Ytenjdgoammaiiaa
open Go.RowKit
set_option maxRecDepth 100000

/-- A map of the program in memory, its blocks S, as the interface's value v. -/
inductive PdM (w : World) : (Nat → Prop) → Value → MSt → Prop
  | arr {S : Nat → Prop} {A G C s n : Nat} {zs : List Int} (hd : Dim s n (s * n)) (h : Arr w A G s n (s * n) C zs) (hc : s * n ≤ C) (hS : ∀ b, S b ↔ b = A ∨ b = G) : PdM w S (.iface 90 (ptrV A)) (.arr s n zs)
  | hash {S : Nat → Prop} {h A G C M : Nat} {v : Value} {len : Nat} {l : List Int} {Dm : DataW Unit} {key s n : Nat} {ks : List ByteArray} {zs : List Int} (hd : Dim s n (s * n)) (hk : 1 ≤ key) (hk8 : key ≤ 8) (H : Hm w h A G C M v len l Dm key s n (s * n) ks zs) (hS : ∀ b, S b ↔ HmS h A G M v b) : PdM w S (.iface 92 (ptrV h)) (.hash key s n ks zs)
  | loc {S : Nat → Prop} {h A G C : Nat} {v : Value} {kd s n : Nat} {os : List Ob} {zs : List Int} (hd : Dim s n (s * n)) (hk : kd = 3 ∨ kd = 4) (H : Lm w h A G C v s n (s * n) os zs) (hS : ∀ b, S b ↔ LmS h A G v b) : PdM w S (.iface 102 (ptrV h)) (.loc kd s n os zs)
  | ring {S : Nat → Prop} (hS : ∀ b, ¬ S b) : PdM w S .nilIface .ring
section
variable {w w' : World} {S : Nat → Prop} {v : Value} {x : MSt}
theorem PdM.lt (h : PdM w S v x) : ∀ b, S b → b < w.heap.size := by
  intro b hb
  cases h with
  | arr hd h hc hS =>
    rcases (hS b).1 hb with rfl | rfl
    · exact h.ltA
    · exact h.lt
  | hash hd hk hk8 h hS => exact h.lt b ((hS b).1 hb)
  | loc hd hk h hS => exact h.lt b ((hS b).1 hb)
  | ring hS => exact absurd hb (hS b)
theorem PdM.kept (h : PdM w S v x) (e : ∀ b, S b → w'.heap[b]? = w.heap[b]?) : PdM w' S v x := by
  cases h with
  | arr hd h hc hS =>
    have eG := e _ ((hS _).2 (.inr rfl))
    exact .arr hd (h.kept (e _ ((hS _).2 (.inl rfl))) eG (block_lt_of_eq h.lt eG)) hc hS
  | hash hd hk hk8 h hS => exact .hash hd hk hk8 (h.kept fun b hb => e b ((hS b).2 hb)) hS
  | loc hd hk h hS => exact .loc hd hk (h.kept fun b hb => e b ((hS b).2 hb)) hS
  | ring hS => exact .ring hS
theorem PdM.ok (h : PdM w S v x) : okM x := by
  cases h with
  | hash hd hk hk8 H hS =>
    intro k
    rename_i ks _
    by_cases hkl : k < ks.length
    · by_cases e : ks.getD k .empty = ⟨#[]⟩
      · rw [e]; exact Nat.zero_le _
      · rw [H.kz _ (by rw [List.getD_eq_getElem?_getD, List.getElem?_eq_getElem hkl]; exact List.getElem_mem hkl) e]
        exact hk8
    · rw [List.getD_eq_getElem?_getD, List.getElem?_eq_none (by omega)]
      exact Nat.zero_le _
  | _ => trivial
end
/-- The program's maps in memory. -/
structure Pw (w : World) (h : Nat) (a1 a2 : Option Addr) (c1 c2 : Nat) (pv : Nat → Value) (Ss : Nat → Nat → Prop) (st : List MSt) : Prop where
  c0 : w.cell? ⟨h, 0, none⟩ = some (.slice a1 st.length c1)
  c1 : w.cell? ⟨h, 1, none⟩ = some (.slice a2 st.length c2)
  row : ∀ m, m < st.length → ∃ g1 g2, a1 = some ⟨g1, 0, none⟩ ∧ a2 = some ⟨g2, 0, none⟩ ∧ w.cell? ⟨g1, m * 4, none⟩ = some (.int .i64 (st.getD m .ring).kind) ∧ w.cell? ⟨g1, m * 4 + 1, none⟩ = some (.int .i64 (st.getD m .ring).key) ∧ w.cell? ⟨g1, m * 4 + 2, none⟩ = some (.int .i64 (st.getD m .ring).val) ∧ w.cell? ⟨g1, m * 4 + 3, none⟩ = some (.int .i64 (st.getD m .ring).max) ∧ w.cell? ⟨g2, m, none⟩ = some (pv m)
  pd : ∀ m, m < st.length → PdM w (Ss m) (pv m) (st.getD m .ring)
  four : st.length ≤ 4
  hS : ∀ m, m < st.length → ¬ Ss m h
  g1S : ∀ m g, m < st.length → a1 = some ⟨g, 0, none⟩ → ¬ Ss m g
  g2S : ∀ m g, m < st.length → a2 = some ⟨g, 0, none⟩ → ¬ Ss m g
  dis : ∀ i j b, i < st.length → j < st.length → i ≠ j → Ss i b → ¬ Ss j b
def PwS (h : Nat) (a1 a2 : Option Addr) (Ss : Nat → Nat → Prop) (len : Nat) : Nat → Prop := fun b => b = h ∨ (0 < len ∧ a1 = some ⟨b, 0, none⟩) ∨ (0 < len ∧ a2 = some ⟨b, 0, none⟩) ∨ ∃ m, m < len ∧ Ss m b
/-- The program's maps, their blocks D. -/
def PwM : OwMem := fun w D h st => ∃ a1 a2 c1 c2 pv Ss, Pw w h a1 a2 c1 c2 pv Ss st ∧ ∀ b, D b ↔ PwS h a1 a2 Ss st.length b
section
variable {w w' : World} {h : Nat} {a1 a2 : Option Addr} {c1 c2 : Nat} {pv : Nat → Value} {Ss : Nat → Nat → Prop} {st : List MSt} {D : Nat → Prop}
theorem Pw.lt (H : Pw w h a1 a2 c1 c2 pv Ss st) : ∀ b, PwS h a1 a2 Ss st.length b → b < w.heap.size := by
  rintro b (rfl | ⟨h0, rfl⟩ | ⟨h0, rfl⟩ | ⟨m, hm, hb⟩)
  · exact cell_block_lt H.c0
  · obtain ⟨g1, g2, e1, e2, hc, -⟩ := H.row 0 h0
    injection e1 with e1
    injection e1 with e1 _ _
    subst e1
    exact cell_block_lt hc
  · obtain ⟨g1, g2, e1, e2, -, -, -, -, hc⟩ := H.row 0 h0
    injection e2 with e2
    injection e2 with e2 _ _
    subst e2
    exact cell_block_lt hc
  · exact (H.pd m hm).lt b hb
theorem Pw.kept (H : Pw w h a1 a2 c1 c2 pv Ss st) (e : ∀ b, PwS h a1 a2 Ss st.length b → w'.heap[b]? = w.heap[b]?) : Pw w' h a1 a2 c1 c2 pv Ss st := by
  have eh := e h (.inl rfl)
  refine ⟨(World.cell?_of_block (w := w) eh).trans H.c0, (World.cell?_of_block (w := w) eh).trans H.c1, fun m hm => ?_, fun m hm => (H.pd m hm).kept fun b hb => e b (.inr (.inr (.inr ⟨m, hm, hb⟩))), H.four, H.hS, H.g1S, H.g2S, H.dis⟩
  obtain ⟨g1, g2, rfl, rfl, k0, k1, k2, k3, k4⟩ := H.row m hm
  have e1 := e g1 (.inr (.inl ⟨by omega, rfl⟩))
  have e2 := e g2 (.inr (.inr (.inl ⟨by omega, rfl⟩)))
  have f : ∀ j, w'.cell? ⟨g1, j, none⟩ = w.cell? ⟨g1, j, none⟩ := fun j => World.cell?_of_block (w := w) (a := ⟨g1, j, none⟩) e1
  exact ⟨g1, g2, rfl, rfl, (f _).trans k0, (f _).trans k1, (f _).trans k2, (f _).trans k3, (World.cell?_of_block (w := w) (a := ⟨g2, m, none⟩) e2).trans k4⟩
theorem Pw.stay (H : Pw w h a1 a2 c1 c2 pv Ss st) (hb : Below w.heap.size w w') : Pw w' h a1 a2 c1 c2 pv Ss st := H.kept fun b hS => hb.block b (H.lt b hS)
/-- What is made of one map turns no other one. -/
theorem Pw.turn (H : Pw w h a1 a2 c1 c2 pv Ss st) {q : Nat} (hq : q < st.length) {S2 : Nat → Prop} {x : MSt} (hx : PdM w' S2 (pv q) x) (hk : x.kind = (st.getD q .ring).kind) (hy : x.key = (st.getD q .ring).key) (hv : x.val = (st.getD q .ring).val) (hm : x.max = (st.getD q .ring).max)
    (ht : Turned (Ss q) w w') (hS : ∀ b, S2 b → Ss q b ∨ w.heap.size ≤ b) : Pw w' h a1 a2 c1 c2 pv (fun m => if m = q then S2 else Ss m) (st.set q x) := by
  have hlt := H.lt
  have hold : ∀ m b, m < st.length → m ≠ q → Ss m b → w'.heap[b]? = w.heap[b]? := fun m b hm2 hne hb => ht.block b (hlt b (.inr (.inr (.inr ⟨m, hm2, hb⟩)))) (H.dis m q b hm2 hq hne hb)
  have eh := ht.block h (hlt h (.inl rfl)) (H.hS q hq)
  have hnew : ∀ b, b < w.heap.size → (∀ m, m < st.length → ¬ Ss m b) → ∀ m, m < (st.set q x).length → ¬ (fun m => if m = q then S2 else Ss m) m b := by
    intro b hb hn m hm2
    rw [List.length_set] at hm2
    by_cases e : m = q
    · simp only [if_pos e]
      intro h1
      rcases hS b h1 with h2 | h2
      · exact hn q hq h2
      · omega
    · simp only [if_neg e]
      exact hn m hm2
  refine ⟨by rw [List.length_set]; exact (World.cell?_of_block (w := w) eh).trans H.c0, by rw [List.length_set]; exact (World.cell?_of_block (w := w) eh).trans H.c1, fun m hm2 => ?_, fun m hm2 => ?_, by rw [List.length_set]; exact H.four, hnew h (hlt h (.inl rfl)) H.hS, fun m g hm2 e => ?_, fun m g hm2 e => ?_, fun i j b hi hj hne hb => ?_⟩
  · rw [List.length_set] at hm2
    obtain ⟨g1, g2, rfl, rfl, k0, k1, k2, k3, k4⟩ := H.row m hm2
    have eg := ht.block g1 (hlt g1 (.inr (.inl ⟨by omega, rfl⟩))) (H.g1S q g1 hq rfl)
    have eg2 := ht.block g2 (hlt g2 (.inr (.inr (.inl ⟨by omega, rfl⟩)))) (H.g2S q g2 hq rfl)
    have f : ∀ j, w'.cell? ⟨g1, j, none⟩ = w.cell? ⟨g1, j, none⟩ := fun j => World.cell?_of_block (w := w) (a := ⟨g1, j, none⟩) eg
    have e4 : ∀ F : MSt → Nat, F x = F (st.getD q .ring) → F ((st.set q x).getD m .ring) = F (st.getD m .ring) := fun F hF => by
      rw [getD_setM hq]
      by_cases e : q = m
      · rw [if_pos e, hF, e]
      · rw [if_neg e]
    rw [e4 MSt.kind hk, e4 MSt.key hy, e4 MSt.val hv, e4 MSt.max hm]
    exact ⟨g1, g2, rfl, rfl, (f _).trans k0, (f _).trans k1, (f _).trans k2, (f _).trans k3, (World.cell?_of_block (w := w) (a := ⟨g2, m, none⟩) eg2).trans k4⟩
  · rw [List.length_set] at hm2
    rw [getD_setM hq]
    by_cases e : m = q
    · subst e
      simp only [if_true]
      exact hx
    · simp only [if_neg e, if_neg (fun e2 : q = m => e e2.symm)]
      exact (H.pd m hm2).kept fun b hb => hold m b hm2 e hb
  · have hm3 := hm2
    rw [List.length_set] at hm3
    exact hnew g (hlt g (.inr (.inl ⟨by omega, e⟩))) (fun m' hm' => H.g1S m' g hm' e) m hm2
  · have hm3 := hm2
    rw [List.length_set] at hm3
    exact hnew g (hlt g (.inr (.inr (.inl ⟨by omega, e⟩)))) (fun m' hm' => H.g2S m' g hm' e) m hm2
  · rw [List.length_set] at hi hj
    by_cases e1 : i = q
    · by_cases e2 : j = q
      · omega
      · simp only [if_pos e1] at hb
        simp only [if_neg e2]
        rcases hS b hb with h1 | h1
        · exact H.dis q j b hq hj (by omega) h1
        · intro h2
          have := hlt b (.inr (.inr (.inr ⟨j, hj, h2⟩)))
          omega
    · simp only [if_neg e1] at hb
      by_cases e2 : j = q
      · simp only [if_pos e2]
        intro h2
        rcases hS b h2 with h3 | h3
        · exact H.dis i q b hi hq e1 hb h3
        · have := hlt b (.inr (.inr (.inr ⟨i, hi, hb⟩)))
          omega
      · simp only [if_neg e2]
        exact H.dis i j b hi hj hne hb
theorem Pw.progq (H : Pw w h a1 a2 c1 c2 pv Ss st) (hD : ∀ b, D b ↔ PwS h a1 a2 Ss st.length b) {q : Nat} (hq : q < st.length) {S2 : Nat → Prop} {x : MSt} {v : Value} {e : Ending} (hx : PdM w' S2 (pv q) x) (hk : x.kind = (st.getD q .ring).kind) (hy : x.key = (st.getD q .ring).key) (hv : x.val = (st.getD q .ring).val) (hm : x.max = (st.getD q .ring).max)
    (he : e = .returned v) (ht : Turned (Ss q) w w') (hS2 : ∀ b, S2 b → Ss q b ∨ w.heap.size ≤ b) : ProgQ PwM D h v (st.set q x) w e w' := by
  refine ⟨_, he, ⟨a1, a2, c1, c2, pv, _, H.turn hq hx hk hy hv hm ht hS2, fun b => Iff.rfl⟩, ht.more fun b hb => (hD b).2 (.inr (.inr (.inr ⟨q, hq, hb⟩))), ?_⟩
  rw [List.length_set]
  rintro b (h1 | h1 | h1 | ⟨m, hm2, h1⟩)
  · exact .inl ((hD b).2 (.inl h1))
  · exact .inl ((hD b).2 (.inr (.inl h1)))
  · exact .inl ((hD b).2 (.inr (.inr (.inl h1))))
  · by_cases e1 : m = q
    · simp only [if_pos e1] at h1
      rcases hS2 b h1 with h2 | h2
      · exact .inl ((hD b).2 (.inr (.inr (.inr ⟨q, hq, h2⟩))))
      · exact .inr h2
    · simp only [if_neg e1] at h1
      exact .inl ((hD b).2 (.inr (.inr (.inr ⟨m, hm2, h1⟩))))
theorem Pw.same (H : Pw w h a1 a2 c1 c2 pv Ss st) (hD : ∀ b, D b ↔ PwS h a1 a2 Ss st.length b) (hb : Below w.heap.size w w') {e : Ending} {v : Value} (he : e = .returned v) : ProgQ PwM D h v st w e w' :=
  ⟨D, he, ⟨a1, a2, c1, c2, pv, Ss, H.stay hb, hD⟩, Turned.of hb, fun _ hb => .inl hb⟩
end
/-! ### Which map it is -/
def inM (st : List MSt) (m : Int) : Prop := 0 ≤ m ∧ m < st.length
section
variable {w w' : World} {h : Nat} {a1 a2 : Option Addr} {c1 c2 : Nat} {pv : Nat → Value} {Ss : Nat → Nat → Prop} {st : List MSt} {D : Nat → Prop}
theorem pw_has {m : Int} {b : Bool} (H : Pw w h a1 a2 c1 c2 pv Ss st) (hm : decide (0 ≤ m ∧ m < (st.length : Int)) = b) : Calls Try.prog 60 #[ptrV h, .int .i64 m] w (Ret (.bool b) w) := by
  have k0 := H.c0
  unfold Ret ptrV
  subst hm
  clear H
  by_cases h1 : m < 0
  · rw [show decide (0 ≤ m ∧ m < (st.length : Int)) = false by simp; omega]
    go_enter Try.func60, Try.ntmps60
    go_wp2
    go_ret
    exact ⟨rfl, rfl⟩
  · by_cases h2 : m < (st.length : Int)
    · rw [show decide (0 ≤ m ∧ m < (st.length : Int)) = true by simp; omega]
      go_enter Try.func60, Try.ntmps60
      go_wp2
      go_ret
      exact ⟨rfl, rfl⟩
    · rw [show decide (0 ≤ m ∧ m < (st.length : Int)) = false by simp; omega]
      go_enter Try.func60, Try.ntmps60
      go_wp2
      go_ret
      exact ⟨rfl, rfl⟩
theorem pw_slots_out {m : Int} (H : Pw w h a1 a2 c1 c2 pv Ss st) (hm : ¬ (0 ≤ m ∧ m < (st.length : Int))) : Calls Try.prog 34 #[ptrV h, .int .i64 m] w (Ret .nilIface w) := by
  unfold Ret ptrV
  have HH := Lib.hid H
  clear H
  go_enter Try.func34, Try.ntmps34
  go_wp2_with (go_at_call 60; refine (pw_has HH.out (decide_eq_false hm)).mono ?_; rintro e w' ⟨rfl, rfl⟩)
  go_ret
  exact ⟨rfl, rfl⟩
theorem pw_slots_in {q : Nat} (H : Pw w h a1 a2 c1 c2 pv Ss st) (hq : q < st.length) : Calls Try.prog 34 #[ptrV h, .int .i64 (q : Int)] w (Ret (pv q) w) := by
  unfold Ret ptrV
  have HH := Lib.hid H
  have k1 := H.c1
  obtain ⟨g1, g2, rfl, rfl, -, -, -, -, k4⟩ := H.row q hq
  generalize pv q = pq at k4 ⊢
  clear H
  go_enter Try.func34, Try.ntmps34
  go_wp2_with (go_at_call 60; refine (pw_has HH.out (decide_eq_true (by omega))).mono ?_; rintro e w' ⟨rfl, rfl⟩)
  go_ret
  exact ⟨rfl, rfl⟩
end
end Go.Proofs.Ytenjdgoammaiiaa

/-
  Proved here: what slotNumber and Lookup of the program's maps tell. Conditions: as each lemma says.
-/
namespace Go.Proofs.Ytenjdgoammaiiaa
open Go.RowKit
set_option maxRecDepth 100000

theorem ta_aa (v : Value) (w : World) : (Instr.typeAssert (.iface 90 v) 56 90 true).run Try.prog w = .ok (.tuple #[v, .bool true]) w := by kernel_rfl
theorem ta_ah (v : Value) (w : World) : (Instr.typeAssert (.iface 90 v) 56 92 true).run Try.prog w = .ok (.tuple #[.pointer none, .bool false]) w := by kernel_rfl
theorem ta_al (v : Value) (w : World) : (Instr.typeAssert (.iface 90 v) 56 102 true).run Try.prog w = .ok (.tuple #[.pointer none, .bool false]) w := by kernel_rfl
theorem ta_ha (v : Value) (w : World) : (Instr.typeAssert (.iface 92 v) 56 90 true).run Try.prog w = .ok (.tuple #[.pointer none, .bool false]) w := by kernel_rfl
theorem ta_hh (v : Value) (w : World) : (Instr.typeAssert (.iface 92 v) 56 92 true).run Try.prog w = .ok (.tuple #[v, .bool true]) w := by kernel_rfl
theorem ta_hl (v : Value) (w : World) : (Instr.typeAssert (.iface 92 v) 56 102 true).run Try.prog w = .ok (.tuple #[.pointer none, .bool false]) w := by kernel_rfl
theorem ta_la (v : Value) (w : World) : (Instr.typeAssert (.iface 102 v) 56 90 true).run Try.prog w = .ok (.tuple #[.pointer none, .bool false]) w := by kernel_rfl
theorem ta_lh (v : Value) (w : World) : (Instr.typeAssert (.iface 102 v) 56 92 true).run Try.prog w = .ok (.tuple #[.pointer none, .bool false]) w := by kernel_rfl
theorem ta_ll (v : Value) (w : World) : (Instr.typeAssert (.iface 102 v) 56 102 true).run Try.prog w = .ok (.tuple #[v, .bool true]) w := by kernel_rfl
theorem ta_na (w : World) : (Instr.typeAssert .nilIface 56 90 true).run Try.prog w = .ok (.tuple #[.pointer none, .bool false]) w := by kernel_rfl
theorem ta_nh (w : World) : (Instr.typeAssert .nilIface 56 92 true).run Try.prog w = .ok (.tuple #[.pointer none, .bool false]) w := by kernel_rfl
theorem ta_nl (w : World) : (Instr.typeAssert .nilIface 56 102 true).run Try.prog w = .ok (.tuple #[.pointer none, .bool false]) w := by kernel_rfl
attribute [local go_sem] ta_aa ta_ah ta_al ta_ha ta_hh ta_hl ta_la ta_lh ta_ll ta_na ta_nh ta_nl
theorem ld4 (zs : List Int) : ldF zs 0 4 = zs.getD 0 0 + 256 * (zs.getD 1 0 + 256 * (zs.getD 2 0 + 256 * (zs.getD 3 0 + 256 * 0))) := rfl
theorem slot_num {w : World} {A G s n L C : Nat} {zs : List Int} {v : Value} {kz : List Int} (h : Arr w A G s n L C zs) (hn : n ≤ 16) (hv : KeyAt w v kz) (hb : IsBytes kz) :
    Calls Try.prog 37 #[.pointer (some ⟨A, 0, none⟩), v] w (Ret (.tuple #[.int .i64 (if idxA n kz < 0 then 0 else idxA n kz), .bool (decide (0 ≤ idxA n kz))]) w) := by
  have HC := Lib.hid h.c1
  clear h
  by_cases hl : kz.length = 4
  · cases hv with
    | empty a c => simp at hl
    | row g off len c kz hlen hr hg =>
      have hlen4 : len = 4 := by omega
      subst hlen4
      have HR := Lib.hid hr
      have HB := Lib.hid hb
      have h4 := ld4 kz
      have hx : idxA n kz = if ldF kz 0 4 < n then ldF kz 0 4 else -1 := by
        obtain ⟨b00, b01⟩ := hb 0
        obtain ⟨b10, b11⟩ := hb 1
        obtain ⟨b20, b21⟩ := hb 2
        obtain ⟨b30, b31⟩ := hb 3
        unfold idxA
        by_cases e : ldF kz 0 4 < n
        · rw [if_pos e, if_pos (by omega)]
          omega
        · rw [if_neg e, if_neg (by omega)]
      have hbd : 0 ≤ ldF kz 0 4 ∧ ldF kz 0 4 < 4294967296 := by
        obtain ⟨b00, b01⟩ := hb 0
        obtain ⟨b10, b11⟩ := hb 1
        obtain ⟨b20, b21⟩ := hb 2
        obtain ⟨b30, b31⟩ := hb 3
        omega
      rw [hx]
      obtain ⟨y, hy⟩ : ∃ y, ldF kz 0 4 = y := ⟨_, rfl⟩
      have HY := Lib.hid hy
      rw [hy] at hbd ⊢
      unfold Ret
      have e0 : IntKind.i64.wrap y = y := IntWalk.i64_in _ (by omega)
      have e1 : IntKind.u64.wrap (n : Int) = n := IntWalk.u64_in _ (by omega)
      clear hr hb h4 hx hy hg
      by_cases hc : y < n
      · rw [if_pos hc, if_neg (by omega), decide_eq_true (by omega)]
        go_enter Try.func37, Try.ntmps37
        go_wp2_with (first
          | (go_at_call 65; refine (load_yes g off 4 c 0 4 kz _ (by unfold maxLen; omega) (by decide) HR.out HB.out).mono ?_; rintro e w' ⟨he, hw⟩; rw [HY.out] at he; subst he; subst hw)
          | (go_at_call 66; refine (arr_len _ _ _ HC.out).mono ?_; rintro e w' ⟨rfl, rfl⟩))
        go_ret2
        exact ⟨rfl, rfl⟩
      · rw [if_neg hc, if_pos (by omega), decide_eq_false (by omega)]
        have hc2 : (n : Int) ≤ y := by omega
        go_enter Try.func37, Try.ntmps37
        go_wp2_with (first
          | (go_at_call 65; refine (load_yes g off 4 c 0 4 kz _ (by unfold maxLen; omega) (by decide) HR.out HB.out).mono ?_; rintro e w' ⟨he, hw⟩; rw [HY.out] at he; subst he; subst hw)
          | (go_at_call 66; refine (arr_len _ _ _ HC.out).mono ?_; rintro e w' ⟨rfl, rfl⟩))
        go_ret2
        exact ⟨rfl, rfl⟩
  · obtain ⟨a, c, rfl⟩ := keyLen hv
    have hx : idxA n kz = -1 := if_neg (fun e => hl e.1)
    have hne : ((kz.length : Int) != 4) = true := by simp; omega
    rw [hx]
    clear hv hb
    unfold Ret
    go_enter Try.func37, Try.ntmps37
    go_wp2
    go_ret2
    exact ⟨rfl, rfl⟩
section
variable {w w' : World} {h : Nat} {a1 a2 : Option Addr} {c1 c2 : Nat} {pv : Nat → Value} {Ss : Nat → Nat → Prop} {st : List MSt} {D : Nat → Prop}
def lookV2 (x : Int) : Value := .tuple #[.int .i64 (if x < 0 then 0 else x), .bool (decide (0 ≤ x))]
theorem found_v {w w' : World} {ks : List ByteArray} {key : Nat} {kz : List Int} {e : Ending} (h : FoundP ks key kz w e w') : e = .returned (lookV2 (if kz.length = key then findK ks (strOfNums kz) else -1)) ∧ Below w.heap.size w w' := by
  obtain ⟨he, hb⟩ := h
  refine ⟨?_, hb⟩
  rw [he]
  by_cases hl : kz.length = key
  · rw [if_pos hl, if_pos hl]
    cases hf : ks.findIdx? (· = strOfNums kz) with
    | some i => rw [findK_some hf]; unfold lookV2; rw [if_neg (by omega), decide_eq_true (by omega)]
    | none => rw [findK_none hf]; rfl
  · rw [if_neg hl, if_neg hl]; rfl
theorem pw_lookup {m : Int} {v : Value} {kz : List Int} (H : Pw w h a1 a2 c1 c2 pv Ss st) (hv : KeyAt w v kz) (hb : IsBytes kz) (hl : kz.length ≤ 100) :
    Calls Try.prog 15 #[ptrV h, .int .i64 m, v] w (fun e w' => e = .returned (lookV2 (lookR st m kz)) ∧ Below w.heap.size w w') := by
  by_cases hm : 0 ≤ m ∧ m < st.length
  · obtain ⟨q, rfl⟩ := Int.eq_ofNat_of_zero_le hm.1
    have hq : q < st.length := by omega
    have HS := Lib.hid (pw_slots_in H hq)
    have hpd := H.pd q hq
    obtain ⟨x, hx⟩ : ∃ x, st.getD q .ring = x := ⟨_, rfl⟩
    rw [lookR_in hq hx]
    rw [hx] at hpd
    generalize pv q = p at hpd HS
    cases hpd with
    | @arr A G C s n zs hd ha hc hS =>
      have HI := Lib.hid (slot_num ha hd.n1 hv hb)
      unfold lookM lookV2 ptrV at *
      generalize (if idxA n kz < 0 then 0 else idxA n kz) = y1 at HI ⊢
      generalize decide (0 ≤ idxA n kz) = y2 at HI ⊢
      obtain ⟨ak, ck, rfl⟩ := keyLen hv
      clear H hx hd ha hS hv hb
      unfold Ret at *
      go_enter Try.func15, Try.ntmps15
      go_wp2_with (first
        | (go_at_call 34; refine HS.out.mono ?_; rintro e w1 ⟨rfl, rfl⟩)
        | (go_at_call 37; refine HI.out.mono ?_; rintro e w1 ⟨rfl, rfl⟩))
      go_ret2
      exact ⟨rfl, Below.refl _ _⟩
    | @hash h2 A G C M v2 len l Dm key s n ks zs hd hk hk8 HM hS =>
      have HI := Lib.hid ((hm_find HM hk hv (by unfold maxLen; omega)).mono fun e w' => found_v)
      unfold lookM lookV2 ptrV at *
      obtain ⟨ak, ck, rfl⟩ := keyLen hv
      obtain ⟨r, hr⟩ : ∃ r, (if kz.length = key then findK ks (strOfNums kz) else -1) = r := ⟨_, rfl⟩
      simp only [hr] at HI ⊢
      generalize (if r < 0 then 0 else r) = y1 at HI ⊢
      generalize decide (0 ≤ r) = y2 at HI ⊢
      clear H hx hd HM hS hv hb
      unfold Ret at *
      go_enter Try.func15, Try.ntmps15
      go_wp2_with (first
        | (go_at_call 34; refine HS.out.mono ?_; rintro e w1 ⟨rfl, rfl⟩)
        | (go_at_call 38; refine HI.out.mono ?_; rintro e w1 ⟨rfl, hb1⟩))
      go_ret2
      exact ⟨rfl, hb1⟩
    | @loc h2 A G C v2 kd s n os zs hd hk HM hS =>
      unfold lookM lookV2 ptrV at *
      clear H hx hd HM hv hb hk
      unfold Ret at *
      go_enter Try.func15, Try.ntmps15
      go_wp2_with (go_at_call 34; refine HS.out.mono ?_; rintro e w1 ⟨rfl, rfl⟩)
      go_ret2
      exact ⟨rfl, Below.refl _ _⟩
    | ring hS =>
      unfold lookM lookV2 ptrV at *
      clear H hx hv hb
      unfold Ret at *
      go_enter Try.func15, Try.ntmps15
      go_wp2_with (go_at_call 34; refine HS.out.mono ?_; rintro e w1 ⟨rfl, rfl⟩)
      go_ret2
      exact ⟨rfl, Below.refl _ _⟩
  · have HS := Lib.hid (pw_slots_out H hm)
    unfold lookR
    rw [if_neg hm]
    unfold lookV2 ptrV at *
    clear H hv hb
    unfold Ret at *
    go_enter Try.func15, Try.ntmps15
    go_wp2_with (go_at_call 34; refine HS.out.mono ?_; rintro e w1 ⟨rfl, rfl⟩)
    go_ret2
    exact ⟨rfl, Below.refl _ _⟩
end
end Go.Proofs.Ytenjdgoammaiiaa

/-
  Proved here: what Delete, Get, Drop and Slot of the program's maps do. Conditions: as each lemma says.
-/
namespace Go.Proofs.Ytenjdgoammaiiaa
open Go.RowKit
set_option maxRecDepth 100000
attribute [local go_sem] ta_aa ta_ah ta_al ta_ha ta_hh ta_hl ta_la ta_lh ta_ll ta_na ta_nh ta_nl

theorem opR_same {α : Type} {no : α} {f : MSt → α × MSt} {st : List MSt} {q : Nat} {x : MSt} (hq : q < st.length) (hx : st.getD q .ring = x) (hf : f x = (no, x)) : opR no f st q = (no, st) := by
  rw [opR_in hq hx, hf]
  simp only
  rw [← hx, set_selfM hq]
theorem ProgQ.ahead {W w w' : World} {PS : OwMem} {D : Nat → Prop} {h : Nat} {st : List MSt} {v : Value} {e : Ending} (hp : ProgQ PS D h v st w e w') (hb : Below W.heap.size W w) : ProgQ PS D h v st W e w' := by
  obtain ⟨D', he, hr, ht, hD⟩ := hp
  exact ⟨D', he, hr, (Turned.of hb).trans ht, fun b hb2 => (hD b hb2).imp id fun h1 => Nat.le_trans hb.size h1⟩
section
variable {w w' : World} {h : Nat} {a1 a2 : Option Addr} {c1 c2 : Nat} {pv : Nat → Value} {Ss : Nat → Nat → Prop} {st : List MSt} {D : Nat → Prop}
/-- What is no hash. -/
theorem pw_delete_no {m : Int} {p v : Value} (HS : Calls Try.prog 34 #[ptrV h, .int .i64 m] w (Ret p w)) (hp : (∃ q, p = .iface 90 q) ∨ (∃ q, p = .iface 102 q) ∨ p = .nilIface) :
    Calls Try.prog 25 #[ptrV h, .int .i64 m, v] w (fun e w' => e = .returned (.int .i64 22) ∧ Below w.heap.size w w') := by
  have HS := Lib.hid HS
  unfold ptrV Ret at *
  rcases hp with ⟨q, rfl⟩ | ⟨q, rfl⟩ | rfl
  all_goals
    go_enter Try.func25, Try.ntmps25
    go_wp2_with (go_at_call 34; refine HS.out.mono ?_; rintro e w1 ⟨rfl, rfl⟩)
    go_ret
    exact ⟨rfl, Below.refl _ _⟩
theorem pw_get_no {m : Int} {p : Value} {o : Ob} {cr : Bool} (HS : ∀ W, Below w.heap.size w W → Calls Try.prog 34 #[ptrV h, .int .i64 m] W (Ret p W)) (hp : (∃ q, p = .iface 90 q) ∨ (∃ q, p = .iface 92 q) ∨ p = .nilIface) :
    Calls Try.prog 27 #[ptrV h, .int .i64 m, obV o, .bool cr] w (fun e w' => e = .returned (.tuple #[.int .i64 0, .int .i64 22]) ∧ Below w.heap.size w w') := by
  obtain ⟨x, y⟩ := o
  have hb : Below w.heap.size w (w.alloc (.cells #[.int .i64 x, .int .i64 y] 34)) := box_below w _
  have HB := Lib.hid hb
  have HS := Lib.hid (HS _ hb)
  clear hb
  unfold ptrV obV Ret at *
  rcases hp with ⟨q, rfl⟩ | ⟨q, rfl⟩ | rfl
  all_goals
    go_enter Try.func27, Try.ntmps27
    go_wp2_with (go_at_call 34; refine HS.out.mono ?_; rintro e w1 ⟨rfl, rfl⟩)
    go_ret2
    exact ⟨rfl, HB.out⟩
theorem pw_drop_no {m : Int} {p : Value} {o : Ob} (HS : ∀ W, Below w.heap.size w W → Calls Try.prog 34 #[ptrV h, .int .i64 m] W (Ret p W)) (hp : (∃ q, p = .iface 90 q) ∨ (∃ q, p = .iface 92 q) ∨ p = .nilIface) :
    Calls Try.prog 29 #[ptrV h, .int .i64 m, obV o] w (fun e w' => e = .returned (.int .i64 22) ∧ Below w.heap.size w w') := by
  obtain ⟨x, y⟩ := o
  have hb : Below w.heap.size w (w.alloc (.cells #[.int .i64 x, .int .i64 y] 34)) := box_below w _
  have HB := Lib.hid hb
  have HS := Lib.hid (HS _ hb)
  clear hb
  unfold ptrV obV Ret at *
  rcases hp with ⟨q, rfl⟩ | ⟨q, rfl⟩ | rfl
  all_goals
    go_enter Try.func29, Try.ntmps29
    go_wp2_with (go_at_call 34; refine HS.out.mono ?_; rintro e w1 ⟨rfl, rfl⟩)
    go_ret
    exact ⟨rfl, HB.out⟩
theorem pw_delete {m : Int} {v : Value} {kz : List Int} (H : Pw w h a1 a2 c1 c2 pv Ss st) (hD : ∀ b, D b ↔ PwS h a1 a2 Ss st.length b) (hv : KeyAt w v kz) (hl : kz.length ≤ 100) :
    Calls Try.prog 25 #[ptrV h, .int .i64 m, v] w (ProgQ PwM D h (.int .i64 (opR 22 (delM kz) st m).1) (opR 22 (delM kz) st m).2 w) := by
  by_cases hm : 0 ≤ m ∧ m < st.length
  · obtain ⟨q, rfl⟩ := Int.eq_ofNat_of_zero_le hm.1
    have hq : q < st.length := by omega
    have HS := pw_slots_in H hq
    have hpd := H.pd q hq
    obtain ⟨x, hx⟩ : ∃ x, st.getD q .ring = x := ⟨_, rfl⟩
    rw [hx] at hpd
    obtain ⟨p, hpv⟩ : ∃ p, pv q = p := ⟨_, rfl⟩
    rw [hpv] at hpd HS
    cases hpd with
    | @arr A G C s n zs hd ha hc hS =>
      rw [opR_same (no := 22) (f := delM kz) hq hx rfl]
      exact (pw_delete_no HS (.inl ⟨_, rfl⟩)).mono fun e w' ⟨he, hb⟩ => H.same hD hb he
    | @hash h2 A G C M v2 len l Dm key s n ks zs hd hk hk8 HM hS =>
      rw [opR_in hq hx]
      unfold delM
      simp only
      obtain ⟨ak, ck, rfl⟩ := keyLen hv
      have HI := Lib.hid (hm_drop HM hS hd hk rfl (by unfold maxLen; omega) hv)
      have HS := Lib.hid HS
      have HH := Lib.hid H
      have HP := Lib.hid hpv
      have HX := Lib.hid hx
      have HDI := Lib.hid (And.intro hd (And.intro hk hk8))
      have HDD := Lib.hid hD
      clear H hx hd HM hS hv hpv hk hk8 hD
      unfold Ret ptrV DropP at *
      generalize dropE ks key kz = e1 at HI ⊢
      go_enter Try.func25, Try.ntmps25
      go_wp2_with (first
        | (go_at_call 34; refine HS.out.mono ?_; rintro e w1 ⟨rfl, rfl⟩)
        | (go_at_call 53; refine HI.out.mono ?_; rintro e w1 ⟨D2, rfl, hp1, ht1, hD1⟩; have HP1 := Lib.hid hp1; have HT1 := Lib.hid ht1; have HD1 := Lib.hid hD1; clear hp1 ht1 hD1))
      go_ret
      obtain ⟨A', G', C', M', v', len', l', Dm', H', hD'⟩ := HP1.out
      obtain ⟨hd, hk, hk8⟩ := HDI.out
      exact HH.out.progq HDD.out hq (S2 := D2) (by rw [HP.out]; exact .hash hd hk hk8 H' hD') (by rw [HX.out]; rfl) (by rw [HX.out]; rfl) (by rw [HX.out]; rfl) (by rw [HX.out]; rfl) rfl HT1.out HD1.out
    | @loc h2 A G C v2 kd s n os zs hd hk HM hS =>
      rw [opR_same (no := 22) (f := delM kz) hq hx rfl]
      exact (pw_delete_no HS (.inr (.inl ⟨_, rfl⟩))).mono fun e w' ⟨he, hb⟩ => H.same hD hb he
    | ring hS =>
      rw [opR_same (no := 22) (f := delM kz) hq hx rfl]
      exact (pw_delete_no HS (.inr (.inr rfl))).mono fun e w' ⟨he, hb⟩ => H.same hD hb he
  · rw [opR_out hm]
    exact (pw_delete_no (pw_slots_out H hm) (.inr (.inr rfl))).mono fun e w' ⟨he, hb⟩ => H.same hD hb he
theorem pw_get {m : Int} {o : Ob} {cr : Bool} (H : Pw w h a1 a2 c1 c2 pv Ss st) (hD : ∀ b, D b ↔ PwS h a1 a2 Ss st.length b) :
    Calls Try.prog 27 #[ptrV h, .int .i64 m, obV o, .bool cr] w (ProgQ PwM D h (.tuple #[.int .i64 (opR (0, 22) (getM o cr) st m).1.1, .int .i64 (opR (0, 22) (getM o cr) st m).1.2]) (opR (0, 22) (getM o cr) st m).2 w) := by
  by_cases hm : 0 ≤ m ∧ m < st.length
  · obtain ⟨q, rfl⟩ := Int.eq_ofNat_of_zero_le hm.1
    have hq : q < st.length := by omega
    have HS := fun W hb => pw_slots_in (H.stay (w' := W) hb) hq
    have hpd := H.pd q hq
    obtain ⟨x, hx⟩ : ∃ x, st.getD q .ring = x := ⟨_, rfl⟩
    rw [hx] at hpd
    obtain ⟨p, hpv⟩ : ∃ p, pv q = p := ⟨_, rfl⟩
    rw [hpv] at hpd HS
    cases hpd with
    | @arr A G C s n zs hd ha hc hS =>
      rw [opR_same (no := (0, 22)) (f := getM o cr) hq hx rfl]
      exact (pw_get_no HS (.inl ⟨_, rfl⟩)).mono fun e w' ⟨he, hb⟩ => H.same hD hb he
    | @hash h2 A G C M v2 len l Dm key s n ks zs hd hk hk8 HM hS =>
      rw [opR_same (no := (0, 22)) (f := getM o cr) hq hx rfl]
      exact (pw_get_no HS (.inr (.inl ⟨_, rfl⟩))).mono fun e w' ⟨he, hb⟩ => H.same hD hb he
    | @loc h2 A G C v2 kd s n os zs hd hk HM hS =>
      rw [opR_in hq hx]
      unfold getM
      simp only
      obtain ⟨x, y⟩ := o
      have hb : Below w.heap.size w (w.alloc (.cells #[.int .i64 x, .int .i64 y] 34)) := box_below w _
      have HI := Lib.hid (lm_get (o := (x, y)) (c := cr) ⟨A, C, v2, HM.stay hb, hS⟩ hd)
      have hx0 : (w.alloc (.cells #[.int .i64 x, .int .i64 y] 34)).cell? ⟨w.heap.size, 0, none⟩ = some (.int .i64 x) := by simp [go_sem]
      have hy0 : (w.alloc (.cells #[.int .i64 x, .int .i64 y] 34)).cell? ⟨w.heap.size, 1, none⟩ = some (.int .i64 y) := by simp [go_sem]
      have HS := Lib.hid (HS _ hb)
      have HH := Lib.hid (H.stay hb)
      have HB := Lib.hid hb
      have HP := Lib.hid hpv
      have HX := Lib.hid hx
      have HDI := Lib.hid (And.intro hd hk)
      have HDD := Lib.hid hD
      clear H hx hd HM hS hpv hk hD hb
      generalize getR os zs s n (x, y) cr = r at HI ⊢
      obtain ⟨r1, r2, os2, zs2⟩ := r
      unfold Ret ptrV obV GetQ at *
      simp only at HI ⊢
      go_enter Try.func27, Try.ntmps27
      go_wp2_with (first
        | (go_at_call 34; refine HS.out.mono ?_; rintro e w1 ⟨rfl, rfl⟩)
        | (go_at_call 55; refine HI.out.mono ?_; rintro e w1 ⟨D2, rfl, hp1, ht1, hD1⟩; have HP1 := Lib.hid hp1; have HT1 := Lib.hid ht1; have HD1 := Lib.hid hD1; clear hp1 ht1 hD1))
      go_ret2
      obtain ⟨A', C', v', H', hD'⟩ := HP1.out
      obtain ⟨hd, hk⟩ := HDI.out
      exact (HH.out.progq HDD.out hq (S2 := D2) (by rw [HP.out]; exact .loc hd hk H' hD') (by rw [HX.out]; rfl) (by rw [HX.out]; rfl) (by rw [HX.out]; rfl) (by rw [HX.out]; rfl) rfl HT1.out HD1.out).ahead HB.out
    | ring hS =>
      rw [opR_same (no := (0, 22)) (f := getM o cr) hq hx rfl]
      exact (pw_get_no HS (.inr (.inr rfl))).mono fun e w' ⟨he, hb⟩ => H.same hD hb he
  · rw [opR_out hm]
    exact (pw_get_no (fun W hb => pw_slots_out (H.stay (w' := W) hb) hm) (.inr (.inr rfl))).mono fun e w' ⟨he, hb⟩ => H.same hD hb he
theorem pw_drop {m : Int} {o : Ob} (H : Pw w h a1 a2 c1 c2 pv Ss st) (hD : ∀ b, D b ↔ PwS h a1 a2 Ss st.length b) :
    Calls Try.prog 29 #[ptrV h, .int .i64 m, obV o] w (ProgQ PwM D h (.int .i64 (opR 22 (dropM o) st m).1) (opR 22 (dropM o) st m).2 w) := by
  by_cases hm : 0 ≤ m ∧ m < st.length
  · obtain ⟨q, rfl⟩ := Int.eq_ofNat_of_zero_le hm.1
    have hq : q < st.length := by omega
    have HS := fun W hb => pw_slots_in (H.stay (w' := W) hb) hq
    have hpd := H.pd q hq
    obtain ⟨x, hx⟩ : ∃ x, st.getD q .ring = x := ⟨_, rfl⟩
    rw [hx] at hpd
    obtain ⟨p, hpv⟩ : ∃ p, pv q = p := ⟨_, rfl⟩
    rw [hpv] at hpd HS
    cases hpd with
    | @arr A G C s n zs hd ha hc hS =>
      rw [opR_same (no := 22) (f := dropM o) hq hx rfl]
      exact (pw_drop_no HS (.inl ⟨_, rfl⟩)).mono fun e w' ⟨he, hb⟩ => H.same hD hb he
    | @hash h2 A G C M v2 len l Dm key s n ks zs hd hk hk8 HM hS =>
      rw [opR_same (no := 22) (f := dropM o) hq hx rfl]
      exact (pw_drop_no HS (.inr (.inl ⟨_, rfl⟩))).mono fun e w' ⟨he, hb⟩ => H.same hD hb he
    | @loc h2 A G C v2 kd s n os zs hd hk HM hS =>
      rw [opR_in hq hx]
      unfold dropM
      simp only
      obtain ⟨x, y⟩ := o
      have hb : Below w.heap.size w (w.alloc (.cells #[.int .i64 x, .int .i64 y] 34)) := box_below w _
      have HI := Lib.hid (lm_drop (o := (x, y)) ⟨A, C, v2, HM.stay hb, hS⟩ hd)
      have hx0 : (w.alloc (.cells #[.int .i64 x, .int .i64 y] 34)).cell? ⟨w.heap.size, 0, none⟩ = some (.int .i64 x) := by simp [go_sem]
      have hy0 : (w.alloc (.cells #[.int .i64 x, .int .i64 y] 34)).cell? ⟨w.heap.size, 1, none⟩ = some (.int .i64 y) := by simp [go_sem]
      have HS := Lib.hid (HS _ hb)
      have HH := Lib.hid (H.stay hb)
      have HB := Lib.hid hb
      have HP := Lib.hid hpv
      have HX := Lib.hid hx
      have HDI := Lib.hid (And.intro hd hk)
      have HDD := Lib.hid hD
      clear H hx hd HM hS hpv hk hD hb
      generalize dropR os zs s (x, y) = r at HI ⊢
      obtain ⟨r1, os2, zs2⟩ := r
      unfold Ret ptrV obV DropQ at *
      simp only at HI ⊢
      go_enter Try.func29, Try.ntmps29
      go_wp2_with (first
        | (go_at_call 34; refine HS.out.mono ?_; rintro e w1 ⟨rfl, rfl⟩)
        | (go_at_call 57; refine HI.out.mono ?_; rintro e w1 ⟨D2, G2, rfl, hp1, ht1, hD1⟩; have HP1 := Lib.hid hp1; have HT1 := Lib.hid ht1; have HD1 := Lib.hid hD1; clear hp1 ht1 hD1))
      go_ret
      obtain ⟨A', C', v', H', hD'⟩ := HP1.out
      obtain ⟨hd, hk⟩ := HDI.out
      exact (HH.out.progq HDD.out hq (S2 := D2) (by rw [HP.out]; exact .loc hd hk H' hD') (by rw [HX.out]; rfl) (by rw [HX.out]; rfl) (by rw [HX.out]; rfl) (by rw [HX.out]; rfl) rfl HT1.out HD1.out).ahead HB.out
    | ring hS =>
      rw [opR_same (no := 22) (f := dropM o) hq hx rfl]
      exact (pw_drop_no HS (.inr (.inr rfl))).mono fun e w' ⟨he, hb⟩ => H.same hD hb he
  · rw [opR_out hm]
    exact (pw_drop_no (fun W hb => pw_slots_out (H.stay (w' := W) hb) hm) (.inr (.inr rfl))).mono fun e w' ⟨he, hb⟩ => H.same hD hb he
end
end Go.Proofs.Ytenjdgoammaiiaa
