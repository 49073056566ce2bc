/-
  Proved here: what Right of package objs gives: its closure, allWords, Right. Conditions: a context that reads as one.
-/
import Derived.Test.YtcdpmggjdmibjaaZFind
namespace Go.Proofs.Ytcdpmggjdmibjaa
open Go.RowKit

/-- What Right's closure has: the hook's description in block A, the context in block B. -/
structure Capt (w : World) (A B kk : Nat) (c : Cx) : Prop where
  d1 : ∃ p, w.cell? ⟨A, 1, none⟩ = some (.slice (some ⟨p, 0, none⟩) (kindL kk).length (kindL kk).length) ∧ w.heap[p]? = some (.cells (u8s (kindL kk)).toArray 5 (0, 0))
  cw : ∀ i, i < 8 → w.cell? ⟨B, 1 + i, none⟩ = some (.int .u64 (c.words.getD i 0))
  c9 : ∃ a k, w.cell? ⟨B, 9, none⟩ = some (.slice a c.objs.length k) ∧ ObRow w a c.objs
theorem Capt.stay {w w' : World} {A B kk : Nat} {c : Cx} (h : Capt w A B kk c) (hb : Below w.heap.size w w') : Capt w' A B kk c := by
  obtain ⟨p, h1, h2⟩ := h.d1
  obtain ⟨a, k, h3, h4⟩ := h.c9
  exact ⟨⟨p, (hb.cell (World.block_lt_of_cell? _ _ h1)).trans h1, (hb.block p (Array.getElem?_eq_some_iff.1 h2).1).trans h2⟩, fun i hi => (hb.cell (World.block_lt_of_cell? _ _ (h.cw i hi))).trans (h.cw i hi), ⟨a, k, (hb.cell (World.block_lt_of_cell? _ _ h3)).trans h3, h4.stay hb⟩⟩
theorem closure_in (A B kk i : Nat) (c : Cx) (w : World) (h : Capt w A B kk c) (h1 : 1 ≤ kk) (h2 : kk ≤ 16) (hi : i < 8) (hil : i < (lettB kk).size) (hbw : ∀ i, 0 ≤ c.words.getD i 0 ∧ c.words.getD i 0 ≤ 18446744073709551615) (h8 : c.objs.length ≤ 8) (ht : c.objs.all typeB = true) :
    Calls Try.prog 25 #[.int .i64 i, .pointer (some ⟨A, 0, none⟩), .pointer (some ⟨B, 0, none⟩)] w (Draws (.bool (wordB c.objs (lettB kk) (c.words.getD i 0) i)) w) := by
  rw [wordB_in hil]
  obtain ⟨p, hd1, hp⟩ := h.d1
  obtain ⟨a, k, hc9, hrow⟩ := h.c9
  have hcw := h.cw i hi
  have hx := hbw i
  obtain ⟨hkl, hz⟩ := kind_lett kk i h1 h2 hil
  have hlen := kind_len kk h1 h2
  have hk := word_cell hp (j := i) (by omega)
  rw [hkl] at hk
  obtain ⟨n, hn⟩ : ∃ n, (kindL kk).length = n := ⟨_, rfl⟩
  have hin : i < n := by omega
  rw [hn] at hd1
  obtain ⟨kd, hkd⟩ : ∃ kd, lettI (byteAt (lettB kk) i) = kd := ⟨_, rfl⟩
  obtain ⟨m, hm⟩ : ∃ m, c.objs.length = m := ⟨_, rfl⟩
  have hmay := fun (W : World) (hW : Below w.heap.size w W) => may_call c.objs (byteAt (lettB kk) i) (c.words.getD i 0) a k W hz hx (hrow.stay hW) h8 ht
  rw [hkd] at hk hmay
  rw [hm] at hc9 hmay
  generalize wordZ c.objs (byteAt (lettB kk) i) (c.words.getD i 0) = R at hmay ⊢
  generalize c.words.getD i 0 = x at hcw hmay
  have HM := Lib.hid hmay
  clear hmay h hp hrow hx hkl hz hlen hil hbw ht hn hkd hm
  have hlt : decide ((i : Int) < 8) = true := by simp; omega
  have hge : decide ((n : Int) ≤ (i : Int)) = false := by simp; omega
  go_enter Try.func25, Try.ntmps25
  go_wp2
  go_quiet ((go_at_call 26; exact Calls.quiet_of (HM.out _ (below_drewN _ _))))
  go_wp2
  go_ret
  exact ⟨rfl, nq, rfl⟩
theorem closure_out (A B kk i : Nat) (c : Cx) (w : World) (h : Capt w A B kk c) (h1 : 1 ≤ kk) (h2 : kk ≤ 16) (hi : i < 8) (hil : ¬ i < (lettB kk).size) :
    Calls Try.prog 25 #[.int .i64 i, .pointer (some ⟨A, 0, none⟩), .pointer (some ⟨B, 0, none⟩)] w (Draws (.bool (wordB c.objs (lettB kk) (c.words.getD i 0) i)) w) := by
  rw [word_out hil]
  obtain ⟨p, hd1, -⟩ := h.d1
  have hcw := h.cw i hi
  have hlen := kind_len kk h1 h2
  obtain ⟨n, hn⟩ : ∃ n, (kindL kk).length = n := ⟨_, rfl⟩
  have hin : n ≤ i := by omega
  rw [hn] at hd1
  generalize c.words.getD i 0 = x at hcw ⊢
  clear h hlen hil hn
  have hlt : decide ((i : Int) < 8) = true := by simp; omega
  have hge : decide ((n : Int) ≤ (i : Int)) = true := by simp; omega
  go_enter Try.func25, Try.ntmps25
  go_wp2
  go_ret
  exact ⟨rfl, 0, rfl⟩
/-- A closure that tells p of the numbers below n, whatever has been made meanwhile. -/
def Says (p : Nat → Bool) (n : Nat) (F : FuncId) (A B : Addr) (w : World) : Prop := ∀ (i : Nat) (w1 : World), i < n → Below w.heap.size w w1 → Calls Try.prog F #[.int .i64 i, .pointer (some A), .pointer (some B)] w1 fun e w' => e = .returned (.bool (p i)) ∧ Below w1.heap.size w1 w'
theorem says_right (A B kk : Nat) (c : Cx) (w : World) (h : Capt w A B kk c) (h1 : 1 ≤ kk) (h2 : kk ≤ 16) (hbw : ∀ i, 0 ≤ c.words.getD i 0 ∧ c.words.getD i 0 ≤ 18446744073709551615) (h8 : c.objs.length ≤ 8) (ht : c.objs.all typeB = true) :
    Says (fun i => wordB c.objs (lettB kk) (c.words.getD i 0) i) 8 25 ⟨A, 0, none⟩ ⟨B, 0, none⟩ w := by
  intro i w1 hi hb
  by_cases hil : i < (lettB kk).size
  · exact (closure_in A B kk i c w1 (h.stay hb) h1 h2 hi hil hbw h8 ht).mono fun _ _ hd => hd.tells
  · exact (closure_out A B kk i c w1 (h.stay hb) h1 h2 hi hil).mono fun _ _ hd => hd.tells
theorem range_all {p : Nat → Bool} {n : Nat} (h : ∀ j, j < n → p j = true) : (List.range n).all p = true := by
  rw [List.all_eq_true]
  intro j hj
  exact h j (by simpa using hj)
theorem range_not {p : Nat → Bool} {n j : Nat} (hj : j < n) (h : p j = false) : (List.range n).all p = false := by
  rw [List.all_eq_false]
  exact ⟨j, by simpa using hj, by rw [h]; simp⟩
theorem allWords_call (p : Nat → Bool) (A B : Addr) (w : World) (hs : Says p 8 25 A B w) : Calls Try.prog 24 #[.func (.func 25) #[] #[.pointer (some A), .pointer (some B)]] w (Tells (.bool ((List.range 8).all p)) w) := by
  have HS := Lib.hid (fun i w1 => hs i w1)
  obtain ⟨R, hR⟩ : ∃ R, (List.range 8).all p = R := ⟨_, rfl⟩
  rw [hR]
  have HR := Lib.hid hR
  clear hR hs
  go_enter Try.func24, Try.ntmps24
  go_wp2
  go_loopw [4] (fun v w1 => ∃ i : Nat, i ≤ 8 ∧ v = .int .i64 i ∧ (∀ j, j < i → p j = true) ∧ Below w.heap.size w w1) (fun v _ => 8 - (intOf v).toNat)
  case atStart => exact ⟨0, Nat.zero_le _, rfl, fun j hj => absurd hj (Nat.not_lt_zero _), Below.refl _ _⟩
  case round =>
    obtain ⟨i, hi, rfl, hno, hb⟩ := hrel
    have HN := Lib.hid hno
    have HB := Lib.hid hb
    clear hno hb
    by_cases hlt : i < 8
    · have hd8 : decide ((i : Int) < 8) = true := by simp; omega
      cases hp : p i
      · have HP := Lib.hid hp
        have HF := Lib.hid (HR.out.symm.trans (range_not hlt hp))
        clear hp
        go_wp2_with (go_at_call 25; refine (HS.out i _ hlt HB.out).mono ?_; rintro e w' ⟨rfl, hb'⟩; have HB' := Lib.hid hb'; clear hb'; rw [HP.out])
        go_ret
        exact ⟨by rw [HF.out]; rfl, HB.out.trans (HB'.out.mono HB.out.size)⟩
      · have HP := Lib.hid hp
        clear hp
        go_wp2_with (go_at_call 25; refine (HS.out i _ hlt HB.out).mono ?_; rintro e w' ⟨rfl, hb'⟩; have HB' := Lib.hid hb'; clear hb'; rw [HP.out])
        go_roundw
        case rel => exact ⟨i + 1, by omega, by go_num, words_more HN.out HP.out, HB.out.trans (HB'.out.mono HB.out.size)⟩
        case measure => simp [intOf]; omega
    · obtain rfl : i = 8 := by omega
      have HF := Lib.hid (HR.out.symm.trans (range_all HN.out))
      go_wp2
      go_ret
      exact ⟨by rw [HF.out]; rfl, HB.out⟩
end Go.Proofs.Ytcdpmggjdmibjaa
