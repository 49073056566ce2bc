/-
  Proved here: what May of the program's maps tells of descriptions that may be, and what slotsOf makes of one. Conditions: as each lemma says.
-/
import Derived.Test.YtenjdgoammaiiaaGM
namespace Go.Proofs.Ytenjdgoammaiiaa
open Go.RowKit
set_option maxRecDepth 100000

/-- A description that may be. -/
inductive MayK : Df → Prop
  | arr (s n : Nat) (hd : Dim s n (s * n)) : MayK ⟨1, 4, s, n⟩
  | hash (ky s n : Nat) (hd : Dim s n (s * n)) (h1 : 1 ≤ ky) (h8 : ky ≤ 8) : MayK ⟨2, ky, s, n⟩
  | ino (s n : Nat) (hd : Dim s n (s * n)) : MayK ⟨3, 0, s, n⟩
  | task (s n : Nat) (hd : Dim s n (s * n)) : MayK ⟨4, 0, s, n⟩
  | ring : MayK ⟨5, 0, 0, 0⟩
theorem sized_dim {d : Df} (h : sizedB d = true) : ∃ s n : Nat, d.v = s ∧ d.x = n ∧ Dim s n (s * n) := by
  simp [sizedB] at h
  obtain ⟨s, hs⟩ := Int.eq_ofNat_of_zero_le (show 0 ≤ d.v by omega)
  obtain ⟨n, hn⟩ := Int.eq_ofNat_of_zero_le (show 0 ≤ d.x by omega)
  exact ⟨s, n, hs, hn, by omega, by omega, by omega, by omega, rfl⟩
theorem may_k {d : Df} (h : mayD d = true) : MayK d := by
  unfold mayD at h
  by_cases e1 : d.k = 1
  · rw [if_pos e1] at h
    simp only [Bool.and_eq_true, decide_eq_true_eq] at h
    obtain ⟨s, n, hs, hn, hd⟩ := sized_dim h.2
    obtain ⟨k, y, v, x⟩ := d
    simp only at e1 h hs hn
    obtain ⟨rfl, -⟩ := h
    subst e1 hs hn
    exact .arr s n hd
  · rw [if_neg e1] at h
    by_cases e2 : d.k = 2
    · rw [if_pos e2] at h
      simp only [Bool.and_eq_true, decide_eq_true_eq] at h
      obtain ⟨s, n, hs, hn, hd⟩ := sized_dim h.2
      obtain ⟨k, y, v, x⟩ := d
      simp only at e2 h hs hn
      obtain ⟨ky, rfl⟩ := Int.eq_ofNat_of_zero_le (show 0 ≤ y by omega)
      subst e2 hs hn
      exact .hash ky s n hd (by omega) (by omega)
    · rw [if_neg e2] at h
      by_cases e3 : d.k = 3 ∨ d.k = 4
      · rw [if_pos e3] at h
        simp only [Bool.and_eq_true, decide_eq_true_eq] at h
        obtain ⟨s, n, hs, hn, hd⟩ := sized_dim h.2
        obtain ⟨k, y, v, x⟩ := d
        simp only at e3 h hs hn
        obtain ⟨rfl, -⟩ := h
        subst hs hn
        rcases e3 with rfl | rfl
        · exact .ino s n hd
        · exact .task s n hd
      · rw [if_neg e3] at h
        by_cases e5 : d.k = 5
        · rw [if_pos e5] at h
          simp only [Bool.and_eq_true, decide_eq_true_eq] at h
          obtain ⟨k, y, v, x⟩ := d
          simp only at e5 h
          obtain ⟨⟨rfl, rfl⟩, rfl⟩ := h
          subst e5
          exact .ring
        · rw [if_neg e5] at h
          cases h
theorem within_call (x y : Int) (w : World) : Calls Try.prog 68 #[.int .i64 x, .int .i64 y] w (Ret (.bool (decide (1 ≤ x ∧ x ≤ y))) w) := by
  unfold Ret
  by_cases h1 : 1 ≤ x
  · by_cases h2 : x ≤ y
    · rw [decide_eq_true ⟨h1, h2⟩]
      go_enter Try.func68, Try.ntmps68
      go_wp2
      go_ret
      exact ⟨rfl, rfl⟩
    · rw [decide_eq_false (fun e => h2 e.2)]
      have h3 : decide (x ≤ y) = false := decide_eq_false h2
      clear h2
      go_enter Try.func68, Try.ntmps68
      go_wp2
      go_ret
      exact ⟨rfl, rfl⟩
  · rw [decide_eq_false (fun e => h1 e.1)]
    have h3 : decide (1 ≤ x) = false := decide_eq_false h1
    clear h1
    go_enter Try.func68, Try.ntmps68
    go_wp2
    go_ret
    exact ⟨rfl, rfl⟩
theorem within_yes {x y : Int} (h : 1 ≤ x ∧ x ≤ y) (w : World) : Calls Try.prog 68 #[.int .i64 x, .int .i64 y] w (Ret (.bool true) w) := by
  have := within_call x y w
  rw [decide_eq_true h] at this
  exact this
theorem within_no {x y : Int} (h : ¬ (1 ≤ x ∧ x ≤ y)) (w : World) : Calls Try.prog 68 #[.int .i64 x, .int .i64 y] w (Ret (.bool false) w) := by
  have := within_call x y w
  rw [decide_eq_false h] at this
  exact this
def dfV (d : Df) : Value := .agg #[.int .i64 d.k, .int .i64 d.y, .int .i64 d.v, .int .i64 d.x]
def dfO (d : Df) : Obj := .cells #[.int .i64 d.k, .int .i64 d.y, .int .i64 d.v, .int .i64 d.x] 47
set_option maxHeartbeats 2000000 in
theorem may_one {d : Df} (h : MayK d) (w : World) : Calls Try.prog 41 #[dfV d] w (fun e w' => e = .returned (.bool true) ∧ Below w.heap.size w w') := by
  have hb : Below w.heap.size w (w.alloc (dfO d)) := box_below w _
  have HB := Lib.hid hb
  have b0 : (w.alloc (dfO d)).cell? ⟨w.heap.size, 0, none⟩ = some (.int .i64 d.k) := by simp [go_sem, dfO]
  have b1 : (w.alloc (dfO d)).cell? ⟨w.heap.size, 1, none⟩ = some (.int .i64 d.y) := by simp [go_sem, dfO]
  have b2 : (w.alloc (dfO d)).cell? ⟨w.heap.size, 2, none⟩ = some (.int .i64 d.v) := by simp [go_sem, dfO]
  have b3 : (w.alloc (dfO d)).cell? ⟨w.heap.size, 3, none⟩ = some (.int .i64 d.x) := by simp [go_sem, dfO]
  clear hb
  unfold dfV dfO at *
  cases h with
  | arr s n hd =>
    have W1 : Hid (decide (1 ≤ (s : Int) ∧ (s : Int) ≤ 32) = true) := Lib.hid (decide_eq_true (by have := hd.s0; have := hd.s1; omega))
    have W2 : Hid (decide (1 ≤ (n : Int) ∧ (n : Int) ≤ 16) = true) := Lib.hid (decide_eq_true (by have := hd.n0; have := hd.n1; omega))
    clear hd
    unfold Ret at *
    simp only at *
    go_enter Try.func41, Try.ntmps41
    go_wp2_with (go_at_call 68; refine (within_call _ _ _).mono ?_; rintro e w1 ⟨he, hw⟩; (first | rw [W1.out] at he | rw [W2.out] at he); subst he; subst hw)
    go_ret
    exact ⟨rfl, HB.out⟩
  | hash ky s n hd h1 h8 =>
    have W1 : Hid (decide (1 ≤ (s : Int) ∧ (s : Int) ≤ 32) = true) := Lib.hid (decide_eq_true (by have := hd.s0; have := hd.s1; omega))
    have W2 : Hid (decide (1 ≤ (n : Int) ∧ (n : Int) ≤ 16) = true) := Lib.hid (decide_eq_true (by have := hd.n0; have := hd.n1; omega))
    have W3 : Hid (decide (1 ≤ (ky : Int) ∧ (ky : Int) ≤ 8) = true) := Lib.hid (decide_eq_true (by omega))
    clear hd
    unfold Ret at *
    simp only at *
    go_enter Try.func41, Try.ntmps41
    go_wp2_with (go_at_call 68; refine (within_call _ _ _).mono ?_; rintro e w1 ⟨he, hw⟩; (first | rw [W1.out] at he | rw [W2.out] at he | rw [W3.out] at he); subst he; subst hw)
    go_ret
    exact ⟨rfl, HB.out⟩
  | ino s n hd =>
    have W1 : Hid (decide (1 ≤ (s : Int) ∧ (s : Int) ≤ 32) = true) := Lib.hid (decide_eq_true (by have := hd.s0; have := hd.s1; omega))
    have W2 : Hid (decide (1 ≤ (n : Int) ∧ (n : Int) ≤ 16) = true) := Lib.hid (decide_eq_true (by have := hd.n0; have := hd.n1; omega))
    clear hd
    unfold Ret at *
    simp only at *
    go_enter Try.func41, Try.ntmps41
    go_wp2_with (go_at_call 68; refine (within_call _ _ _).mono ?_; rintro e w1 ⟨he, hw⟩; (first | rw [W1.out] at he | rw [W2.out] at he); subst he; subst hw)
    go_ret
    exact ⟨rfl, HB.out⟩
  | task s n hd =>
    have W1 : Hid (decide (1 ≤ (s : Int) ∧ (s : Int) ≤ 32) = true) := Lib.hid (decide_eq_true (by have := hd.s0; have := hd.s1; omega))
    have W2 : Hid (decide (1 ≤ (n : Int) ∧ (n : Int) ≤ 16) = true) := Lib.hid (decide_eq_true (by have := hd.n0; have := hd.n1; omega))
    clear hd
    unfold Ret at *
    simp only at *
    go_enter Try.func41, Try.ntmps41
    go_wp2_with (go_at_call 68; refine (within_call _ _ _).mono ?_; rintro e w1 ⟨he, hw⟩; (first | rw [W1.out] at he | rw [W2.out] at he); subst he; subst hw)
    go_ret
    exact ⟨rfl, HB.out⟩
  | ring =>
    have W1 : Hid (decide (1 ≤ (0 : Int) ∧ (0 : Int) ≤ 32) = false) := Lib.hid (by decide)
    unfold Ret at *
    simp only at *
    go_enter Try.func41, Try.ntmps41
    go_wp2_with (go_at_call 68; refine (within_call _ _ _).mono ?_; rintro e w1 ⟨he, hw⟩; rw [W1.out] at he; subst he; subst hw)
    go_ret
    exact ⟨rfl, HB.out⟩
theorem arr_newX (s n : Nat) (w : World) (hd : Dim s n (s * n)) : Calls Try.prog 42 #[.int .i64 s, .int .i64 n] w (fun e w' => ∃ A G, e = .returned (.tuple #[.pointer (some ⟨A, 0, none⟩), .int .i64 0]) ∧ Below w.heap.size w w' ∧ Arr w' A G s n (s * n) (s * n) (zeros (s * n)) ∧ w.heap.size ≤ A ∧ w.heap.size ≤ G) :=
  (arr_new s n _ w hd).mono fun e w' ⟨he, hb, ha⟩ => ⟨_, _, he, hb, ha, by omega, by omega⟩
/-- What slotsOf makes of a description. -/
def MadeQ (d : Df) (W : World) (e : Ending) (w : World) : Prop := ∃ v S, e = .returned v ∧ PdM w S v (newM d) ∧ Below W.heap.size W w ∧ (∀ b, S b → W.heap.size ≤ b) ∧ v.oneCell' = true
set_option maxHeartbeats 2000000 in
theorem slots_of {d : Df} (h : MayK d) (w : World) : Calls Try.prog 18 #[dfV d] w (MadeQ d w) := by
  have hb : Below w.heap.size w (w.alloc (dfO d)) := box_below w _
  have HB := Lib.hid hb
  have b0 : (w.alloc (dfO d)).cell? ⟨w.heap.size, 0, none⟩ = some (.int .i64 d.k) := by simp [go_sem, dfO]
  have b1 : (w.alloc (dfO d)).cell? ⟨w.heap.size, 1, none⟩ = some (.int .i64 d.y) := by simp [go_sem, dfO]
  have b2 : (w.alloc (dfO d)).cell? ⟨w.heap.size, 2, none⟩ = some (.int .i64 d.v) := by simp [go_sem, dfO]
  have b3 : (w.alloc (dfO d)).cell? ⟨w.heap.size, 3, none⟩ = some (.int .i64 d.x) := by simp [go_sem, dfO]
  clear hb
  unfold dfV dfO MadeQ at *
  cases h with
  | arr s n hd =>
    have HD := Lib.hid hd
    clear hd
    simp only at *
    go_enter Try.func18, Try.ntmps18
    go_wp2_with (go_at_call 42; refine (arr_newX s n _ HD.out).mono ?_; rintro e w1 ⟨A, G, rfl, hb, ha, n1, n2⟩; have HB1 := Lib.hid hb; have HA := Lib.hid ha; have HN := Lib.hid (And.intro n1 n2); clear hb ha n1 n2)
    go_ret
    have hz := HB.out.size
    have hn : newM ⟨1, 4, s, n⟩ = .arr s n (zeros (s * n)) := by simp [newM]
    obtain ⟨n1, n2⟩ := HN.out
    refine ⟨_, fun b => b = A ∨ b = G, rfl, by rw [hn]; exact .arr HD.out HA.out (Nat.le_refl _) fun b => Iff.rfl, HB.out.trans (HB1.out.mono hz), ?_, rfl⟩
    rintro b (rfl | rfl) <;> omega
  | hash ky s n hd h1 h8 =>
    have HD := Lib.hid (And.intro hd (And.intro h1 h8))
    clear hd h1 h8
    simp only at *
    go_enter Try.func18, Try.ntmps18
    go_wp2_with (go_at_call 43; refine (hm_new ky s n _ _ HD.out.1 HD.out.2.1 HD.out.2.2).mono ?_; rintro e w1 ⟨h2, D2, rfl, hp, hb, hn⟩; have HB1 := Lib.hid hb; have HA := Lib.hid hp; have HN := Lib.hid hn; clear hb hp hn)
    go_ret
    have hz := HB.out.size
    have hn : newM ⟨2, ky, s, n⟩ = .hash ky s n (noKeys n) (zeros (s * n)) := by simp [newM]
    obtain ⟨A', G', C', M', v', len', l', Dm', H', hD'⟩ := HA.out
    exact ⟨_, D2, rfl, by rw [hn]; exact .hash HD.out.1 HD.out.2.1 HD.out.2.2 H' hD', HB.out.trans (HB1.out.mono hz), fun b hb => Nat.le_trans hz (HN.out b hb), rfl⟩
  | ino s n hd =>
    have HD := Lib.hid hd
    clear hd
    simp only at *
    go_enter Try.func18, Try.ntmps18
    go_wp2_with (go_at_call 44; refine (lm_new s n _ _ HD.out).mono ?_; rintro e w1 ⟨h2, D2, G2, rfl, hp, hb, hn⟩; have HB1 := Lib.hid hb; have HA := Lib.hid hp; have HN := Lib.hid hn; clear hb hp hn)
    go_ret
    have hz := HB.out.size
    have hn : newM ⟨3, 0, s, n⟩ = .loc 3 s n [] (zeros (s * n)) := by simp [newM]
    obtain ⟨A', C', v', H', hD'⟩ := HA.out
    exact ⟨_, D2, rfl, by rw [hn]; exact .loc HD.out (.inl rfl) H' hD', HB.out.trans (HB1.out.mono hz), fun b hb => Nat.le_trans hz (HN.out b hb), rfl⟩
  | task s n hd =>
    have HD := Lib.hid hd
    clear hd
    simp only at *
    go_enter Try.func18, Try.ntmps18
    go_wp2_with (go_at_call 44; refine (lm_new s n _ _ HD.out).mono ?_; rintro e w1 ⟨h2, D2, G2, rfl, hp, hb, hn⟩; have HB1 := Lib.hid hb; have HA := Lib.hid hp; have HN := Lib.hid hn; clear hb hp hn)
    go_ret
    have hz := HB.out.size
    have hn : newM ⟨4, 0, s, n⟩ = .loc 4 s n [] (zeros (s * n)) := by simp [newM]
    obtain ⟨A', C', v', H', hD'⟩ := HA.out
    exact ⟨_, D2, rfl, by rw [hn]; exact .loc HD.out (.inr rfl) H' hD', HB.out.trans (HB1.out.mono hz), fun b hb => Nat.le_trans hz (HN.out b hb), rfl⟩
  | ring =>
    simp only at *
    go_enter Try.func18, Try.ntmps18
    go_wp2
    go_ret
    exact ⟨_, fun _ => False, rfl, .ring fun _ h => h, HB.out, fun _ h => h.elim, rfl⟩
end Go.Proofs.Ytenjdgoammaiiaa
