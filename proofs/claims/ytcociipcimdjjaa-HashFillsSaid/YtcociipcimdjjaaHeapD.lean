/-
  Proved here: going down, Pop and Push of container/heap, over the free places in memory. Conditions: as each says.
-/
import Derived.Test.YtcociipcimdjjaaHeapM
namespace Go.Proofs.Ytcociipcimdjjaa
open Go.RowKit

def DownPost (B : Nat) (p : Addr) (len cap n : Nat) (l : List Int) (W : World) (e : Ending) (w : World) : Prop :=
  ∃ b : Bool, e = .returned (.bool b) ∧ ∃ l' : List Int, Only B W w ∧ ListAt w p B len cap l' ∧ l'.Perm l ∧ IsHeap l' n ∧ ∀ k, n ≤ k → at0 l' k = at0 l k
theorem down_end {l : List Int} {n k j : Nat} (h : DownAt l n k) (hj : at0 l k ≤ at0 l j) (hmin : ∀ i, 0 < i → i < n → par i = k → at0 l j ≤ at0 l i) : IsHeap l n :=
  down_done h fun i h0 hi hp => by have := hmin i h0 hi hp; omega
theorem min_right {l : List Int} {n k : Nat} (h : at0 l (2 * k + 2) < at0 l (2 * k + 1)) : ∀ i, 0 < i → i < n → par i = k → at0 l (2 * k + 2) ≤ at0 l i := by
  intro i h0 _ hp
  rcases child_of h0 hp with rfl | rfl <;> omega
theorem min_left {l : List Int} {n k : Nat} (h : ¬ at0 l (2 * k + 2) < at0 l (2 * k + 1)) : ∀ i, 0 < i → i < n → par i = k → at0 l (2 * k + 1) ≤ at0 l i := by
  intro i h0 _ hp
  rcases child_of h0 hp with rfl | rfl <;> omega
theorem min_only {l : List Int} {n k : Nat} (h : n ≤ 2 * k + 2) : ∀ i, 0 < i → i < n → par i = k → at0 l (2 * k + 1) ≤ at0 l i := by
  intro i h0 hi hp
  rcases child_of h0 hp with rfl | rfl <;> omega
theorem min_of_right {l : List Int} {n k a b : Nat} (ha : 2 * k + 1 = a) (hb : 2 * k + 2 = b) (h : at0 l b < at0 l a) : ∀ i, 0 < i → i < n → par i = k → at0 l b ≤ at0 l i := by
  subst ha hb
  exact min_right h
theorem min_of_left {l : List Int} {n k a b : Nat} (ha : 2 * k + 1 = a) (hb : 2 * k + 2 = b) (h : ¬ at0 l b < at0 l a) : ∀ i, 0 < i → i < n → par i = k → at0 l a ≤ at0 l i := by
  subst ha hb
  exact min_left h
theorem min_of_only {l : List Int} {n k a : Nat} (ha : 2 * k + 1 = a) (h : n ≤ 2 * k + 2) : ∀ i, 0 < i → i < n → par i = k → at0 l a ≤ at0 l i := by
  subst ha
  exact min_only h
theorem par_a {k a : Nat} (ha : 2 * k + 1 = a) : par a = k := by subst ha; exact par_left k
theorem par_b {k b : Nat} (hb : 2 * k + 2 = b) : par b = k := by subst hb; exact par_right k
theorem swap_far {l : List Int} {i j n k : Nat} (hi : i < n) (hj : j < n) (hn : n ≤ l.length) (hk : n ≤ k) : at0 (swapL l i j) k = at0 l k := by
  rw [at0_swap (by omega) (by omega), if_neg (by omega), if_neg (by omega)]
set_option maxHeartbeats 4000000 in
theorem down_free (B len cap n : Nat) (p : Addr) (l : List Int) (w : World) (h : ListAt w p B len cap l) (hl : len ≤ 1000) (hn : n ≤ len) (hu : DownAt l n 0) :
    Calls Try.prog 41 #[.iface 71 (.pointer (some p)), .int .i64 0, .int .i64 n] w (DownPost B p len cap n l w) := by
  have H := Lib.hid h
  have HU := Lib.hid hu
  clear h hu
  go_enter Try.func41, Try.ntmps41
  go_wp2
  go_loopw [7] (fun i wr => ∃ (k : Nat) (l' : List Int), k ≤ n ∧ i = .int .i64 k ∧ Only B w wr ∧ ListAt wr p B len cap l' ∧ l'.Perm l ∧ DownAt l' n k ∧ ∀ k, n ≤ k → at0 l' k = at0 l k) (fun i _ => n - (intOf i).toNat)
  case atStart => exact ⟨0, l, by omega, rfl, Only.refl _ _, H.out, List.Perm.refl _, HU.out, fun _ _ => rfl⟩
  case round =>
    obtain ⟨k, l', hk, rfl, ho, hL, hp, hu, hf⟩ := hrel
    have HO := Lib.hid ho
    have HL := Lib.hid hL
    have HP := Lib.hid hp
    have HK := Lib.hid hu
    have HF := Lib.hid hf
    have hm := method_less p wr _ _ _ hL.c
    clear ho hL hp hu H HU hf
    by_cases h1 : n ≤ 2 * k + 1
    · go_wp2
      go_ret
      exact ⟨_, rfl, l', HO.out, HL.out, HP.out, down_done HK.out (fun i h0 hi hp => by have := child_of h0 hp; omega), HF.out⟩
    · obtain ⟨a, ha⟩ : ∃ a, 2 * k + 1 = a := ⟨_, rfl⟩
      obtain ⟨b, hb⟩ : ∃ b, 2 * k + 2 = b := ⟨_, rfl⟩
      have e2 : 2 * (k : Int) + 1 = (a : Int) := by omega
      have e3 : (a : Int) + 1 = (b : Int) := by omega
      have h1' : a < n := by omega
      have hka : k < a := by omega
      have hkb : k < b := by omega
      have HA := Lib.hid ha
      have HB := Lib.hid hb
      clear h1 ha hb
      by_cases h2 : b < n
      · by_cases h3 : at0 l' b < at0 l' a
        · have HM := Lib.hid (min_of_right (n := n) HA.out HB.out h3)
          have d3 : decide (at0 l' b < at0 l' a) = true := by simp [h3]
          clear h3
          have tok1 : True := trivial
          by_cases h4 : at0 l' (b) < at0 l' k
          · have d4 : decide (at0 l' (b) < at0 l' k) = true := by simp [h4]
            have H4 := Lib.hid h4
            clear h4
            go_wp2_with (first
              | (have _t := tok1; go_at_call 61; refine (less_free _ b a _ _ _ _ _ HL.out (by omega) (by omega)).mono ?_; rintro e w1 ⟨rfl, ho1, hL1⟩; have hm1 := method_less p w1 _ _ _ hL1.c; have HO1 := Lib.hid ho1; have HL1 := Lib.hid hL1; clear ho1 hL1; clear tok1)
              | (go_at_call 61; refine (less_free _ (b) k _ _ _ _ _ HL1.out (by omega) (by omega)).mono ?_; rintro e w2 ⟨rfl, ho2, hL2⟩; have hm2 := method_swap p w2 _ _ _ hL2.c; have HO2 := Lib.hid ho2; have HL2 := Lib.hid hL2; clear ho2 hL2)
              | (go_at_call 62; refine (swap_free _ k (b) _ _ _ _ _ HL2.out (by omega) (by omega)).mono ?_; rintro e w3 ⟨rfl, ho3, hL3⟩; have HO3 := Lib.hid ho3; have HL3 := Lib.hid hL3; clear ho3 hL3))
            go_roundw
            case rel =>
              exact ⟨b, _, by omega, by go_num, ((HO.out.trans HO1.out).trans HO2.out).trans HO3.out, HL3.out, (swapL_perm (by rw [HL.out.len]; omega) (by rw [HL.out.len]; omega)).trans HP.out, down_step HK.out (by rw [HL.out.len]; omega) (by omega) (by omega) (par_b HB.out) H4.out HM.out, fun i hi => (swap_far (n := n) (by omega) (by omega) (by rw [HL.out.len]; omega) hi).trans (HF.out i hi)⟩
            case measure => simp [intOf]; omega
          · have d4 : decide (at0 l' (b) < at0 l' k) = false := by simp; omega
            have H4 := Lib.hid h4
            clear h4
            go_wp2_with (first
              | (have _t := tok1; go_at_call 61; refine (less_free _ b a _ _ _ _ _ HL.out (by omega) (by omega)).mono ?_; rintro e w1 ⟨rfl, ho1, hL1⟩; have hm1 := method_less p w1 _ _ _ hL1.c; have HO1 := Lib.hid ho1; have HL1 := Lib.hid hL1; clear ho1 hL1; clear tok1)
              | (go_at_call 61; refine (less_free _ (b) k _ _ _ _ _ HL1.out (by omega) (by omega)).mono ?_; rintro e w2 ⟨rfl, ho2, hL2⟩; have hm2 := method_swap p w2 _ _ _ hL2.c; have HO2 := Lib.hid ho2; have HL2 := Lib.hid hL2; clear ho2 hL2)
              | (go_at_call 62; refine (swap_free _ k (b) _ _ _ _ _ HL2.out (by omega) (by omega)).mono ?_; rintro e w3 ⟨rfl, ho3, hL3⟩; have HO3 := Lib.hid ho3; have HL3 := Lib.hid hL3; clear ho3 hL3))
            go_ret
            exact ⟨_, rfl, l', (HO.out.trans HO1.out).trans HO2.out, HL2.out, HP.out, down_end HK.out (by have := H4.out; omega) HM.out, HF.out⟩
        · have HM := Lib.hid (min_of_left (n := n) HA.out HB.out h3)
          have d3 : decide (at0 l' b < at0 l' a) = false := by simp; omega
          clear h3
          have tok1 : True := trivial
          by_cases h4 : at0 l' (a) < at0 l' k
          · have d4 : decide (at0 l' (a) < at0 l' k) = true := by simp [h4]
            have H4 := Lib.hid h4
            clear h4
            go_wp2_with (first
              | (have _t := tok1; go_at_call 61; refine (less_free _ b a _ _ _ _ _ HL.out (by omega) (by omega)).mono ?_; rintro e w1 ⟨rfl, ho1, hL1⟩; have hm1 := method_less p w1 _ _ _ hL1.c; have HO1 := Lib.hid ho1; have HL1 := Lib.hid hL1; clear ho1 hL1; clear tok1)
              | (go_at_call 61; refine (less_free _ (a) k _ _ _ _ _ HL1.out (by omega) (by omega)).mono ?_; rintro e w2 ⟨rfl, ho2, hL2⟩; have hm2 := method_swap p w2 _ _ _ hL2.c; have HO2 := Lib.hid ho2; have HL2 := Lib.hid hL2; clear ho2 hL2)
              | (go_at_call 62; refine (swap_free _ k (a) _ _ _ _ _ HL2.out (by omega) (by omega)).mono ?_; rintro e w3 ⟨rfl, ho3, hL3⟩; have HO3 := Lib.hid ho3; have HL3 := Lib.hid hL3; clear ho3 hL3))
            go_roundw
            case rel =>
              exact ⟨a, _, by omega, by go_num, ((HO.out.trans HO1.out).trans HO2.out).trans HO3.out, HL3.out, (swapL_perm (by rw [HL.out.len]; omega) (by rw [HL.out.len]; omega)).trans HP.out, down_step HK.out (by rw [HL.out.len]; omega) (by omega) (by omega) (par_a HA.out) H4.out HM.out, fun i hi => (swap_far (n := n) (by omega) (by omega) (by rw [HL.out.len]; omega) hi).trans (HF.out i hi)⟩
            case measure => simp [intOf]; omega
          · have d4 : decide (at0 l' (a) < at0 l' k) = false := by simp; omega
            have H4 := Lib.hid h4
            clear h4
            go_wp2_with (first
              | (have _t := tok1; go_at_call 61; refine (less_free _ b a _ _ _ _ _ HL.out (by omega) (by omega)).mono ?_; rintro e w1 ⟨rfl, ho1, hL1⟩; have hm1 := method_less p w1 _ _ _ hL1.c; have HO1 := Lib.hid ho1; have HL1 := Lib.hid hL1; clear ho1 hL1; clear tok1)
              | (go_at_call 61; refine (less_free _ (a) k _ _ _ _ _ HL1.out (by omega) (by omega)).mono ?_; rintro e w2 ⟨rfl, ho2, hL2⟩; have hm2 := method_swap p w2 _ _ _ hL2.c; have HO2 := Lib.hid ho2; have HL2 := Lib.hid hL2; clear ho2 hL2)
              | (go_at_call 62; refine (swap_free _ k (a) _ _ _ _ _ HL2.out (by omega) (by omega)).mono ?_; rintro e w3 ⟨rfl, ho3, hL3⟩; have HO3 := Lib.hid ho3; have HL3 := Lib.hid hL3; clear ho3 hL3))
            go_ret
            exact ⟨_, rfl, l', (HO.out.trans HO1.out).trans HO2.out, HL2.out, HP.out, down_end HK.out (by have := H4.out; omega) HM.out, HF.out⟩
      · have HM := Lib.hid (min_of_only (l := l') (n := n) (k := k) HA.out (by have := HB.out; omega))
        by_cases h4 : at0 l' (a) < at0 l' k
        · have d4 : decide (at0 l' (a) < at0 l' k) = true := by simp [h4]
          have H4 := Lib.hid h4
          clear h4
          go_wp2_with (first
            | (go_at_call 61; refine (less_free _ (a) k _ _ _ _ _ HL.out (by omega) (by omega)).mono ?_; rintro e w2 ⟨rfl, ho2, hL2⟩; have hm2 := method_swap p w2 _ _ _ hL2.c; have HO2 := Lib.hid ho2; have HL2 := Lib.hid hL2; clear ho2 hL2)
            | (go_at_call 62; refine (swap_free _ k (a) _ _ _ _ _ HL2.out (by omega) (by omega)).mono ?_; rintro e w3 ⟨rfl, ho3, hL3⟩; have HO3 := Lib.hid ho3; have HL3 := Lib.hid hL3; clear ho3 hL3))
          go_roundw
          case rel =>
            exact ⟨a, _, by omega, by go_num, (HO.out.trans HO2.out).trans HO3.out, HL3.out, (swapL_perm (by rw [HL.out.len]; omega) (by rw [HL.out.len]; omega)).trans HP.out, down_step HK.out (by rw [HL.out.len]; omega) (by omega) (by omega) (par_a HA.out) H4.out HM.out, fun i hi => (swap_far (n := n) (by omega) (by omega) (by rw [HL.out.len]; omega) hi).trans (HF.out i hi)⟩
          case measure => simp [intOf]; omega
        · have d4 : decide (at0 l' (a) < at0 l' k) = false := by simp; omega
          have H4 := Lib.hid h4
          clear h4
          go_wp2_with (first
            | (go_at_call 61; refine (less_free _ (a) k _ _ _ _ _ HL.out (by omega) (by omega)).mono ?_; rintro e w2 ⟨rfl, ho2, hL2⟩; have hm2 := method_swap p w2 _ _ _ hL2.c; have HO2 := Lib.hid ho2; have HL2 := Lib.hid hL2; clear ho2 hL2)
            | (go_at_call 62; refine (swap_free _ k (a) _ _ _ _ _ HL2.out (by omega) (by omega)).mono ?_; rintro e w3 ⟨rfl, ho3, hL3⟩; have HO3 := Lib.hid ho3; have HL3 := Lib.hid hL3; clear ho3 hL3))
          go_ret
          exact ⟨_, rfl, l', HO.out.trans HO2.out, HL2.out, HP.out, down_end HK.out (by have := H4.out; omega) HM.out, HF.out⟩
end Go.Proofs.Ytcociipcimdjjaa
