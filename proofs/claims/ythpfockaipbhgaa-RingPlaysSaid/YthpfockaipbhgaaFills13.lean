/-
  Proved here: the law RingFills returns true, over whatever memory of the program's ring keeps its contracts. Conditions: the contracts.
-/
import Derived.Test.YthpfockaipbhgaaAlive13
import Derived.Test.YthpfockaipbhgaaOpen
namespace Go.Proofs.Ythpfockaipbhgaa
open Go.RowKit

def rsF (n i : Nat) : List Rc := List.replicate i (newR 1 n)
theorem rsF_len (n i : Nat) : (rsF n i).length = i := by simp [rsF]
theorem used_rep (n : Nat) : ∀ i, usedR (rsF n i) = i * (n + 8)
  | 0 => by simp [rsF, usedR, usedT]
  | i + 1 => by
    unfold rsF
    rw [List.replicate_succ', used_push]
    have h := used_rep n i
    unfold rsF at h
    rw [h, Nat.add_mul]
    simp [usedN, newR, zeros_length]
    omega
theorem res_fit {n i : Nat} {room : Int} (h1 : 1 ≤ n) (h2 : n ≤ 32) (h : (((i + 1) * (n + 8) : Nat) : Int) ≤ room) : resR (rsF n i) room 1 n = ((i : Int), 0, rsF n (i + 1)) := by
  unfold resR
  rw [if_neg (by omega), used_rep, if_neg (by rw [Nat.add_mul] at h; push_cast at h ⊢; omega), rsF_len, Int.toNat_natCast]
  unfold rsF
  rw [List.replicate_succ']
theorem res_full {rs : List Rc} {n : Nat} {room : Int} (h1 : 1 ≤ n) (h2 : n ≤ 32) (h : room < (usedR rs : Int) + n + 8) : resR rs room 1 n = (-1, 1, rs) := by
  unfold resR
  rw [if_neg (by omega), if_pos (by omega)]
def endT (rs : List Rc) : Nat → List Rc
  | 0 => rs
  | k + 1 => endR (endT rs k) (k : Int) 2
theorem endT_len (rs : List Rc) : ∀ k, (endT rs k).length = rs.length
  | 0 => rfl
  | k + 1 => by show (endR (endT rs k) _ _).length = _; rw [end_len, endT_len rs k]
theorem endT_used (rs : List Rc) : ∀ k, usedR (endT rs k) = usedR rs
  | 0 => rfl
  | k + 1 => by show usedR (endR (endT rs k) _ _) = _; rw [used_end, endT_used rs k]
theorem endT_get {rs : List Rc} (h : ∀ j, j < rs.length → (rget rs j).gone = false ∧ (rget rs j).st = 0) : ∀ k, k ≤ rs.length → ∀ j, rget (endT rs k) j = if j < k then { rget rs j with st := 2 } else rget rs j
  | 0, _, j => by simp [endT]
  | k + 1, hk, j => by
    have ih := endT_get h k (by omega)
    have hg := ih k
    rw [if_neg (by omega)] at hg
    obtain ⟨q1, q2⟩ := h k (by omega)
    have hh : hasR (endT rs k) (k : Int) = true := by
      rw [hasR_nat (by rw [endT_len]; omega), hg, q1, q2]; rfl
    show rget (endR (endT rs k) (k : Int) 2) j = _
    rw [endR, if_pos hh, Int.toNat_natCast, setSt, rget_set (by rw [endT_len]; omega)]
    by_cases e : k = j
    · subst e; rw [if_pos rfl, if_pos (by omega), hg]
    · rw [if_neg e, ih j]
      by_cases e2 : j < k
      · rw [if_pos e2, if_pos (by omega)]
      · rw [if_neg e2, if_neg (by omega)]
theorem rsF_get {n i j : Nat} (h : j < i) : rget (rsF n i) j = newR 1 n := by
  unfold rget rsF
  rw [List.getD_eq_getElem?_getD, List.getElem?_replicate, if_pos h]
  rfl
theorem rsF_new {n i : Nat} : ∀ j, j < (rsF n i).length → (rget (rsF n i) j).gone = false ∧ (rget (rsF n i) j).st = 0 := fun j hj => by
  rw [rsF_len] at hj
  rw [rsF_get hj]
  exact ⟨rfl, rfl⟩
theorem endT_has {n i k : Nat} (h : k < i) : hasR (endT (rsF n i) k) (k : Int) = true := by
  rw [hasR_nat (by rw [endT_len, rsF_len]; exact h), endT_get rsF_new k (by rw [rsF_len]; omega), if_neg (by omega), rsF_get h]; rfl
theorem stop_none {rs : List Rc} (h : ∀ j, j < rs.length → hasR rs (j : Int) = false) : ∀ f k, k + f ≤ rs.length → stopT rs f k = k + f
  | 0, k, _ => rfl
  | f + 1, k, hk => by
    unfold stopT
    rw [h k (by omega), if_neg (by decide), stop_none h f (k + 1) (by omega)]
    omega
theorem audT_none {rs : List Rc} (h : ∀ j, isTold (rget rs j) = false) : ∀ k, audT rs k = []
  | 0 => rfl
  | k + 1 => by show audT rs k ++ _ = _; rw [audT_none h k, h k]; rfl
theorem goneT_gone {rs : List Rc} : ∀ k, k ≤ rs.length → ∀ j, j < k → (rget (goneT rs k) j).gone = true
  | 0, _, _, h => by omega
  | k + 1, hk, j, hj => by
    show (rget (setGone (goneT rs k) k) j).gone = true
    rw [setGone, rget_set (by rw [goneT_len]; omega)]
    by_cases e : k = j
    · subst e; rw [if_pos rfl]
    · rw [if_neg e]; exact goneT_gone k (by omega) j (by omega)
theorem used_none {rs : List Rc} : ∀ k, (∀ j, j < k → (rget rs j).gone = true) → usedT rs k = 0
  | 0, _ => rfl
  | k + 1, h => by
    show usedT rs k + usedN (rget rs k) = 0
    rw [used_none k (fun j hj => h j (by omega)), usedN, if_pos (h k (by omega))]
theorem fill_drain (n i : Nat) : ∃ ms, drainR (endT (rsF n i) i) = ([], ms) ∧ usedR ms = 0 ∧ ms.length = i := by
  have hl : (endT (rsF n i) i).length = i := by rw [endT_len, rsF_len]
  have hg := endT_get (rsF_new (n := n) (i := i)) i (by rw [rsF_len]; omega)
  have hst : ∀ j, j < i → rget (endT (rsF n i) i) j = { newR 1 n with st := 2 } := fun j hj => by rw [hg j, if_pos hj, rsF_get hj]
  have hk : drainK (endT (rsF n i) i) = i := by
    unfold drainK
    rw [stop_none (fun j hj => ?_) _ 0 (by omega), hl, Nat.zero_add]
    rw [hl] at hj
    rw [hasR_nat (by rw [hl]; exact hj), hst j hj]; rfl
  refine ⟨goneT (endT (rsF n i) i) i, ?_, ?_, by rw [goneT_len, hl]⟩
  · unfold drainR
    rw [hk, audT_none (fun j => ?_)]
    by_cases hj : j < i
    · rw [hst j hj]; rfl
    · rw [hg j, if_neg hj]
      unfold rget rsF
      rw [List.getD_eq_getElem?_getD, List.getElem?_eq_none (by simp; omega)]
      rfl
  · unfold usedR
    rw [goneT_len, hl]
    exact used_none i (goneT_gone i (by omega))
set_option maxRecDepth 100000 in
set_option maxHeartbeats 2000000 in
theorem fills_law {PS : RgMem} (ac : Acts13 PS) (a b c : Int) (M N K F : Nat) (w : World) (ha : 0 ≤ a ∧ a ≤ 255) (hb : 0 ≤ b ∧ b ≤ 255) (hc : 0 ≤ c ∧ c ≤ 255) (f1 : a + 1 = (M : Int)) (f2 : b % 32 + 1 = (N : Int)) (f3 : c % 9 = (K : Int)) (hF : F = M / (N + 8)) :
    Calls Try.prog 5 #[.int .u8 a, .int .u8 b, .int .u8 c] w (fun e w' => e = .returned (.bool true) ∧ Below w.heap.size w w') := by
  have hM : 1 ≤ M ∧ M ≤ 256 := by omega
  have hN : 1 ≤ N ∧ N ≤ 32 := by omega
  have hK : K ≤ 8 := by omega
  obtain ⟨hM1, hM2⟩ := hM
  obtain ⟨hN1, hN2⟩ := hN
  have hFM : F * (N + 8) ≤ M := by rw [hF]; exact Nat.div_mul_le_self _ _
  have hFM2 : M < (F + 1) * (N + 8) := by
    rw [hF]
    exact (Nat.div_lt_iff_lt_mul (by omega)).1 (Nat.lt_succ_self _)
  have hF9 : F ≤ 28 := by
    rcases Nat.lt_or_ge 28 F with h | h
    · have := Nat.mul_le_mul (show 29 ≤ F by omega) (show 9 ≤ N + 8 by omega)
      omega
    · exact h
  have htd : (M : Int).tdiv ((N : Int) + 8) = (F : Int) := by rw [hF]; rfl
  have hnz : ((N : Int) + 8 == 0) = false := by simp; omega
  have hnz2 : (N : Int) + 8 ≠ 0 := by omega
  have HFM := Lib.hid hFM
  have HFM2 := Lib.hid hFM2
  have HA := Lib.hid ac
  clear ac hFM hFM2 hF
  go_enter Try.func5, Try.ntmps5
  go_wp2_with (first
    | (go_at_call 6; refine (alive13 HA.out _).mono ?_; rintro e w1 ⟨rfl, hb1⟩; have HB1 := Lib.hid hb1; clear hb1)
    | (go_at_call 7; refine (HA.out.new (by omega)).mono ?_; rintro e w2 ⟨h, D2, rfl, hp2, hb2, hd2⟩; have X0 := Lib.hid (Ex.mk hp2 (HB1.out.trans (hb2.mono HB1.out.size)) (fun b hb => Nat.le_trans HB1.out.size (hd2 b hb))); clear hb2 hp2 hd2 HB1))
  go_loopw [12] (fun v wr => ∃ (k : Nat) (D : Nat → Prop), k ≤ F ∧ v = .int .i64 k ∧ Ex PS w wr D h M 0 (rsF N k)) (fun v _ => 29 - (intOf v).toNat)
  case atStart => exact ⟨0, D2, by omega, rfl, X0.out⟩
  case round =>
    obtain ⟨k, D, hk, rfl, hx⟩ := hrel
    have X := Lib.hid hx
    clear hx X0
    by_cases hlt : k < F
    · have hfit : (((k + 1) * (N + 8) : Nat) : Int) ≤ (M : Int) := by
        have h1 := Nat.mul_le_mul_right (N + 8) (show k + 1 ≤ F by omega)
        have h2 := HFM.out
        omega
      have hres := res_fit (i := k) hN1 hN2 hfit
      have HRES := Lib.hid hres
      clear hfit hres
      go_wp2_with (go_at_call 19; refine (HA.out.reserve X.out.p (by omega) (by omega) (by rw [rsF_len]; omega)).mono ?_; rintro e w3 ⟨D3, he, hp3, ht3, hd3⟩; rw [HRES.out] at he hp3; rw [resV_yes (by omega)] at he; subst he; have X3 : Hid (Ex PS w w3 D3 h M 0 (rsF N (k + 1))) := (X.out.next ht3 hp3 hd3); clear hp3 ht3 hd3)
      go_roundw
      case rel => exact ⟨k + 1, D3, by omega, by go_num, X3.out⟩
      case measure => simp [intOf]; omega
    · obtain rfl : k = F := by omega
      have hfull : ∀ rs : List Rc, usedR rs = k * (N + 8) → resR rs (M : Int) 1 N = (-1, 1, rs) := fun rs hu => res_full hN1 hN2 (by
        rw [hu]
        have h2 := HFM2.out
        rw [Nat.add_mul] at h2
        omega)
      have HFULL := Lib.hid hfull
      clear hfull
      go_wp2_with fail
      go_loopw [15] (fun v wr => ∃ (j : Nat) (D : Nat → Prop), j ≤ K ∧ v = .int .i64 j ∧ Ex PS w wr D h M j (rsF N k)) (fun v _ => 9 - (intOf v).toNat)
      case atStart => exact ⟨0, D, by omega, rfl, X.out⟩
      case round =>
        obtain ⟨j, D3, hj, rfl, hx⟩ := hrel
        have X3 := Lib.hid hx
        clear hx X
        by_cases hlt : j < K
        · have hres := HFULL.out (rsF N k) (used_rep N k)
          have HRES := Lib.hid hres
          clear hres
          go_wp2_with (first
            | (go_at_call 19; refine (HA.out.reserve X3.out.p (by omega) (by omega) (by rw [rsF_len]; omega)).mono ?_; rintro e w4 ⟨D4, he, hp4, ht4, hd4⟩; rw [HRES.out] at he hp4; rw [resV_no (by omega)] at he; subst he; have X4 : Hid (Ex PS w w4 D4 h M ((j : Int) + 1) (rsF N k)) := (X3.out.next ht4 hp4 hd4); clear hp4 ht4 hd4)
            | (go_at_call 23; refine (HA.out.drops X4.out.p).mono ?_; rintro e w5 ⟨rfl, hb5⟩; have X5 := Lib.hid (X4.out.stay HA.out hb5); clear hb5))
          go_roundw
          case rel => exact ⟨j + 1, D4, by omega, by go_num, X5.out⟩
          case measure => simp [intOf]; omega
        · obtain rfl : j = K := by omega
          go_wp2_with fail
          clear f3
          go_loopw [18] (fun v wr => ∃ (i : Nat) (D : Nat → Prop), i ≤ k ∧ v = .int .i64 i ∧ Ex PS w wr D h M j (endT (rsF N k) i)) (fun v _ => 29 - (intOf v).toNat)
          case atStart => exact ⟨0, D3, by omega, rfl, X3.out⟩
          case round =>
            obtain ⟨i, D5, hi, rfl, hx⟩ := hrel
            have X5 := Lib.hid hx
            clear hx X3
            by_cases hlt : i < k
            · have hh := endT_has (n := N) hlt
              have HH := Lib.hid hh
              clear hh
              go_wp2_with (go_at_call 13; refine (HA.out.discard X5.out.p).mono ?_; rintro e w6 ⟨D6, he, hp6, ht6, hd6⟩; rw [HH.out] at he; subst he; have X6 : Hid (Ex PS w w6 D6 h M j (endT (rsF N k) (i + 1))) := (X5.out.next ht6 hp6 hd6); clear hp6 ht6 hd6)
              go_roundw
              case rel => exact ⟨i + 1, D6, by omega, by go_num, X6.out⟩
              case measure => simp [intOf]; omega
            · obtain rfl : i = k := by omega
              have hres := HFULL.out (endT (rsF N i) i) (by rw [endT_used]; exact used_rep N i)
              have HRES := Lib.hid hres
              obtain ⟨ms, hd1, hd2, hd3⟩ := fill_drain N i
              have HDR := Lib.hid hd1
              have HML := Lib.hid hd3
              have hel : (endT (rsF N i) i).length = i := by rw [endT_len, rsF_len]
              have HEL := Lib.hid hel
              by_cases hpos : 0 < i
              · have hr2 : resR ms (M : Int) 1 N = ((ms.length : Int), 0, ms ++ [newR 1 N]) := by
                  unfold resR
                  have h1 := HFM.out
                  have h2 := Nat.mul_le_mul_right (N + 8) (show 1 ≤ i by omega)
                  rw [if_neg (by omega), hd2, if_neg (by omega), Int.toNat_natCast]
                have HR2 := Lib.hid hr2
                have hposI : (0 : Int) < (i : Int) := by omega
                clear hres hd1 hd2 hd3 hel hr2
                go_wp2_with (first
                  | (go_at_call 19; refine (HA.out.reserve X5.out.p (by omega) (by omega) (by rw [HEL.out]; omega)).mono ?_; rintro e w6 ⟨D6, he, hp6, ht6, hd6⟩; rw [HRES.out] at he hp6; rw [resV_no (by omega)] at he; subst he; have X6 : Hid (Ex PS w w6 D6 h M ((j : Int) + 1) (endT (rsF N i) i)) := (X5.out.next ht6 hp6 hd6); clear hp6 ht6 hd6 X5)
                  | (go_at_call 15; refine (HA.out.drain X6.out.p).mono ?_; rintro e w7 ⟨D7, a7, c7, he, -, hp7, ht7, hd7⟩; rw [HDR.out] at he hp7; subst he; have X7 := Lib.hid (X6.out.next ht7 hp7 hd7); clear hp7 ht7 hd7 X6)
                  | (go_at_call 19; refine (HA.out.reserve X7.out.p (by omega) (by omega) (by show ms.length + 1 ≤ 1000; rw [HML.out]; omega)).mono ?_; rintro e w8 ⟨D8, he, hp8, ht8, hd8⟩; rw [HR2.out] at he hp8; rw [resV_yes (by omega)] at he; subst he; have X8 := Lib.hid (X7.out.next ht8 hp8 hd8); clear hp8 ht8 hd8 X7))
                go_ret
                exact ⟨rfl, X8.out.b⟩
              · obtain rfl : i = 0 := by omega
                have hr2 : resR ms (M : Int) 1 N = (-1, 1, ms) := res_full hN1 hN2 (by
                  have h2 := HFM2.out
                  rw [hd2]
                  omega)
                have HR2 := Lib.hid hr2
                clear hres hd1 hd2 hd3 hel hr2
                go_wp2_with (first
                  | (go_at_call 19; refine (HA.out.reserve X5.out.p (by omega) (by omega) (by rw [HEL.out]; omega)).mono ?_; rintro e w6 ⟨D6, he, hp6, ht6, hd6⟩; rw [HRES.out] at he hp6; rw [resV_no (by omega)] at he; subst he; have X6 : Hid (Ex PS w w6 D6 h M ((j : Int) + 1) (endT (rsF N 0) 0)) := (X5.out.next ht6 hp6 hd6); clear hp6 ht6 hd6 X5)
                  | (go_at_call 15; refine (HA.out.drain X6.out.p).mono ?_; rintro e w7 ⟨D7, a7, c7, he, -, hp7, ht7, hd7⟩; rw [HDR.out] at he hp7; subst he; have X7 := Lib.hid (X6.out.next ht7 hp7 hd7); clear hp7 ht7 hd7 X6)
                  | (go_at_call 19; refine (HA.out.reserve X7.out.p (by omega) (by omega) (by show ms.length + 1 ≤ 1000; rw [HML.out]; omega)).mono ?_; rintro e w8 ⟨D8, he, hp8, ht8, hd8⟩; rw [HR2.out] at he hp8; rw [resV_no (by omega)] at he; subst he; have X8 := Lib.hid (X7.out.next ht8 hp8 hd8); clear hp8 ht8 hd8 X7))
                go_ret
                exact ⟨rfl, X8.out.b⟩
end Go.Proofs.Ythpfockaipbhgaa
