/-
  Proved here: what index and Lookup of the document's maps tell. Conditions: as each lemma says.
-/
import Derived.Test.YtenjdgoammaiiaaHOwK
namespace Go.Proofs.Ytenjdgoammaiiaa
open Go.RowKit
set_option maxRecDepth 100000

/-- An array's slot by its key; -1: none. -/
def idxA (n : Nat) (kz : List Int) : Int := if kz.length = 4 ∧ kz.getD 1 0 = 0 ∧ kz.getD 2 0 = 0 ∧ kz.getD 3 0 = 0 ∧ kz.getD 0 0 < n then kz.getD 0 0 else -1
theorem keyLen {w : World} {v : Value} {kz : List Int} (h : KeyAt w v kz) : ∃ a c, v = .slice a kz.length c := by
  cases h with
  | empty a c => exact ⟨a, c, rfl⟩
  | row g o l c kz hl hr hg => exact ⟨_, c, by rw [hl]⟩
/-- Bytes. -/
def IsBytes (kz : List Int) : Prop := ∀ j, 0 ≤ kz.getD j 0 ∧ kz.getD j 0 ≤ 255
section
variable {w w' : World} {O : Nat} {a : Option Addr} {c : Nat} {pv : Nat → Value × Value × Value} {Ss : Nat → Nat → Prop} {st : List MSt} {S : Nat → Prop}
set_option maxHeartbeats 2000000 in
theorem ow_index (h : Ow w O a c pv Ss st) {q s n : Nat} {zs : List Int} (hq : q < st.length) (hx : st.getD q .ring = .arr s n zs) {v : Value} {kz : List Int} (hv : KeyAt w v kz) (hb : IsBytes kz) :
    Calls Try.prog 51 #[ptrV O, .int .i64 (q : Int), v] w (fun e w' => e = .returned (.int .i64 (idxA n kz)) ∧ Below w.heap.size w w') := by
  have c0 := h.c0
  obtain ⟨g0, rfl, -, -, -, -, k4, -, -⟩ := h.row q hq
  have hdm := h.dm q hq
  rw [hx] at hdm
  generalize pv q = p at hdm k4
  obtain ⟨av, hv', lv⟩ := p
  simp only at hdm k4
  unfold ptrV at *
  cases hdm with
  | @arr R B cap s n gs cs zs hd ra hS =>
    have r1 := ra.r1
    have hn16 := hd.n1
    unfold ptrV at k4
    clear ra hS hx h hd
    by_cases hl : kz.length = 4
    · cases hv with
      | empty a' c' => simp at hl
      | row g off len c' kz hlen hr hg =>
        have hlen4 : len = 4 := by omega
        subst hlen4
        obtain ⟨b00, b01⟩ := hb 0
        obtain ⟨hb1, -⟩ := hb 1
        obtain ⟨hb2, -⟩ := hb 2
        obtain ⟨hb3, -⟩ := hb 3
        have x0 := hr 0 (by omega)
        have x1 := hr 1 (by omega)
        have x2 := hr 2 (by omega)
        have x3 := hr 3 (by omega)
        rw [Nat.add_zero] at x0
        unfold idxA
        generalize kz.getD 0 0 = y0 at x0 b00 b01 ⊢
        generalize kz.getD 1 0 = y1 at x1 hb1 ⊢
        generalize kz.getD 2 0 = y2 at x2 hb2 ⊢
        generalize kz.getD 3 0 = y3 at x3 hb3 ⊢
        have HB := Lib.hid hb
        have e0 : IntKind.i64.wrap y0 = y0 := IntWalk.i64_in _ (by omega)
        clear hr hb hg HB
        by_cases h1 : 0 < y1
        · rw [if_neg (by omega)]
          go_enter Try.func51, Try.ntmps51
          go_wp2
          go_quiet (fail)
          go_wp2
          go_ret
          exact ⟨rfl, bdrewN (Below.refl _ _) _⟩
        · obtain rfl : y1 = 0 := by omega
          by_cases h2 : 0 < y2
          · rw [if_neg (by omega)]
            go_enter Try.func51, Try.ntmps51
            go_wp2
            go_quiet (fail)
            go_wp2
            go_ret
            exact ⟨rfl, bdrewN (Below.refl _ _) _⟩
          · obtain rfl : y2 = 0 := by omega
            by_cases h3 : 0 < y3
            · rw [if_neg (by omega)]
              go_enter Try.func51, Try.ntmps51
              go_wp2
              go_quiet (fail)
              go_wp2
              go_ret
              exact ⟨rfl, bdrewN (Below.refl _ _) _⟩
            · obtain rfl : y3 = 0 := by omega
              by_cases h4 : y0 < (n : Int)
              · rw [if_pos ⟨hl, rfl, rfl, rfl, h4⟩]
                go_enter Try.func51, Try.ntmps51
                go_wp2
                go_quiet (fail)
                go_wp2
                go_ret
                exact ⟨rfl, bdrewN (Below.refl _ _) _⟩
              · rw [if_neg (by omega)]
                have h5 : (n : Int) ≤ y0 := by omega
                go_enter Try.func51, Try.ntmps51
                go_wp2
                go_quiet (fail)
                go_wp2
                go_ret
                exact ⟨rfl, bdrewN (Below.refl _ _) _⟩
    · obtain ⟨a', c', rfl⟩ := keyLen hv
      have hne : ((kz.length : Int) != 4) = true := by simp; omega
      unfold idxA
      rw [if_neg (fun e => hl e.1)]
      go_enter Try.func51, Try.ntmps51
      go_wp2
      go_quiet (fail)
      go_wp2
      go_ret
      exact ⟨rfl, bdrewN (Below.refl _ _) _⟩
/-- What Lookup tells; -1: none. -/
def lookM (kz : List Int) : MSt → Int
  | .arr _ n _ => idxA n kz
  | .hash key _ _ ks _ => if kz.length = key then findK ks (strOfNums kz) else -1
  | _ => -1
def lookR (st : List MSt) (m : Int) (kz : List Int) : Int := if 0 ≤ m ∧ m < st.length then lookM kz (st.getD m.toNat .ring) else -1
theorem lookR_in {st : List MSt} {q : Nat} {x : MSt} (hq : q < st.length) (hx : st.getD q .ring = x) (kz : List Int) : lookR st q kz = lookM kz x := by
  unfold lookR
  rw [if_pos (by omega), Int.toNat_natCast, hx]
theorem ow_lookup (h : Ow w O a c pv Ss st) (m : Int) {v : Value} {kz : List Int} (hv : KeyAt w v kz) (hb : IsBytes kz) :
    Calls Try.prog 32 #[ptrV O, .int .i64 m, v] w (fun e w' => e = .returned (.int .i64 (lookR st m kz)) ∧ Below w.heap.size w w') := by
  have HK := Lib.hid (ow_kind h m)
  by_cases hm : 0 ≤ m ∧ m < st.length
  · obtain ⟨q, rfl⟩ := Int.eq_ofNat_of_zero_le hm.1
    have hq : q < st.length := by omega
    rw [kindV_in hq] at HK
    have c0 := h.c0
    obtain ⟨g, rfl, -, -, -, -, -, k5, -⟩ := h.row q hq
    have hdm := h.dm q hq
    obtain ⟨x, hx⟩ : ∃ x, st.getD q .ring = x := ⟨_, rfl⟩
    rw [lookR_in hq hx]
    rw [hx] at hdm HK
    generalize hpv : pv q = p at hdm k5
    obtain ⟨av, hv', lv⟩ := p
    simp only at hdm k5
    obtain ⟨ak, ck, rfl⟩ := keyLen hv
    cases hdm with
    | @arr R B cap s n gs cs zs hd ra hS =>
      have HI := Lib.hid (ow_index h hq hx hv hb)
      rw [show ((MSt.arr s n zs).kind : Int) = 1 from rfl] at HK
      clear h hx hd ra hS
      unfold Ret ptrV at *
      unfold lookM
      go_enter Try.func32, Try.ntmps32
      go_wp2_with (first
        | (go_at_call 50; refine HK.out.mono ?_; rintro e w1 ⟨rfl, rfl⟩)
        | (go_at_call 51; refine HI.out.mono ?_; rintro e w1 ⟨rfl, hb1⟩))
      go_ret
      exact ⟨rfl, hb1⟩
    | @hash H K R B cap key s n gs ks zs hd hk hk8 hf hS =>
      have HI := Lib.hid (find_any H K R B cap key s n (s * n) gs ks zs _ kz w hf hd.n1 hd.n0 hk hv)
      rw [show ((MSt.hash key s n ks zs).kind : Int) = 2 from rfl] at HK
      clear h hx hd hf hS
      unfold Ret FindPost ptrV at *
      unfold lookM
      obtain ⟨r, hr⟩ : ∃ r, (if kz.length = key then findK ks (strOfNums kz) else -1) = r := ⟨_, rfl⟩
      rw [hr] at HI
      simp only [hr]
      clear hr
      go_enter Try.func32, Try.ntmps32
      go_wp2_with (first
        | (go_at_call 50; refine HK.out.mono ?_; rintro e w1 ⟨rfl, rfl⟩)
        | (go_at_call 59; refine HI.out.mono ?_; rintro e w1 ⟨rfl, hb1⟩))
      go_ret
      exact ⟨rfl, hb1⟩
    | @loc H R B cap kd s n kv gs os zs hd hk lf hS =>
      have hk' : (kd : Int) = 3 ∨ (kd : Int) = 4 := by omega
      rw [show ((MSt.loc kd s n os zs).kind : Int) = (kd : Int) from rfl] at HK
      generalize (kd : Int) = kI at HK hk'
      clear h hx hd lf hS hk
      unfold Ret ptrV at *
      unfold lookM
      rcases hk' with rfl | rfl
      · go_enter Try.func32, Try.ntmps32
        go_wp2_with (go_at_call 50; refine HK.out.mono ?_; rintro e w1 ⟨rfl, rfl⟩)
        go_ret
        exact ⟨rfl, Below.refl _ _⟩
      · go_enter Try.func32, Try.ntmps32
        go_wp2_with (go_at_call 50; refine HK.out.mono ?_; rintro e w1 ⟨rfl, rfl⟩)
        go_ret
        exact ⟨rfl, Below.refl _ _⟩
    | ring hS =>
      rw [show ((MSt.ring).kind : Int) = 5 from rfl] at HK
      clear h hx
      unfold Ret ptrV at *
      unfold lookM
      go_enter Try.func32, Try.ntmps32
      go_wp2_with (go_at_call 50; refine HK.out.mono ?_; rintro e w1 ⟨rfl, rfl⟩)
      go_ret
      exact ⟨rfl, Below.refl _ _⟩
  · rw [kindV_out hm] at HK
    unfold lookR
    rw [if_neg hm]
    clear h
    unfold Ret ptrV at *
    go_enter Try.func32, Try.ntmps32
    go_wp2_with (go_at_call 50; refine HK.out.mono ?_; rintro e w1 ⟨rfl, rfl⟩)
    go_ret
    exact ⟨rfl, Below.refl _ _⟩
end
end Go.Proofs.Ytenjdgoammaiiaa
