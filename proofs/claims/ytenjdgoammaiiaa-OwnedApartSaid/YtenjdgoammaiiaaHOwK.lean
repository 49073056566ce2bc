/-
  Proved here: what Kind, slots, Slot, index and Lookup of the document's maps tell. Conditions: as each lemma says.
-/
import Derived.Test.YtenjdgoammaiiaaHOw
import Derived.Deep.QuietTactic
import Derived.BigQuiet
namespace Go.Proofs.Ytenjdgoammaiiaa
open Go.RowKit
set_option maxRecDepth 100000

def kindV (st : List MSt) (m : Int) : Int := if 0 ≤ m ∧ m < st.length then ((st.getD m.toNat .ring).kind : Int) else 0
theorem kindV_in {st : List MSt} {q : Nat} (hq : q < st.length) : kindV st (q : Int) = ((st.getD q .ring).kind : Int) := by
  unfold kindV
  rw [if_pos (by omega), Int.toNat_natCast]
theorem kindV_out {st : List MSt} {m : Int} (h : ¬ (0 ≤ m ∧ m < st.length)) : kindV st m = 0 := if_neg h
section
variable {w w' : World} {O : Nat} {a : Option Addr} {c : Nat} {pv : Nat → Value × Value × Value} {Ss : Nat → Nat → Prop} {st : List MSt} {S : Nat → Prop}
theorem ow_kind (h : Ow w O a c pv Ss st) (m : Int) : Calls Try.prog 50 #[ptrV O, .int .i64 m] w (Ret (.int .i64 (kindV st m)) w) := by
  have c0 := h.c0
  unfold Ret ptrV
  by_cases h1 : m < 0
  · rw [kindV_out (by omega)]
    clear h
    go_enter Try.func50, Try.ntmps50
    go_wp2
    go_ret
    exact ⟨rfl, rfl⟩
  · obtain ⟨q, rfl⟩ := Int.eq_ofNat_of_zero_le (show 0 ≤ m by omega)
    by_cases h2 : q < st.length
    · rw [kindV_in h2]
      obtain ⟨g, rfl, k0, -⟩ := h.row q h2
      generalize (st.getD q .ring).kind = kd at k0 ⊢
      clear h
      go_enter Try.func50, Try.ntmps50
      go_wp2
      go_ret
      exact ⟨rfl, rfl⟩
    · rw [kindV_out (by omega)]
      have h3 : (st.length : Int) ≤ q := by omega
      clear h
      go_enter Try.func50, Try.ntmps50
      go_wp2
      go_ret
      exact ⟨rfl, rfl⟩
theorem Ra.put1 {R B cap s n k j : Nat} {gs cs : Nat → Nat} {zs : List Int} (h : Ra w R B cap s n gs cs zs) (hd : Dim s n (s * n)) (hk : k < n) (hj : j < s) (y : Int) : Ra (w.setCell ⟨gs k, j, none⟩ (.int .u8 y)) R B cap s n gs cs (zs.set (k * s + j) y) := by
  have eb : ∀ b, b ≠ gs k → (w.setCell ⟨gs k, j, none⟩ (.int .u8 y)).heap[b]? = w.heap[b]? := fun b hb => Below.heap_setCell _ _ _ _ hb
  have eR := eb R (fun e => h.neR k hk e.symm)
  have eB := eb B (fun e => h.neB k hk e.symm)
  have hat := hd.at hk
  have hl := h.len
  refine ⟨(World.cell?_of_block (w := w) eR).trans h.r0, (World.cell?_of_block (w := w) eR).trans h.r1, fun i hi => (World.cell?_of_block (w := w) eB).trans (h.rows i hi), fun i t hi ht => ?_, fun i t hi => by rw [World.frozen?_setCell]; exact h.free i t hi, fun t => by rw [World.frozen?_setCell]; exact h.fB t, by simp [hl], h.inj, h.neR, h.neB, h.RB⟩
  by_cases e : i = k
  · subst e
    rw [cell_set (h.row i t hi ht), set_get (by omega)]
    by_cases e2 : j = t
    · rw [if_pos e2, if_pos (by omega)]
    · rw [if_neg e2, if_neg (by omega)]
  · rw [World.cell?_of_block (w := w) (a := ⟨gs i, t, none⟩) (eb (gs i) (fun e2 => e (h.inj i k hi hk e2))), h.row i t hi ht, set_get (by omega), if_neg]
    intro e3
    have h1 : (k * s + j) / s = k := place_div hj
    have h2 : (i * s + t) / s = i := place_div ht
    rw [e3, h2] at h1
    exact e h1
/-- The slots of a map. -/
def slotsOf (st : List MSt) (m : Int) : Option (Nat × Nat × List Int) := if 0 ≤ m ∧ m < st.length then
  (match st.getD m.toNat .ring with
  | .ring => none
  | x => some (x.val, x.max, x.zs)) else none
def SlotsR (w : World) (Sm : Nat → Prop) (p : Value × Value × Value) (x : MSt) (v : Value) : Prop := (x = .ring → v = .slice none 0 0) ∧ (x ≠ .ring → ∃ B cap gs cs, v = .slice (some ⟨B, 0, none⟩) x.max cap ∧ Dim x.val x.max (x.val * x.max) ∧ SlV w B cap x.val x.max gs cs x.zs ∧ Sm B ∧ (∀ k, k < x.max → Sm (gs k)) ∧
  ∀ k j (c : Int), k < x.max → j < x.val → DM (w.setCell ⟨gs k, j, none⟩ (.int .u8 c)) Sm p.1 p.2.1 p.2.2 (x.put (x.zs.set (k * x.val + j) c)))
theorem ow_slots_out (h : Ow w O a c pv Ss st) {m : Int} (hm : ¬ (0 ≤ m ∧ m < st.length)) : Calls Try.prog 33 #[ptrV O, .int .i64 m] w (Ret (.slice none 0 0) w) := by
  have HK := Lib.hid (ow_kind h m)
  rw [kindV_out hm] at HK
  clear h
  unfold Ret ptrV at *
  go_enter Try.func33, Try.ntmps33
  go_wp2_with (go_at_call 50; refine HK.out.mono ?_; rintro e w1 ⟨rfl, rfl⟩)
  go_ret
  exact ⟨rfl, rfl⟩
theorem ow_slots_in (h : Ow w O a c pv Ss st) {q : Nat} (hq : q < st.length) : Calls Try.prog 33 #[ptrV O, .int .i64 (q : Int)] w (fun e w' => ∃ v, e = .returned v ∧ w' = w ∧ SlotsR w (Ss q) (pv q) (st.getD q .ring) v) := by
  have HK := Lib.hid (ow_kind h q)
  rw [kindV_in hq] at HK
  have c0 := h.c0
  obtain ⟨g, rfl, k0, -, -, -, k4, k5, k6⟩ := h.row q hq
  have hdm := h.dm q hq
  clear h
  generalize st.getD q .ring = x at HK hdm k0 ⊢
  generalize hpv : pv q = p at hdm k4 k5 k6 ⊢
  obtain ⟨av, hv, lv⟩ := p
  simp only at hdm k4 k5 k6
  unfold Ret ptrV at *
  cases hdm with
  | @arr R B cap s n gs cs zs hd ra hS =>
    have r1 := ra.r1
    have HV := Lib.hid ra.view
    have HP := Lib.hid (fun k j (y : Int) (hk : k < n) (hj : j < s) => DM.arr (S := Ss q) hd (ra.put1 hd hk hj y) hS)
    have HD := Lib.hid hd
    have HS := Lib.hid hS
    rw [show ((MSt.arr s n zs).kind : Int) = 1 from rfl] at HK
    unfold ptrV at k4
    clear ra hd hS k0 k5 k6
    go_enter Try.func33, Try.ntmps33
    go_wp2_with (go_at_call 50; refine HK.out.mono ?_; rintro e w1 ⟨rfl, rfl⟩)
    go_ret
    exact ⟨_, rfl, rfl, (fun e => by cases e), fun _ => ⟨B, cap, gs, cs, rfl, HD.out, HV.out, (HS.out B).2 (.inr (.inl rfl)), fun k hk => (HS.out _).2 (.inr (.inr ⟨k, hk, rfl⟩)), fun k j y hk hj => HP.out k j y hk hj⟩⟩
  | @hash H K R B cap key s n gs ks zs hd hk hk8 hf hS =>
    have r0 := hf.h2
    have r1 := hf.rf.r1
    have HV := Lib.hid hf.rf.view
    have HP := Lib.hid (fun k j (y : Int) (hk2 : k < n) (hj : j < s) => DM.hash (S := Ss q) hd hk hk8 (hf.putA (y := y) hk2 hj (hd.at hk2)) hS)
    have HD := Lib.hid hd
    have HS := Lib.hid hS
    rw [show ((MSt.hash key s n ks zs).kind : Int) = 2 from rfl] at HK
    unfold ptrV at k5
    clear hf hd hS k0 k4 k6
    go_enter Try.func33, Try.ntmps33
    go_wp2_with (go_at_call 50; refine HK.out.mono ?_; rintro e w1 ⟨rfl, rfl⟩)
    go_ret
    exact ⟨_, rfl, rfl, (fun e => by cases e), fun _ => ⟨B, cap, gs, _, rfl, HD.out, HV.out, (HS.out B).2 (.inr (.inr (.inr (.inl rfl)))), fun k hk => (HS.out _).2 (.inr (.inr (.inr (.inr ⟨k, hk, rfl⟩)))), fun k j y hk hj => HP.out k j y hk hj⟩⟩
  | @loc H R B cap kd s n kv gs os zs hd hk lf hS =>
    have r0 := lf.h1
    have r1 := lf.rf.r1
    have HV := Lib.hid lf.rf.view
    have HP := Lib.hid (fun k j (y : Int) (hk2 : k < n) (hj : j < s) => DM.loc (S := Ss q) hd hk (lf.put (c := y) hd hk2 hj) hS)
    have HD := Lib.hid hd
    have HS := Lib.hid hS
    unfold ptrV at k6
    clear lf hd hS k0 k4 k5
    rcases hk with rfl | rfl
    · rw [show ((MSt.loc 3 s n os zs).kind : Int) = 3 from rfl] at HK
      go_enter Try.func33, Try.ntmps33
      go_wp2_with (go_at_call 50; refine HK.out.mono ?_; rintro e w1 ⟨rfl, rfl⟩)
      go_ret
      exact ⟨_, rfl, rfl, (fun e => by cases e), fun _ => ⟨B, cap, gs, _, rfl, HD.out, HV.out, (HS.out B).2 (.inr (.inr (.inl rfl))), fun k hk => (HS.out _).2 (.inr (.inr (.inr (.inr ⟨k, hk, rfl⟩)))), fun k j y hk hj => HP.out k j y hk hj⟩⟩
    · rw [show ((MSt.loc 4 s n os zs).kind : Int) = 4 from rfl] at HK
      go_enter Try.func33, Try.ntmps33
      go_wp2_with (go_at_call 50; refine HK.out.mono ?_; rintro e w1 ⟨rfl, rfl⟩)
      go_ret
      exact ⟨_, rfl, rfl, (fun e => by cases e), fun _ => ⟨B, cap, gs, _, rfl, HD.out, HV.out, (HS.out B).2 (.inr (.inr (.inl rfl))), fun k hk => (HS.out _).2 (.inr (.inr (.inr (.inr ⟨k, hk, rfl⟩)))), fun k j y hk hj => HP.out k j y hk hj⟩⟩
  | ring hS =>
    rw [show ((MSt.ring).kind : Int) = 5 from rfl] at HK
    clear k0 k4 k5 k6
    go_enter Try.func33, Try.ntmps33
    go_wp2_with (go_at_call 50; refine HK.out.mono ?_; rintro e w1 ⟨rfl, rfl⟩)
    go_ret
    exact ⟨_, rfl, rfl, (fun _ => rfl), fun e => absurd rfl e⟩
theorem ow_slot_out (h : Ow w O a c pv Ss st) {m k : Int} (hm : ¬ (0 ≤ m ∧ m < st.length)) : Calls Try.prog 31 #[ptrV O, .int .i64 m, .int .i64 k] w (Ret (.slice none 0 0) w) := by
  have HK := Lib.hid (ow_slots_out h hm)
  clear h
  unfold Ret ptrV at *
  by_cases h1 : k < 0
  · go_enter Try.func31, Try.ntmps31
    go_wp2_with (go_at_call 33; refine HK.out.mono ?_; rintro e w1 ⟨rfl, rfl⟩)
    go_ret
    exact ⟨rfl, rfl⟩
  · have h2 : (0 : Int) ≤ k := by omega
    go_enter Try.func31, Try.ntmps31
    go_wp2_with (go_at_call 33; refine HK.out.mono ?_; rintro e w1 ⟨rfl, rfl⟩)
    go_ret
    exact ⟨rfl, rfl⟩
/-- A slot's bytes themselves, of a map that there is. -/
def SlotR (w : World) (Sm : Nat → Prop) (p : Value × Value × Value) (x : MSt) (k : Int) (v : Value) : Prop :=
  (¬ (0 ≤ k ∧ k < x.max) → v = .slice none 0 0) ∧ (0 ≤ k ∧ k < x.max → ∃ g C, v = .slice (some ⟨g, 0, none⟩) x.val C ∧ Dim x.val x.max (x.val * x.max) ∧ x.zs.length = x.val * x.max ∧ Sm g ∧ (∀ j, j < x.val → w.cell? ⟨g, j, none⟩ = some (.int .u8 (x.zs.getD (k.toNat * x.val + j) 0)) ∧ w.frozen? ⟨g, j, none⟩ = false) ∧
    ∀ j (c : Int), j < x.val → DM (w.setCell ⟨g, j, none⟩ (.int .u8 c)) Sm p.1 p.2.1 p.2.2 (x.put (x.zs.set (k.toNat * x.val + j) c)))
theorem ow_slot_in (h : Ow w O a c pv Ss st) {q : Nat} (hq : q < st.length) (k : Int) : Calls Try.prog 31 #[ptrV O, .int .i64 (q : Int), .int .i64 k] w (fun e w' => ∃ v, e = .returned v ∧ w' = w ∧ SlotR w (Ss q) (pv q) (st.getD q .ring) k v) := by
  have HK := Lib.hid (ow_slots_in h hq)
  clear h
  generalize st.getD q .ring = x at HK ⊢
  unfold ptrV at *
  by_cases hr : x = .ring
  · have hmx : x.max = 0 := by rw [hr]; rfl
    have HR := Lib.hid hr
    have HMX := Lib.hid hmx
    clear hr hmx
    by_cases h1 : k < 0
    · go_enter Try.func31, Try.ntmps31
      go_wp2_with (go_at_call 33; refine HK.out.mono ?_; rintro e w1 ⟨v, rfl, rfl, hs⟩; obtain rfl := hs.1 HR.out; clear hs)
      go_ret
      exact ⟨_, rfl, rfl, fun _ => rfl, fun e => by have := HMX.out; omega⟩
    · have h2 : (0 : Int) ≤ k := by omega
      go_enter Try.func31, Try.ntmps31
      go_wp2_with (go_at_call 33; refine HK.out.mono ?_; rintro e w1 ⟨v, rfl, rfl, hs⟩; obtain rfl := hs.1 HR.out; clear hs)
      go_ret
      exact ⟨_, rfl, rfl, fun _ => rfl, fun e => by have := HMX.out; omega⟩
  · have HR := Lib.hid hr
    clear hr
    obtain ⟨n, hn⟩ : ∃ n, x.max = n := ⟨_, rfl⟩
    have HN := Lib.hid hn
    clear hn
    by_cases h1 : k < 0
    · go_enter Try.func31, Try.ntmps31
      go_wp2_with (go_at_call 33; refine HK.out.mono ?_; rintro e w1 ⟨v, rfl, rfl, hs⟩; obtain ⟨B, cap, gs, cs, rfl, -⟩ := hs.2 HR.out; rw [HN.out]; clear hs)
      go_ret
      exact ⟨_, rfl, rfl, fun _ => rfl, fun e => by omega⟩
    · obtain ⟨i, rfl⟩ := Int.eq_ofNat_of_zero_le (show 0 ≤ k by omega)
      by_cases h3 : i < n
      · have HI := Lib.hid h3
        obtain ⟨s, hs0⟩ : ∃ s, x.val = s := ⟨_, rfl⟩
        have HSV := Lib.hid hs0
        clear hs0
        go_enter Try.func31, Try.ntmps31
        go_wp2_with (go_at_call 33; refine HK.out.mono ?_; rintro e w1 ⟨v, rfl, rfl, hs⟩; obtain ⟨B, cap, gs, cs, rfl, hd, hv, hB, hg, hp⟩ := hs.2 HR.out; rw [HN.out]; have HDV := Lib.hid (And.intro hd (And.intro hv (And.intro hg hp))); have c1 := hv.rows i (by rw [HN.out]; exact HI.out); rw [HSV.out] at c1; clear hs hd hv hB hg hp)
        go_ret
        obtain ⟨hd, hv, hg, hp⟩ := HDV.out
        have hi : i < x.max := by rw [HN.out]; exact HI.out
        refine ⟨_, rfl, rfl, fun e => absurd ⟨by omega, by omega⟩ e, fun _ => ⟨gs i, cs i, by rw [HSV.out]; rfl, hd, hv.len, hg i hi, fun j hj => ⟨?_, hv.free i j hi⟩, fun j y hj => ?_⟩⟩
        · rw [Int.toNat_natCast]; exact hv.row i j hi hj
        · rw [Int.toNat_natCast]; exact hp i j y hi hj
      · have h4 : (n : Int) ≤ (i : Int) := by omega
        go_enter Try.func31, Try.ntmps31
        go_wp2_with (go_at_call 33; refine HK.out.mono ?_; rintro e w1 ⟨v, rfl, rfl, hs⟩; obtain ⟨B, cap, gs, cs, rfl, -⟩ := hs.2 HR.out; rw [HN.out]; clear hs)
        go_ret
        exact ⟨_, rfl, rfl, fun _ => rfl, fun e => by have := HN.out; omega⟩
end
end Go.Proofs.Ytenjdgoammaiiaa
