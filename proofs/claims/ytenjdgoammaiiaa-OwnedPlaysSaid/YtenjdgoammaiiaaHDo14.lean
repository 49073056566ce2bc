/-
  Proved here: an operation done on both tells the same, and turns one map alone. Conditions: the contracts.
-/
import Derived.Test.YtenjdgoammaiiaaHActs14
import Derived.Deep.RegionHeld
import Derived.Lib.SliceRun
namespace Go.Proofs.Ytenjdgoammaiiaa
open Go.RowKit
set_option maxRecDepth 100000

theorem setCell_block {w w' : World} {g i : Nat} {v : Value} (h : w'.heap[g]? = w.heap[g]?) : (w'.setCell ⟨g, i, none⟩ v).heap[g]? = (w.setCell ⟨g, i, none⟩ v).heap[g]? := by
  simp only [World.setCell, Array.getElem?_modify]
  simp [h]
theorem put_same (x : MSt) (z : List Int) : (x.put z).kind = x.kind ∧ (x.put z).key = x.key ∧ (x.put z).val = x.val ∧ (x.put z).max = x.max := by
  cases x <;> exact ⟨rfl, rfl, rfl, rfl⟩
theorem rd_slot_out {w : World} {S : Nat → Prop} {O : Nat} {st : List MSt} (h : RD w S O st) {m k : Int} (hn : ¬ (0 ≤ m ∧ m < (st.length : Int) ∧ 0 ≤ k ∧ k < ((st.getD m.toNat .ring).max : Int))) : Calls Try.prog 31 #[ptrV O, .int .i64 m, .int .i64 k] w (fun e w' => e = .returned (.slice none 0 0) ∧ w' = w) := by
  obtain ⟨a, c, pv, Ss, h, hS⟩ := h
  by_cases hm : 0 ≤ m ∧ m < st.length
  · obtain ⟨q, rfl⟩ := Int.eq_ofNat_of_zero_le hm.1
    rw [Int.toNat_natCast] at hn
    refine (ow_slot_in h (q := q) (by omega) k).mono ?_
    rintro e w' ⟨v, rfl, rfl, hs, -⟩
    exact ⟨by rw [hs (by omega)], rfl⟩
  · exact (ow_slot_out h hm).mono fun e w' ⟨he, hw⟩ => ⟨he, hw.symm⟩
theorem rd_slot_in {w : World} {S : Nat → Prop} {O : Nat} {st : List MSt} (h : RD w S O st) {q k : Nat} (hq : q < st.length) (hk : k < (st.getD q .ring).max) : Calls Try.prog 31 #[ptrV O, .int .i64 (q : Int), .int .i64 (k : Int)] w (fun e w' => ∃ g C, e = .returned (.slice (some ⟨g, 0, none⟩) (st.getD q .ring).val C) ∧ w' = w ∧ S g ∧ Dim (st.getD q .ring).val (st.getD q .ring).max ((st.getD q .ring).val * (st.getD q .ring).max) ∧ (st.getD q .ring).zs.length = (st.getD q .ring).val * (st.getD q .ring).max ∧
    (∀ j, j < (st.getD q .ring).val → w.cell? ⟨g, j, none⟩ = some (.int .u8 ((st.getD q .ring).zs.getD (k * (st.getD q .ring).val + j) 0)) ∧ w.frozen? ⟨g, j, none⟩ = false) ∧
    ∀ j (c : Int) (wA : World), j < (st.getD q .ring).val → (∀ b, S b → wA.heap[b]? = w.heap[b]?) → RD (wA.setCell ⟨g, j, none⟩ (.int .u8 c)) S O (st.set q ((st.getD q .ring).put ((st.getD q .ring).zs.set (k * (st.getD q .ring).val + j) c)))) := by
  obtain ⟨a, c, pv, Ss, h, hS⟩ := h
  refine (ow_slot_in h hq (k : Int)).mono ?_
  rintro e w' ⟨v, rfl, rfl, -, hs⟩
  obtain ⟨g, C, rfl, hd, hz, hg, hc, hp⟩ := hs ⟨by omega, by omega⟩
  rw [Int.toNat_natCast] at hc hp
  refine ⟨g, C, rfl, rfl, (hS g).2 (.inr (.inr ⟨q, hq, hg⟩)), hd, hz, hc, fun j y wA hj he => ?_⟩
  have hA : Ow wA O a c pv Ss st := h.kept fun b hb => he b ((hS b).2 hb)
  obtain ⟨k1, k2, k3, k4⟩ := put_same (st.getD q .ring) ((st.getD q .ring).zs.set (k * (st.getD q .ring).val + j) y)
  have hx : DM (wA.setCell ⟨g, j, none⟩ (.int .u8 y)) (Ss q) (pv q).1 (pv q).2.1 (pv q).2.2 ((st.getD q .ring).put ((st.getD q .ring).zs.set (k * (st.getD q .ring).val + j) y)) := (hp j y hj).kept fun b hb => by
    by_cases e : b = g
    · subst e
      exact setCell_block (he b ((hS b).2 (.inr (.inr ⟨q, hq, hb⟩))))
    · rw [Below.heap_setCell _ _ _ _ e, Below.heap_setCell _ _ _ _ e]
      exact he b ((hS b).2 (.inr (.inr ⟨q, hq, hb⟩)))
  have ht := hA.turn hq (S2 := Ss q) hx k1 k2 k3 k4 ((Turned.refl _ wA).set (a := ⟨g, j, none⟩) hg _) (fun b hb => .inl hb)
  refine ⟨a, c, pv, _, ht, fun b => ?_⟩
  rw [hS b, List.length_set]
  unfold OwS
  refine or_congr Iff.rfl (or_congr Iff.rfl ⟨fun ⟨m, hm, hb⟩ => ⟨m, hm, ?_⟩, fun ⟨m, hm, hb⟩ => ⟨m, hm, ?_⟩⟩)
  · by_cases e : m = q
    · simp only [if_pos e]; rw [← e]; exact hb
    · simp only [if_neg e]; exact hb
  · by_cases e : m = q
    · simp only [if_pos e] at hb; rw [e]; exact hb
    · simp only [if_neg e] at hb; exact hb
theorem conv_empty (a : Option Addr) (c : Nat) (w : World) : (convert 32 9 (.slice a 0 c)).run Try.prog w = .ok (.string ⟨#[]⟩) w := by
  cases a <;> kernel_rfl
theorem neq_nil8 (w : World) (a : Option Addr) (n c : Nat) : (binOp .neq 32 (.slice a n c) (.slice none 0 0)).run Try.prog w = .ok (.bool a.isSome) w := by
  simp only [binOp]
  cases a <;> simp [Op.equal, Op.maxDepth, Lib.run_equalIn_slice_nil w 9999 32 5 _ n c 0 0 Try.underlying32]
/-- What Do gives. -/
def DoP (PS : OwMem) (W : World) (D S : Nat → Prop) (h O : Nat) (st : List MSt) (M : Int) (w : World) (e : Ending) (w' : World) : Prop := e = .returned (.bool true) ∧ ∃ D' S' st', K14 PS W w w' D S D' S' h O st' st' ∧ Part M st st'
set_option maxHeartbeats 4000000 in
theorem do_ok {PS : OwMem} {W w : World} {D S : Nat → Prop} {h O : Nat} {st : List MSt} {kd M : Int} {a1 a2 : Option Addr} {l1 l2 c1 c2 : Nat} {kz vz : List Int} {id gn fl K T C : Int} (A : Acts14 PS) (hp : PS w D h st) (hr : RD w S O st) (hb : Below W.heap.size W w) (hdW : ∀ b, D b → W.heap.size ≤ b) (hrW : ∀ b, S b → W.heap.size ≤ b) (hdR : ∀ b, D b → ¬ S b)
    (hk1 : KeyAt W (.slice a1 l1 c1) kz) (hb1 : IsBytes kz) (hk2 : KeyAt W (.slice a2 l2 c2) vz) (hl1 : kz.length ≤ 100) (hl2 : vz.length ≤ 100) (hkd : 0 ≤ kd ∧ kd ≤ 255) :
    Calls Try.prog 11 #[ptrV h, ptrV O, .agg #[.int .u8 kd, .int .i64 M, .slice a1 l1 c1, .slice a2 l2 c2, .int .i64 id, .int .i64 gn, .int .u64 fl, .int .i64 K, .int .i64 T, .int .u8 C]] w (DoP PS W D S h O st M w) := by
  have hb0 := box_below w (.cells #[.int .u8 kd, .int .i64 M, .slice a1 l1 c1, .slice a2 l2 c2, .int .i64 id, .int .i64 gn, .int .u64 fl, .int .i64 K, .int .i64 T, .int .u8 C] 37)
  have hkn : K14 PS W w w D S D S h O st st := ⟨hp, hr, hb, hdW, hrW, hdR, Turned.refl _ _, fun _ h => .inl h, fun _ h => .inl h⟩
  have hrd : R14 PS W w (w.alloc (.cells #[.int .u8 kd, .int .i64 M, .slice a1 l1 c1, .slice a2 l2 c2, .int .i64 id, .int .i64 gn, .int .u64 fl, .int .i64 K, .int .i64 T, .int .u8 C] 37)) D S D S h O st st w.heap.size kd M (.slice a1 l1 c1) (.slice a2 l2 c2) id gn fl K T C := by
    refine ⟨hkn.stay A hb0, ⟨by simp [go_sem], by simp [go_sem], by simp [go_sem], by simp [go_sem], by simp [go_sem], by simp [go_sem], by simp [go_sem], by simp [go_sem], by simp [go_sem], by simp [go_sem]⟩, fun hd => ?_, fun hs => ?_, by simp⟩
    · have := A.lt hp _ hd; omega
    · have := hr.lt _ hs; omega
  have HA := Lib.hid A
  have HK1 := Lib.hid (And.intro hk1 (And.intro hb1 hl1))
  have HK2 := Lib.hid (And.intro hk2 hl2)
  obtain ⟨W5, hW5⟩ : ∃ W5, w.alloc (.cells #[.int .u8 kd, .int .i64 M, .slice a1 l1 c1, .slice a2 l2 c2, .int .i64 id, .int .i64 gn, .int .u64 fl, .int .i64 K, .int .i64 T, .int .u8 C] 37) = W5 := ⟨_, rfl⟩
  obtain ⟨bx, hbx⟩ : ∃ bx, w.heap.size = bx := ⟨_, rfl⟩
  have hrd2 := hrd
  rw [hW5, hbx] at hrd2
  have HR := Lib.hid hrd2
  clear hp hr hb hdW hrW hdR hk1 hb1 hk2 hl1 hl2 hb0 hkn hrd hrd2 A
  unfold DoP ptrV
  go_enter Try.func11, Try.ntmps11
  go_upto_region 1 with fail
  clear hW5 hbx
  have y0 := HR.out.bo.c0
  by_cases m0 : (kd % 7 == 0) = true
  · go_upto_region 3 with fail
    obtain ⟨dr, hdr⟩ : ∃ dr, opR 22 (updM kz vz fl) st M = dr := ⟨_, rfl⟩
    have hpt : Part M st dr.2 := by rw [← hdr]; exact part_op
    have HPT := Lib.hid hpt
    have HDR := Lib.hid hdr
    obtain ⟨r, st2⟩ := dr
    clear hdr hpt
    have HR1 := Lib.hid (HR.out.stay HA.out (Below.refl _ _).drew)
    have Q1 := Lib.hid (And.intro HR1.out.bo.c1 (And.intro HR1.out.bo.c2 (And.intro HR1.out.bo.c3 HR1.out.bo.c6)))
    go_region_held (fun W => W.cell? ⟨bx, 1, none⟩ = some (.int .i64 M) ∧ W.cell? ⟨bx, 2, none⟩ = some (.slice a1 l1 c1) ∧ W.cell? ⟨bx, 3, none⟩ = some (.slice a2 l2 c2) ∧ W.cell? ⟨bx, 6, none⟩ = some (.int .u64 fl)) (first | with_reducible exact Q3.out | with_reducible exact Q2.out | exact Q1.out) (first
      | (go_at_call 14; refine (HA.out.update HR1.out.kn.p (HK1.out.1.stay rfl HR1.out.kn.b) HK1.out.2.1 (HK2.out.1.stay rfl HR1.out.kn.b) (off_new HK1.out.1 HR1.out.kn.dW) (off_new HK2.out.1 HR1.out.kn.dW) HK1.out.2.2 HK2.out.2).mono ?_; rintro e w6 ⟨D6, he, hp6, ht6, hd6⟩; rw [HDR.out] at he hp6; subst he; have HR6 := Lib.hid (HR1.out.prog ht6 hp6 hd6); have Q2 := Lib.hid (And.intro HR6.out.bo.c1 (And.intro HR6.out.bo.c2 (And.intro HR6.out.bo.c3 HR6.out.bo.c6))); clear hp6 ht6 hd6)
      | (go_at_call 24; refine (ow_update HR6.out.kn.r M (fl := fl) (HK1.out.1.stay rfl HR6.out.kn.b) HK1.out.2.1 (HK2.out.1.stay rfl HR6.out.kn.b) (off_new HK2.out.1 HR6.out.kn.rW)).mono ?_; rintro e w7 ⟨S7, he, hf7, ht7, hs7⟩; rw [HDR.out] at he hf7; subst he; have HR7 := Lib.hid (HR6.out.refs HA.out ht7 hf7 hs7); have Q3 := Lib.hid (And.intro HR7.out.bo.c1 (And.intro HR7.out.bo.c2 (And.intro HR7.out.bo.c3 HR7.out.bo.c6))); clear hf7 ht7 hs7))
    all_goals
      go_wp2
      go_ret
      exact ⟨rfl, D6, S7, st2, HR7.out.kn, HPT.out⟩
  · have m0f : (kd % 7 == 0) = false := by simpa using m0
    clear m0
    by_cases m1 : (kd % 7 == 1) = true
    · go_upto_region 5 with fail
      obtain ⟨dr, hdr⟩ : ∃ dr, opR 22 (delM kz) st M = dr := ⟨_, rfl⟩
      have hpt : Part M st dr.2 := by rw [← hdr]; exact part_op
      have HPT := Lib.hid hpt
      have HDR := Lib.hid hdr
      obtain ⟨r, st2⟩ := dr
      clear hdr hpt
      have HR1 := Lib.hid (HR.out.stay HA.out (Below.refl _ _).drew)
      have Q1 := Lib.hid (And.intro HR1.out.bo.c1 HR1.out.bo.c2)
      go_region_held (fun W => W.cell? ⟨bx, 1, none⟩ = some (.int .i64 M) ∧ W.cell? ⟨bx, 2, none⟩ = some (.slice a1 l1 c1)) (first | with_reducible exact Q3.out | with_reducible exact Q2.out | exact Q1.out) (first
        | (go_at_call 25; refine (HA.out.delete HR1.out.kn.p (HK1.out.1.stay rfl HR1.out.kn.b) HK1.out.2.1 (off_new HK1.out.1 HR1.out.kn.dW) HK1.out.2.2).mono ?_; rintro e w6 ⟨D6, he, hp6, ht6, hd6⟩; rw [HDR.out] at he hp6; subst he; have HR6 := Lib.hid (HR1.out.prog ht6 hp6 hd6); have Q2 := Lib.hid (And.intro HR6.out.bo.c1 HR6.out.bo.c2); clear hp6 ht6 hd6)
        | (go_at_call 26; refine (ow_delete HR6.out.kn.r M (HK1.out.1.stay rfl HR6.out.kn.b)).mono ?_; rintro e w7 ⟨S7, he, hf7, ht7, hs7⟩; rw [HDR.out] at he hf7; subst he; have HR7 := Lib.hid (HR6.out.refs HA.out ht7 hf7 hs7); have Q3 := Lib.hid (And.intro HR7.out.bo.c1 HR7.out.bo.c2); clear hf7 ht7 hs7))
      all_goals
        go_wp2
        go_ret
        exact ⟨rfl, D6, S7, st2, HR7.out.kn, HPT.out⟩
    · have m1f : (kd % 7 == 1) = false := by simpa using m1
      clear m1
      by_cases m23 : (kd % 7 == 2) = true ∨ (kd % 7 == 3) = true
      · have y1 := HR.out.bo.c1
        have y4 := HR.out.bo.c4
        have y5 := HR.out.bo.c5
        obtain ⟨cr, hcr⟩ : ∃ cr : Bool, (kd % 7 == 3) = cr := ⟨_, rfl⟩
        obtain ⟨dr, hdr⟩ : ∃ dr, opR (0, 22) (getM (id, gn) cr) st M = dr := ⟨_, rfl⟩
        have hpt : Part M st dr.2 := by rw [← hdr]; exact part_op
        have HPT := Lib.hid hpt
        have HDR := Lib.hid hdr
        obtain ⟨⟨r, r2⟩, st2⟩ := dr
        clear hdr hpt
        have e23 : (kd % 7 == 2) = true ∨ ((kd % 7 == 2) = false ∧ cr = true) := by
          rcases m23 with h1 | h1
          · exact .inl h1
          · refine .inr ⟨?_, by rw [← hcr]; exact h1⟩
            have : kd % 7 = 3 := by simpa using h1
            rw [this]; rfl
        clear m23
        rcases e23 with m2 | ⟨m2f, rfl⟩
        · go_wp2_with (first
            | (go_at_call 27; refine (HA.out.get (o := (id, gn)) (c := cr) HR.out.kn.p).mono ?_; rintro e w6 ⟨D6, he, hp6, ht6, hd6⟩; rw [HDR.out] at he hp6; subst he; have HR6 := Lib.hid (HR.out.prog ht6 hp6 hd6); have z0 := HR6.out.bo.c0; have z1 := HR6.out.bo.c1; have z4 := HR6.out.bo.c4; have z5 := HR6.out.bo.c5; clear hp6 ht6 hd6)
            | (go_at_call 28; refine (ow_get HR6.out.kn.r M (id, gn) cr).mono ?_; rintro e w7 ⟨S7, he, hf7, ht7, hs7⟩; rw [HDR.out] at he hf7; subst he; have HR7 := Lib.hid (HR6.out.refs HA.out ht7 hf7 hs7); clear hf7 ht7 hs7))
          go_ret
          exact ⟨rfl, D6, S7, st2, HR7.out.kn, HPT.out⟩
        · go_wp2_with (first
            | (go_at_call 27; refine (HA.out.get (o := (id, gn)) (c := true) HR.out.kn.p).mono ?_; rintro e w6 ⟨D6, he, hp6, ht6, hd6⟩; rw [HDR.out] at he hp6; subst he; have HR6 := Lib.hid (HR.out.prog ht6 hp6 hd6); have z0 := HR6.out.bo.c0; have z1 := HR6.out.bo.c1; have z4 := HR6.out.bo.c4; have z5 := HR6.out.bo.c5; clear hp6 ht6 hd6)
            | (go_at_call 28; refine (ow_get HR6.out.kn.r M (id, gn) true).mono ?_; rintro e w7 ⟨S7, he, hf7, ht7, hs7⟩; rw [HDR.out] at he hf7; subst he; have HR7 := Lib.hid (HR6.out.refs HA.out ht7 hf7 hs7); clear hf7 ht7 hs7))
          go_ret
          exact ⟨rfl, D6, S7, st2, HR7.out.kn, HPT.out⟩
      · have m2f : (kd % 7 == 2) = false := by
          cases e : (kd % 7 == 2)
          · rfl
          · exact absurd (.inl e) m23
        have m3f : (kd % 7 == 3) = false := by
          cases e : (kd % 7 == 3)
          · rfl
          · exact absurd (.inr e) m23
        clear m23
        by_cases m4 : (kd % 7 == 4) = true
        · go_upto_region 12 with fail
          obtain ⟨dr, hdr⟩ : ∃ dr, opR 22 (dropM (id, gn)) st M = dr := ⟨_, rfl⟩
          have hpt : Part M st dr.2 := by rw [← hdr]; exact part_op
          have HPT := Lib.hid hpt
          have HDR := Lib.hid hdr
          obtain ⟨r, st2⟩ := dr
          clear hdr hpt
          have HR1 := Lib.hid (HR.out.stay HA.out (Below.refl _ _).drew)
          have Q1 := Lib.hid (And.intro HR1.out.bo.c1 (And.intro HR1.out.bo.c4 HR1.out.bo.c5))
          go_region_held (fun W => W.cell? ⟨bx, 1, none⟩ = some (.int .i64 M) ∧ W.cell? ⟨bx, 4, none⟩ = some (.int .i64 id) ∧ W.cell? ⟨bx, 5, none⟩ = some (.int .i64 gn)) (first | with_reducible exact Q3.out | with_reducible exact Q2.out | exact Q1.out) (first
            | (go_at_call 29; refine (HA.out.drop (o := (id, gn)) HR1.out.kn.p).mono ?_; rintro e w6 ⟨D6, he, hp6, ht6, hd6⟩; rw [HDR.out] at he hp6; subst he; have HR6 := Lib.hid (HR1.out.prog ht6 hp6 hd6); have Q2 := Lib.hid (And.intro HR6.out.bo.c1 (And.intro HR6.out.bo.c4 HR6.out.bo.c5)); clear hp6 ht6 hd6)
            | (go_at_call 30; refine (ow_drop HR6.out.kn.r M (id, gn)).mono ?_; rintro e w7 ⟨S7, he, hf7, ht7, hs7⟩; rw [HDR.out] at he hf7; subst he; have HR7 := Lib.hid (HR6.out.refs HA.out ht7 hf7 hs7); have Q3 := Lib.hid (And.intro HR7.out.bo.c1 (And.intro HR7.out.bo.c4 HR7.out.bo.c5)); clear hf7 ht7 hs7))
          all_goals
            go_wp2
            go_ret
            exact ⟨rfl, D6, S7, st2, HR7.out.kn, HPT.out⟩
        · have m4f : (kd % 7 == 4) = false := by simpa using m4
          clear m4
          by_cases m5 : (kd % 7 == 5) = true
          · have y1 := HR.out.bo.c1
            have y7 := HR.out.bo.c7
            have hnn := fun (w : World) (a : Option Addr) (n c : Nat) => neq_nil8 w a n c
            by_cases hin : 0 ≤ M ∧ M < (st.length : Int) ∧ 0 ≤ K ∧ K < ((st.getD M.toNat .ring).max : Int)
            · obtain ⟨h1, h2, h3, h4⟩ := hin
              obtain ⟨q, rfl⟩ := Int.eq_ofNat_of_zero_le h1
              obtain ⟨k, rfl⟩ := Int.eq_ofNat_of_zero_le h3
              have hq : q < st.length := by omega
              rw [Int.toNat_natCast] at h4
              have hk : k < (st.getD q .ring).max := by omega
              have HQ := Lib.hid (And.intro hq hk)
              obtain ⟨x, hx⟩ : ∃ x, st.getD q .ring = x := ⟨_, rfl⟩
              obtain ⟨s, hs⟩ : ∃ s, x.val = s := ⟨_, rfl⟩
              have HX := Lib.hid (And.intro hx hs)
              clear h1 h2 h3 h4 hq hk hx hs
              go_upto_region 16 with (first
                | (go_at_call 13; refine (HA.out.slotIn HR.out.kn.p HQ.out.1 HQ.out.2).mono ?_; rintro e w6 ⟨g, o, C6, rfl, hb6, hg6, hc6⟩; rw [HX.out.1, HX.out.2] at hc6 ⊢; have HR6 := Lib.hid (HR.out.stay HA.out hb6); have z1 := HR6.out.bo.c1; have z7 := HR6.out.bo.c7; have HC6 := Lib.hid (And.intro hg6 hc6); clear hb6 hg6 hc6)
                | (go_at_call 31; refine (rd_slot_in HR6.out.kn.r HQ.out.1 HQ.out.2).mono ?_; rintro e w7 ⟨g7, C7, rfl, rfl, hg7, hd7, hz7, hc7, hp7⟩; rw [HX.out.1, HX.out.2] at hc7 hp7 hd7 hz7 ⊢; have HC7 := Lib.hid (And.intro hg7 (And.intro hd7 (And.intro hz7 (And.intro hc7 hp7)))); clear hg7 hd7 hz7 hc7 hp7))
              obtain ⟨hg6, hc6⟩ := HC6.out
              obtain ⟨hg7, hd7, hz7, hc7, hp7⟩ := HC7.out
              have hkm : k < x.max := by have := HQ.out.2; rw [HX.out.1] at this; exact this
              have hsl : (slotL x.zs s k).length = s := slotL_length hz7 (hd7.at hkm)
              have row1 : RowAt w7 g o s (slotL x.zs s k) := fun j hj => by rw [slotL_get hj]; exact (hc6 j hj).1
              have row2 : RowAt w7 g7 0 s (slotL x.zs s k) := fun j hj => by rw [slotL_get hj, Nat.zero_add]; exact (hc7 j hj).1
              have hcb := str_of (cap := C6) hsl row1
              have hcc := str_of (cap := C7) hsl row2
              generalize strOfNums (slotL x.zs s k) = str at hcb hcc
              have y8 := HR6.out.bo.c8
              have y9 := HR6.out.bo.c9
              have HGG := Lib.hid (fun e : g7 = g => HR6.out.kn.dR g hg6 (by rw [← e]; exact hg7))
              by_cases hT0 : 0 ≤ T
              · obtain ⟨t, rfl⟩ := Int.eq_ofNat_of_zero_le hT0
                by_cases hT1 : t < s
                · obtain ⟨e1, e2, e3⟩ := hc6 t hT1
                  obtain ⟨f1, f2⟩ := hc7 t hT1
                  have hA := HR6.out.prog (D' := D) ((Turned.refl D w7).set (a := ⟨g, o + t, none⟩) hg6 (.int .u8 C)) (e3 C) (fun b hb => .inl hb)
                  have u7 := hA.bo.c8
                  have u8 := hA.bo.c9
                  have f1A : (w7.setCell ⟨g, o + t, none⟩ (.int .u8 C)).cell? ⟨g7, t, none⟩ = some (.int .u8 (x.zs.getD (k * s + t) 0)) := by
                    rw [World.cell?_setCell_other _ _ _ _ (by intro e; injection e with e _ _; exact HGG.out e.symm)]
                    exact f1
                  have f2A : (w7.setCell ⟨g, o + t, none⟩ (.int .u8 C)).frozen? ⟨g7, t, none⟩ = false := by rw [World.frozen?_setCell]; exact f2
                  have hRD := hp7 t C (w7.setCell ⟨g, o + t, none⟩ (.int .u8 C)) hT1 (fun b hb => Below.heap_setCell _ _ _ _ (fun e => HR6.out.kn.dR g hg6 (by simp only at e; rw [← e]; exact hb)))
                  have hB := hA.kn.refs HA.out ((Turned.refl S _).set (a := ⟨g7, t, none⟩) hg7 (.int .u8 C)) hRD (fun b hb => .inl hb)
                  have HB := Lib.hid hB
                  have hpt : Part (q : Int) st (st.set q ((st.getD q .ring).put ((st.getD q .ring).zs.set (k * (st.getD q .ring).val + t) C))) := part_set HQ.out.1
                  rw [HX.out.1, HX.out.2] at hpt
                  have HPT := Lib.hid hpt
                  have hTs : (t : Int) < (s : Int) := by omega
                  clear hg6 hc6 hg7 hd7 hz7 hc7 hp7 hsl row1 row2 hA hRD hB hpt e3
                  go_wp2
                  go_ret
                  exact ⟨rfl, D, S, _, HB.out, HPT.out⟩
                · have hTs : (s : Int) ≤ (t : Int) := by omega
                  clear hg6 hc6 hg7 hd7 hz7 hc7 hp7 hsl row1 row2
                  go_wp2
                  go_ret
                  exact ⟨rfl, D, S, st, HR6.out.kn, Part.refl _ _⟩
              · have hTn : T < 0 := by omega
                clear hT0 hg6 hc6 hg7 hd7 hz7 hc7 hp7 hsl row1 row2
                go_wp2
                go_ret
                exact ⟨rfl, D, S, st, HR6.out.kn, Part.refl _ _⟩
            · have HNI := Lib.hid hin
              clear hin
              have hcv := fun w : World => conv_empty none 0 w
              by_cases hT0 : 0 ≤ T
              · go_wp2_with (first
                  | (go_at_call 13; refine (HA.out.slotOut HR.out.kn.p HNI.out).mono ?_; rintro e w6 ⟨rfl, hb6⟩; have HR6 := Lib.hid (HR.out.stay HA.out hb6); have z1 := HR6.out.bo.c1; have z7 := HR6.out.bo.c7; have z8 := HR6.out.bo.c8; clear hb6)
                  | (go_at_call 31; refine (rd_slot_out HR6.out.kn.r HNI.out).mono ?_; rintro e w7 ⟨rfl, rfl⟩))
                go_ret
                exact ⟨rfl, D, S, st, HR6.out.kn, Part.refl _ _⟩
              · have hTn : T < 0 := by omega
                clear hT0
                go_wp2_with (first
                  | (go_at_call 13; refine (HA.out.slotOut HR.out.kn.p HNI.out).mono ?_; rintro e w6 ⟨rfl, hb6⟩; have HR6 := Lib.hid (HR.out.stay HA.out hb6); have z1 := HR6.out.bo.c1; have z7 := HR6.out.bo.c7; have z8 := HR6.out.bo.c8; clear hb6)
                  | (go_at_call 31; refine (rd_slot_out HR6.out.kn.r HNI.out).mono ?_; rintro e w7 ⟨rfl, rfl⟩))
                go_ret
                exact ⟨rfl, D, S, st, HR6.out.kn, Part.refl _ _⟩
          · have m5f : (kd % 7 == 5) = false := by simpa using m5
            clear m5
            have y1 := HR.out.bo.c1
            have y2 := HR.out.bo.c2
            obtain ⟨lr, hlr⟩ : ∃ lr, lookR st M kz = lr := ⟨_, rfl⟩
            have HLR := Lib.hid hlr
            clear hlr
            by_cases hneg : lr < 0
            · have hd0 : decide (0 ≤ lr) = false := by simp; omega
              have HNG := Lib.hid (And.intro hneg hd0)
              go_wp2_with (first
                | (go_at_call 15; refine (HA.out.lookup HR.out.kn.p (HK1.out.1.stay rfl HR.out.kn.b) HK1.out.2.1 HK1.out.2.2).mono ?_; rintro e w6 ⟨he, hb6⟩; rw [HLR.out, if_pos HNG.out.1, HNG.out.2] at he; subst he; have HR6 := Lib.hid (HR.out.stay HA.out hb6); have z1 := HR6.out.bo.c1; have z2 := HR6.out.bo.c2; clear hb6)
                | (go_at_call 32; obtain ⟨a9, c9, pv9, Ss9, how9, hS9⟩ := HR6.out.kn.r; refine (ow_lookup how9 M (HK1.out.1.stay rfl HR6.out.kn.b) HK1.out.2.1).mono ?_; rintro e w7 ⟨he, hb7⟩; rw [HLR.out] at he; subst he; have HR7 := Lib.hid (HR6.out.stay HA.out hb7); clear hb7 how9 hS9))
              go_ret
              exact ⟨rfl, D, S, st, HR7.out.kn, Part.refl _ _⟩
            · have hpos : (0 : Int) ≤ lr := by omega
              have hd0 : decide (0 ≤ lr) = true := by simp; omega
              have HNG := Lib.hid (And.intro hneg hd0)
              clear hneg hd0
              go_wp2_with (first
                | (go_at_call 15; refine (HA.out.lookup HR.out.kn.p (HK1.out.1.stay rfl HR.out.kn.b) HK1.out.2.1 HK1.out.2.2).mono ?_; rintro e w6 ⟨he, hb6⟩; rw [HLR.out, if_neg HNG.out.1, HNG.out.2] at he; subst he; have HR6 := Lib.hid (HR.out.stay HA.out hb6); have z1 := HR6.out.bo.c1; have z2 := HR6.out.bo.c2; clear hb6)
                | (go_at_call 32; obtain ⟨a9, c9, pv9, Ss9, how9, hS9⟩ := HR6.out.kn.r; refine (ow_lookup how9 M (HK1.out.1.stay rfl HR6.out.kn.b) HK1.out.2.1).mono ?_; rintro e w7 ⟨he, hb7⟩; rw [HLR.out] at he; subst he; have HR7 := Lib.hid (HR6.out.stay HA.out hb7); clear hb7 how9 hS9))
              go_ret
              exact ⟨rfl, D, S, st, HR7.out.kn, Part.refl _ _⟩
end Go.Proofs.Ytenjdgoammaiiaa
