import Derived.Test.YthmibmofdmlgaaaGreatDoorHTable
/-
  Proved here: wordsByOpcodes of package asm makes a new map that has the table's words. Conditions: none.
-/
namespace Go.Proofs.YthmibmofdmlgaaaGreatDoor
open Go.RowKit

theorem opsL_len : ∀ k : Fin 12, decide ((opsL.getD k.val (0, [])).2.length ≤ 4) = true := by decide +kernel
theorem condL_len : ∀ k : Fin 11, decide ((condL.getD k.val (0, [])).2.length ≤ 4) = true := by decide +kernel
theorem new_cell (w : World) (o : Obj) : (w.alloc o).heap[w.heap.size]? = some o := (MapKept.heap_alloc w o).1
theorem cell_new (w : World) (l : List Value) (T i : Nat) (v : Value) (h : l[i]? = some v) : (w.alloc (.cells l.toArray T)).cell? ⟨w.heap.size, i, none⟩ = some v := by
  unfold World.cell?
  simp only [new_cell]
  simpa using h
theorem cell_alloc {w : World} {p : Addr} {v : Value} (h : w.cell? p = some v) (o : Obj) : (w.alloc o).cell? p = some v := stays (below_box w o) h
set_option maxRecDepth 100000 in
set_option maxHeartbeats 4000000 in
theorem table_made_n (w : World) : Calls Tryz.prog 18 #[] w fun e w' => e = .returned (.map (some w.heap.size)) ∧ ∃ n, n ≤ 610 ∧ Making w w' w.heap.size n (memT 256) := by
  obtain ⟨w1, w2, w3, w4, w5, w6, r1, r2, r3, r4, r5, r6, m6⟩ := base_made w
  have hmm := @run_makeMap Tryz.prog
  have k1 : ({ data := #[108, 100, 100, 119] } : ByteArray) = S [108, 100, 100, 119] := rfl
  have k2 : ({ data := #[110, 101, 103] } : ByteArray) = S [110, 101, 103] := rfl
  have k3 : ({ data := #[110, 101, 103, 51, 50] } : ByteArray) = S [110, 101, 103, 51, 50] := rfl
  have k4 : ({ data := #[106, 97] } : ByteArray) = S [106, 97] := rfl
  have k5 : ({ data := #[99, 97, 108, 108] } : ByteArray) = S [99, 97, 108, 108] := rfl
  have k6 : ({ data := #[101, 120, 105, 116] } : ByteArray) = S [101, 120, 105, 116] := rfl
  have M6 := Lib.hid m6
  clear m6
  go_enter Tryz.func18, Tryz.ntmps18
  go_wp2_with (go_at_call 37; refine (operations_row _).mono ?_; rintro e w' ⟨rfl, rfl⟩)
  clear k1 k2 k3 k4 k5 k6 r1 r2 r3 r4 r5 r6
  go_loopw [22] (fun i wr => ∃ k n : Nat, k ≤ 12 ∧ i = .int .i64 k ∧ n ≤ 6 + 4 * k ∧ Making w wr w.heap.size n (opT k) ∧ NamedAt wr w6.heap.size opsL ∧ w6.heap.size < wr.heap.size ∧ w.heap.size < w6.heap.size) (fun i _ => 12 - (intOf i).toNat)
  case atStart => exact ⟨0, 6, by omega, rfl, by omega, M6.out.alloc _, named_new _ _, by simp, M6.out.words.lt⟩
  case round =>
    obtain ⟨k, n, hk, rfl, hn, hmk, hna, hlt, hlt6⟩ := hrel
    by_cases hk12 : k < 12
    · obtain ⟨c0, c1⟩ := hna k hk12
      obtain ⟨⟨a0, a1⟩, a2, a3⟩ := of_decide_eq_true (opsL_bd ⟨k, hk12⟩)
      have hstep := opT_succ k hk12
      have hle := of_decide_eq_true (opsL_len ⟨k, hk12⟩)
      dsimp only at a0 a1 a2 a3 hle
      obtain ⟨⟨x, t⟩, ho⟩ : ∃ o, opsL.getD k (0, []) = o := ⟨_, rfl⟩
      rw [ho] at c0 c1 a0 a1 a2 a3 hle hstep
      dsimp only at c0 c1 a0 a1 a2 a3 hle
      have hsum : (S t).size + 2 ≤ 9223372036854775807 := by rw [S_size]; omega
      clear hle
      have hcat : S t ++ ({ data := #[51, 50] } : ByteArray) = S (t ++ [51, 50]) := S_right t [51, 50]
      have hb1 := hmk.words.lt
      have hW1 := Lib.hid ((hmk.alloc (.cells #[.int .u8 x, .string (S t)] 81)).alloc (.cells #[.int .u8 0, .int .u8 1] 74))
      have hP1 := parts_new (wr.alloc (.cells #[.int .u8 x, .string (S t)] 81)) [0, 1]
      have es : (wr.alloc (.cells #[.int .u8 x, .string (S t)] 81)).heap.size = wr.heap.size + 1 := by simp
      rw [es] at hP1
      have HP1 := Lib.hid hP1
      have d0 := Lib.hid (cell_alloc (cell_new wr [.int .u8 x, .string (S t)] 81 0 _ rfl) (.cells #[.int .u8 0, .int .u8 1] 74))
      have d1 := Lib.hid (cell_alloc (cell_new wr [.int .u8 x, .string (S t)] 81 1 _ rfl) (.cells #[.int .u8 0, .int .u8 1] 74))
      have HN := Lib.hid (((hna.grown (World.grownBy_alloc wr (.cells #[.int .u8 x, .string (S t)] 81) none) (by simp)).grown (World.grownBy_alloc _ (.cells #[.int .u8 0, .int .u8 1] 74) none) (by simp)))
      have HS := Lib.hid hstep
      clear es hP1 hstep hmk hna ho M6
      go_wp2_with (first
        | (go_at_call 38; refine (add_both _ _ n (opT k) _ t _ [0, 1] 2 2 hW1.out.words a0 a1 HP1.out rfl (by omega)).mono ?_; rintro e w2 ⟨rfl, hi1, hg1⟩; have e0 := hg1.cell d0.out (by simp; omega); have e1 := hg1.cell d1.out (by simp; omega); have HN2 := Lib.hid (HN.out.grown hg1 (by simp; omega)); have hM2 := hW1.out.put hi1 hg1; have hsz := hg1.size; simp at hsz; have HP2 := Lib.hid (parts_new w2 [0, 1]); have hW2 := Lib.hid (hM2.alloc (.cells #[.int .u8 0, .int .u8 1] 74)); clear hM2 hi1 hg1 hW1 HP1 HN d0 d1)
        | (go_at_call 38; refine (add_both _ _ (n + 2) _ _ (t ++ [51, 50]) _ [0, 1] 2 2 hW2.out.words a2 a3 HP2.out rfl (by omega)).mono ?_; rintro e w3 ⟨rfl, hi3, hg3⟩; have HN3 := Lib.hid ((HN2.out.grown (World.grownBy_alloc w2 (.cells #[.int .u8 0, .int .u8 1] 74) none) (by simp)).grown hg3 (by simp; omega)); have hsz3 := hg3.size; simp at hsz3; have HM3 := Lib.hid (hW2.out.put hi3 hg3); clear hi3 hg3 hW2 HP2 HN2))
      go_roundw
      case rel => exact ⟨k + 1, n + 4, by omega, by go_num, by omega, by rw [HS.out]; exact HM3.out, HN3.out, by omega, by omega⟩
      case measure => simp [intOf]; omega
    · have e12 : k = 12 := by omega
      subst e12
      obtain ⟨wo, rfl⟩ : ∃ wo : World, wo = wr := ⟨_, rfl⟩
      have hbw := hmk.words.lt
      have HM := Lib.hid hmk
      clear hmk hna M6
      go_wp2_with (go_at_call 39; refine (conditions_row _).mono ?_; rintro e w' ⟨rfl, rfl⟩)
      go_loopw [46] (fun i wr => ∃ j m : Nat, j ≤ 11 ∧ i = .int .i64 j ∧ m ≤ n + 4 * j ∧ Making w wr w.heap.size m (condT j) ∧ NamedAt wr wo.heap.size condL ∧ wo.heap.size < wr.heap.size) (fun i _ => 11 - (intOf i).toNat)
      case atStart => exact ⟨0, n, by omega, rfl, by omega, HM.out.alloc _, named_new _ _, by simp⟩
      case round =>
        obtain ⟨j, m, hj, rfl, hm, hmj, hna2, hlt2⟩ := hrel
        by_cases hj11 : j < 11
        · obtain ⟨c0, c1⟩ := hna2 j hj11
          obtain ⟨⟨a0, a1⟩, a2, a3⟩ := of_decide_eq_true (condL_bd ⟨j, hj11⟩)
          have hstep := condT_succ j hj11
          have hle := of_decide_eq_true (condL_len ⟨j, hj11⟩)
          dsimp only at a0 a1 a2 a3 hle
          obtain ⟨⟨x, t⟩, ho⟩ : ∃ o, condL.getD j (0, []) = o := ⟨_, rfl⟩
          rw [ho] at c0 c1 a0 a1 a2 a3 hle hstep
          dsimp only at c0 c1 a0 a1 a2 a3 hle
          have hsum : (S t).size + 2 ≤ 9223372036854775807 := by rw [S_size]; omega
          clear hle
          have hcat : S t ++ ({ data := #[51, 50] } : ByteArray) = S (t ++ [51, 50]) := S_right t [51, 50]
          have hb1 := hmj.words.lt
          have hW1 := Lib.hid ((hmj.alloc (.cells #[.int .u8 x, .string (S t)] 81)).alloc (.cells #[.int .u8 0, .int .u8 1, .int .u8 4] 74))
          have hP1 := parts_new (wr.alloc (.cells #[.int .u8 x, .string (S t)] 81)) [0, 1, 4]
          have es : (wr.alloc (.cells #[.int .u8 x, .string (S t)] 81)).heap.size = wr.heap.size + 1 := by simp
          rw [es] at hP1
          have HP1 := Lib.hid hP1
          have d0 := Lib.hid (cell_alloc (cell_new wr [.int .u8 x, .string (S t)] 81 0 _ rfl) (.cells #[.int .u8 0, .int .u8 1, .int .u8 4] 74))
          have d1 := Lib.hid (cell_alloc (cell_new wr [.int .u8 x, .string (S t)] 81 1 _ rfl) (.cells #[.int .u8 0, .int .u8 1, .int .u8 4] 74))
          have HN := Lib.hid (((hna2.grown (World.grownBy_alloc wr (.cells #[.int .u8 x, .string (S t)] 81) none) (by simp)).grown (World.grownBy_alloc _ (.cells #[.int .u8 0, .int .u8 1, .int .u8 4] 74) none) (by simp)))
          have HS := Lib.hid hstep
          clear es hP1 hstep hmj hna2 ho HM
          go_wp2_with (first
            | (go_at_call 38; refine (add_both _ _ m (condT j) _ t _ [0, 1, 4] 3 3 hW1.out.words a0 a1 HP1.out rfl (by omega)).mono ?_; rintro e w2 ⟨rfl, hi1, hg1⟩; have e0 := hg1.cell d0.out (by simp; omega); have e1 := hg1.cell d1.out (by simp; omega); have HN2 := Lib.hid (HN.out.grown hg1 (by simp; omega)); have hM2 := hW1.out.put hi1 hg1; have hsz := hg1.size; simp at hsz; have HP2 := Lib.hid (parts_new w2 [0, 1, 4]); have hW2 := Lib.hid (hM2.alloc (.cells #[.int .u8 0, .int .u8 1, .int .u8 4] 74)); clear hM2 hi1 hg1 hW1 HP1 HN d0 d1)
            | (go_at_call 38; refine (add_both _ _ (m + 2) _ _ (t ++ [51, 50]) _ [0, 1, 4] 3 3 hW2.out.words a2 a3 HP2.out rfl (by omega)).mono ?_; rintro e w3 ⟨rfl, hi3, hg3⟩; have HN3 := Lib.hid ((HN2.out.grown (World.grownBy_alloc w2 (.cells #[.int .u8 0, .int .u8 1, .int .u8 4] 74) none) (by simp)).grown hg3 (by simp; omega)); have hsz3 := hg3.size; simp at hsz3; have HM3 := Lib.hid (hW2.out.put hi3 hg3); clear hi3 hg3 hW2 HP2 HN2))
          go_roundw
          case rel => exact ⟨j + 1, m + 4, by omega, by go_num, by omega, by rw [HS.out]; exact HM3.out, HN3.out, by omega⟩
          case measure => simp [intOf]; omega
        · have e11 : j = 11 := by omega
          have E11 := Lib.hid e11
          clear e11
          obtain ⟨wp, rfl⟩ : ∃ wp : World, wp = wr := ⟨_, rfl⟩
          have HM2 := Lib.hid hmj
          clear hmj hna2 HM
          go_wp2
          go_loopw [68] (fun i wr => ∃ z p : Nat, z ≤ 256 ∧ i = .int .i64 z ∧ p ≤ m + 2 * z ∧ Making w wr w.heap.size p (memT z)) (fun i _ => 256 - (intOf i).toNat)
          case atStart => exact ⟨0, m, by omega, rfl, by omega, by have h := HM2.out; rw [E11.out] at h; exact h⟩
          case round =>
            obtain ⟨z, p, hz, rfl, hp, hmz⟩ := hrel
            by_cases hz256 : z < 256
            · have hw8 : IntKind.u8.wrap (z : Int) = z := by
                simp [IntKind.wrap, IntKind.bits, IntKind.signed]
                omega
              have HS := Lib.hid (memT_succ z)
              have HZ := Lib.hid hmz
              clear hmz HM2
              go_wp2_with (go_at_call 40; refine (add_mem _ _ p (memT z) _ HZ.out.words (by omega) (by omega) (by omega)).mono ?_; rintro e w2 ⟨rfl, hi1, hg1⟩; have HM3 := Lib.hid (HZ.out.put hi1 hg1); clear hi1 hg1 HZ)
              go_roundw
              case rel => exact ⟨z + 1, p + 2, by omega, by go_num, by omega, by rw [HS.out]; exact HM3.out⟩
              case measure => simp [intOf]; omega
            · have e256 : z = 256 := by omega
              have HZ := Lib.hid (e256 ▸ hmz)
              clear e256
              clear hmz HM2
              go_wp2
              go_ret
              exact ⟨rfl, p, by omega, HZ.out⟩
theorem table_made (w : World) : Calls Tryz.prog 18 #[] w fun e w' => e = .returned (.map (some w.heap.size)) ∧ ∃ n, Making w w' w.heap.size n (memT 256) :=
  (table_made_n w).mono fun _ _ ⟨h1, n, _, h2⟩ => ⟨h1, n, h2⟩
end Go.Proofs.YthmibmofdmlgaaaGreatDoor
