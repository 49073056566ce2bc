/-
  Proved here: Reserve of the document's rings, walked. Conditions: as each says.
-/
import Derived.Test.YthpfockaipbhgaaRgRes
namespace Go.Proofs.Ythpfockaipbhgaa
open Go.RowKit

theorem usedT_le {rs : List Rc} (h : ∀ i, i < rs.length → (rget rs i).b.length ≤ 32) : ∀ k, k ≤ rs.length → usedT rs k ≤ k * 40
  | 0, _ => by simp [usedT]
  | k + 1, hk => by
    have h1 := usedT_le h k (by omega)
    have h2 := h k (by omega)
    show usedT rs k + usedN (rget rs k) ≤ _
    unfold usedN
    split <;> omega
/-- What reserving answers, how many drops more, what the records are then. -/
theorem bdrewN {B : Nat} {a w : World} (h : Below B a w) (n : Nat) : Below B a (w.drewN n) := h.trans ⟨rfl, rfl, rfl, Nat.le_refl _, fun _ _ => rfl⟩
theorem ret_same {P : Program} {F : Nat} {args : Array Value} {v : Value} {w : World} (h : Calls P F args w (Ret v w)) : Calls P F args w (fun e w' => e = .returned v ∧ w' = w) := h.mono fun _ _ ⟨h1, h2⟩ => ⟨h1, h2.symm⟩
def resR (rs : List Rc) (room o n : Int) : Int × Int × List Rc :=
  if ¬ (1 ≤ n ∧ n ≤ 32) then (-1, 0, rs) else if usedR rs + n + 8 > room then (-1, 1, rs) else (rs.length, 0, rs ++ [newR o n.toNat])
def ResP (S : Nat → Prop) (H : Nat) (room drops : Int) (r : Int × Int × List Rc) (W : World) (e : Ending) (w : World) : Prop :=
  ∃ S', e = .returned (.int .i64 r.1) ∧ DR w S' H room (drops + r.2.1) r.2.2 ∧ Turned S W w ∧ ∀ b, S' b → S b ∨ W.heap.size ≤ b
theorem make_any (s : Nat) (h : s ≤ 1000) : ∀ w : World, (Instr.makeSlice 36 (.int .i64 s) (.int .i64 s)).run Try.prog w = .ok (.slice (some ⟨w.heap.size, 0, none⟩) s s) (w.alloc (.cells (u8s (zeros s)).toArray 5)) := fun w => make_u8 w s h
theorem Rg.drops {w : World} {H : Nat} {room drops d : Int} {kv : Value} {gs : Nat → Nat} {rs : List Rc} (h : Rg w H room drops kv gs rs) : Rg (w.setCell ⟨H, 1, none⟩ (.int .i64 d)) H room d kv gs rs := by
  have eb : ∀ b, b ≠ H → (w.setCell ⟨H, 1, none⟩ (.int .i64 d)).heap[b]? = w.heap[b]? := fun b hb => Below.heap_setCell w ⟨H, 1, none⟩ _ b hb
  obtain ⟨xs, hx, hc⟩ := h.row
  refine ⟨?_, World.cell?_setCell_same _ _ _ h.h1, ?_, fun j => ?_, ⟨xs, own_kept hx (fun b hb => eb b (fun e => h.hk (by rw [← e]; exact hb))), hc⟩, h.hk, h.kg, h.Hg, h.gi, fun i hi j hj => ?_, fun i hi j => ?_, h.len, h.le⟩
  · rw [World.cell?_setCell_other _ _ _ _ (by simp)]; exact h.h0
  · rw [World.cell?_setCell_other _ _ _ _ (by simp)]; exact h.h2
  · rw [World.frozen?_setCell]; exact h.fH j
  · exact (World.cell?_of_block (w := w) (a := ⟨gs i, 0 + j, none⟩) (eb _ (h.Hg i hi))).trans (h.data i hi j hj)
  · exact (World.frozen?_of_block (w := w) (a := ⟨gs i, j, none⟩) (eb _ (h.Hg i hi))).trans (h.free i hi j)
attribute [local go_sem ↓] append_veil
set_option maxRecDepth 100000 in
set_option maxHeartbeats 1000000 in
theorem rg_reserve {w : World} {S : Nat → Prop} {H : Nat} {room drops : Int} {rs : List Rc} (h : DR w S H room drops rs) (hdr : 0 ≤ drops ∧ drops ≤ 100000) (hrm : 0 ≤ room ∧ room ≤ 256) (hle : rs.length + 1 ≤ 1000) (o n : Int) :
    Calls Try.prog 20 #[.pointer (some ⟨H, 0, none⟩), .int .i64 o, .int .i64 n] w (ResP S H room drops (resR rs room o n) w) := by
  by_cases hn : 1 ≤ n ∧ n ≤ 32
  · obtain ⟨n1, n2⟩ := hn
    obtain ⟨m, rfl⟩ := Int.eq_ofNat_of_zero_le (show 0 ≤ n by omega)
    have hm1 : 1 ≤ m := by omega
    have hm2 : m ≤ 32 := by omega
    obtain ⟨kv, gs, h, hS⟩ := h
    have hu := usedT_le (fun i hi => (h.len i hi).2) rs.length (Nat.le_refl _)
    obtain ⟨u, hue⟩ : ∃ u, usedR rs = u := ⟨_, rfl⟩
    have hu2 : u ≤ 40000 := by rw [← hue]; unfold usedR; omega
    have HU := Lib.hid hue
    have HG := Lib.hid (h.stay (Below.refl _ _).drew)
    have HSS := Lib.hid hS
    have hus : ∀ k, Calls Try.prog 30 #[.pointer (some ⟨H, 0, none⟩)] (w.drewN k) (Ret (.int .i64 u) (w.drewN k)) := fun k => by
      have := rg_used (h.stay (bdrewN (Below.refl _ _) k))
      rwa [hue] at this
    have HUS := Lib.hid hus
    clear hus
    have c0 := h.h0
    have c1 := h.h1
    have f1 := h.fH 1
    have d0 := HG.out.h0
    have HST := Lib.hid (fun k => h.stay (bdrewN (Below.refl _ _) k) : ∀ k, Rg (w.drewN k) H room drops kv gs rs)
    have HT0 := Lib.hid (fun k => Turned.of (bdrewN (Below.refl _ _) k) : ∀ k, Turned S w (w.drewN k))
    by_cases hr : (room : Int) < u + m + 8
    · have hres : resR rs room o m = (-1, 1, rs) := by
        unfold resR
        rw [if_neg (by omega), if_pos (by rw [HU.out]; omega)]
      rw [hres]
      clear h hS hue hres
      go_enter Try.func20, Try.ntmps20
      go_wp2
      go_quiet ((go_at_call 30; exact Calls.quiet_of_same (ret_same (HUS.out _))))
      go_wp2
      go_ret
      exact ⟨S, rfl, ⟨_, _, (HST.out nq).drops, HSS.out⟩, (HT0.out nq).set (a := ⟨H, 1, none⟩) (.inl ((HSS.out _).2 (.inl rfl))) _, fun b hb => .inl hb⟩
    · have hres : resR rs room o m = ((rs.length : Int), 0, rs ++ [newR o m]) := by
        unfold resR
        rw [if_neg (by omega), if_neg (by rw [HU.out]; omega), Int.toNat_natCast]
      rw [hres]
      have hr2 : u + m + 8 ≤ room := by omega
      have hmk := make_any m (by omega)
      obtain ⟨N, hN⟩ : ∃ N, rs.length = N := ⟨_, rfl⟩
      have HN := Lib.hid hN
      have HLE := Lib.hid hle
      rw [hN] at hle
      clear h hS hue hres hr hN
      go_enter Try.func20, Try.ntmps20
      go_wp2
      go_quiet ((go_at_call 30; exact Calls.quiet_of_same (ret_same (HUS.out _))))
      have HG2 := HST.out nq
      have HT2 := HT0.out nq
      clear c0 c1 f1 d0
      obtain ⟨W0, hW0⟩ : ∃ W0, w.drewN nq = W0 := ⟨_, rfl⟩
      rw [hW0] at HG2 HT2 ⊢
      have k0 := HG2.h2
      have hHl : H < W0.heap.size := cell_block_lt k0
      obtain ⟨a2, c2, W3, hrun, hc3, hf3, hrg, htu, hbl⟩ := rg_push HG2 o m hm1 hm2 HLE.out
      have hca : (W0.alloc (.cells (u8s (zeros m)).toArray 5)).cell? ⟨H, 2, none⟩ = some kv := by rw [World.cell?_alloc_lt _ _ _ hHl]; exact k0
      have hcb : ((W0.alloc (.cells (u8s (zeros m)).toArray 5)).alloc (.cells #[.int .i64 o, .int .i64 0, .slice (some ⟨W0.heap.size, 0, none⟩) m m, .bool false] 46)).cell? ⟨H, 2, none⟩ = some kv := by rw [World.cell?_alloc_lt _ _ _ (by simp; omega)]; exact hca
      have h23 := hrg.h2
      have HRG := Lib.hid hrg
      have HTU := Lib.hid htu
      have HBL := Lib.hid hbl
      have HT3 := Lib.hid HT2
      rw [HN.out] at hrun h23 HRG HTU HBL
      clear HG2 HT2 hrg htu hbl hHl hW0
      go_wp2
      go_region
      all_goals
        go_wp2
        go_ret
        refine ⟨_, by rw [HN.out]; rfl, ⟨_, _, by simp only [Int.add_zero]; exact HRG.out, fun b => Iff.rfl⟩, HT3.out.trans (HTU.out.more (fun b hb => (HSS.out b).2 (by rw [HN.out]; exact hb))), fun b hb => ?_⟩
        have hb2 : RgS H (.slice a2 (N + 1) c2) (fun j => if j = N then W0.heap.size else gs j) (N + 1) b := by
          have e : (rs ++ [newR o m]).length = N + 1 := by rw [List.length_append, HN.out]; rfl
          rw [e] at hb
          exact hb
        rcases HBL.out b hb2 with h1 | h1
        · exact .inl ((HSS.out b).2 (by rw [HN.out]; exact h1))
        · exact .inr (Nat.le_trans HT3.out.size h1)
  · have hres : resR rs room o n = (-1, 0, rs) := by
      unfold resR
      rw [if_pos hn]
    rw [hres]
    by_cases n1 : 1 ≤ n
    · have n2 : 32 < n := by omega
      clear hn hres
      go_enter Try.func20, Try.ntmps20
      go_wp2
      go_ret
      exact ⟨S, rfl, by rw [Int.add_zero]; exact h, Turned.refl S w, fun b hb => .inl hb⟩
    · clear hn hres
      go_enter Try.func20, Try.ntmps20
      go_wp2
      go_ret
      exact ⟨S, rfl, by rw [Int.add_zero]; exact h, Turned.refl S w, fun b hb => .inl hb⟩
end Go.Proofs.Ythpfockaipbhgaa
