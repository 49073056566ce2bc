/-
  Proved here: Bytes of the program's rings. Conditions: as each lemma says.
-/
import Derived.Test.YthpfockaipbhgaaPmU
namespace Go.Proofs.Ythpfockaipbhgaa
open Go.RowKit

theorem nums_new (W : World) (zs : List Int) (f : Nat × Nat) : ∀ j u, (u8s zs)[j]? = some u → (W.alloc (.cells (u8s zs).toArray 5 f)).drew.cell? ((⟨W.heap.size, 0, none⟩ : Addr).add j) = some u := by
  intro j u hu
  have hn : (W.alloc (.cells (u8s zs).toArray 5 f)).drew.heap[W.heap.size]? = some (.cells (u8s zs).toArray 5 f) := heap_alloc_new W _
  rw [add_lit, Nat.zero_add]
  unfold World.cell?
  simp only [hn]
  simpa using hu
theorem by_push {W W1 : World} {v : Value} {xs : List Int} (h : Hb W W1 v xs) (hl : xs.length ≤ 40000) (y0 y1 y2 y3 : Int) :
    ∃ v' W3, (appendV #[36, 36] 36 #[v, .slice (some ⟨W1.heap.size, 0, none⟩) 4 4]).run Try.prog (W1.alloc (.cells #[.int .u8 y0, .int .u8 y1, .int .u8 y2, .int .u8 y3] 5)).drew = .ok v' W3 ∧ Hb W W3 v' (xs ++ [y0, y1, y2, y3]) ∧ ∀ k, k < W1.heap.size → some k ≠ v.ownBlock → W3.heap[k]? = W1.heap[k]? := by
  obtain ⟨i0, hi0, hz0, hz1, hz2⟩ := info_parts u8_info
  have hs := h.b.size
  obtain ⟨v', W3, hrun, hown3, hgr, -, -⟩ := run_append_own_at (P := Try.prog) (W1.alloc (.cells #[.int .u8 y0, .int .u8 y1, .int .u8 y2, .int .u8 y3] 5)).drew W.heap.size 36 36 5 i0 _ 1 1 Try.underlying36 hi0 hz0 hz1 hz2 rfl (by omega) v xs.length (u8s xs) (h.own.alloc _).drew
    ⟨W1.heap.size, 0, none⟩ 4 4 (u8s [y0, y1, y2, y3]) rfl (nums_new W1 [y0, y1, y2, y3] (0, 0)) u8s_one (by unfold maxLen; omega) (by omega) (by simp [World.drew]; omega)
  have hk : ∀ k, k < W1.heap.size → some k ≠ v.ownBlock → W3.heap[k]? = W1.heap[k]? := fun k hk hn => by
    rw [hgr.block k (by simp [World.drew]; omega) hn]
    exact Below.heap_alloc W1 _ _ (by omega)
  refine ⟨v', W3, hrun, ⟨by rw [List.length_append]; simpa [u8s] using hown3, ?_⟩, hk⟩
  have hz3 : W1.heap.size ≤ W3.heap.size := Nat.le_trans (by simp [World.drew]) hgr.size
  exact ⟨hgr.os.trans h.b.os, hgr.tape.trans h.b.tape, hgr.output.trans h.b.output, Nat.le_trans hs hz3, fun k hk2 => (hk k (by omega) (fun e => by have := (h.own.lt k e.symm).1; omega)).trans (h.b.block k hk2)⟩
section
variable {w w' : World} {h g : Nat} {room drops : Int} {kv : Value} {ds : Nat → Nat} {ls : List Rc}
attribute [local go_sem ↓] append_veil
set_option maxRecDepth 100000 in
set_option maxHeartbeats 2000000 in
theorem pr_bytes (H : Pr w h room drops g kv ds ls) : Calls Try.prog 10 #[.pointer (some ⟨h, 0, none⟩)] w (BytesP (bytesL g ls ls.length) w) := by
  obtain ⟨a, c, rfl, -⟩ := H.shape
  have c3 := H.h3
  have hle := H.le
  have HBL := Lib.hid (bytesL_len (g := g) (fun i hi => (H.len i hi).2))
  obtain ⟨m, hm⟩ : ∃ m, ls.length = m := ⟨_, rfl⟩
  have HP := Lib.hid H
  rw [hm] at c3 hle HP HBL ⊢
  have HM := Lib.hid hm
  obtain ⟨i0, hi0, hz0, hz1, hz2⟩ := info_parts u8_info
  have HI := Lib.hid (And.intro hi0 (And.intro hz0 (And.intro hz1 hz2)))
  clear H hm hi0 hz0 hz1 hz2
  go_enter Try.func10, Try.ntmps10
  go_wp2
  go_loopw [3, 13] (fun s v wr => ∃ k : Nat, k ≤ m ∧ v = .int .i64 k ∧ Hb w wr s (bytesL g ls k)) (fun _ v _ => 1001 - (intOf v).toNat)
  case atStart => exact ⟨0, by omega, rfl, ⟨World.ownsRow_nil _ _ _ _, Below.refl _ _⟩⟩
  case round =>
    obtain ⟨k, hk, rfl, hhm⟩ := hrel
    have HHM := Lib.hid hhm
    have HW := Lib.hid (HP.out.stay hhm.b)
    clear hhm
    by_cases hlt : k < m
    · have hrow := HW.out.lv
      obtain ⟨b, rfl, -, -, hcs⟩ := hrow.at_ (by rw [HM.out]; omega)
      obtain ⟨d0, d1, d2⟩ := hcs k (by rw [HM.out]; omega)
      have hdata := HW.out.data k (by rw [HM.out]; omega)
      have hl := HW.out.len k (by rw [HM.out]; omega)
      have hln := HBL.out k (by omega)
      obtain ⟨r, hr⟩ : ∃ r, rget ls k = r := ⟨_, rfl⟩
      rw [hr] at d0 d1 d2 hdata hl
      obtain ⟨n, hn⟩ : ∃ n, r.b.length = n := ⟨_, rfl⟩
      rw [hn] at d2 hdata hl
      have hfar : ∀ wx, Below w.heap.size w wx → RowAt wx (ds k) 0 n r.b := fun wx hb => by
        have := (HP.out.stay hb).data k (by rw [HM.out]; omega)
        rwa [hr, hn] at this
      have hgl : ds k < wr.heap.size := cell_block_lt (hdata 0 (by omega))
      have HFAR := Lib.hid hfar
      have hs : bytesL g ls (k + 1) = bytesL g ls k ++ ([((g : Int) + k) % 256, r.own % 256, r.st, (n : Int)] ++ r.b) := by
        show bytesL g ls k ++ _ = _
        rw [hr, hn]
      have HS := Lib.hid hs
      have HN := Lib.hid hn
      clear hcs hrow hdata hr hn hfar hs
      go_upto_region 7 with fail
      have hb1 : Hb w (wr.alloc (.cells #[.int .i64 r.own, .int .u8 r.st, .slice (some ⟨ds k, 0, none⟩) n n] 62)) u3 (bytesL g ls k) := ⟨HHM.out.own.alloc _, HHM.out.b.alloc HHM.out.b.size _⟩
      have hbox : (wr.alloc (.cells #[.int .i64 r.own, .int .u8 r.st, .slice (some ⟨ds k, 0, none⟩) n n] 62)).heap[wr.heap.size]? = some (.cells #[.int .i64 r.own, .int .u8 r.st, .slice (some ⟨ds k, 0, none⟩) n n] 62) := heap_alloc_new wr _
      have hsz : (wr.alloc (.cells #[.int .i64 r.own, .int .u8 r.st, .slice (some ⟨ds k, 0, none⟩) n n] 62)).heap.size = wr.heap.size + 1 := by simp
      obtain ⟨W1, hW1⟩ : ∃ W1, wr.alloc (.cells #[.int .i64 r.own, .int .u8 r.st, .slice (some ⟨ds k, 0, none⟩) n n] 62) = W1 := ⟨_, rfl⟩
      rw [hW1] at hb1 hbox hsz ⊢
      have c2 := (HP.out.stay hb1.b).h2
      have q0 : W1.cell? ⟨wr.heap.size, 0, none⟩ = some (.int .i64 r.own) := by unfold World.cell?; simp only [hbox]; rfl
      have q1 : W1.cell? ⟨wr.heap.size, 1, none⟩ = some (.int .u8 r.st) := by unfold World.cell?; simp only [hbox]; rfl
      have q2 : W1.cell? ⟨wr.heap.size, 2, none⟩ = some (.slice (some ⟨ds k, 0, none⟩) n n) := by unfold World.cell?; simp only [hbox]; rfl
      obtain ⟨v1, W3, hrun, hb3, hk3⟩ := by_push hb1 (by omega) (((g : Int) + k) % 256) (r.own % 256) r.st n
      have q3 : W3.cell? ⟨wr.heap.size, 2, none⟩ = some (.slice (some ⟨ds k, 0, none⟩) n n) := (World.cell?_of_block (w := W1) (a := ⟨wr.heap.size, 2, none⟩) (hk3 _ (by simp only; omega) (fun e => by have := (HHM.out.own.lt _ e.symm).2; simp only at this; omega))).trans q2
      have H3 := Lib.hid hb3
      clear hb1 hb3 hk3 hbox hsz hW1 d0 d1 d2 HHM HW
      go_wp2
      go_region
      go_wp2_with (at_builtin; have hr1 := H3.out.b.size; refine wpList_append_own_at _ rfl _ _ 36 rfl w.heap.size 5 i0 _ 1 1 Try.underlying36 HI.out.1 HI.out.2.1 HI.out.2.2.1 HI.out.2.2.2 rfl (by omega) _ _ _ rfl H3.out.own ⟨ds k, 0, none⟩ n n (u8s r.b) rfl (by rw [u8s_length, HN.out, Nat.mul_one]) (row_cells HN.out (HFAR.out _ H3.out.b)) u8s_one (by rw [List.length_append]; simp; unfold maxLen; omega) (by rw [List.length_append]; simp; omega) (by omega) ?_; intro v2 w3 hown hgr _ _; have H4 := Lib.hid (H3.out.more0 n hown hgr HN.out); clear hown hgr)
      go_roundw
      case rel => exact ⟨k + 1, by omega, by go_num, by rw [HS.out, ← List.append_assoc]; exact H4.out⟩
      case measure => simp [intOf]; omega
    · obtain rfl : k = m := by omega
      go_wp2
      go_ret
      exact HHM.out.gave
end
end Go.Proofs.Ythpfockaipbhgaa
