/-
  Proved here: what Room, Drops, Used and Held of the program's rings tell. Conditions: as each lemma says.
-/
import Derived.Test.YthpfockaipbhgaaPm
namespace Go.Proofs.Ythpfockaipbhgaa
open Go.RowKit

section
variable {w w' : World} {h g : Nat} {room drops : Int} {kv : Value} {ds : Nat → Nat} {ls : List Rc}
theorem pr_room (H : Pr w h room drops g kv ds ls) : Calls Try.prog 8 #[.pointer (some ⟨h, 0, none⟩)] w (fun e w' => e = .returned (.int .i64 room) ∧ Below w.heap.size w w') := by
  have c0 := H.h0
  clear H
  go_enter Try.func8, Try.ntmps8
  go_wp2
  go_ret
  exact ⟨rfl, Below.refl _ _⟩
theorem pr_drops (H : Pr w h room drops g kv ds ls) : Calls Try.prog 23 #[.pointer (some ⟨h, 0, none⟩)] w (fun e w' => e = .returned (.int .i64 drops) ∧ Below w.heap.size w w') := by
  have c0 := H.h1
  clear H
  go_enter Try.func23, Try.ntmps23
  go_wp2
  go_ret
  exact ⟨rfl, Below.refl _ _⟩
theorem taken_call (n : Int) (w : World) (h0 : 0 ≤ n) (h1 : n ≤ 1000) : Calls Try.prog 29 #[.int .i64 n] w (Ret (.int .i64 (n + 8)) w) := by
  go_enter Try.func29, Try.ntmps29
  go_wp2
  go_ret
  exact ⟨by go_num, rfl⟩
set_option maxRecDepth 100000 in
theorem pr_used (H : Pr w h room drops g kv ds ls) (hg : ∀ i, i < ls.length → (rget ls i).gone = false) : Calls Try.prog 22 #[.pointer (some ⟨h, 0, none⟩)] w (fun e w' => e = .returned (.int .i64 (usedT ls ls.length)) ∧ Below w.heap.size w w') := by
  obtain ⟨a, c, rfl, -⟩ := H.shape
  have c3 := H.h3
  have hle := H.le
  obtain ⟨m, hm⟩ : ∃ m, ls.length = m := ⟨_, rfl⟩
  have HP := Lib.hid H
  have HGN := Lib.hid hg
  rw [hm] at c3 hle HP HGN ⊢
  have HM := Lib.hid hm
  clear H hm hg
  go_enter Try.func22, Try.ntmps22
  go_wp2
  go_loopw [3, 13] (fun s v wr => ∃ k : Nat, k ≤ m ∧ v = .int .i64 k ∧ s = .int .i64 (usedT ls k) ∧ usedT ls k ≤ k * 40 ∧ Below w.heap.size w wr) (fun _ v _ => 1001 - (intOf v).toNat)
  case atStart => exact ⟨0, by omega, rfl, rfl, by simp [usedT], Below.refl _ _⟩
  case round =>
    obtain ⟨k, hk, rfl, rfl, hu, hb⟩ := hrel
    have HB := Lib.hid hb
    clear hb
    by_cases hlt : k < m
    · have HW := Lib.hid (HP.out.stay HB.out)
      have hrow := HW.out.lv
      obtain ⟨b, rfl, -, -, hcs⟩ := hrow.at_ (by rw [HM.out]; omega)
      obtain ⟨d0, d1, d2⟩ := hcs k (by rw [HM.out]; omega)
      have hl := HW.out.len k (by rw [HM.out]; omega)
      obtain ⟨r, hr⟩ : ∃ r, rget ls k = r := ⟨_, rfl⟩
      have HRK := Lib.hid hr
      rw [hr] at d0 d1 d2 hl
      obtain ⟨n, hn⟩ : ∃ n, r.b.length = n := ⟨_, rfl⟩
      have HN := Lib.hid hn
      rw [hn] at d2 hl
      obtain ⟨u, hue⟩ : ∃ u, usedT ls k = u := ⟨_, rfl⟩
      rw [hue] at hu ⊢
      have HU := Lib.hid hue
      have hs : usedT ls (k + 1) = u + (8 + n) := by
        show usedT ls k + usedN (rget ls k) = _
        rw [HU.out, usedN, if_neg (by rw [HGN.out k hlt]; decide), HRK.out, HN.out]
      have HS := Lib.hid hs
      clear hcs hrow hr hn hue hs
      go_wp2_with (go_at_call 29; refine (taken_call _ _ (by omega) (by omega)).mono ?_; rintro e w1 ⟨rfl, rfl⟩)
      go_roundw
      case rel => exact ⟨k + 1, by omega, by go_num, by rw [HS.out]; go_num, by rw [HS.out]; omega, HB.out.alloc HB.out.size _⟩
      case measure => simp [intOf]; omega
    · obtain rfl : k = m := by omega
      go_wp2
      go_ret
      exact ⟨rfl, HB.out⟩
theorem Hm.push2 {W wr w' : World} {v v' : Value} {xs : List Int} {x : Int} {o : Obj} (h : Hm W wr v xs) (hown : w'.ownsRow W.heap.size 3 1 v' (xs.length + 1) (ints xs ++ [.int .i64 x])) (hg : ((wr.alloc o).alloc (.cells #[.int .i64 x] 3)).grownBy w' v.ownBlock) : Hm W w' v' (xs ++ [x]) :=
  Hm.push (wr := wr.alloc o) ⟨h.own.alloc _, h.b.alloc h.b.size _⟩ hown hg
set_option maxRecDepth 100000 in
set_option maxHeartbeats 1000000 in
theorem pr_held (H : Pr w h room drops g kv ds ls) : Calls Try.prog 31 #[.pointer (some ⟨h, 0, none⟩)] w (IntsP (heldL g ls ls.length) w) := by
  obtain ⟨a, c, rfl, -⟩ := H.shape
  have c3 := H.h3
  have hle := H.le
  obtain ⟨m, hm⟩ : ∃ m, ls.length = m := ⟨_, rfl⟩
  have HP := Lib.hid H
  rw [hm] at c3 hle HP ⊢
  have HM := Lib.hid hm
  obtain ⟨i0, hi0, hz0, hz1, hz2⟩ := info_parts int_info
  have HI := Lib.hid (And.intro hi0 (And.intro hz0 (And.intro hz1 hz2)))
  clear H hm hi0 hz0 hz1 hz2
  go_enter Try.func31, Try.ntmps31
  go_wp2
  go_loopw [3, 13] (fun s v wr => ∃ k : Nat, k ≤ m ∧ v = .int .i64 k ∧ Hm w wr s (heldL g ls k)) (fun _ v _ => 1001 - (intOf v).toNat)
  case atStart => exact ⟨0, by omega, rfl, ⟨World.ownsRow_nil _ _ _ _, Below.refl _ _⟩⟩
  case round =>
    obtain ⟨k, hk, rfl, hhm⟩ := hrel
    have HHM := Lib.hid hhm
    have HW := Lib.hid (HP.out.stay hhm.b)
    have hln := heldL_len g ls k
    clear hhm
    by_cases hlt : k < m
    · have hrow := HW.out.lv
      obtain ⟨b, rfl, -, -, hcs⟩ := hrow.at_ (by rw [HM.out]; omega)
      obtain ⟨d0, d1, d2⟩ := hcs k (by rw [HM.out]; omega)
      have hst := HW.out.st k (by rw [HM.out]; omega)
      have hga : ∀ o, (wr.alloc o).cell? ⟨h, 2, none⟩ = some (.int .i64 (g : Int)) := fun o => (HW.out.stay ((Below.refl _ _).alloc (Nat.le_refl _) o)).h2
      obtain ⟨r, hr⟩ : ∃ r, rget ls k = r := ⟨_, rfl⟩
      have HRK := Lib.hid hr
      rw [hr] at d0 d1 d2 hst
      obtain ⟨n, hn⟩ : ∃ n, r.b.length = n := ⟨_, rfl⟩
      rw [hn] at d2
      obtain ⟨s, hs⟩ : ∃ s, r.st = s := ⟨_, rfl⟩
      rw [hs] at d1 hst
      have HST := Lib.hid hs
      clear hcs hrow hr hn hs
      by_cases e0 : s = 0
      · subst e0
        have hs : heldL g ls (k + 1) = heldL g ls k ++ [((g : Int) + k)] := by
          show heldL g ls k ++ _ = _
          rw [HRK.out, HST.out]; simp
        have HS := Lib.hid hs
        clear hs
        go_wp2_with (at_builtin; refine wpList_append_own_at _ rfl _ _ 69 rfl w.heap.size 3 i0 _ 1 8 Try.underlying69 HI.out.1 HI.out.2.1 HI.out.2.2.1 HI.out.2.2.2 rfl (by omega) _ _ _ rfl ((HHM.out.own.alloc _).alloc _) ⟨wr.heap.size + 1, 0, none⟩ 1 1 [.int .i64 ((g : Int) + k)] rfl rfl (by have h9 := one_new (wr.alloc (.cells #[.int .i64 r.own, .int .u8 0, .slice (some ⟨ds k, 0, none⟩) n n] 62)) (.int .i64 ((g : Int) + k)) 3; rw [World.size_alloc] at h9; exact h9) (fun u hu => by simp at hu; subst hu; rfl) (by unfold maxLen; omega) (by omega) (Nat.le_trans HHM.out.b.size (by simp; omega)) ?_; intro v1 w2 hown hgr _ _; have HH2 := Lib.hid (HHM.out.push2 hown hgr); clear hown hgr)
        go_roundw
        case rel => exact ⟨k + 1, by omega, by go_num, by rw [HS.out]; exact HH2.out⟩
        case measure => simp [intOf]; omega
      · have hs : heldL g ls (k + 1) = heldL g ls k := by
          show heldL g ls k ++ _ = _
          rw [HRK.out, HST.out, if_neg e0]; simp
        have HS := Lib.hid hs
        have e1 : (s == 0) = false := by simpa using e0
        clear hs e0
        go_wp2
        go_roundw
        case rel => exact ⟨k + 1, by omega, by go_num, by rw [HS.out]; exact ⟨HHM.out.own.alloc _, HHM.out.b.alloc HHM.out.b.size _⟩⟩
        case measure => simp [intOf]; omega
    · obtain rfl : k = m := by omega
      go_wp2
      go_ret
      obtain ⟨a', c', he, hin⟩ := ints_in rfl HHM.out.own
      exact ⟨a', c', by rw [← he]; rfl, hin, HHM.out.b⟩
end
end Go.Proofs.Ythpfockaipbhgaa
