/-
  Proved here: the laws HelpersOf and HelpersOwn walked, over whatever package keeps the contracts. Conditions: Acts16.
-/
import Derived.Test.YthjdmnbpidoifaaHLaw
import Derived.Deep.DeepCutAuto
namespace Go.Proofs.Ythjdmnbpidoifaa
open Go.RowKit Go.BigFrame

theorem of_law16_no (A : Acts16) (k kind : Int) (w : World) (h : ¬ (1 ≤ k ∧ k ≤ 13)) : Calls Try.prog 3 #[.int .i64 k, .int .i64 kind] w (TrueB w) := by
  have HH := Lib.hid h
  clear h
  have hr0 : retI 0 = 0 := by decide +kernel
  go_enter Try.func3, Try.ntmps3
  go_wp2_with (first
    | (go_at_call 6; refine (alive16 A _).mono ?_; rintro e w1 ⟨rfl, hb1⟩; have HB1 := Lib.hid hb1; clear hb1)
    | (go_at_call 7; refine (A.of_no k _ HH.out).mono ?_; rintro e w2 ⟨rfl, hb2⟩; obtain ⟨hx, hf⟩ := (⟨fun j => by simp [World.cell?_alloc_new], trivial⟩ : (∀ j, (w2.alloc (.cells #[.string { data := #[] }, .slice none 0 0, .slice none 0 0, .int .u8 0] 26)).cell? ⟨w2.heap.size, j, none⟩ = (#[.string { data := #[] }, .slice none 0 0, .slice none 0 0, .int .u8 0] : Array Value)[j]?) ∧ True); have HX := Lib.hid hx; have HB2 := Lib.hid hb2; clear hb2 hx hf)
    | (go_at_call 8; refine (hrow_no k _ HH.out).mono ?_; rintro e w3 ⟨rfl, rfl⟩))
  obtain ⟨W3, hW3⟩ : ∃ W3, w2.alloc (.cells #[.string { data := #[] }, .slice none 0 0, .slice none 0 0, .int .u8 0] 26) = W3 := ⟨_, rfl⟩
  have hbw : Below w2.heap.size w2 W3 := hW3 ▸ (Below.refl _ _).alloc (Nat.le_refl _) _
  have hxx := HX.out
  rw [hW3] at hxx ⊢
  have hx0 := Wd.cell (w0 := W3) (v := .string { data := #[] }) (hxx 0)
  have hx1 := Wd.cell (w0 := W3) (v := .slice none 0 0) (hxx 1)
  have hx2 := Wd.cell (w0 := W3) (v := .slice none 0 0) (hxx 2)
  have hx3 := Wd.cell (w0 := W3) (v := .int .u8 0) (hxx 3)
  have HBW := Lib.hid hbw
  clear hxx hbw hW3 HX
  refine wp_region_grow W3 (Below.refl _ _) (by kernel_rfl) (by kernel_rfl) ?_
  repeat (go_big_quiet_step (first
    | (go_at_call 9; exact Wd.call _ ((ret_ref _ _).mono fun _ _ h => ⟨h.1, h.2 ▸ Below.refl _ _⟩))
    | (go_at_call 10; exact Wd.call _ (A.count _))))
  refine wpQuiet_nil ?_
  intro _ hw'
  obtain ⟨x5, hw''⟩ := hw'
  subst hw''
  clear hx0 hx1 hx2 hx3 hr0
  go_wp2
  go_loop [11] (fun x => x = .int .i64 0) (fun _ => 0)
  case atStart => rfl
  case round =>
    obtain rfl := hrel
    go_wp2
    go_loop [12, 13] (fun s x => s = .bool false ∧ x = .int .i64 0) (fun _ _ => 0)
    case atStart => exact ⟨rfl, rfl⟩
    case round =>
      obtain ⟨rfl, rfl⟩ := hrel
      go_wp2_with (go_at_call 12; refine (A.suits_no k kind _ HH.out).mono ?_; rintro e w6 ⟨rfl, hb6⟩; have HB6 := Lib.hid hb6; clear hb6)
      go_ret
      have hw2 : Below w.heap.size w w2 := HB1.out.trans (HB2.out.mono HB1.out.size)
      have hw2' := hw2.trans (HBW.out.mono hw2.size)
      have hw3 := hw2'.trans (x5.below.mono hw2'.size)
      exact ⟨rfl, hw3.trans (HB6.out.mono hw3.size)⟩
theorem of_law16 (A : Acts16) (k kind : Int) (w : World) : Calls Try.prog 3 #[.int .i64 k, .int .i64 kind] w (TrueB w) := by
  by_cases h : 1 ≤ k ∧ k ≤ 13
  · obtain ⟨k, rfl⟩ := Int.eq_ofNat_of_zero_le (show 0 ≤ k by omega)
    exact of_law16_yes A k kind w (by omega) (by omega)
  · exact of_law16_no A k kind w h

/-- Cells that may be written to. -/
def Room (W : World) (B D : Nat) (a : Option Addr) (n : Nat) : Prop := 0 < n → ∃ p off, a = some ⟨p, off, none⟩ ∧ B ≤ p ∧ p < D ∧ ∀ j, j < n → (∃ v, W.cell? ⟨p, off + j, none⟩ = some v) ∧ W.frozen? ⟨p, off + j, none⟩ = false
theorem room_of {W : World} {B D : Nat} {k : IntKind} {a : Option Addr} {zs : List Int} (h : SlRow W B k a zs) (hD : W.heap.size ≤ D) : Room W B D a zs.length := by
  intro hn
  obtain ⟨p, off, ha, hB, hp, hc⟩ := h hn
  exact ⟨p, off, ha, hB, by omega, fun j hj => ⟨⟨_, (hc j hj).1⟩, (hc j hj).2⟩⟩
theorem Room.stay {W W' : World} {B D : Nat} {a : Option Addr} {n : Nat} (h : Room W B D a n) (hb : Below W.heap.size W W') (hD : D ≤ W.heap.size) : Room W' B D a n := by
  intro hn
  obtain ⟨p, off, ha, hB, hp, hc⟩ := h hn
  exact ⟨p, off, ha, hB, hp, fun j hj => ⟨by obtain ⟨v, hv⟩ := (hc j hj).1; exact ⟨v, (hb.cell (p := ⟨p, off + j, none⟩) (show p < W.heap.size by omega)).trans hv⟩, (hb.frozen (p := ⟨p, off + j, none⟩) (show p < W.heap.size by omega)).trans (hc j hj).2⟩⟩
theorem Room.put {W : World} {B D : Nat} {a : Option Addr} {n : Nat} (h : Room W B D a n) (q : Addr) (u : Value) : Room (W.setCell q u) B D a n := by
  intro hn
  obtain ⟨p, off, ha, hB, hp, hc⟩ := h hn
  refine ⟨p, off, ha, hB, hp, fun j hj => ⟨?_, by rw [World.frozen?_setCell]; exact (hc j hj).2⟩⟩
  obtain ⟨v, hv⟩ := (hc j hj).1
  by_cases e : q = ⟨p, off + j, none⟩
  · subst e
    exact ⟨u, World.cell?_setCell_same _ _ _ hv⟩
  · exact ⟨v, by rw [World.cell?_setCell_other _ _ _ _ e]; exact hv⟩
/-- What is known while what was told is written over. -/
structure AtO (w W : World) (D : Nat) (a1 : Option Addr) (n1 c1 : Nat) (a2 : Option Addr) (n2 c2 : Nat) : Prop where
  below : Below w.heap.size w W
  lo : w.heap.size ≤ D
  hi : D < W.heap.size
  box1 : W.cell? ⟨D, 1, none⟩ = some (.slice a1 n1 c1)
  box2 : W.cell? ⟨D, 2, none⟩ = some (.slice a2 n2 c2)
  args : Room W w.heap.size D a1 n1
  maps : Room W w.heap.size D a2 n2
theorem AtO.put {w W : World} {D : Nat} {a1 : Option Addr} {n1 c1 : Nat} {a2 : Option Addr} {n2 c2 : Nat} (h : AtO w W D a1 n1 c1 a2 n2 c2) {p off : Nat} (hB : w.heap.size ≤ p) (hp : p < D) (u : Value) : AtO w (W.setCell ⟨p, off, none⟩ u) D a1 n1 c1 a2 n2 c2 :=
  ⟨h.below.setCell (p := ⟨p, off, none⟩) hB u, h.lo, by rw [World.size_setCell]; exact h.hi, by rw [World.cell?_setCell_other _ _ _ _ (by intro e; injection e with e _ _; omega)]; exact h.box1, by rw [World.cell?_setCell_other _ _ _ _ (by intro e; injection e with e _ _; omega)]; exact h.box2, h.args.put _ _, h.maps.put _ _⟩
theorem own_law16_at (A : Acts16) (k : Nat) (at_ c : Int) (w : World) (h1 : 1 ≤ k) (h2 : k ≤ 13) (hat : at_ < 0 ∨ (hargL k).length ≤ at_ ∨ (0 ≤ at_ ∧ at_ < (hargL k).length)) : Calls Try.prog 5 #[.int .i64 k, .int .i64 at_, .int .u8 c] w (TrueB w) := by
  obtain ⟨n1, hn1⟩ : ∃ n, (hargL k).length = n := ⟨_, rfl⟩
  obtain ⟨n2, hn2⟩ : ∃ n, (hmapL k).length = n := ⟨_, rfl⟩
  obtain ⟨b1, b2⟩ := harg_len k h2
  rw [hn1] at b1 hat
  rw [hn2] at b2
  have HN1 := Lib.hid hn1
  have HN2 := Lib.hid hn2
  have HAT := Lib.hid hat
  clear hn1 hn2 hat
  go_enter Try.func5, Try.ntmps5
  go_upto_region 4 with (first
    | (go_at_call 6; refine (alive16 A _).mono ?_; rintro e w1 ⟨rfl, hb1⟩; have HB1 := Lib.hid hb1; clear hb1)
    | (go_at_call 7; refine (A.of_yes k _ h1 h2).mono ?_; rintro e w2 ⟨a1, c1, a2, c2, rfl, hb2, hs1, hs2⟩; rw [HN1.out, HN2.out]; have HS1 := Lib.hid hs1; have HS2 := Lib.hid hs2; have HB2 := Lib.hid hb2; clear hb2 hs1 hs2))
  have hw2 : Below w.heap.size w w2 := HB1.out.trans (HB2.out.mono HB1.out.size)
  obtain ⟨W0, hW0⟩ : ∃ W0, w2.alloc (.cells #[.string (hnameB k), .slice a1 n1 c1, .slice a2 n2 c2, .int .u8 (retI (hretC k))] 26) = W0 := ⟨_, rfl⟩
  have hbb : Below w2.heap.size w2 W0 := hW0 ▸ (Below.refl _ _).alloc (Nat.le_refl _) _
  have hA0 : AtO w W0 w2.heap.size a1 n1 c1 a2 n2 c2 := by
    refine ⟨hw2.trans (hbb.mono hw2.size), hw2.size, by rw [← hW0]; simp, by rw [← hW0]; simp [World.cell?_alloc_new], by rw [← hW0]; simp [World.cell?_alloc_new], ?_, ?_⟩
    · have h := (room_of (HS1.out.later HB1.out.size) (Nat.le_refl _)).stay hbb (Nat.le_refl _)
      rwa [HN1.out] at h
    · have h := (room_of (HS2.out.later HB1.out.size) (Nat.le_refl _)).stay hbb (Nat.le_refl _)
      rwa [HN2.out] at h
  rw [hW0]
  have HA0 := Lib.hid hA0
  clear hW0 hbb hw2 hA0 HS1 HS2
  obtain ⟨B, hB⟩ : ∃ B : Bool, decide (0 ≤ at_ ∧ at_ < n1) = B := ⟨_, rfl⟩
  have HBB := Lib.hid hB
  clear hB
  go_cut [25] (fun x wx => x = .bool B ∧ wx = W0)
  case first =>
    have hbox := HA0.out.box1
    rcases HAT.out with hat | hat | ⟨hat, hat'⟩
    · go_wp2
      go_meet
      case rel => exact ⟨by rw [← HBB.out]; congr 1; simp; omega, rfl⟩
    · have hat0 : 0 ≤ at_ := by omega
      go_wp2
      go_meet
      case rel => exact ⟨by rw [← HBB.out]; congr 1; simp; omega, rfl⟩
    · go_wp2
      go_meet
      case rel => exact ⟨by rw [← HBB.out]; congr 1; simp; omega, rfl⟩
  obtain ⟨rfl, hw⟩ := hcut
  subst hw
  go_upto_if 25 with fail
  go_cut [] (fun wx => AtO w wx w2.heap.size a1 n1 c1 a2 n2 c2)
  case first =>
    have hbox := HA0.out.box1
    cases B
    · go_wp2
      go_meet
      case rel => exact HA0.out
    · have hBt := of_decide_eq_true HBB.out
      obtain ⟨j, rfl⟩ := Int.eq_ofNat_of_zero_le hBt.1
      obtain ⟨p, off, rfl, hB, hp, hrow⟩ := HA0.out.args (by omega)
      obtain ⟨⟨v, hv⟩, hfr⟩ := hrow j (by omega)
      have hj1 : j < n1 := by omega
      clear hrow hBt
      go_wp2
      go_meet
      case rel => exact HA0.out.put hB hp _
  case rest =>
    have HC := Lib.hid hcut
    clear hcut
    go_wp2
    go_loopw [9] (fun x W => ∃ i : Nat, i ≤ n2 ∧ x = .int .i64 i ∧ AtO w W w2.heap.size a1 n1 c1 a2 n2 c2) (fun x _ => n2 - (intOf x).toNat)
    case atStart => exact ⟨0, Nat.zero_le _, rfl, HC.out⟩
    case round =>
      obtain ⟨i, hi, rfl, ha⟩ := hrel
      have HA := Lib.hid ha
      have hbox := ha.box2
      by_cases hlt : i < n2
      · obtain ⟨p, off, rfl, hB, hp, hrow⟩ := ha.maps (by omega)
        obtain ⟨⟨v, hv⟩, hfr⟩ := hrow i hlt
        clear ha hrow
        go_wp2
        go_roundw
        case rel => exact ⟨i + 1, by omega, by go_num, HA.out.put hB hp _⟩
        case measure => simp [intOf]; omega
      · clear ha
        obtain rfl : i = n2 := by omega
        go_wp2_with fail
        refine (of_law16 A _ _ _).mono ?_
        rintro e w7 ⟨rfl, hb7⟩
        have HB7 := Lib.hid hb7
        clear hb7
        go_wp2_with fail
        refine (of_law16 A _ _ _).mono ?_
        rintro e w8 ⟨rfl, hb8⟩
        have HB8 := Lib.hid hb8
        clear hb8
        go_wp2
        go_ret
        have hw7 := HA.out.below.trans (HB7.out.mono HA.out.below.size)
        exact ⟨rfl, hw7.trans (HB8.out.mono hw7.size)⟩
end Go.Proofs.Ythjdmnbpidoifaa
