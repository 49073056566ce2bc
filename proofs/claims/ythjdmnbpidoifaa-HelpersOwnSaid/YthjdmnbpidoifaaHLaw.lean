/-
  Proved here: the laws HelpersBy and HelpersOf walked, over whatever package keeps the contracts. Conditions: Acts16.
-/
import Derived.Test.YthjdmnbpidoifaaHActs
import Derived.Test.YthjdmnbpidoifaaGrow
namespace Go.Proofs.Ythjdmnbpidoifaa
open Go.RowKit Go.BigFrame

def TrueB (w : World) (e : Ending) (w' : World) : Prop := e = .returned (.bool true) ∧ Below w.heap.size w w'
theorem by_law16 (A : Acts16) (name : ByteArray) (w : World) : Calls Try.prog 4 #[.string name] w (TrueB w) := by
  go_enter Try.func4, Try.ntmps4
  go_wp2_with (go_at_call 6; refine (alive16 A _).mono ?_; rintro e w1 ⟨rfl, hb1⟩; have HB1 := Lib.hid hb1; clear hb1)
  go_loopw [3, 4] (fun v i w2 => ∃ k : Nat, 1 ≤ k ∧ k ≤ 14 ∧ i = .int .i64 k ∧ v = .int .i64 (wantH name k) ∧ Below w.heap.size w w2) (fun _ i _ => 14 - (intOf i).toNat)
  case atStart => exact ⟨1, by omega, by omega, rfl, by rw [wantH_start]; rfl, HB1.out⟩
  case round =>
    obtain ⟨k, k1, k2, rfl, rfl, hb⟩ := hrel
    have HB := Lib.hid hb
    clear hb
    by_cases hlt : k ≤ 13
    · cases hn : (hnameB k).toList == name.toList
      · have hw := wantH_no hn k1
        generalize wantH name k = v at hw ⊢
        have HW := Lib.hid hw
        clear hw
        go_wp2_with (go_at_call 8; refine (hrow_yes k _ k1 hlt).mono ?_; rintro e w3 ⟨a, c, rfl, hb3, hs⟩; have HB3 := Lib.hid hb3; clear hb3 hs)
        go_roundw
        case rel => exact ⟨k + 1, by omega, by omega, by go_num, by rw [HW.out], HB.out.trans (HB3.out.mono HB.out.size)⟩
        case measure => simp [intOf]; omega
      · have hw := wantH_yes hn k1 hlt
        generalize wantH name k = v
        have HW := Lib.hid hw
        clear hw
        go_wp2_with (go_at_call 8; refine (hrow_yes k _ k1 hlt).mono ?_; rintro e w3 ⟨a, c, rfl, hb3, hs⟩; have HB3 := Lib.hid hb3; clear hb3 hs)
        go_roundw
        case rel => exact ⟨k + 1, by omega, by omega, by go_num, by rw [HW.out], HB.out.trans (HB3.out.mono HB.out.size)⟩
        case measure => simp [intOf]; omega
    · obtain rfl : k = 14 := by omega
      rw [wantH_end]
      go_wp2_with (go_at_call 13; refine (A.by_ _ _).mono ?_; rintro e w4 ⟨rfl, hb4⟩; have HB4 := Lib.hid hb4; clear hb4)
      go_ret
      exact ⟨by simp, HB.out.trans (HB4.out.mono HB.out.size)⟩

/-- What is known of the description behind the calls: its box in block D, its slices, and the document's. -/
structure AtH (w W : World) (D : Nat) (a1 : Option Addr) (n1 c1 : Nat) (a2 : Option Addr) (n2 c2 : Nat) (a3 : Option Addr) (zs ms : List Int) : Prop where
  below : Below w.heap.size w W
  box1 : W.cell? ⟨D, 1, none⟩ = some (.slice a1 n1 c1)
  box2 : W.cell? ⟨D, 2, none⟩ = some (.slice a2 n2 c2)
  args : SlRow W w.heap.size .u8 a1 zs
  maps : SlRow W w.heap.size .i64 a2 ms
  refs : SlRow W w.heap.size .i64 a3 ms
theorem AtH.stay {w W W' : World} {D : Nat} {a1 : Option Addr} {n1 c1 : Nat} {a2 : Option Addr} {n2 c2 : Nat} {a3 : Option Addr} {zs ms : List Int} (h : AtH w W D a1 n1 c1 a2 n2 c2 a3 zs ms) (hb : Below W.heap.size W W') : AtH w W' D a1 n1 c1 a2 n2 c2 a3 zs ms :=
  ⟨h.below.trans (hb.mono h.below.size), (hb.cell (p := ⟨D, 1, none⟩) (World.block_lt_of_cell? W _ h.box1)).trans h.box1, (hb.cell (p := ⟨D, 2, none⟩) (World.block_lt_of_cell? W _ h.box2)).trans h.box2, h.args.stay hb, h.maps.stay hb, h.refs.stay hb⟩
theorem suits_step (ms : List Int) (kind : Int) (i : Nat) (hi : i < ms.length) : ((ms.take (i + 1)).any (· == kind)) = (((ms.take i).any (· == kind)) || (ms.getD i 0 == kind)) := by
  rw [List.take_succ_eq_append_getElem hi, List.any_append, List.getD_eq_getElem?_getD, List.getElem?_eq_getElem hi]
  simp
set_option maxRecDepth 100000 in
theorem of_law16_yes (A : Acts16) (k : Nat) (kind : Int) (w : World) (h1 : 1 ≤ k) (h2 : k ≤ 13) : Calls Try.prog 3 #[.int .i64 k, .int .i64 kind] w (TrueB w) := by
  obtain ⟨n1, hn1⟩ : ∃ n, (hargL k).length = n := ⟨_, rfl⟩
  obtain ⟨n2, hn2⟩ : ∃ n, (hmapL k).length = n := ⟨_, rfl⟩
  obtain ⟨nm, hnm⟩ : ∃ nm, hnameB k = nm := ⟨_, rfl⟩
  obtain ⟨ws, hws⟩ : ∃ ws, hargB k = ws := ⟨_, rfl⟩
  obtain ⟨rc, hrc⟩ : ∃ rc, hretC k = rc := ⟨_, rfl⟩
  obtain ⟨r, hr⟩ : ∃ r, retI rc = r := ⟨_, rfl⟩
  have hfull : nm.toList.isEmpty = false := hnm ▸ hname_full k h1 h2
  have hsz : ws.size = n1 := by rw [← hws, ← hn1]; exact harg_size k
  have hl := harg_at k ws hws
  obtain ⟨b1, b2⟩ := harg_len k h2
  rw [hn1] at b1
  rw [hn2] at b2
  have HN1 := Lib.hid hn1
  have HN2 := Lib.hid hn2
  have HNM := Lib.hid hnm
  have HWS := Lib.hid hws
  have HRC := Lib.hid hrc
  have HR := Lib.hid hr
  have HL := Lib.hid hl
  clear hn1 hn2 hnm hws hrc hr hl
  go_enter Try.func3, Try.ntmps3
  go_wp2_with (first
    | (go_at_call 6; refine (alive16 A _).mono ?_; rintro e w1 ⟨rfl, hb1⟩; have HB1 := Lib.hid hb1; clear hb1)
    | (go_at_call 7; refine (A.of_yes k _ h1 h2).mono ?_; rintro e w2 ⟨a1, c1, a2, c2, rfl, hb2, hs1, hs2⟩; rw [HN1.out, HN2.out, HNM.out, HRC.out, HR.out]; have HS1 := Lib.hid hs1; have HS2 := Lib.hid hs2; have HB2 := Lib.hid hb2; clear hb2 hs1 hs2)
    | (go_at_call 8; refine (hrow_yes k _ h1 h2).mono ?_; rintro e w3 ⟨a3, c3, rfl, hb3, hs3⟩; rw [HNM.out, HWS.out, HN2.out, HRC.out]; obtain ⟨hx, hf⟩ := boxed hb3; have HS3 := Lib.hid hs3; have HB3 := Lib.hid hb3; clear hb3 hs3 hf))
  have hw2 : Below w.heap.size w w2 := HB1.out.trans (HB2.out.mono HB1.out.size)
  have hb3 := below_box HB3.out
  have hA : AtH w w3 w2.heap.size a1 n1 c1 a2 n2 c2 a3 (hargL k) (hmapL k) := ⟨hw2.trans (hb3.mono hw2.size), hx 1, hx 2, (HS1.out.later HB1.out.size).stay hb3, (HS2.out.later HB1.out.size).stay hb3, HS3.out.later (by have := hw2.size; simp; omega)⟩
  have HA := Lib.hid hA
  clear hw2 hb3 hA
  have hrr := HR.out
  have hx0 := Wd.cell (w0 := w3) (v := .string nm) (hx 0)
  have hx1 := Wd.cell (w0 := w3) (v := .slice a1 n1 c1) (hx 1)
  have hx2 := Wd.cell (w0 := w3) (v := .slice a2 n2 c2) (hx 2)
  have hx3 := Wd.cell (w0 := w3) (v := .int .u8 r) (hx 3)
  clear hx
  refine wp_region_grow w3 (Below.refl _ _) (by kernel_rfl) (by kernel_rfl) ?_
  repeat (go_big_quiet_step (first
    | (go_at_call 9; exact Wd.call _ ((ret_ref _ _).mono fun _ _ h => ⟨h.1, h.2 ▸ Below.refl _ _⟩))
    | (go_at_call 10; exact Wd.call _ (A.count _))))
  refine wpQuiet_nil ?_
  intro _ hw'
  obtain ⟨x5, hw''⟩ := hw'
  subst hw''
  clear hx0 hx1 hx2 hx3 hrr
  go_wp2
  go_loopw [11] (fun x W => ∃ i : Nat, i ≤ n1 ∧ x = .int .i64 i ∧ AtH w W w2.heap.size a1 n1 c1 a2 n2 c2 a3 (hargL k) (hmapL k)) (fun x _ => n1 - (intOf x).toNat)
  case atStart => exact ⟨0, Nat.zero_le _, rfl, HA.out.stay x5.below⟩
  case round =>
    obtain ⟨i, hi, rfl, ha⟩ := hrel
    have HA' := Lib.hid ha
    by_cases hlt : i < n1
    · obtain ⟨p, off, rfl, -, -, hrow⟩ := ha.args (by rw [HN1.out]; omega)
      obtain ⟨hrow, -⟩ := hrow i (by rw [HN1.out]; exact hlt)
      have hbox := ha.box1
      clear ha HA
      obtain ⟨z, hz⟩ : ∃ z, (hargL k).getD i 0 = z := ⟨_, rfl⟩
      have hlz : argI ((ws[i]'(by rw [hsz]; exact hlt)).toNat : Int) = z := (HL.out i (by rw [hsz]; exact hlt)).trans hz
      rw [hz] at hrow
      clear hz
      go_wp2
      go_quiet ((go_at_call 11; exact Calls.quiet_of_same (ret_same (arg_ref _ _))))
      go_wp2
      go_roundw
      case rel => exact ⟨i + 1, by omega, by go_num, HA'.out.stay (below_drewN _ _)⟩
      case measure => simp [intOf]; omega
    · clear ha HA
      obtain rfl : i = n1 := by omega
      go_wp2
      go_loopw [12, 13] (fun s x W => ∃ j : Nat, j ≤ n2 ∧ x = .int .i64 j ∧ s = .bool (((hmapL k).take j).any (· == kind)) ∧ AtH w W w2.heap.size a1 i c1 a2 n2 c2 a3 (hargL k) (hmapL k)) (fun _ x _ => n2 - (intOf x).toNat)
      case atStart => exact ⟨0, Nat.zero_le _, rfl, by simp, HA'.out⟩
      case round =>
        obtain ⟨j, hj, rfl, rfl, ha⟩ := hrel
        have HA2 := Lib.hid ha
        clear HA'
        by_cases hjt : j < n2
        · obtain ⟨p2, off2, rfl, -, -, hrow2⟩ := ha.maps (by rw [HN2.out]; omega)
          obtain ⟨p3, off3, rfl, -, -, hrow3⟩ := ha.refs (by rw [HN2.out]; omega)
          obtain ⟨hrow2, -⟩ := hrow2 j (by rw [HN2.out]; exact hjt)
          obtain ⟨hrow3, -⟩ := hrow3 j (by rw [HN2.out]; exact hjt)
          have hbox := ha.box2
          clear ha
          have hst := suits_step (hmapL k) kind j (by rw [HN2.out]; exact hjt)
          generalize (hmapL k).getD j 0 = z at hrow2 hrow3 hst
          generalize ((hmapL k).take j).any (· == kind) = sb at hst ⊢
          have HST := Lib.hid hst
          clear hst
          cases hzk : z == kind <;> cases sb <;> (
            have HZ := Lib.hid hzk
            go_wp2
            go_quiet (fail)
            go_wp2
            go_roundw
            case rel => exact ⟨j + 1, by omega, by go_num, by rw [HST.out, HZ.out]; rfl, HA2.out.stay (below_drewN _ _)⟩
            case measure => simp [intOf]; omega)
        · clear ha
          obtain rfl : j = n2 := by omega
          have hsu : (((hmapL k).take j).any (· == kind)) = suitsB k kind := by rw [← HN2.out, List.take_length]; rfl
          rw [hsu]
          clear hsu
          generalize hs0 : suitsB k kind = s0
          have HS0 := Lib.hid hs0
          clear hs0
          go_wp2_with (go_at_call 12; refine (A.suits_yes k kind _ h1 h2).mono ?_; rintro e w6 ⟨rfl, hb6⟩; rw [HS0.out]; have HB6 := Lib.hid hb6; clear hb6)
          go_ret
          exact ⟨ret_bool (by simp), HA2.out.below.trans (HB6.out.mono HA2.out.below.size)⟩
end Go.Proofs.Ythjdmnbpidoifaa
