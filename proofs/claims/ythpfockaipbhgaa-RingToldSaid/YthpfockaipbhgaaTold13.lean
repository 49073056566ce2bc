/-
  Proved here: the law RingTold returns true, over whatever memory of the program's ring keeps its contracts, and that of what is told. Conditions: the contracts.
-/
import Derived.Test.YthpfockaipbhgaaAlive13
import Derived.Test.YthpfockaipbhgaaRgCells
import Derived.Deep.RegionHeld
namespace Go.Proofs.Ythpfockaipbhgaa
open Go.RowKit
set_option maxRecDepth 100000

/-- What is written to a record's bytes behind its being told leaves the ring. -/
structure Told13 (PS : RgMem) : Prop where
  told : ∀ {w D h room drops rs} {i : Nat}, PS w D h room drops rs → hasR rs (i : Int) = true → Calls Try.prog 17 #[.pointer (some ⟨h, 0, none⟩), .int .i64 (i : Int)] w (fun e w1 => ∃ G p c, e = .returned (.tuple #[.slice (some ⟨G, p, none⟩) (rget rs i).b.length c, .bool true]) ∧ D G ∧ Below w.heap.size w w1 ∧ RowAt w1 G p (rget rs i).b.length (rget rs i).b ∧ (∀ j, j < (rget rs i).b.length → w1.frozen? ⟨G, p + j, none⟩ = false) ∧
  ∀ wx zs, zs.length = (rget rs i).b.length → WroteAt G p (rget rs i).b.length zs w1 wx → Calls Try.prog 11 #[.pointer (some ⟨h, 0, none⟩), .int .i64 (i : Int)] wx (fun e w3 => ∃ D', e = .returned (.bool true) ∧ Turned D wx w3 ∧ (∀ b, D' b → D b ∨ wx.heap.size ≤ b) ∧
    ∀ j, j < (rget rs i).b.length → (∃ y, w3.cell? ⟨G, p + j, none⟩ = some (.int .u8 y)) ∧ w3.frozen? ⟨G, p + j, none⟩ = false ∧ ∀ x, PS (w3.setCell ⟨G, p + j, none⟩ (.int .u8 x)) D' h room drops (endR (rs.set i { rget rs i with b := zs }) (i : Int) 1)))
theorem res_one {n : Nat} (h1 : 1 ≤ n) (h2 : n ≤ 32) : resR [] 256 7 n = (0, 0, [newR 7 n]) := by
  unfold resR
  rw [if_neg (by omega), if_neg (by simp [usedR, usedT]; omega), Int.toNat_natCast]
  rfl
def toldR (n : Nat) (zs : List Int) : List Rc := endR ([newR 7 n].set 0 { rget [newR 7 n] 0 with b := zs }) ((0 : Nat) : Int) 1
theorem told_drain (n : Nat) (zs : List Int) : (drainR (toldR n zs)).1 = [(7, zs)] ∧ usedR (drainR (toldR n zs)).2 = 0 := ⟨rfl, rfl⟩
theorem held_one (n : Nat) : hasR [newR 7 n] ((0 : Nat) : Int) = true := rfl
theorem wrote_below {G p len : Nat} {zs : List Int} {B : Nat} {W w w' : World} (hb : Below B W w) (hw : WroteAt G p len zs w w') (hG : B ≤ G) : Below B W w' :=
  ⟨hw.os.trans hb.os, hw.tape.trans hb.tape, hw.output.trans hb.output, by rw [← hw.size]; exact hb.size, fun k hk => (hw.block k (by omega)).trans (hb.block k hk)⟩
set_option maxHeartbeats 4000000 in
theorem law_told {PS : RgMem} (w : World) (ga oa n ca : Nat) (zs : List Int) (t : Int) (ac : Acts13 PS) (tl : Told13 PS) (h1 : 1 ≤ n) (h2 : n ≤ 32) (hz : zs.length = n) (hr : RowAt w ga oa n zs) (hg : ga < w.heap.size) :
    Calls Try.prog 4 #[.slice (some ⟨ga, oa, none⟩) n ca, .int .u8 t] w (LawPost w) := by
  have HA := Lib.hid ac
  have HT := Lib.hid tl
  have HR := Lib.hid (And.intro hz hr)
  have al := alive13 ac
  clear ac tl hz hr
  go_enter Try.func4, Try.ntmps4
  go_upto_region 12 with (first
    | (go_at_call 6; refine (al _).mono ?_; rintro e w1 ⟨rfl, hb1⟩; have HB1 := Lib.hid hb1; clear hb1)
    | (go_at_call 7; refine (HA.out.new (room := 256) ⟨by omega, by omega⟩).mono ?_; rintro e w2 ⟨h, D, rfl, hp2, hb2, hD2⟩; have HB2 := Lib.hid (HB1.out.trans (hb2.mono HB1.out.size)); have HP2 := Lib.hid hp2; have HDD := Lib.hid (fun b hb => Nat.le_trans HB1.out.size (hD2 b hb)); clear hb2 hp2 hD2)
    | (go_at_call 19; refine (HA.out.reserve (o := 7) (n := (n : Int)) HP2.out (by omega) (by omega) (by simp)).mono ?_; rintro e w3 ⟨D3, he, hp3, ht3, hd3⟩; rw [res_one h1 h2] at he hp3; have he : e = .returned (.tuple #[.int .i64 0, .bool true]) := he; subst he; have HP3 := Lib.hid hp3; have HB3 := Lib.hid (ht3.below HB2.out HDD.out); have HD3 := Lib.hid (fun b (hb : D3 b) => (hd3 b hb).elim (HDD.out b) (fun hx => Nat.le_trans HB2.out.size hx)); clear hp3 ht3 hd3)
    | (go_at_call 17; refine (HT.out.told (i := 0) HP3.out (held_one n)).mono ?_; rintro e w4 ⟨G, p, c4, he, hG4, hb4, hr4, hf4, hk4⟩; have hbl : (rget [newR 7 n] 0).b.length = n := (by simp [rget, newR, zeros]); rw [hbl] at he hr4 hf4 hk4; subst he; have HB4 := Lib.hid (HB3.out.trans (hb4.mono HB3.out.size)); have HG4 := Lib.hid (HD3.out G hG4); have HF4 := Lib.hid (And.intro hr4 hf4); have HK4 := Lib.hid hk4; clear hG4 hb4 hr4 hf4 hk4 hbl))
  have hcpy := copy_bytes 3 (cap := c4) (c2 := ca) (a := ⟨ga, oa, none⟩) HF4.out.1 HF4.out.2 HR.out.1 (rfl : n = n) (fun j v hj => by rw [add_lit]; exact u8s_cells HR.out.1 (rowAt_below HR.out.2 hg HB4.out) j v hj)
  have hw5 := wrote_cells HF4.out.1 HR.out.1
  obtain ⟨W5, hW5⟩ : ∃ W, w4.setCells G p (u8s zs) = W := ⟨_, rfl⟩
  rw [hW5] at hcpy hw5
  have HB5 := Lib.hid (wrote_below HB4.out hw5 HG4.out)
  have HW5 := Lib.hid hw5
  clear hW5 hw5
  go_upto_region 15 with (go_at_call 11; refine (HK4.out W5 zs HR.out.1 HW5.out).mono ?_; rintro e w6 ⟨D6, rfl, ht6, hd6, hj6⟩; obtain ⟨⟨y6, hy6⟩, hf6, hp6⟩ := hj6 0 (by omega); rw [Nat.add_zero] at hy6 hf6 hp6; have HP6 := Lib.hid hp6; have HB6 := Lib.hid (ht6.below HB5.out HD3.out); have HD6 := Lib.hid (fun b (hb : D6 b) => (hd6 b hb).elim (HD3.out b) (fun hx => Nat.le_trans HB5.out.size hx)); clear hp6 ht6 hd6 hj6 hcpy)
  have HP7 := Lib.hid (HP6.out t)
  have HB7 : Hid (Below w.heap.size w (w6.setCell ⟨G, p, none⟩ (.int .u8 t))) := Lib.hid (HB6.out.setCell HG4.out _)
  clear HP6 HK4
  go_upto_region 17 with (go_at_call 15; refine (HA.out.drain HP7.out).mono ?_; rintro e w8 ⟨D8, a8, c8, he, ha8, hp8, ht8, hd8⟩; have HA8 := Lib.hid ha8; have HP8 := Lib.hid hp8; have HT8 := Lib.hid ht8; have he8 : e = .returned (.slice a8 1 c8) := he; subst he8; clear he ha8 hp8 ht8 hd8)
  have HB8 := Lib.hid (HT8.out.below HB7.out HD6.out)
  have hA : AudIn w8 (fun b => D6 b ∨ (w6.setCell ⟨G, p, none⟩ (.int .u8 t)).heap.size ≤ b) a8 [(7, zs)] := HA8.out
  obtain ⟨g, rfl, -, -, hc⟩ := hA (by simp)
  obtain ⟨d, off, cap, k1, k2, -, hdl, hrow⟩ := hc 0 (by simp)
  have k1 : w8.cell? ⟨g, 0, none⟩ = some (.int .i64 7) := k1
  have k2 : w8.cell? ⟨g, 1, none⟩ = some (.slice (some ⟨d, off, none⟩) zs.length cap) := k2
  have hrow : RowAt w8 d off zs.length zs := hrow
  rw [HR.out.1] at k2 hrow
  have hu : ∃ rs, PS w8 D8 h 256 (0 + 0) rs ∧ usedR rs = 0 := ⟨_, HP8.out, rfl⟩
  obtain ⟨rs8, hp9, hu9⟩ := hu
  have HP9 := Lib.hid hp9
  have HU9 := Lib.hid hu9
  have q1 := str_of (cap := cap) HR.out.1 hrow
  have q2 := str_of (cap := ca) HR.out.1 (rowAt_below HR.out.2 hg HB8.out)
  obtain ⟨str, hstr⟩ : ∃ x, strOfNums zs = x := ⟨_, rfl⟩
  rw [hstr] at q1 q2
  have q1d : (convert 36 9 (.slice (some ⟨d, off, none⟩) n cap)).run Try.prog w8.drew = .ok (.string str) w8.drew := by rw [← hstr]; exact str_of (cap := cap) HR.out.1 (fun j hj => hrow j hj)
  have q2d : (convert 36 9 (.slice (some ⟨ga, oa, none⟩) n ca)).run Try.prog w8.drew = .ok (.string str) w8.drew := by rw [← hstr]; exact str_of (cap := ca) HR.out.1 (fun j hj => rowAt_below HR.out.2 hg HB8.out j hj)
  have Q1 : Hid (w8.drew.cell? ⟨g, 0, none⟩ = some (.int .i64 7) ∧ w8.drew.cell? ⟨g, 1, none⟩ = some (.slice (some ⟨d, off, none⟩) n cap)) := Lib.hid ⟨k1, k2⟩
  clear hA hc k1 k2 hrow hdl hp9 hu9 hstr HP8 HA8 HP7 HB7 q1 q2
  go_region_held (fun W => W.cell? ⟨g, 0, none⟩ = some (.int .i64 7) ∧ W.cell? ⟨g, 1, none⟩ = some (.slice (some ⟨d, off, none⟩) n cap)) (first | with_reducible exact Q2.out | exact Q1.out)
    ((go_at_call 22; refine (HA.out.used (HA.out.stay HP9.out (Below.refl _ _).drew)).mono ?_; rintro e w9 ⟨he, hb9⟩; rw [HU9.out] at he; subst he; have HB9 := Lib.hid (HB8.out.trans (((Below.refl _ _).drew.trans hb9).mono HB8.out.size)); have Q2 := Lib.hid (And.intro ((hb9.cell (p := ⟨g, 0, none⟩) (cell_block_lt Q1.out.1)).trans Q1.out.1) ((hb9.cell (p := ⟨g, 1, none⟩) (cell_block_lt Q1.out.2)).trans Q1.out.2)); clear hb9))
  all_goals
    go_wp2_with fail
    go_ret
    exact ⟨by simp, HB9.out⟩
theorem told_not {PS : RgMem} (w : World) (a : Option Addr) (n ca : Nat) (t : Int) (ac : Acts13 PS) (hn : n ≤ maxLen) (h : ¬ (1 ≤ n ∧ n ≤ 32)) :
    Calls Try.prog 4 #[.slice a n ca, .int .u8 t] w (LawPost w) := by
  unfold maxLen at hn
  have al := alive13 ac
  clear ac
  have h3 : n < 1 ∨ (1 ≤ n ∧ 32 < n) := by omega
  clear h
  rcases h3 with h4 | ⟨h4, h5⟩
  all_goals
    as_aux_lemma =>
    go_enter Try.func4, Try.ntmps4
    go_wp2_with (go_at_call 6; refine (al _).mono ?_; rintro e w1 ⟨rfl, hb1⟩; have HB1 := Lib.hid hb1; clear hb1)
    go_ret
    exact ⟨rfl, HB1.out⟩
theorem told_walk {PS : RgMem} (ac : Acts13 PS) (tl : Told13 PS) (v0 v1 : Value) (w : World) (h0 : IsSlice .u8 w v0) (h1 : IsInt .u8 v1) :
    Calls Try.prog 4 #[v0, v1] w fun e w' => e = .returned (.bool true) ∧ Below w.heap.size w w' := by
  obtain ⟨t, rfl, wt⟩ := h1
  rcases h0 with rfl | ⟨a, len, cap, rfl, hl, hm, hc⟩
  · exact told_not w none 0 0 t ac (by simp [maxLen]) (by omega)
  · by_cases h : 1 ≤ len ∧ len ≤ 32
    · obtain ⟨b, off, spot⟩ := a
      have hx : ∀ j, j < len → ∃ y : Int, w.cell? ((⟨b, off, spot⟩ : Addr).add j) = some (.int .u8 y) := fun j hj => by
        obtain ⟨y, hy, -⟩ := hc j hj
        exact ⟨y, hy⟩
      obtain ⟨f, hf⟩ := Go.Deep.choose_lt hx
      have h1 := hf 0 (by omega)
      have hspot : spot = none := by simpa [Addr.add] using World.cell?_spot h1
      subst hspot
      have hg : b < w.heap.size := by
        have := World.block_lt_of_cell? w _ h1
        simpa [Addr.add] using this
      refine law_told w b off len cap ((List.range len).map f) t ac tl h.1 h.2 (by simp) (fun j hj => ?_) hg
      have h2 := hf j hj
      rw [add_lit] at h2
      rw [h2, List.getD_eq_getElem?_getD, List.getElem?_map, List.getElem?_range hj]
      rfl
    · exact told_not w (some a) len cap t ac (by omega) h
end Go.Proofs.Ythpfockaipbhgaa
