import Derived.Test.YthmibmofdmlgaaaGreatDoorG13
/-
  Proved here: wordsByTexts of package asm makes a map that has the words by their texts. Conditions: none.
-/
namespace Go.Proofs.YthmibmofdmlgaaaGreatDoor
open Go.RowKit
set_option linter.unusedVariables false

theorem texts_kept_alloc {w : World} {b n : Nat} {left : Lit → Bool} (h : Texts w b n left) (o : Obj) : Texts (w.alloc o) b n left := h.kept (World.grownBy_alloc w o none) (by simp) (by simp)
theorem gone_alloc {w0 w : World} {b0 r n0 cnt : Nat} {D0 : DataW Value} {left : Lit → Bool} (h : Passed w0 w b0 r n0 D0 left cnt) (o : Obj) : Passed w0 (w.alloc o) b0 r n0 D0 left cnt := h.kept (World.grownBy_alloc w o none) (by simp) (by simp) (by simp)
/-- The map's literal: the word of a map. -/
theorem first_put {w w1 : World} (hp : PartsAt w1 (some ⟨w.heap.size + 1, 0, none⟩) [0, 3]) (hb : Below w.heap.size w w1) :
    ∃ w3, (Instr.mapUpdate 67 (.map (some (w1.heap.size + 1))) (.string (S [109, 97, 112])) (.agg #[.int .u8 24, .int .u8 0, .int .u8 1, .int .i16 0, .int .i32 0, .slice (some ⟨w.heap.size + 1, 0, none⟩) 2 2])).run Tryz.prog
      ((w1.alloc (.cells #[.string (S [109, 97, 112]), .slice (some ⟨w.heap.size + 1, 0, none⟩) 2 2, .bool false] 77)).alloc (.map #[] 0)) = .ok () w3 ∧
    Hid (Texts w3 (w1.heap.size + 1) 1 (fun _ => true)) ∧ w.heap.size ≤ w1.heap.size ∧ Below w.heap.size w w3 ∧ w1.heap.size + 1 < w3.heap.size := by
  have hp1 := hp.on (below_box w1 (.cells #[.string (S [109, 97, 112]), .slice (some ⟨w.heap.size + 1, 0, none⟩) 2 2, .bool false] 77))
  obtain ⟨w3, hrun, hT, hg⟩ := Texts.one (cap := 2) hp1
  have e : (w1.alloc (.cells #[.string (S [109, 97, 112]), .slice (some ⟨w.heap.size + 1, 0, none⟩) 2 2, .bool false] 77)).heap.size = w1.heap.size + 1 := by simp
  rw [e] at hrun hT hg
  have hsz := hb.size
  have hb1 : Below w.heap.size w ((w1.alloc (.cells #[.string (S [109, 97, 112]), .slice (some ⟨w.heap.size + 1, 0, none⟩) 2 2, .bool false] 77)).alloc (.map #[] 0)) := (hb.alloc hsz _).alloc (by simp; omega) _
  refine ⟨w3, hrun, Lib.hid hT, hsz, hb1.grown hg (by simp; omega) (fun k hk => by cases hk; omega), ?_⟩
  exact hT.lt
theorem grownB {w w' : World} (hb : Below w.heap.size w w') : w.grownBy w' none := ⟨hb.os, hb.tape, hb.output, hb.size, fun k hk _ => hb.block k hk⟩
theorem table_parts {w w3 w4 : World} {bt n0 : Nat} (hB : Below w.heap.size w w3) (hT : Texts w3 bt 1 (fun _ => true)) (hM : Making w3 w4 w3.heap.size n0 (memT 256)) :
    ∃ D0 : DataW Value, w4.ownsMap Tryz.prog 5 anyR w3.heap.size n0 D0 ∧ (∀ k, 0 ≤ k → k ≤ 255 → wdOf k = none → Maps.has D0 (.int .u8 k) = false) ∧
    (∀ k d, 0 ≤ k → k ≤ 255 → wdOf k = some d → ∃ A cap, PartsAt w4 A d.2.1 ∧ ∀ zd, D0.atKey (.int .u8 k) zd = .held (wordV d.1 A d.2.1.length cap d.2.2)) ∧ Hid (Texts w4 bt 1 (fun _ => true)) ∧ Below w.heap.size w w4 := by
  obtain ⟨D0, h1, h2, h3⟩ := hM.words
  exact ⟨D0, h1, h2, h3, Lib.hid (hT.kept (grownB hM.below) (by simp) (by simp)), hB.trans (hM.below.mono hB.size)⟩
theorem passed_start {w w4 w5 : World} {b0 n0 : Nat} {D0 : DataW Value} (hB : Below w.heap.size w w4) (hno : ∀ k, 0 ≤ k → k ≤ 255 → wdOf k = none → Maps.has D0 (.int .u8 k) = false)
    (hyes : ∀ k d, 0 ≤ k → k ≤ 255 → wdOf k = some d → ∃ A cap, PartsAt w4 A d.2.1 ∧ ∀ zd, D0.atKey (.int .u8 k) zd = .held (wordV d.1 A d.2.1.length cap d.2.2)) {left : Lit → Bool} {cnt r : Nat} (hrg : w5.ranges Tryz.prog 5 anyR b0 r n0 D0 left cnt) (hg : w4.grownBy w5 none) :
    Passed w w5 b0 r n0 D0 left cnt :=
  ⟨hrg, hno, fun k d k0 k1 hk => by
    obtain ⟨A, cap, hp, hv⟩ := hyes k d k0 k1 hk
    exact ⟨A, cap, hp.grown hg (by simp), hv⟩, hB.grown hg hB.size (by simp)⟩
theorem texts_start {w w4 : World} {b n : Nat} {D0 : DataW Value} (hT : Texts w b n (fun _ => true))
    (hyes : ∀ k d, 0 ≤ k → k ≤ 255 → wdOf k = some d → ∃ A cap, PartsAt w4 A d.2.1 ∧ ∀ zd, D0.atKey (.int .u8 k) zd = .held (wordV d.1 A d.2.1.length cap d.2.2)) : Texts w b n (Maps.has D0) := by
  obtain ⟨D, h1, h2, h3, h4⟩ := hT.own
  refine ⟨D, h1, h2, fun k t ps k0 k1 hk hl => ?_, h4⟩
  obtain ⟨A, cap, hp, hv⟩ := hyes k _ k0 k1 hk
  rw [Maps.has_true_of_atKey hv] at hl
  cases hl
/-- A round that has come to a word. -/
theorem round_come {w wr w6 : World} {b0 bt r n0 n cnt cnt1 : Nat} {D0 : DataW Value} {left left1 : Lit → Bool} {o : Obj} (hP : Passed w wr b0 r n0 D0 left cnt) (hT : Texts wr bt n left) (hrg : w6.ranges Tryz.prog 5 anyR b0 r n0 D0 left1 cnt1) (hg : wr.grownBy w6 (some r)) (hbr : bt ≠ r) (hwr : w.heap.size ≤ r) :
    Passed w (w6.alloc o) b0 r n0 D0 left1 cnt1 ∧ Texts (w6.alloc o) bt n left ∧ bt < w6.heap.size := by
  have hobj := ranges_block hP.ranges
  have hr : ∀ g, some r = some g → ∃ o, wr.heap[g]? = some o ∧ ∀ c t f, o ≠ .cells c t f := fun g hg' => by cases hg'; exact hobj
  have hT6 : Texts w6 bt n left := hT.kept hg (by simp; omega) hr
  refine ⟨gone_alloc ⟨hrg, hP.no, fun k d k0 k1 hk => ?_, hP.below.grown hg hP.below.size (fun k hk => by cases hk; exact hwr)⟩ o, texts_kept_alloc hT6 o, hT6.lt⟩
  obtain ⟨A, cap, hp, hv⟩ := hP.yes k d k0 k1 hk
  exact ⟨A, cap, hp.grown hg hr, hv⟩
/-- What wordsByTexts returns. -/
def StartMap (w : World) (e : Ending) (w' : World) : Prop := ∃ b n, e = .returned (.map (some b)) ∧ StartsIn w' b n ∧ Below w.heap.size w w'
set_option maxRecDepth 100000 in
set_option maxHeartbeats 4000000 in
theorem by_texts (w : World) : Calls Tryz.prog 32 #[] w (StartMap w) := by
  have hm := fun w' => map_word w'
  unfold wordV at hm
  have hmm := @run_makeMap Tryz.prog
  go_enter Tryz.func32, Tryz.ntmps32
  go_wp2_with (first
    | (go_at_call 48; refine (hm _).mono ?_; rintro e w1 ⟨rfl, hp1, hb1⟩; obtain ⟨w3, hrun, HX3, hg3, hB3, hz3⟩ := first_put hp1 hb1; have HB3 := Lib.hid hB3; clear hp1 hb1 hB3)
    | (go_at_call 18; refine (table_made_n _).mono ?_; rintro e w4 ⟨rfl, n0, hn0, hM⟩; obtain ⟨D0, hown, hno, hyes, HX4, hB4⟩ := table_parts HB3.out HX3.out hM; have HNo := Lib.hid hno; have HYes := Lib.hid hyes; have HB4 := Lib.hid hB4; clear hno hyes hB4 hM hrun)
    | (at_range; refine wpList_range_own _ rfl _ 49 rfl 5 77 keyed5 Tryz.underlying49 _ w3.heap.size n0 D0 rfl hown ?_; intro w5 hrg0 hg0 hs0)
    | go_in)
  go_frame
  have hcnt := hown.size_le
  obtain ⟨bt, hbt⟩ : ∃ b, w1.heap.size + 1 = b := ⟨_, rfl⟩
  obtain ⟨b0, hb0⟩ : ∃ b, w3.heap.size = b := ⟨_, rfl⟩
  obtain ⟨r, hr⟩ : ∃ b, w4.heap.size = b := ⟨_, rfl⟩
  have HT5 := Lib.hid (texts_start (HX4.out.kept hg0 (by simp) (by simp)) HYes.out)
  have HP5 := Lib.hid (show Passed w w5 w3.heap.size w4.heap.size n0 D0 (Maps.has D0) (Maps.size D0) from passed_start HB4.out HNo.out HYes.out hrg0 hg0)
  have hbr : bt ≠ r := by have := HX4.out.lt; omega
  have hbb : bt ≠ b0 := by omega
  have hwt : w.heap.size ≤ bt := by omega
  have hwr : w.heap.size ≤ r := by have := HB4.out.size; omega
  rw [hbt] at HT5 ⊢
  rw [hb0, hr] at HP5
  rw [hr]
  clear hbt hb0 hr HX3 HX4 HB3 HB4 HNo HYes hz3 hown hrg0 hg0 hs0
  go_loopw [3] (fun _ wr => ∃ (left : Lit → Bool) (cnt n : Nat), Passed w wr b0 r n0 D0 left cnt ∧ Texts wr bt n left ∧ n + cnt ≤ 700) (fun _ wr => wr.rangeLeft b0 r)
  case atStart => exact ⟨_, _, 1, HP5.out, HT5.out, by omega⟩
  case round =>
    obtain ⟨left, cnt, n, hP, hT, hn⟩ := hrel
    have HN := Lib.hid hn
    have HP := Lib.hid hP
    have HT := Lib.hid hT
    have hrg := hP.ranges
    clear hn hP hT HT5 HP5 hcnt
    go_wp2_with (first
      | (at_next; refine wpList_next_ranges _ rfl _ rfl 5 keyed5 anyR (Value.int .u8) (fun v : Value => v) (fun key kl hkey => by obtain ⟨x, rfl, _, _⟩ := Maps.keyOf_int_inv Tryz.underlying5 hkey; exact ⟨x, rfl⟩) (fun v y _ => ⟨v, rfl⟩) b0 r n0 _ _ _ rfl hrg ?_ ?_)
      | go_in)
    · intro _ hl0
      go_wp2
      go_ret
      exact ⟨_, _, rfl, HT.out.done hl0, HP.out.below⟩
    · intro x c kl y1 y2 w6 cnt1 hkey hlk hv hat hrg1 hlt hg1 hs1 hen
      obtain ⟨rfl, x0, x1, t, ps, f, A, cap, hw, rfl, hp⟩ := HP.out.come (y := (y1, y2)) hkey hv hat
      obtain ⟨hP6, hT6, hb6⟩ := round_come (o := .cells #[.string (S t), .slice A ps.length cap, .bool f] 77) HP.out HT.out hrg1 hg1 hbr hwr
      have HP6 := Lib.hid hP6
      have HL := Lib.hid (show cnt1 < cnt from hlt)
      cases f
      · obtain ⟨w7, hrun, hT7, hg7⟩ := hT6.put (cap := cap) x0 x1 hw (hp.grown (hg1.andThen (World.grownBy_alloc w6 _ none) (by simp)) (fun g hg' => by cases hg'; exact ranges_block HP.out.ranges)) (wd_short x0 x1 hw) (by have := HN.out; omega)
        unfold startV at hrun
        have HT7 := Lib.hid hT7
        have HP7 := Lib.hid (HP6.out.kept hg7 (by simp; omega) (by simp; omega) (fun g hg => by cases hg; exact ⟨hwt, map_block hT6.own.choose_spec.1⟩))
        clear hT6 hlk hv hat hkey hg1 hs1 hlt hw hp hrg hrg1 x0 x1 hP6 hT7 hg7
        go_wp2
        go_roundw
        case rel => exact ⟨_, cnt1, n + 1, HP7.out, HT7.out, by have := HN.out; have := HL.out; omega⟩
        case measure => rw [HP7.out.ranges.left_eq, HP.out.ranges.left_eq]; exact HL.out
      · have HT6 := Lib.hid (hT6.skip hw)
        clear hP6 hT6 hlk hv hat hkey hg1 hs1 hlt hw hp hrg hrg1 x0 x1
        go_wp2
        go_roundw
        case rel => exact ⟨_, cnt1, n, HP6.out, HT6.out, by have := HN.out; have := HL.out; omega⟩
        case measure => rw [HP6.out.ranges.left_eq, HP.out.ranges.left_eq]; exact HL.out
end Go.Proofs.YthmibmofdmlgaaaGreatDoor
