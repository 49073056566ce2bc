import Derived.Test.YthmibmofdmlgaaaGreatDoorHLineAt
/-
  Proved here: lineAt of package asm at a wide instruction. Conditions: the place is one of the code's; the map has the table's words; the library's table.
-/
namespace Go.Proofs.YthmibmofdmlgaaaGreatDoor
open Go.RowKit
set_option linter.unusedVariables false
set_option linter.unusedSimpArgs false

theorem second_on (w W : World) (g off len cap k : Nat) (l : List Ins) (hl : l.length = len) (hm : len ≤ maxLen) (hr : InsAt w (some ⟨g, off, none⟩) l) (hb : Below w.heap.size w W) {v : Bool} (hv : secN l (k + 1) = v) :
    Calls Tryz.prog 19 #[.slice (some ⟨g, off, none⟩) len cap, .int .i64 ((k : Int) + 1)] W fun e w' => e = .returned (.bool v) ∧ Below W.heap.size W w' := by
  have h := second_isa W (some ⟨g, off, none⟩) len cap (k + 1) l hl hm (hr.below hb)
  rw [hv] at h
  have e : ((k + 1 : Nat) : Int) = (k : Int) + 1 := by omega
  rw [e] at h
  exact h
set_option maxRecDepth 100000 in
set_option maxHeartbeats 2000000 in
theorem at_wide_no (d s f m : Int) (w : World) (b len cap k g off : Nat) (l : List Ins) (hl : l.length = len) (hm : len ≤ 9223372036854775807) (hk : k < len) (hrow : InsAt w (some ⟨g, off, none⟩) l) (hsec : secN l (k + 1) = false)
    (hm0 : -2147483648 ≤ m) (hm1 : m ≤ 2147483647)
    (c0 : w.cell? ⟨g, off + k * 5, none⟩ = some (.int .u8 24)) (c1 : w.cell? ⟨g, off + k * 5 + 1, none⟩ = some (.int .u8 d)) (c2 : w.cell? ⟨g, off + k * 5 + 2, none⟩ = some (.int .u8 s))
    (c3 : w.cell? ⟨g, off + k * 5 + 3, none⟩ = some (.int .i16 f)) (c4 : w.cell? ⟨g, off + k * 5 + 4, none⟩ = some (.int .i32 m)) (hr : rightI ⟨24, d, s, f, m⟩ = true) :
    Calls Tryz.prog 21 #[.map (some b), .slice (some ⟨g, off, none⟩) len cap, .int .i64 k] w (EndO none w) := by
  have hwm : IntKind.i64.wrap m = m := IntWalk.i64_in _ (by omega)
  have hs := fun W (h : Below w.heap.size w W) => second_on w W g off len cap k l hl (by unfold maxLen; omega) hrow h hsec
  clear hrow hsec hl
  go_enter Tryz.func21, Tryz.ntmps21
  go_wp2_with (first
    | (go_at_call 41; refine (right_isa 24 d s f m _ (by omega) (by omega)).mono ?_; rintro e w1 ⟨rfl, hb1⟩; rw [hr]; have a0 := stays hb1 c0; have a1 := stays hb1 c1; have a2 := stays hb1 c2; have a3 := stays hb1 c3; have a4 := stays hb1 c4; have hg1 : g < w1.heap.size := World.block_lt_of_cell? w1 _ a0; have HB1 := Lib.hid hb1; clear hb1)
    | (go_at_call 43; refine (must_yes _).mono ?_; rintro e w2 ⟨rfl, rfl⟩))
  clear c0 c1 c2 c3 c4 hr
  have hB2 := line_box w w1 HB1.out 24 d s f m m
  go_region
  all_goals
    go_wp2_with (first
      | (go_at_call 19; refine (hs _ (hB2.drew).2.2.2.2.2.2).mono ?_; rintro e w3 ⟨rfl, hb3⟩; have HB3 := Lib.hid (hB2.drew.on hb3); clear hb3)
      | (go_at_call 43; refine (must_no _).mono ?_; rintro e w4 ⟨rfl, rfl⟩))
    exact ⟨rfl, HB3.out.2.2.2.2.2.2, rfl⟩
/-- The cells of an instruction. -/
def InsC (w : World) (g p : Nat) (o d s f m : Int) : Prop := w.cell? ⟨g, p, none⟩ = some (.int .u8 o) ∧ w.cell? ⟨g, p + 1, none⟩ = some (.int .u8 d) ∧ w.cell? ⟨g, p + 2, none⟩ = some (.int .u8 s) ∧ w.cell? ⟨g, p + 3, none⟩ = some (.int .i16 f) ∧ w.cell? ⟨g, p + 4, none⟩ = some (.int .i32 m)
theorem InsC.on {w w' : World} {g p : Nat} {o d s f m : Int} (h : InsC w g p o d s f m) (hb : Below w.heap.size w w') : InsC w' g p o d s f m :=
  ⟨stays hb h.1, stays hb h.2.1, stays hb h.2.2.1, stays hb h.2.2.2.1, stays hb h.2.2.2.2⟩
theorem LineS.put {w0 W : World} {bx : Nat} {o d s f m n : Int} (h : LineS w0 W bx o d s f m n) (hb : w0.heap.size ≤ bx) (n' : Int) : LineS w0 (W.setCell ⟨bx, 5, none⟩ (.int .i64 n')) bx o d s f m n' := by
  refine ⟨?_, ?_, ?_, ?_, ?_, World.cell?_setCell_same' W _ _ (by rw [h.2.2.2.2.2.1]; rfl), h.2.2.2.2.2.2.setCell hb _⟩
  · rw [World.cell?_setCell_other _ _ _ _ (by simp)]; exact h.1
  · rw [World.cell?_setCell_other _ _ _ _ (by simp)]; exact h.2.1
  · rw [World.cell?_setCell_other _ _ _ _ (by simp)]; exact h.2.2.1
  · rw [World.cell?_setCell_other _ _ _ _ (by simp)]; exact h.2.2.2.1
  · rw [World.cell?_setCell_other _ _ _ _ (by simp)]; exact h.2.2.2.2.1
theorem box_free {w W : World} {o d s f m n : Int} (hb : Below (w.alloc (.cells #[.int .u8 o, .int .u8 d, .int .u8 s, .int .i16 f, .int .i32 m, .int .i64 n] 72)).heap.size (w.alloc (.cells #[.int .u8 o, .int .u8 d, .int .u8 s, .int .i16 f, .int .i32 m, .int .i64 n] 72)) W) (k : Nat) : W.frozen? ⟨w.heap.size, k, none⟩ = false := by
  have h := (MapKept.heap_alloc w (.cells #[.int .u8 o, .int .u8 d, .int .u8 s, .int .i16 f, .int .i32 m, .int .i64 n] 72)).1
  rw [hb.frozen (p := ⟨w.heap.size, k, none⟩) (by simp)]
  simp only [World.frozen?, h]
  simp
theorem free_on {w W : World} {p : Addr} (h : w.frozen? p = false) (hp : p.block < w.heap.size) (hb : Below w.heap.size w W) : W.frozen? p = false := (hb.frozen hp).trans h
theorem wide_in (d s f m o' d' s' f' m' v : Int) (W : World) (hv : m % 4294967296 + m' % 4294967296 * 4294967296 = v) :
    Calls Tryz.prog 44 #[.agg #[.int .u8 24, .int .u8 d, .int .u8 s, .int .i16 f, .int .i32 m], .agg #[.int .u8 o', .int .u8 d', .int .u8 s', .int .i16 f', .int .i32 m']] W fun e w' => e = .returned (.int .u64 v) ∧ Below W.heap.size W w' := by
  rw [← hv]
  exact wide_inst 24 d s f m o' d' s' f' m' W
set_option maxRecDepth 100000 in
set_option maxHeartbeats 4000000 in
theorem at_wide (d s f m o' d' s' f' m' v n : Int) (w : World) (b N len cap k g off : Nat) (l : List Ins) (hl : l.length = len) (hm : len ≤ 9223372036854775807) (hk : k + 1 < len) (hrow : InsAt w (some ⟨g, off, none⟩) l) (hsec : secN l (k + 1) = true)
    (hx : (⟨24, d, s, f, m⟩ : Ins).Fit) (hw : WordsIn w b N (memT 256)) (he : Env w) (hg : g < w.heap.size) (hv : m % 4294967296 + m' % 4294967296 * 4294967296 = v) (hn : IntKind.i64.wrap v = n) (hn0 : -9223372036854775808 ≤ n) (hn1 : n ≤ 9223372036854775807)
    (hc : InsC w g (off + k * 5) 24 d s f m) (hc' : InsC w g (off + (k + 1) * 5) o' d' s' f' m') (hr : rightI ⟨24, d, s, f, m⟩ = true) :
    Calls Tryz.prog 21 #[.map (some b), .slice (some ⟨g, off, none⟩) len cap, .int .i64 k] w (EndO (lineO ⟨24, d, s, f, m⟩ n) w) := by
  have hx' := Lib.hid hx
  have hm0 := hx.imm.1
  have hm1 := hx.imm.2
  dsimp only at hm0 hm1
  have hwm : IntKind.i64.wrap m = m := IntWalk.i64_in _ (by omega)
  have hs := fun W (h : Below w.heap.size w W) => second_on w W g off len cap k l hl (by unfold maxLen; omega) hrow h hsec
  have hwide := fun W => wide_in d s f m o' d' s' f' m' v W hv
  have HW := Lib.hid hw
  have HE := Lib.hid he
  have HR := Lib.hid hr
  have HC := Lib.hid hc
  have HC2 := Lib.hid hc'
  have HN := Lib.hid hn
  obtain ⟨c0, c1, c2, c3, c4⟩ := hc
  clear hrow hsec hl hx hw he hv hc' hn
  go_enter Tryz.func21, Tryz.ntmps21
  go_wp2_with (first
    | (go_at_call 41; refine (right_isa 24 d s f m _ (by omega) (by omega)).mono ?_; rintro e w1 ⟨rfl, hb1⟩; rw [hr]; have a0 := stays hb1 c0; have a1 := stays hb1 c1; have a2 := stays hb1 c2; have a3 := stays hb1 c3; have a4 := stays hb1 c4; have hg1 : g < w1.heap.size := World.block_lt_of_cell? w1 _ a0; have HB1 := Lib.hid hb1; clear hb1)
    | (go_at_call 43; refine (must_yes _).mono ?_; rintro e w2 ⟨rfl, rfl⟩))
  clear c0 c1 c2 c3 c4 hr
  have hB2 := line_box w w1 HB1.out 24 d s f m m
  have hfr0 := Lib.hid (show (w1.alloc (.cells #[.int .u8 24, .int .u8 d, .int .u8 s, .int .i16 f, .int .i32 m, .int .i64 m] 72)).drew.frozen? ⟨w1.heap.size, 5, none⟩ = false from box_free (Below.refl _ _) 5)
  go_region
  all_goals
    go_wp2_with (first
      | (go_at_call 19; refine (hs _ (hB2.drew).2.2.2.2.2.2).mono ?_; rintro e w3 ⟨rfl, hb3⟩; have HB3 := Lib.hid (hB2.drew.on hb3); have hfz := free_on hfr0.out (by simp) hb3; clear hb3)
      | (go_at_call 43; refine (must_yes _).mono ?_; rintro e w4 ⟨rfl, rfl⟩))
    have hbx : w1.heap.size < w3.heap.size := World.block_lt_of_cell? w3 _ HB3.out.1
    obtain ⟨x0, x1, x2, x3, x4⟩ := HC.out.on HB3.out.2.2.2.2.2.2
    obtain ⟨y0, y1, y2, y3, y4⟩ := HC2.out.on HB3.out.2.2.2.2.2.2
    have hw5 := HB3.out.2.2.2.2.2.1
    have e1 : IntKind.i64.wrap ((k : Int) + 1) = (k : Int) + 1 := IntWalk.i64_in _ (by omega)
    have hwv := HN.out
    clear a0 a1 a2 a3 a4 hs
    go_region_with (go_at_call 44; refine (hwide _).mono ?_; rintro e w5 ⟨rfl, hb5⟩; have HB5 := Lib.hid (HB3.out.drew.on hb5); have hf5 := free_on (W := w5) (w := w3.drew) hfz hbx hb5; have hc5 := HB5.out.2.2.2.2.2.1; clear hb5)
    all_goals
      have hS0 := (HB5.out).put (by have := HB1.out.size; omega) n
      have hword := fun W (h : LineS w W w1.heap.size 24 d s f m n) => word_in HW.out hx'.out HR.out h
      have htext := fun W A cap (h : Worded w W w1.heap.size 24 d s f m n (wordI ⟨24, d, s, f, m⟩) A) => text_in (cap := cap) HE.out hx'.out hn0 hn1 h
      clear x0 x1 x2 x3 x4 y0 y1 y2 y3 y4 hw5 e1 hwv hwide hc5 hf5 HB5 HB3 hfz hbx hwm
      go_wp2
      have hS1 := hS0.drew
      by_cases hB : lineB ⟨24, d, s, f, m⟩ n (wordI ⟨24, d, s, f, m⟩) = true
      · have HB := Lib.hid hB
        clear hB
        go_region_held (fun W => W.cell? ⟨w1.heap.size, 0, none⟩ = some (.int .u8 24) ∧ W.cell? ⟨w1.heap.size, 1, none⟩ = some (.int .u8 d) ∧ W.cell? ⟨w1.heap.size, 2, none⟩ = some (.int .u8 s) ∧ W.cell? ⟨w1.heap.size, 3, none⟩ = some (.int .i16 f) ∧ W.cell? ⟨w1.heap.size, 4, none⟩ = some (.int .i32 m) ∧ W.cell? ⟨w1.heap.size, 5, none⟩ = some (.int .i64 n) ∧ Below w.heap.size w W)
          (first | exact hS1 | exact hS6.line | exact hS7 | assumption)
          (first
            | (go_at_call 46; refine (hword _ (by assumption)).mono ?_; rintro e w6 ⟨A, cap, rfl, hp6, hb6⟩; have hS6 : Worded w w6 w1.heap.size 24 d s f m n (wordI ⟨24, d, s, f, m⟩) A := ⟨LineS.on (by assumption) hb6, hp6⟩; unfold wordV; clear hp6 hb6 hword)
            | (go_at_call 45; refine (htext _ _ _ hS6).mono ?_; intro e w7 h7; obtain ⟨rfl, hb7⟩ := end_yes HB.out h7; have hS7 := hS6.line.on hb7; clear hb7 h7))
        go_wp2
        go_ret
        exact ⟨hS7.2.2.2.2.2.2, by unfold lineO; rw [if_pos HB.out]; rfl⟩
      · have HB := Lib.hid (show lineB ⟨24, d, s, f, m⟩ n (wordI ⟨24, d, s, f, m⟩) = false by simpa using hB)
        clear hB
        refine wp_region_held_drew (S := fun W => W.cell? ⟨w1.heap.size, 0, none⟩ = some (.int .u8 24) ∧ W.cell? ⟨w1.heap.size, 1, none⟩ = some (.int .u8 d) ∧ W.cell? ⟨w1.heap.size, 2, none⟩ = some (.int .u8 s) ∧ W.cell? ⟨w1.heap.size, 3, none⟩ = some (.int .i16 f) ∧ W.cell? ⟨w1.heap.size, 4, none⟩ = some (.int .i32 m) ∧ W.cell? ⟨w1.heap.size, 5, none⟩ = some (.int .i64 n) ∧ Below w.heap.size w W) (by kernel_rfl) hS1 (fun hHeld => ?_)
        refine wpAnyH_take (i := 0) (v := .agg #[.int .u8 24, .int .u8 d, .int .u8 s, .int .i16 f, .int .i32 m, .int .i64 n]) rfl (by kernel_rfl) (by kernel_rfl) (by kernel_rfl) (fun _ _ _ h => h) (Or.inl ⟨by rfl, ?_⟩) (by assumption) ?_
        · intro W hSw
          go_simp
        simp only [Act.put, List.setIfInBounds_toArray, List.set_cons_zero, List.set_cons_succ]
        refine wpAnyH_take (i := 1) (v := .map (some b)) rfl (by kernel_rfl) (by kernel_rfl) (by kernel_rfl) (fun _ _ _ h => h) (Or.inl ⟨by rfl, ?_⟩) (by assumption) ?_
        · intro W hSw
          go_simp
        simp only [Act.put, List.setIfInBounds_toArray, List.set_cons_zero, List.set_cons_succ]
        refine wpAnyH_take (i := 2) (v := .pointer (some ⟨w1.heap.size, 0, none⟩)) rfl (by kernel_rfl) (by kernel_rfl) (by kernel_rfl) (fun _ _ _ h => h) (Or.inl ⟨by rfl, ?_⟩) (by assumption) ?_
        · intro W hSw
          go_simp
        simp only [Act.put, List.setIfInBounds_toArray, List.set_cons_zero, List.set_cons_succ]
        refine wpAnyH_take (i := 3) (v := .agg #[.int .u8 24, .int .u8 d, .int .u8 s, .int .i16 f, .int .i32 m]) rfl (by kernel_rfl) (by kernel_rfl) (by kernel_rfl) (fun _ _ _ h => h) (Or.inl ⟨by rfl, ?_⟩) (by assumption) ?_
        · intro W hSw
          go_simp
        simp only [Act.put, List.setIfInBounds_toArray, List.set_cons_zero, List.set_cons_succ]
        refine wpAnyH_ready (rs := [4]) (by kernel_rfl) (by simp) ?_
        refine AllReadyH.cons rfl (fun K hK => ?_) AllReadyH.nil
        go_simp
        go_wp2_with (go_at_call 46; refine (hword _ hS1).mono ?_; rintro e w6 ⟨A, cap, rfl, hp6, hb6⟩; have hS6 : Worded w w6 w1.heap.size 24 d s f m n (wordI ⟨24, d, s, f, m⟩) A := ⟨LineS.on hS1 hb6, hp6⟩; unfold wordV; clear hp6 hb6 hword)
        refine hK.out _ _ hS6.line (fun hHeld6 => ?_)
        clear hK K
        refine wpAnyH_ready (rs := [5]) (by kernel_rfl) (by simp) ?_
        refine AllReadyH.cons rfl (fun K hK => ?_) AllReadyH.nil
        go_simp
        go_wp2_with (go_at_call 45; refine (htext _ _ _ hS6).mono ?_; intro e w7 h7; obtain ⟨rfl, hb7⟩ := end_no HB.out h7; exact ⟨rfl, (hS6.line.on hb7).2.2.2.2.2.2, by unfold lineO; rw [if_neg (by rw [HB.out]; simp)]⟩)
end Go.Proofs.YthmibmofdmlgaaaGreatDoor
