import Derived.Test.YthmibmofdmlgaaaGreatDoorG05
import Derived.Deep.RegionWith
/-
  Proved here: lineAt of package asm returns the text of the line at a place, or is given up. Conditions: the place is one of the code's; the map has the table's words; the library's table.
-/
namespace Go.Proofs.YthmibmofdmlgaaaGreatDoor
open Go.RowKit
set_option linter.unusedVariables false
set_option linter.unusedSimpArgs false

theorem line_text (x : Ins) (n : Int) (d : Wd) (cap : Nat) (A : Option Addr) (w : World) (h4 : d.2.1.length ≤ 3) (hn0 : -9223372036854775808 ≤ n) (hn1 : n ≤ 9223372036854775807) (hx : x.Fit) (hps : ∀ p ∈ d.2.1, 0 ≤ p ∧ p ≤ 6)
    (hp : PartsAt w A d.2.1) (he : Env w) (ht : d.1.length ≤ 100) :
    Calls Tryz.prog 45 #[lineV x.op x.dst x.src x.off x.imm n, wordV d.1 A d.2.1.length cap d.2.2] w (LineEnd x n d w) := by
  obtain ⟨t, ps, reg⟩ := d
  dsimp only at *
  by_cases h0 : ps = []
  · subst h0
    refine (line_none x.op x.dst x.src x.off x.imm n t reg cap A w).mono fun e w' h => ?_
    unfold LineEnd
    rw [if_pos (by rfl)]
    exact h
  · have hl : 0 < ps.length := List.length_pos_iff.2 h0
    obtain ⟨pg, po, rfl, hpg⟩ : ∃ pg po, A = some ⟨pg, po, none⟩ ∧ pg < w.heap.size := by
      rcases hp with ⟨h, _⟩ | ⟨g, off, cs, fz, rfl, hb, hc⟩
      · exact absurd h h0
      · exact ⟨g, off, rfl, (Array.getElem?_eq_some_iff.1 hb).1⟩
    exact line_some x n t ps reg cap ps.length pg po w rfl hl h4 hn0 hn1 hx hps hpg hp he ht
def wdB (d : Wd) : Bool := decide (d.2.1.length ≤ 3) && d.2.1.all (fun p => decide (0 ≤ p ∧ p ≤ 6)) && decide (d.1.length ≤ 100)
theorem wd_small : ∀ n : Fin 256, (match wdOf (n.val : Int) with | some d => wdB d | none => true) = true := by decide +kernel
theorem word_small {x : Ins} (hx : x.Fit) : wdB (wordI x) = true := by
  unfold wordI
  by_cases hm : x.op = 24 ∧ x.src = 1
  · rw [if_pos hm]; rfl
  · rw [if_neg hm]
    have h := of_table (f := fun op => match wdOf op with | some d => wdB d | none => true) (g := fun _ => true) wd_small hx.op.1 hx.op.2
    cases hd : wdOf x.op with
    | none => rfl
    | some d => rw [hd] at h; exact h
theorem text_of_word (x : Ins) (n : Int) (cap : Nat) (A : Option Addr) (w : World) (hn0 : -9223372036854775808 ≤ n) (hn1 : n ≤ 9223372036854775807) (hx : x.Fit) (hp : PartsAt w A (wordI x).2.1) (he : Env w) :
    Calls Tryz.prog 45 #[lineV x.op x.dst x.src x.off x.imm n, wordV (wordI x).1 A (wordI x).2.1.length cap (wordI x).2.2] w (LineEnd x n (wordI x) w) := by
  have h := word_small hx
  unfold wdB at h
  simp only [Bool.and_eq_true, decide_eq_true_eq, List.all_eq_true] at h
  exact line_text x n (wordI x) cap A w h.1.1 hn0 hn1 hx h.1.2 hp he h.2
/-- A text, or given up; nothing below is turned. -/
def EndO (o : Option (List UInt8)) (w : World) (e : Ending) (w' : World) : Prop := Below w.heap.size w w' ∧ e = match o with | some t => .returned (.string (S t)) | none => .panicked given
theorem WordsIn.on {w w' : World} {b n : Nat} {T : List (Int × Wd)} (h : WordsIn w b n T) (hb : Below w.heap.size w w') : WordsIn w' b n T :=
  h.none ⟨hb.os, hb.tape, hb.output, hb.size, fun k hk _ => hb.block k hk⟩
theorem lineEnd_O {x : Ins} {n : Int} {w : World} {e : Ending} {w' : World} (h : LineEnd x n (wordI x) w e w') : EndO (lineO x n) w e w' := by
  unfold LineEnd at h
  unfold EndO lineO
  by_cases hb : lineB x n (wordI x) = true
  · rw [if_pos hb] at h ⊢
    exact ⟨h.2, h.1⟩
  · rw [if_neg hb] at h ⊢
    exact ⟨h.2, h.1⟩
/-- What the line at a place is. -/
def atO (l : List Ins) (k : Nat) : Option (List UInt8) :=
  if rightI (l.getD k .zero) = false then none
  else if (l.getD k .zero).op = 24 then if secN l (k + 1) = true then lineO (l.getD k .zero) (wideN (l.getD k .zero) (l.getD (k + 1) .zero)) else none
  else lineO (l.getD k .zero) (l.getD k .zero).imm
theorem at_wrong (o d s f m : Int) (w : World) (b len cap k g off : Nat) (hm : len ≤ 9223372036854775807) (hk : k < len) (h0 : 0 ≤ o) (h1 : o ≤ 255)
    (c0 : w.cell? ⟨g, off + k * 5, none⟩ = some (.int .u8 o)) (c1 : w.cell? ⟨g, off + k * 5 + 1, none⟩ = some (.int .u8 d)) (c2 : w.cell? ⟨g, off + k * 5 + 2, none⟩ = some (.int .u8 s))
    (c3 : w.cell? ⟨g, off + k * 5 + 3, none⟩ = some (.int .i16 f)) (c4 : w.cell? ⟨g, off + k * 5 + 4, none⟩ = some (.int .i32 m)) (hr : rightI ⟨o, d, s, f, m⟩ = false) :
    Calls Tryz.prog 21 #[.map (some b), .slice (some ⟨g, off, none⟩) len cap, .int .i64 k] w (EndO none w) := by
  go_enter Tryz.func21, Tryz.ntmps21
  go_wp2_with (first
    | (go_at_call 41; refine (right_isa o d s f m _ h0 h1).mono ?_; rintro e w1 ⟨rfl, hb1⟩; rw [hr]; have HB1 := Lib.hid hb1; clear hb1)
    | (go_at_call 43; refine (must_no _).mono ?_; rintro e w2 ⟨rfl, rfl⟩))
  exact ⟨rfl, HB1.out, rfl⟩
/-- The box of a line, and what else is known while its text is made. -/
def LineS (w0 W : World) (bx : Nat) (o d s f m n : Int) : Prop := W.cell? ⟨bx, 0, none⟩ = some (.int .u8 o) ∧ W.cell? ⟨bx, 1, none⟩ = some (.int .u8 d) ∧ W.cell? ⟨bx, 2, none⟩ = some (.int .u8 s) ∧ W.cell? ⟨bx, 3, none⟩ = some (.int .i16 f) ∧ W.cell? ⟨bx, 4, none⟩ = some (.int .i32 m) ∧ W.cell? ⟨bx, 5, none⟩ = some (.int .i64 n) ∧ Below w0.heap.size w0 W
theorem LineS.on {w0 W w2 : World} {bx : Nat} {o d s f m n : Int} (h : LineS w0 W bx o d s f m n) (hb : Below W.heap.size W w2) : LineS w0 w2 bx o d s f m n :=
  ⟨stays hb h.1, stays hb h.2.1, stays hb h.2.2.1, stays hb h.2.2.2.1, stays hb h.2.2.2.2.1, stays hb h.2.2.2.2.2.1, h.2.2.2.2.2.2.trans (hb.mono h.2.2.2.2.2.2.size)⟩
theorem LineS.drew {w0 W : World} {bx : Nat} {o d s f m n : Int} (h : LineS w0 W bx o d s f m n) : LineS w0 W.drew bx o d s f m n :=
  ⟨h.1, h.2.1, h.2.2.1, h.2.2.2.1, h.2.2.2.2.1, h.2.2.2.2.2.1, h.2.2.2.2.2.2.drew⟩
theorem line_box (w0 w : World) (hb : Below w0.heap.size w0 w) (o d s f m n : Int) : LineS w0 (w.alloc (.cells #[.int .u8 o, .int .u8 d, .int .u8 s, .int .i16 f, .int .i32 m, .int .i64 n] 72)) w.heap.size o d s f m n :=
  ⟨cell_new w [.int .u8 o, .int .u8 d, .int .u8 s, .int .i16 f, .int .i32 m, .int .i64 n] 72 0 _ rfl, cell_new w [.int .u8 o, .int .u8 d, .int .u8 s, .int .i16 f, .int .i32 m, .int .i64 n] 72 1 _ rfl,
   cell_new w [.int .u8 o, .int .u8 d, .int .u8 s, .int .i16 f, .int .i32 m, .int .i64 n] 72 2 _ rfl, cell_new w [.int .u8 o, .int .u8 d, .int .u8 s, .int .i16 f, .int .i32 m, .int .i64 n] 72 3 _ rfl,
   cell_new w [.int .u8 o, .int .u8 d, .int .u8 s, .int .i16 f, .int .i32 m, .int .i64 n] 72 4 _ rfl, cell_new w [.int .u8 o, .int .u8 d, .int .u8 s, .int .i16 f, .int .i32 m, .int .i64 n] 72 5 _ rfl, hb.alloc hb.size _⟩
theorem word_in {w W : World} {b n bx : Nat} {o d s f m k : Int} (hw : WordsIn w b n (memT 256)) (hx : (⟨o, d, s, f, m⟩ : Ins).Fit) (hr : rightI ⟨o, d, s, f, m⟩ = true) (h : LineS w W bx o d s f m k) :
    Calls Tryz.prog 46 #[.map (some b), .agg #[.int .u8 o, .int .u8 d, .int .u8 s, .int .i16 f, .int .i32 m]] W (Word (wordI ⟨o, d, s, f, m⟩) W) := word_of ⟨o, d, s, f, m⟩ W b n (hw.on h.2.2.2.2.2.2) hx hr
/-- What is known of the word that wordOf has returned. -/
structure Worded (w W : World) (bx : Nat) (o d s f m k : Int) (wd : Wd) (A : Option Addr) : Prop where
  line : LineS w W bx o d s f m k
  parts : PartsAt W A wd.2.1
theorem text_in {w W : World} {bx : Nat} {o d s f m k : Int} {A : Option Addr} {cap : Nat} (he : Env w) (hx : (⟨o, d, s, f, m⟩ : Ins).Fit) (hk0 : -9223372036854775808 ≤ k) (hk1 : k ≤ 9223372036854775807) (h : Worded w W bx o d s f m k (wordI ⟨o, d, s, f, m⟩) A) :
    Calls Tryz.prog 45 #[.agg #[.int .u8 o, .int .u8 d, .int .u8 s, .int .i16 f, .int .i32 m, .int .i64 k], .agg #[.string (S (wordI ⟨o, d, s, f, m⟩).1), .slice A (wordI ⟨o, d, s, f, m⟩).2.1.length cap, .bool (wordI ⟨o, d, s, f, m⟩).2.2]] W (LineEnd ⟨o, d, s, f, m⟩ k (wordI ⟨o, d, s, f, m⟩) W) :=
  text_of_word ⟨o, d, s, f, m⟩ k cap A W hk0 hk1 hx h.parts (he.on h.line.2.2.2.2.2.2)
theorem end_yes {x : Ins} {n : Int} {w : World} {e : Ending} {w' : World} (hB : lineB x n (wordI x) = true) (h : LineEnd x n (wordI x) w e w') : e = .returned (.string (S (lineT x n (wordI x)))) ∧ Below w.heap.size w w' := by
  unfold LineEnd at h
  rw [if_pos hB] at h
  exact h
theorem end_no {x : Ins} {n : Int} {w : World} {e : Ending} {w' : World} (hB : lineB x n (wordI x) = false) (h : LineEnd x n (wordI x) w e w') : e = .panicked given ∧ Below w.heap.size w w' := by
  unfold LineEnd at h
  rw [if_neg (by rw [hB]; simp)] at h
  exact h
set_option maxRecDepth 100000 in
set_option maxHeartbeats 2000000 in
theorem at_plain (o d s f m : Int) (w : World) (b n len cap k g off : Nat) (hm : len ≤ 9223372036854775807) (hk : k < len) (hx : (⟨o, d, s, f, m⟩ : Ins).Fit) (h24 : o ≠ 24) (hw : WordsIn w b n (memT 256)) (he : Env w)
    (c0 : w.cell? ⟨g, off + k * 5, none⟩ = some (.int .u8 o)) (c1 : w.cell? ⟨g, off + k * 5 + 1, none⟩ = some (.int .u8 d)) (c2 : w.cell? ⟨g, off + k * 5 + 2, none⟩ = some (.int .u8 s))
    (c3 : w.cell? ⟨g, off + k * 5 + 3, none⟩ = some (.int .i16 f)) (c4 : w.cell? ⟨g, off + k * 5 + 4, none⟩ = some (.int .i32 m)) (hr : rightI ⟨o, d, s, f, m⟩ = true) :
    Calls Tryz.prog 21 #[.map (some b), .slice (some ⟨g, off, none⟩) len cap, .int .i64 k] w (EndO (lineO ⟨o, d, s, f, m⟩ m) w) := by
  have hx' := Lib.hid hx
  have ho0 := hx.op.1
  have ho1 := hx.op.2
  have hm0 := hx.imm.1
  have hm1 := hx.imm.2
  dsimp only at ho0 ho1 hm0 hm1
  have hwm : IntKind.i64.wrap m = m := IntWalk.i64_in _ (by omega)
  have hq : (o == 24) = false := by simpa using h24
  have HW := Lib.hid hw
  have HE := Lib.hid he
  have HR := Lib.hid hr
  clear hx hw he
  go_enter Tryz.func21, Tryz.ntmps21
  go_wp2_with (first
    | (go_at_call 41; refine (right_isa o d s f m _ ho0 ho1).mono ?_; rintro e w1 ⟨rfl, hb1⟩; rw [hr]; have a0 := stays hb1 c0; have a1 := stays hb1 c1; have a2 := stays hb1 c2; have a3 := stays hb1 c3; have a4 := stays hb1 c4; have hg1 : g < w1.heap.size := World.block_lt_of_cell? w1 _ a0; have HB1 := Lib.hid hb1; clear hb1)
    | (go_at_call 43; refine (must_yes _).mono ?_; rintro e w2 ⟨rfl, rfl⟩))
  clear c0 c1 c2 c3 c4 hr
  by_cases hB : lineB ⟨o, d, s, f, m⟩ m (wordI ⟨o, d, s, f, m⟩) = true
  · have HB := Lib.hid hB
    clear hB
    have hS0 := line_box w w1 HB1.out o d s f m m
    have hword := fun W (h : LineS w W w1.heap.size o d s f m m) => word_in HW.out hx'.out HR.out h
    have htext := fun W A cap (h : Worded w W w1.heap.size o d s f m m (wordI ⟨o, d, s, f, m⟩) A) => text_in (cap := cap) HE.out hx'.out (by omega) (by omega) h
    have HL : ∃ x : Ins, (⟨o, d, s, f, m⟩ : Ins) = x := ⟨_, rfl⟩
    clear HW HE
    go_region
    all_goals
      go_wp2
      have hS1 := hS0.drew.drew
      go_region_held (fun W => W.cell? ⟨w1.heap.size, 0, none⟩ = some (.int .u8 o) ∧ W.cell? ⟨w1.heap.size, 1, none⟩ = some (.int .u8 d) ∧ W.cell? ⟨w1.heap.size, 2, none⟩ = some (.int .u8 s) ∧ W.cell? ⟨w1.heap.size, 3, none⟩ = some (.int .i16 f) ∧ W.cell? ⟨w1.heap.size, 4, none⟩ = some (.int .i32 m) ∧ W.cell? ⟨w1.heap.size, 5, none⟩ = some (.int .i64 m) ∧ Below w.heap.size w W)
        (first | exact hS1 | exact hS3.line | exact hS4 | assumption)
        (first
          | (go_at_call 46; refine (hword _ (by assumption)).mono ?_; rintro e w3 ⟨A, cap, rfl, hp3, hb3⟩; have hS3 : Worded w w3 w1.heap.size o d s f m m (wordI ⟨o, d, s, f, m⟩) A := ⟨LineS.on (by assumption) hb3, hp3⟩; unfold wordV; clear hp3 hb3 hword)
          | (go_at_call 45; refine (htext _ _ _ hS3).mono ?_; intro e w4 h4; obtain ⟨rfl, hb4⟩ := end_yes HB.out h4; have hS4 := hS3.line.on hb4; clear hb4 h4))
      go_wp2
      go_ret
      exact ⟨hS4.2.2.2.2.2.2, by unfold lineO; rw [if_pos HB.out]; rfl⟩
  · have HB := Lib.hid (show lineB ⟨o, d, s, f, m⟩ m (wordI ⟨o, d, s, f, m⟩) = false by simpa using hB)
    clear hB
    have hS0 := line_box w w1 HB1.out o d s f m m
    have hword := fun W (h : LineS w W w1.heap.size o d s f m m) => word_in HW.out hx'.out HR.out h
    have htext := fun W A cap (h : Worded w W w1.heap.size o d s f m m (wordI ⟨o, d, s, f, m⟩) A) => text_in (cap := cap) HE.out hx'.out (by omega) (by omega) h
    have HL : ∃ x : Ins, (⟨o, d, s, f, m⟩ : Ins) = x := ⟨_, rfl⟩
    clear HW HE
    go_region
    all_goals
      go_wp2
      have hS1 := hS0.drew.drew
      refine wp_region_held_drew (S := fun W => W.cell? ⟨w1.heap.size, 0, none⟩ = some (.int .u8 o) ∧ W.cell? ⟨w1.heap.size, 1, none⟩ = some (.int .u8 d) ∧ W.cell? ⟨w1.heap.size, 2, none⟩ = some (.int .u8 s) ∧ W.cell? ⟨w1.heap.size, 3, none⟩ = some (.int .i16 f) ∧ W.cell? ⟨w1.heap.size, 4, none⟩ = some (.int .i32 m) ∧ W.cell? ⟨w1.heap.size, 5, none⟩ = some (.int .i64 m) ∧ Below w.heap.size w W) (by kernel_rfl) hS1 (fun hHeld => ?_)
      refine wpAnyH_take (i := 0) (v := .agg #[.int .u8 o, .int .u8 d, .int .u8 s, .int .i16 f, .int .i32 m, .int .i64 m]) rfl (by kernel_rfl) (by kernel_rfl) (by kernel_rfl) (fun _ _ _ h => h) (Or.inl ⟨by rfl, ?_⟩) (by assumption) ?_
      · intro W hSw
        go_simp
      simp only [Act.put, List.setIfInBounds_toArray, List.set_cons_zero, List.set_cons_succ]
      refine wpAnyH_take (i := 1) (v := .map (some b)) rfl (by kernel_rfl) (by kernel_rfl) (by kernel_rfl) (fun _ _ _ h => h) (Or.inl ⟨by rfl, ?_⟩) (by assumption) ?_
      · intro W hSw
        go_simp
      simp only [Act.put, List.setIfInBounds_toArray, List.set_cons_zero, List.set_cons_succ]
      refine wpAnyH_take (i := 2) (v := .pointer (some ⟨w1.heap.size, 0, none⟩)) rfl (by kernel_rfl) (by kernel_rfl) (by kernel_rfl) (fun _ _ _ h => h) (Or.inl ⟨by rfl, ?_⟩) (by assumption) ?_
      · intro W hSw
        go_simp
      simp only [Act.put, List.setIfInBounds_toArray, List.set_cons_zero, List.set_cons_succ]
      refine wpAnyH_take (i := 3) (v := .agg #[.int .u8 o, .int .u8 d, .int .u8 s, .int .i16 f, .int .i32 m]) rfl (by kernel_rfl) (by kernel_rfl) (by kernel_rfl) (fun _ _ _ h => h) (Or.inl ⟨by rfl, ?_⟩) (by assumption) ?_
      · intro W hSw
        go_simp
      simp only [Act.put, List.setIfInBounds_toArray, List.set_cons_zero, List.set_cons_succ]
      refine wpAnyH_ready (rs := [4]) (by kernel_rfl) (by simp) ?_
      refine AllReadyH.cons rfl (fun K hK => ?_) AllReadyH.nil
      go_simp
      go_wp2_with (go_at_call 46; refine (hword _ hS1).mono ?_; rintro e w3 ⟨A, cap, rfl, hp3, hb3⟩; have hS3 : Worded w w3 w1.heap.size o d s f m m (wordI ⟨o, d, s, f, m⟩) A := ⟨LineS.on hS1 hb3, hp3⟩; unfold wordV; clear hp3 hb3 hword)
      refine hK.out _ _ hS3.line (fun hHeld2 => ?_)
      clear hK K
      refine wpAnyH_ready (rs := [5]) (by kernel_rfl) (by simp) ?_
      refine AllReadyH.cons rfl (fun K hK => ?_) AllReadyH.nil
      go_simp
      go_wp2_with (go_at_call 45; refine (htext _ _ _ hS3).mono ?_; intro e w4 h4; obtain ⟨rfl, hb4⟩ := end_no HB.out h4; exact ⟨rfl, (hS3.line.on hb4).2.2.2.2.2.2, by unfold lineO; rw [if_neg (by rw [HB.out]; simp)]⟩)
end Go.Proofs.YthmibmofdmlgaaaGreatDoor
