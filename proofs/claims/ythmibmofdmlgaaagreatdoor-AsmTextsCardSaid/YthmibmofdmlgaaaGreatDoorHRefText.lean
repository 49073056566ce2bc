import Derived.Test.YthmibmofdmlgaaaGreatDoorG10
import Derived.Test.YthmibmofdmlgaaaGreatDoorG18
import Derived.Test.YthmibmofdmlgaaaGreatDoorHLineWide
import Derived.Deep.RegionHeld
/-
  Proved here: Text of the document's answers. Conditions: at most 100 instructions; the fields fit.
-/
namespace Go.Proofs.YthmibmofdmlgaaaGreatDoor
set_option linter.unusedSimpArgs false
open Go.RowKit
set_option linter.unusedVariables false

/-- What Text of the document's answers returns. -/
def RefV (o : Option (List UInt8)) : Value := match o with | some t => .tuple #[.string (S t), .bool true] | none => .tuple #[.string (S []), .bool false]
/-- What is known in its loop. -/
structure RefLoop (w wr : World) (l : List Ins) (k : Nat) (acc : List UInt8) : Prop where
  below : Below w.heap.size w wr
  code : codeT l = (codeT (l.drop k)).map fun s => acc ++ s
  len : acc.length ≤ 600 * k
theorem right_ref_at (x : Ins) (hx : x.Fit) (w : World) : Calls Tryz.prog 12 #[insV x.op x.dst x.src x.off x.imm] w fun e w' => e = .returned (.bool (rightI x)) ∧ Below w.heap.size w w' := by
  refine (right_ref x.op x.dst x.src x.off x.imm w hx.op.1 hx.op.2).mono ?_
  rintro e w' ⟨rfl, hb⟩
  refine ⟨?_, hb⟩
  rw [right_same x hx.op.1 hx.op.2 hx.dst.1 hx.src.1]
theorem row_at {w : World} {g off : Nat} {l : List Ins} {k : Nat} (h : InsAt w (some ⟨g, off, none⟩) l) (hk : k < l.length) : InsC w g (off + k * 5) (l.getD k .zero).op (l.getD k .zero).dst (l.getD k .zero).src (l.getD k .zero).off (l.getD k .zero).imm := by
  rcases h with h | ⟨g', off', he, hg, hr⟩
  · omega
  · cases he
    exact hr k hk
theorem cat_mk4 {a b c : List UInt8} (h : a ++ b = c) (ha : a.length ≤ 100000) (hb : b.length ≤ 100000) : S a ++ S b = S c ∧ (S a).size + (S b).size ≤ 9223372036854775807 := by
  refine ⟨by rw [S_cat, h], ?_⟩
  rw [S_size, S_size]
  omega
theorem S_list (t : List UInt8) : (S t).toList = t := by rw [ByteArray.toList_eq]; rfl
theorem str_ne {t : List UInt8} (h : t ≠ []) : ((S t).toList == (S []).toList) = false := by
  rw [S_list, S_list]
  simpa using h
theorem ref_next {w wr wr' : World} {l : List Ins} {k n : Nat} {acc t T1 T2 : List UInt8} (h : RefLoop w wr l k acc) (hs : codeT (l.drop k) = (some t).bind fun t => (codeT (l.drop (k + n))).map fun s => t ++ [10] ++ s) (h1 : acc ++ t = T1) (h2 : T1 ++ [10] = T2) (ht : t.length ≤ 500) (hb : Below w.heap.size w wr') (hn : 1 ≤ n := by omega) :
    RefLoop w wr' l (k + n) T2 := by
  refine ⟨hb, ?_, ?_⟩
  · rw [h.code, hs]
    simp only [Option.bind_some, Option.map_map]
    congr 1
    funext s
    rw [← h2, ← h1]
    simp
  · have := h.len
    rw [← h2, ← h1]
    simp
    omega
theorem takes_pos (x : Ins) : 1 ≤ takes x := by unfold takes; split <;> omega
theorem two_box {w w1 : World} {g p : Nat} {o d s f m : Int} (h : InsC w1 g p o d s f m) (o' d' s' f' m' : Int) (hb : Below w.heap.size w w1) :
    (fun W : World => W.cell? ⟨g, p, none⟩ = some (.int .u8 o) ∧ W.cell? ⟨g, p + 1, none⟩ = some (.int .u8 d) ∧ W.cell? ⟨g, p + 2, none⟩ = some (.int .u8 s) ∧ W.cell? ⟨g, p + 3, none⟩ = some (.int .i16 f) ∧ W.cell? ⟨g, p + 4, none⟩ = some (.int .i32 m) ∧
      W.cell? ⟨w1.heap.size, 0, none⟩ = some (.int .u8 o') ∧ W.cell? ⟨w1.heap.size, 1, none⟩ = some (.int .u8 d') ∧ W.cell? ⟨w1.heap.size, 2, none⟩ = some (.int .u8 s') ∧ W.cell? ⟨w1.heap.size, 3, none⟩ = some (.int .i16 f') ∧ W.cell? ⟨w1.heap.size, 4, none⟩ = some (.int .i32 m') ∧ Below w.heap.size w W)
    (w1.alloc (.cells #[.int .u8 o', .int .u8 d', .int .u8 s', .int .i16 f', .int .i32 m'] 35)).drew := by
  have hx : InsC (w1.alloc (.cells #[.int .u8 o', .int .u8 d', .int .u8 s', .int .i16 f', .int .i32 m'] 35)).drew g p o d s f m := h.on ((below_box w1 _).drew)
  have hh := alloc_last w1 (.cells #[.int .u8 o', .int .u8 d', .int .u8 s', .int .i16 f', .int .i32 m'] 35)
  have hh' : (w1.alloc (.cells #[.int .u8 o', .int .u8 d', .int .u8 s', .int .i16 f', .int .i32 m'] 35)).drew.heap[w1.heap.size]? = some (.cells #[.int .u8 o', .int .u8 d', .int .u8 s', .int .i16 f', .int .i32 m'] 35) := hh
  exact ⟨hx.1, hx.2.1, hx.2.2.1, hx.2.2.2.1, hx.2.2.2.2, Lib.cell_of_heap hh' 0, Lib.cell_of_heap hh' 1, Lib.cell_of_heap hh' 2, Lib.cell_of_heap hh' 3, Lib.cell_of_heap hh' 4, hb.trans (((below_box w1 _).drew).mono hb.size)⟩
theorem two_on {w W W' : World} {g p b : Nat} {v0 v1 v2 v3 v4 u0 u1 u2 u3 u4 : Value} (h : W.cell? ⟨g, p, none⟩ = some v0 ∧ W.cell? ⟨g, p + 1, none⟩ = some v1 ∧ W.cell? ⟨g, p + 2, none⟩ = some v2 ∧ W.cell? ⟨g, p + 3, none⟩ = some v3 ∧ W.cell? ⟨g, p + 4, none⟩ = some v4 ∧
      W.cell? ⟨b, 0, none⟩ = some u0 ∧ W.cell? ⟨b, 1, none⟩ = some u1 ∧ W.cell? ⟨b, 2, none⟩ = some u2 ∧ W.cell? ⟨b, 3, none⟩ = some u3 ∧ W.cell? ⟨b, 4, none⟩ = some u4 ∧ Below w.heap.size w W) (hb : Below W.heap.size W W') :
    W'.cell? ⟨g, p, none⟩ = some v0 ∧ W'.cell? ⟨g, p + 1, none⟩ = some v1 ∧ W'.cell? ⟨g, p + 2, none⟩ = some v2 ∧ W'.cell? ⟨g, p + 3, none⟩ = some v3 ∧ W'.cell? ⟨g, p + 4, none⟩ = some v4 ∧
      W'.cell? ⟨b, 0, none⟩ = some u0 ∧ W'.cell? ⟨b, 1, none⟩ = some u1 ∧ W'.cell? ⟨b, 2, none⟩ = some u2 ∧ W'.cell? ⟨b, 3, none⟩ = some u3 ∧ W'.cell? ⟨b, 4, none⟩ = some u4 ∧ Below w.heap.size w W' := by
  obtain ⟨h0, h1, h2, h3, h4, g0, g1, g2, g3, g4, hw⟩ := h
  exact ⟨stays hb h0, stays hb h1, stays hb h2, stays hb h3, stays hb h4, stays hb g0, stays hb g1, stays hb g2, stays hb g3, stays hb g4, hw.trans (hb.mono hw.size)⟩
set_option maxRecDepth 100000 in
set_option maxHeartbeats 4000000 in
theorem ref_text (w : World) (A : Option Addr) (len cap : Nat) (l : List Ins) (hl : l.length = len) (h100 : len ≤ 100) (hrow : InsAt w A l) (hf : ∀ x ∈ l, x.Fit) :
    Calls Tryz.prog 6 #[.slice A len cap] w fun e w' => e = .returned (RefV (codeT l)) ∧ Below w.heap.size w w' := by
  have HF := Lib.hid hf
  have HROW := Lib.hid hrow
  have HL := Lib.hid hl
  have z0 : ({ data := #[] } : ByteArray) = S [] := rfl
  have z1 : ({ data := #[10] } : ByteArray) = S [10] := rfl
  clear hf hrow hl
  go_enter Tryz.func6, Tryz.ntmps6
  go_wp2
  go_loopw [4, 5] (fun s i wr => ∃ (k : Nat) (acc : List UInt8), k ≤ len ∧ s = .string (S acc) ∧ i = .int .i64 k ∧ RefLoop w wr l k acc) (fun _ i _ => len - (intOf i).toNat)
  case atStart => exact ⟨0, [], by omega, rfl, rfl, Below.refl _ _, by simp, by simp⟩
  case round =>
    obtain ⟨k, acc, hk, rfl, rfl, hrl⟩ := hrel
    have HR := Lib.hid hrl
    clear hrl
    by_cases hlt : k < len
    · obtain ⟨g, off, rfl⟩ : ∃ g off, A = some ⟨g, off, none⟩ := by
        rcases HROW.out with h | ⟨g, off, h, _⟩
        · have := HL.out; omega
        · exact ⟨g, off, h⟩
      have hkl : k < l.length := by have := HL.out; omega
      have hfx := getD_fit0 HF.out k
      have hrowr := HROW.out.below HR.out.below
      obtain ⟨c0, c1, c2, c3, c4⟩ := row_at hrowr hkl
      have hright := fun W => right_ref_at _ hfx W
      have e1 : IntKind.i64.wrap ((k : Int) + 1) = (k : Int) + 1 := IntWalk.i64_in _ (by omega)
      cases hr : rightI (l.getD k .zero)
      · rw [hr] at hright
        have hno := Lib.hid (show codeT l = none by rw [HR.out.code, ref_no hkl hr]; rfl)
        obtain ⟨⟨o, d, s, f, m⟩, hx⟩ : ∃ x, l.getD k .zero = x := ⟨_, rfl⟩
        rw [hx] at c0 c1 c2 c3 c4 hright
        dsimp only at c0 c1 c2 c3 c4 hright
        unfold insV at hright
        clear hx hr hfx hrowr hkl
        go_wp2_with (go_at_call 12; refine (hright _).mono ?_; rintro e w1 ⟨rfl, hb1⟩; have HB1 := Lib.hid hb1; clear hb1)
        go_ret2
        rw [hno.out]
        exact ⟨rfl, HR.out.below.trans (HB1.out.mono HR.out.below.size)⟩
      · rw [hr] at hright
        obtain ⟨⟨o, d, s, f, m⟩, hx⟩ : ∃ x, l.getD k .zero = x := ⟨_, rfl⟩
        rw [hx] at c0 c1 c2 c3 c4 hright
        dsimp only at c0 c1 c2 c3 c4 hright
        unfold insV at hright
        have HX := Lib.hid hx
        have HRI := Lib.hid hr
        clear hx hr
        by_cases hk2 : k + 1 < len
        · skip
          obtain ⟨y0, y1, y2, y3, y4⟩ := row_at hrowr (show k + 1 < l.length by have := HL.out; omega)
          have hfy := getD_fit0 HF.out (k + 1)
          have hline := fun W => ref_line _ _ true W (getD_fit0 HF.out k) hfy HRI.out
          obtain ⟨T, hT⟩ : ∃ T, refAt l k = T := ⟨_, rfl⟩
          have hT2 := hT
          unfold refAt at hT2
          rw [show decide (k + 1 < l.length) = true by have := HL.out; simp; omega] at hT2
          rw [hT2] at hline
          clear hT2
          have hstep := ref_step hkl HRI.out
          have hgood := fun t (h : refAt l k = some t) => refAt_ne HF.out hkl HRI.out h
          have hlast := fun t (h : refAt l k = some t) => refAt_last h
          rw [hT] at hstep hgood hlast
          rw [HX.out] at hline hstep hlast
          obtain ⟨⟨o', d', s', f', m'⟩, hy⟩ : ∃ x, l.getD (k + 1) .zero = x := ⟨_, rfl⟩
          rw [hy] at y0 y1 y2 y3 y4 hline
          dsimp only at y0 y1 y2 y3 y4
          dsimp only [Ins.zero] at hline
          unfold insV Txt at hline
          clear hy hrowr hfx hkl hfy hT
          have i1 : (k : Int) + 1 < (len : Int) := by omega
          go_wp2_with (go_at_call 12; refine (hright _).mono ?_; rintro e w1 ⟨rfl, hb1⟩; have a0 := stays hb1 c0; have a1 := stays hb1 c1; have a2 := stays hb1 c2; have a3 := stays hb1 c3; have a4 := stays hb1 c4; have b0 := stays hb1 y0; have b1 := stays hb1 y1; have b2 := stays hb1 y2; have b3 := stays hb1 y3; have b4 := stays hb1 y4; have hg1 : g < w1.heap.size := World.block_lt_of_cell? w1 _ a0; have HB1 := Lib.hid (HR.out.below.trans (hb1.mono HR.out.below.size)); clear hb1 c0 c1 c2 c3 c4 y0 y1 y2 y3 y4)
          have hS1 := two_box (show InsC w1 g (off + k * 5) o d s f m from ⟨a0, a1, a2, a3, a4⟩) o' d' s' f' m' HB1.out
          clear a0 a1 a2 a3 a4 b0 b1 b2 b3 b4
          cases T with
          | none =>
            have hno := Lib.hid (show codeT l = none by rw [HR.out.code, hstep]; rfl)
            clear hstep hgood hlast
            simp only [Option.getD_none] at hline
            refine wp_region_held_drew (S := (fun W => W.cell? ⟨g, off + k * 5, none⟩ = some (.int .u8 o) ∧ W.cell? ⟨g, off + k * 5 + 1, none⟩ = some (.int .u8 d) ∧ W.cell? ⟨g, off + k * 5 + 2, none⟩ = some (.int .u8 s) ∧ W.cell? ⟨g, off + k * 5 + 3, none⟩ = some (.int .i16 f) ∧ W.cell? ⟨g, off + k * 5 + 4, none⟩ = some (.int .i32 m) ∧ W.cell? ⟨w1.heap.size, 0, none⟩ = some (.int .u8 o') ∧ W.cell? ⟨w1.heap.size, 1, none⟩ = some (.int .u8 d') ∧ W.cell? ⟨w1.heap.size, 2, none⟩ = some (.int .u8 s') ∧ W.cell? ⟨w1.heap.size, 3, none⟩ = some (.int .i16 f') ∧ W.cell? ⟨w1.heap.size, 4, none⟩ = some (.int .i32 m') ∧ Below w.heap.size w W)) (by kernel_rfl) hS1 (fun hHeld => ?_)
            refine wpAnyH_take (i := 0) (v := .slice (some ⟨g, off, none⟩) len cap) rfl (by kernel_rfl) (by kernel_rfl) (by kernel_rfl) (fun _ _ _ h => h) (Or.inl ⟨by rfl, ?_⟩) (by assumption) ?_
            · intro W hSw
              go_simp
            simp only [Act.put, List.setIfInBounds_toArray, List.set_cons_zero, List.set_cons_succ]
            refine wpAnyH_take (i := 1) (v := .int .i64 k) rfl (by kernel_rfl) (by kernel_rfl) (by kernel_rfl) (fun _ _ _ h => h) (Or.inl ⟨by rfl, ?_⟩) (by assumption) ?_
            · intro W hSw
              go_simp
            simp only [Act.put, List.setIfInBounds_toArray, List.set_cons_zero, List.set_cons_succ]
            refine wpAnyH_take (i := 2) (v := .pointer (some ⟨g, off + k * 5, none⟩)) rfl (by kernel_rfl) (by kernel_rfl) (by kernel_rfl) (fun _ _ _ h => h) (Or.inl ⟨by rfl, ?_⟩) (by assumption) ?_
            · intro W hSw
              go_simp
            simp only [Act.put, List.setIfInBounds_toArray, List.set_cons_zero, List.set_cons_succ]
            refine wpAnyH_take (i := 3) (v := .agg #[.int .u8 o, .int .u8 d, .int .u8 s, .int .i16 f, .int .i32 m]) rfl (by kernel_rfl) (by kernel_rfl) (by kernel_rfl) (fun _ _ _ h => h) (Or.inl ⟨by rfl, ?_⟩) (by assumption) ?_
            · intro W hSw
              go_simp
            simp only [Act.put, List.setIfInBounds_toArray, List.set_cons_zero, List.set_cons_succ]
            refine wpAnyH_take (i := 4) (v := .agg #[.int .u8 o', .int .u8 d', .int .u8 s', .int .i16 f', .int .i32 m']) rfl (by kernel_rfl) (by kernel_rfl) (by kernel_rfl) (fun _ _ _ h => h) (Or.inl ⟨by rfl, ?_⟩) (by assumption) ?_
            · intro W hSw
              go_simp
            simp only [Act.put, List.setIfInBounds_toArray, List.set_cons_zero, List.set_cons_succ]
            refine wpAnyH_take (i := 5) (v := .int .i64 k) rfl (by kernel_rfl) (by kernel_rfl) (by kernel_rfl) (fun _ _ _ h => h) (Or.inl ⟨by rfl, ?_⟩) (by assumption) ?_
            · intro W hSw
              go_simp
            simp only [Act.put, List.setIfInBounds_toArray, List.set_cons_zero, List.set_cons_succ]
            refine wpAnyH_take (i := 6) (v := .int .i64 ((k : Int) + 1)) rfl (by kernel_rfl) (by kernel_rfl) (by kernel_rfl) (fun _ _ _ h => h) (Or.inl ⟨by rfl, ?_⟩) (by assumption) ?_
            · intro W hSw
              go_simp
            simp only [Act.put, List.setIfInBounds_toArray, List.set_cons_zero, List.set_cons_succ]
            refine wpAnyH_take (i := 7) (v := .slice (some ⟨g, off, none⟩) len cap) rfl (by kernel_rfl) (by kernel_rfl) (by kernel_rfl) (fun _ _ _ h => h) (Or.inl ⟨by rfl, ?_⟩) (by assumption) ?_
            · intro W hSw
              go_simp
            simp only [Act.put, List.setIfInBounds_toArray, List.set_cons_zero, List.set_cons_succ]
            refine wpAnyH_take (i := 8) (v := .int .i64 len) rfl (by kernel_rfl) (by kernel_rfl) (by kernel_rfl) (fun _ _ _ h => h) (Or.inl ⟨by rfl, ?_⟩) (by assumption) ?_
            · intro W hSw
              go_simp
            simp only [Act.put, List.setIfInBounds_toArray, List.set_cons_zero, List.set_cons_succ]
            refine wpAnyH_take (i := 9) (v := .bool true) rfl (by kernel_rfl) (by kernel_rfl) (by kernel_rfl) (fun _ _ _ h => h) (Or.inl ⟨by rfl, ?_⟩) (by assumption) ?_
            · intro W hSw
              go_simp
            simp only [Act.put, List.setIfInBounds_toArray, List.set_cons_zero, List.set_cons_succ]
            refine wpAnyH_ready (rs := [10]) (by kernel_rfl) (by simp) ?_
            refine AllReadyH.cons rfl (fun K hK => ?_) AllReadyH.nil
            go_simp
            go_wp2_with (go_at_call 13; refine (hline _).mono ?_; rintro e w2 ⟨rfl, hb2⟩; have hS2 := two_on hHeld hb2; clear hb2 hline)
            refine hK.out _ _ hS2 (fun hHeld2 => ?_)
            clear hK K hHeld hHeld2
            refine wpAnyH_ready (rs := [11]) (by kernel_rfl) (by simp) ?_
            refine AllReadyH.cons rfl (fun K hK => ?_) AllReadyH.nil
            go_simp
            refine hK.out _ _ hS2 (fun hHeld2 => ?_)
            clear hK K hHeld2
            refine wpAnyH_done (by kernel_rfl) ?_ _
            have hzy : ((S []).toList == (S []).toList) = true := by simp
            go_wp2
            go_ret2
            rw [hno.out]
            exact ⟨rfl, hS2.2.2.2.2.2.2.2.2.2.2⟩
          | some t =>
            obtain ⟨hne, htl⟩ := hgood t rfl
            have hlst := hlast t rfl
            clear hgood hlast
            simp only [Option.getD_some] at hline
            have hal := HR.out.len
            obtain ⟨T1, q1⟩ : ∃ x, acc ++ t = x := ⟨_, rfl⟩
            obtain ⟨r1, s1⟩ := cat_mk4 q1 (by omega) (by omega)
            have hT1 : T1.length ≤ 70000 := by rw [← q1, List.length_append]; omega
            obtain ⟨T2, q2⟩ : ∃ x, T1 ++ [10] = x := ⟨_, rfl⟩
            obtain ⟨r2, s2⟩ := cat_mk4 q2 (by omega) (by simp)
            have hzn : ((S t).toList == (S []).toList) = false := str_ne hne
            have hnx := fun (W : World) (hbw : Below w.heap.size w W) => ref_next (wr' := W) HR.out hstep q1 q2 htl hbw (takes_pos _)
            have HNX := Lib.hid hnx
            clear hnx hstep q1 q2 hal htl hne hT1
            refine wp_region_held_drew (S := (fun W => W.cell? ⟨g, off + k * 5, none⟩ = some (.int .u8 o) ∧ W.cell? ⟨g, off + k * 5 + 1, none⟩ = some (.int .u8 d) ∧ W.cell? ⟨g, off + k * 5 + 2, none⟩ = some (.int .u8 s) ∧ W.cell? ⟨g, off + k * 5 + 3, none⟩ = some (.int .i16 f) ∧ W.cell? ⟨g, off + k * 5 + 4, none⟩ = some (.int .i32 m) ∧ W.cell? ⟨w1.heap.size, 0, none⟩ = some (.int .u8 o') ∧ W.cell? ⟨w1.heap.size, 1, none⟩ = some (.int .u8 d') ∧ W.cell? ⟨w1.heap.size, 2, none⟩ = some (.int .u8 s') ∧ W.cell? ⟨w1.heap.size, 3, none⟩ = some (.int .i16 f') ∧ W.cell? ⟨w1.heap.size, 4, none⟩ = some (.int .i32 m') ∧ Below w.heap.size w W)) (by kernel_rfl) hS1 (fun hHeld => ?_)
            refine wpAnyH_take (i := 0) (v := .slice (some ⟨g, off, none⟩) len cap) rfl (by kernel_rfl) (by kernel_rfl) (by kernel_rfl) (fun _ _ _ h => h) (Or.inl ⟨by rfl, ?_⟩) (by assumption) ?_
            · intro W hSw
              go_simp
            simp only [Act.put, List.setIfInBounds_toArray, List.set_cons_zero, List.set_cons_succ]
            refine wpAnyH_take (i := 1) (v := .int .i64 k) rfl (by kernel_rfl) (by kernel_rfl) (by kernel_rfl) (fun _ _ _ h => h) (Or.inl ⟨by rfl, ?_⟩) (by assumption) ?_
            · intro W hSw
              go_simp
            simp only [Act.put, List.setIfInBounds_toArray, List.set_cons_zero, List.set_cons_succ]
            refine wpAnyH_take (i := 2) (v := .pointer (some ⟨g, off + k * 5, none⟩)) rfl (by kernel_rfl) (by kernel_rfl) (by kernel_rfl) (fun _ _ _ h => h) (Or.inl ⟨by rfl, ?_⟩) (by assumption) ?_
            · intro W hSw
              go_simp
            simp only [Act.put, List.setIfInBounds_toArray, List.set_cons_zero, List.set_cons_succ]
            refine wpAnyH_take (i := 3) (v := .agg #[.int .u8 o, .int .u8 d, .int .u8 s, .int .i16 f, .int .i32 m]) rfl (by kernel_rfl) (by kernel_rfl) (by kernel_rfl) (fun _ _ _ h => h) (Or.inl ⟨by rfl, ?_⟩) (by assumption) ?_
            · intro W hSw
              go_simp
            simp only [Act.put, List.setIfInBounds_toArray, List.set_cons_zero, List.set_cons_succ]
            refine wpAnyH_take (i := 4) (v := .agg #[.int .u8 o', .int .u8 d', .int .u8 s', .int .i16 f', .int .i32 m']) rfl (by kernel_rfl) (by kernel_rfl) (by kernel_rfl) (fun _ _ _ h => h) (Or.inl ⟨by rfl, ?_⟩) (by assumption) ?_
            · intro W hSw
              go_simp
            simp only [Act.put, List.setIfInBounds_toArray, List.set_cons_zero, List.set_cons_succ]
            refine wpAnyH_take (i := 5) (v := .int .i64 k) rfl (by kernel_rfl) (by kernel_rfl) (by kernel_rfl) (fun _ _ _ h => h) (Or.inl ⟨by rfl, ?_⟩) (by assumption) ?_
            · intro W hSw
              go_simp
            simp only [Act.put, List.setIfInBounds_toArray, List.set_cons_zero, List.set_cons_succ]
            refine wpAnyH_take (i := 6) (v := .int .i64 ((k : Int) + 1)) rfl (by kernel_rfl) (by kernel_rfl) (by kernel_rfl) (fun _ _ _ h => h) (Or.inl ⟨by rfl, ?_⟩) (by assumption) ?_
            · intro W hSw
              go_simp
            simp only [Act.put, List.setIfInBounds_toArray, List.set_cons_zero, List.set_cons_succ]
            refine wpAnyH_take (i := 7) (v := .slice (some ⟨g, off, none⟩) len cap) rfl (by kernel_rfl) (by kernel_rfl) (by kernel_rfl) (fun _ _ _ h => h) (Or.inl ⟨by rfl, ?_⟩) (by assumption) ?_
            · intro W hSw
              go_simp
            simp only [Act.put, List.setIfInBounds_toArray, List.set_cons_zero, List.set_cons_succ]
            refine wpAnyH_take (i := 8) (v := .int .i64 len) rfl (by kernel_rfl) (by kernel_rfl) (by kernel_rfl) (fun _ _ _ h => h) (Or.inl ⟨by rfl, ?_⟩) (by assumption) ?_
            · intro W hSw
              go_simp
            simp only [Act.put, List.setIfInBounds_toArray, List.set_cons_zero, List.set_cons_succ]
            refine wpAnyH_take (i := 9) (v := .bool true) rfl (by kernel_rfl) (by kernel_rfl) (by kernel_rfl) (fun _ _ _ h => h) (Or.inl ⟨by rfl, ?_⟩) (by assumption) ?_
            · intro W hSw
              go_simp
            simp only [Act.put, List.setIfInBounds_toArray, List.set_cons_zero, List.set_cons_succ]
            refine wpAnyH_ready (rs := [10]) (by kernel_rfl) (by simp) ?_
            refine AllReadyH.cons rfl (fun K hK => ?_) AllReadyH.nil
            go_simp
            go_wp2_with (go_at_call 13; refine (hline _).mono ?_; rintro e w2 ⟨rfl, hb2⟩; have hS2 := two_on hHeld hb2; clear hb2 hline)
            refine hK.out _ _ hS2 (fun hHeld2 => ?_)
            clear hK K hHeld hHeld2
            refine wpAnyH_ready (rs := [11]) (by kernel_rfl) (by simp) ?_
            refine AllReadyH.cons rfl (fun K hK => ?_) AllReadyH.nil
            go_simp
            refine hK.out _ _ hS2 (fun hHeld2 => ?_)
            clear hK K hHeld2
            refine wpAnyH_done (by kernel_rfl) ?_ _
            by_cases h24 : o = 24
            · have b24 : (o == 24) = true := by simp; omega
              have HL2 := Lib.hid hlst
              have H24 := Lib.hid h24
              clear hlst h24
              obtain ⟨x0, x1, x2, x3, x4, _, _, _, _, _, hbw⟩ := hS2
              have hnx := HNX.out _ hbw
              have HBW := Lib.hid hbw
              have e2 : IntKind.i64.wrap ((k : Int) + 1 + 1) = (k : Int) + 1 + 1 := IntWalk.i64_in _ (by omega)
              have HN := Lib.hid hnx
              clear hnx hbw
              go_wp2
              refine ⟨⟨k + 2, T2, by omega, rfl, by go_num, by have h := HN.out; unfold takes at h; rw [if_pos H24.out] at h; exact h⟩, ?_⟩
              simp only [intOf]
              omega
            · have b24 : (o == 24) = false := by simp; omega
              have H24 := Lib.hid h24
              clear hlst h24
              obtain ⟨x0, x1, x2, x3, x4, _, _, _, _, _, hbw⟩ := hS2
              have hnx := HNX.out _ hbw
              have HBW := Lib.hid hbw
              have HN := Lib.hid hnx
              clear hnx hbw
              go_wp2
              refine ⟨⟨k + 1, T2, by omega, rfl, by go_num, by have h := HN.out; unfold takes at h; rw [if_neg H24.out] at h; exact h⟩, ?_⟩
              simp only [intOf]
              omega
        · skip
          have hyz : l.getD (k + 1) .zero = .zero := getD_zero (by have := HL.out; omega)
          have hfy := getD_fit0 HF.out (k + 1)
          have hline := fun W => ref_line _ _ false W (getD_fit0 HF.out k) hfy HRI.out
          obtain ⟨T, hT⟩ : ∃ T, refAt l k = T := ⟨_, rfl⟩
          have hT2 := hT
          unfold refAt at hT2
          rw [show decide (k + 1 < l.length) = false by have := HL.out; simp; omega] at hT2
          rw [hT2] at hline
          clear hT2
          have hstep := ref_step hkl HRI.out
          have hgood := fun t (h : refAt l k = some t) => refAt_ne HF.out hkl HRI.out h
          have hlast := fun t (h : refAt l k = some t) => refAt_last h
          rw [hT] at hstep hgood hlast
          rw [HX.out] at hline hstep hlast
          rw [hyz] at hline
          dsimp only [Ins.zero] at hline
          unfold insV Txt at hline
          clear hyz hrowr hfx hkl hfy hT
          have i1 : ¬ (k : Int) + 1 < (len : Int) := by omega
          go_wp2_with (go_at_call 12; refine (hright _).mono ?_; rintro e w1 ⟨rfl, hb1⟩; have a0 := stays hb1 c0; have a1 := stays hb1 c1; have a2 := stays hb1 c2; have a3 := stays hb1 c3; have a4 := stays hb1 c4; have hg1 : g < w1.heap.size := World.block_lt_of_cell? w1 _ a0; have HB1 := Lib.hid (HR.out.below.trans (hb1.mono HR.out.below.size)); clear hb1 c0 c1 c2 c3 c4)
          have hS1 := two_box (show InsC w1 g (off + k * 5) o d s f m from ⟨a0, a1, a2, a3, a4⟩) 0 0 0 0 0 HB1.out
          clear a0 a1 a2 a3 a4
          cases T with
          | none =>
            have hno := Lib.hid (show codeT l = none by rw [HR.out.code, hstep]; rfl)
            clear hstep hgood hlast
            simp only [Option.getD_none] at hline
            refine wp_region_held_drew (S := (fun W => W.cell? ⟨g, off + k * 5, none⟩ = some (.int .u8 o) ∧ W.cell? ⟨g, off + k * 5 + 1, none⟩ = some (.int .u8 d) ∧ W.cell? ⟨g, off + k * 5 + 2, none⟩ = some (.int .u8 s) ∧ W.cell? ⟨g, off + k * 5 + 3, none⟩ = some (.int .i16 f) ∧ W.cell? ⟨g, off + k * 5 + 4, none⟩ = some (.int .i32 m) ∧ W.cell? ⟨w1.heap.size, 0, none⟩ = some (.int .u8 0) ∧ W.cell? ⟨w1.heap.size, 1, none⟩ = some (.int .u8 0) ∧ W.cell? ⟨w1.heap.size, 2, none⟩ = some (.int .u8 0) ∧ W.cell? ⟨w1.heap.size, 3, none⟩ = some (.int .i16 0) ∧ W.cell? ⟨w1.heap.size, 4, none⟩ = some (.int .i32 0) ∧ Below w.heap.size w W)) (by kernel_rfl) hS1 (fun hHeld => ?_)
            refine wpAnyH_take (i := 0) (v := .slice (some ⟨g, off, none⟩) len cap) rfl (by kernel_rfl) (by kernel_rfl) (by kernel_rfl) (fun _ _ _ h => h) (Or.inl ⟨by rfl, ?_⟩) (by assumption) ?_
            · intro W hSw
              go_simp
            simp only [Act.put, List.setIfInBounds_toArray, List.set_cons_zero, List.set_cons_succ]
            refine wpAnyH_take (i := 1) (v := .int .i64 k) rfl (by kernel_rfl) (by kernel_rfl) (by kernel_rfl) (fun _ _ _ h => h) (Or.inl ⟨by rfl, ?_⟩) (by assumption) ?_
            · intro W hSw
              go_simp
            simp only [Act.put, List.setIfInBounds_toArray, List.set_cons_zero, List.set_cons_succ]
            refine wpAnyH_take (i := 2) (v := .pointer (some ⟨g, off + k * 5, none⟩)) rfl (by kernel_rfl) (by kernel_rfl) (by kernel_rfl) (fun _ _ _ h => h) (Or.inl ⟨by rfl, ?_⟩) (by assumption) ?_
            · intro W hSw
              go_simp
            simp only [Act.put, List.setIfInBounds_toArray, List.set_cons_zero, List.set_cons_succ]
            refine wpAnyH_take (i := 3) (v := .agg #[.int .u8 o, .int .u8 d, .int .u8 s, .int .i16 f, .int .i32 m]) rfl (by kernel_rfl) (by kernel_rfl) (by kernel_rfl) (fun _ _ _ h => h) (Or.inl ⟨by rfl, ?_⟩) (by assumption) ?_
            · intro W hSw
              go_simp
            simp only [Act.put, List.setIfInBounds_toArray, List.set_cons_zero, List.set_cons_succ]
            refine wpAnyH_take (i := 4) (v := .agg #[.int .u8 0, .int .u8 0, .int .u8 0, .int .i16 0, .int .i32 0]) rfl (by kernel_rfl) (by kernel_rfl) (by kernel_rfl) (fun _ _ _ h => h) (Or.inl ⟨by rfl, ?_⟩) (by assumption) ?_
            · intro W hSw
              go_simp
            simp only [Act.put, List.setIfInBounds_toArray, List.set_cons_zero, List.set_cons_succ]
            refine wpAnyH_take (i := 5) (v := .int .i64 k) rfl (by kernel_rfl) (by kernel_rfl) (by kernel_rfl) (fun _ _ _ h => h) (Or.inl ⟨by rfl, ?_⟩) (by assumption) ?_
            · intro W hSw
              go_simp
            simp only [Act.put, List.setIfInBounds_toArray, List.set_cons_zero, List.set_cons_succ]
            refine wpAnyH_take (i := 6) (v := .int .i64 ((k : Int) + 1)) rfl (by kernel_rfl) (by kernel_rfl) (by kernel_rfl) (fun _ _ _ h => h) (Or.inl ⟨by rfl, ?_⟩) (by assumption) ?_
            · intro W hSw
              go_simp
            simp only [Act.put, List.setIfInBounds_toArray, List.set_cons_zero, List.set_cons_succ]
            refine wpAnyH_take (i := 7) (v := .slice (some ⟨g, off, none⟩) len cap) rfl (by kernel_rfl) (by kernel_rfl) (by kernel_rfl) (fun _ _ _ h => h) (Or.inl ⟨by rfl, ?_⟩) (by assumption) ?_
            · intro W hSw
              go_simp
            simp only [Act.put, List.setIfInBounds_toArray, List.set_cons_zero, List.set_cons_succ]
            refine wpAnyH_take (i := 8) (v := .int .i64 len) rfl (by kernel_rfl) (by kernel_rfl) (by kernel_rfl) (fun _ _ _ h => h) (Or.inl ⟨by rfl, ?_⟩) (by assumption) ?_
            · intro W hSw
              go_simp
            simp only [Act.put, List.setIfInBounds_toArray, List.set_cons_zero, List.set_cons_succ]
            refine wpAnyH_take (i := 9) (v := .bool false) rfl (by kernel_rfl) (by kernel_rfl) (by kernel_rfl) (fun _ _ _ h => h) (Or.inl ⟨by rfl, ?_⟩) (by assumption) ?_
            · intro W hSw
              go_simp
            simp only [Act.put, List.setIfInBounds_toArray, List.set_cons_zero, List.set_cons_succ]
            refine wpAnyH_ready (rs := [10]) (by kernel_rfl) (by simp) ?_
            refine AllReadyH.cons rfl (fun K hK => ?_) AllReadyH.nil
            go_simp
            go_wp2_with (go_at_call 13; refine (hline _).mono ?_; rintro e w2 ⟨rfl, hb2⟩; have hS2 := two_on hHeld hb2; clear hb2 hline)
            refine hK.out _ _ hS2 (fun hHeld2 => ?_)
            clear hK K hHeld hHeld2
            refine wpAnyH_ready (rs := [11]) (by kernel_rfl) (by simp) ?_
            refine AllReadyH.cons rfl (fun K hK => ?_) AllReadyH.nil
            go_simp
            refine hK.out _ _ hS2 (fun hHeld2 => ?_)
            clear hK K hHeld2
            refine wpAnyH_done (by kernel_rfl) ?_ _
            have hzy : ((S []).toList == (S []).toList) = true := by simp
            go_wp2
            go_ret2
            rw [hno.out]
            exact ⟨rfl, hS2.2.2.2.2.2.2.2.2.2.2⟩
          | some t =>
            obtain ⟨hne, htl⟩ := hgood t rfl
            have hlst := hlast t rfl
            clear hgood hlast
            simp only [Option.getD_some] at hline
            have hal := HR.out.len
            obtain ⟨T1, q1⟩ : ∃ x, acc ++ t = x := ⟨_, rfl⟩
            obtain ⟨r1, s1⟩ := cat_mk4 q1 (by omega) (by omega)
            have hT1 : T1.length ≤ 70000 := by rw [← q1, List.length_append]; omega
            obtain ⟨T2, q2⟩ : ∃ x, T1 ++ [10] = x := ⟨_, rfl⟩
            obtain ⟨r2, s2⟩ := cat_mk4 q2 (by omega) (by simp)
            have hzn : ((S t).toList == (S []).toList) = false := str_ne hne
            have hnx := fun (W : World) (hbw : Below w.heap.size w W) => ref_next (wr' := W) HR.out hstep q1 q2 htl hbw (takes_pos _)
            have HNX := Lib.hid hnx
            clear hnx hstep q1 q2 hal htl hne hT1
            refine wp_region_held_drew (S := (fun W => W.cell? ⟨g, off + k * 5, none⟩ = some (.int .u8 o) ∧ W.cell? ⟨g, off + k * 5 + 1, none⟩ = some (.int .u8 d) ∧ W.cell? ⟨g, off + k * 5 + 2, none⟩ = some (.int .u8 s) ∧ W.cell? ⟨g, off + k * 5 + 3, none⟩ = some (.int .i16 f) ∧ W.cell? ⟨g, off + k * 5 + 4, none⟩ = some (.int .i32 m) ∧ W.cell? ⟨w1.heap.size, 0, none⟩ = some (.int .u8 0) ∧ W.cell? ⟨w1.heap.size, 1, none⟩ = some (.int .u8 0) ∧ W.cell? ⟨w1.heap.size, 2, none⟩ = some (.int .u8 0) ∧ W.cell? ⟨w1.heap.size, 3, none⟩ = some (.int .i16 0) ∧ W.cell? ⟨w1.heap.size, 4, none⟩ = some (.int .i32 0) ∧ Below w.heap.size w W)) (by kernel_rfl) hS1 (fun hHeld => ?_)
            refine wpAnyH_take (i := 0) (v := .slice (some ⟨g, off, none⟩) len cap) rfl (by kernel_rfl) (by kernel_rfl) (by kernel_rfl) (fun _ _ _ h => h) (Or.inl ⟨by rfl, ?_⟩) (by assumption) ?_
            · intro W hSw
              go_simp
            simp only [Act.put, List.setIfInBounds_toArray, List.set_cons_zero, List.set_cons_succ]
            refine wpAnyH_take (i := 1) (v := .int .i64 k) rfl (by kernel_rfl) (by kernel_rfl) (by kernel_rfl) (fun _ _ _ h => h) (Or.inl ⟨by rfl, ?_⟩) (by assumption) ?_
            · intro W hSw
              go_simp
            simp only [Act.put, List.setIfInBounds_toArray, List.set_cons_zero, List.set_cons_succ]
            refine wpAnyH_take (i := 2) (v := .pointer (some ⟨g, off + k * 5, none⟩)) rfl (by kernel_rfl) (by kernel_rfl) (by kernel_rfl) (fun _ _ _ h => h) (Or.inl ⟨by rfl, ?_⟩) (by assumption) ?_
            · intro W hSw
              go_simp
            simp only [Act.put, List.setIfInBounds_toArray, List.set_cons_zero, List.set_cons_succ]
            refine wpAnyH_take (i := 3) (v := .agg #[.int .u8 o, .int .u8 d, .int .u8 s, .int .i16 f, .int .i32 m]) rfl (by kernel_rfl) (by kernel_rfl) (by kernel_rfl) (fun _ _ _ h => h) (Or.inl ⟨by rfl, ?_⟩) (by assumption) ?_
            · intro W hSw
              go_simp
            simp only [Act.put, List.setIfInBounds_toArray, List.set_cons_zero, List.set_cons_succ]
            refine wpAnyH_take (i := 4) (v := .agg #[.int .u8 0, .int .u8 0, .int .u8 0, .int .i16 0, .int .i32 0]) rfl (by kernel_rfl) (by kernel_rfl) (by kernel_rfl) (fun _ _ _ h => h) (Or.inl ⟨by rfl, ?_⟩) (by assumption) ?_
            · intro W hSw
              go_simp
            simp only [Act.put, List.setIfInBounds_toArray, List.set_cons_zero, List.set_cons_succ]
            refine wpAnyH_take (i := 5) (v := .int .i64 k) rfl (by kernel_rfl) (by kernel_rfl) (by kernel_rfl) (fun _ _ _ h => h) (Or.inl ⟨by rfl, ?_⟩) (by assumption) ?_
            · intro W hSw
              go_simp
            simp only [Act.put, List.setIfInBounds_toArray, List.set_cons_zero, List.set_cons_succ]
            refine wpAnyH_take (i := 6) (v := .int .i64 ((k : Int) + 1)) rfl (by kernel_rfl) (by kernel_rfl) (by kernel_rfl) (fun _ _ _ h => h) (Or.inl ⟨by rfl, ?_⟩) (by assumption) ?_
            · intro W hSw
              go_simp
            simp only [Act.put, List.setIfInBounds_toArray, List.set_cons_zero, List.set_cons_succ]
            refine wpAnyH_take (i := 7) (v := .slice (some ⟨g, off, none⟩) len cap) rfl (by kernel_rfl) (by kernel_rfl) (by kernel_rfl) (fun _ _ _ h => h) (Or.inl ⟨by rfl, ?_⟩) (by assumption) ?_
            · intro W hSw
              go_simp
            simp only [Act.put, List.setIfInBounds_toArray, List.set_cons_zero, List.set_cons_succ]
            refine wpAnyH_take (i := 8) (v := .int .i64 len) rfl (by kernel_rfl) (by kernel_rfl) (by kernel_rfl) (fun _ _ _ h => h) (Or.inl ⟨by rfl, ?_⟩) (by assumption) ?_
            · intro W hSw
              go_simp
            simp only [Act.put, List.setIfInBounds_toArray, List.set_cons_zero, List.set_cons_succ]
            refine wpAnyH_take (i := 9) (v := .bool false) rfl (by kernel_rfl) (by kernel_rfl) (by kernel_rfl) (fun _ _ _ h => h) (Or.inl ⟨by rfl, ?_⟩) (by assumption) ?_
            · intro W hSw
              go_simp
            simp only [Act.put, List.setIfInBounds_toArray, List.set_cons_zero, List.set_cons_succ]
            refine wpAnyH_ready (rs := [10]) (by kernel_rfl) (by simp) ?_
            refine AllReadyH.cons rfl (fun K hK => ?_) AllReadyH.nil
            go_simp
            go_wp2_with (go_at_call 13; refine (hline _).mono ?_; rintro e w2 ⟨rfl, hb2⟩; have hS2 := two_on hHeld hb2; clear hb2 hline)
            refine hK.out _ _ hS2 (fun hHeld2 => ?_)
            clear hK K hHeld hHeld2
            refine wpAnyH_ready (rs := [11]) (by kernel_rfl) (by simp) ?_
            refine AllReadyH.cons rfl (fun K hK => ?_) AllReadyH.nil
            go_simp
            refine hK.out _ _ hS2 (fun hHeld2 => ?_)
            clear hK K hHeld2
            refine wpAnyH_done (by kernel_rfl) ?_ _
            by_cases h24 : o = 24
            · exact absurd (hlst h24) (by have := HL.out; omega)
            · have b24 : (o == 24) = false := by simp; omega
              have H24 := Lib.hid h24
              clear hlst h24
              obtain ⟨x0, x1, x2, x3, x4, _, _, _, _, _, hbw⟩ := hS2
              have hnx := HNX.out _ hbw
              have HBW := Lib.hid hbw
              have HN := Lib.hid hnx
              clear hnx hbw
              go_wp2
              refine ⟨⟨k + 1, T2, by omega, rfl, by go_num, by have h := HN.out; unfold takes at h; rw [if_neg H24.out] at h; exact h⟩, ?_⟩
              simp only [intOf]
              omega
    · obtain rfl : k = len := by omega
      have hcode := Lib.hid (show codeT l = some acc by
        rw [HR.out.code, List.drop_eq_nil_of_le (by have := HL.out; omega)]
        simp [codeT])
      go_wp2
      go_ret2
      rw [hcode.out]
      exact ⟨rfl, HR.out.below⟩
end Go.Proofs.YthmibmofdmlgaaaGreatDoor
