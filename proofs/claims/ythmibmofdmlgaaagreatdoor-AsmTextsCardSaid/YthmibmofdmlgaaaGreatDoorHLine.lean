import Derived.Test.YthmibmofdmlgaaaGreatDoorG04
import Derived.Test.YthmibmofdmlgaaaGreatDoorHTableWalk
import Derived.Deep.RegionHeld
/-
  Proved here: text of a line, of package asm, returns the line's text, or is given up. Conditions: the fields fit; at most three parts; the library's table.
-/
namespace Go.Proofs.YthmibmofdmlgaaaGreatDoor
open Go.RowKit
set_option linter.unusedVariables false

theorem placeT_len (r o : Int) (h0 : 0 ≤ r) (h1 : r ≤ 255) (h2 : -32768 ≤ o) (h3 : o ≤ 32767) : (placeT r o).length ≤ 46 := by
  have := regT_len r h0 h1
  have := offT_len o h2 h3
  unfold placeT
  simp
  omega
theorem partT_len (x : Ins) (n : Int) (reg : Bool) (p : Int) (h0 : -9223372036854775808 ≤ n) (h1 : n ≤ 9223372036854775807) (hx : x.Fit) : (partT x n reg p).length ≤ 46 := by
  have i1 := itoa_len n h0 (by omega)
  have r1 := regT_len x.dst hx.dst.1 hx.dst.2
  have r2 := regT_len x.src hx.src.1 hx.src.2
  have o1 := offT_len x.off hx.off.1 hx.off.2
  have p1 := placeT_len x.src x.off hx.src.1 hx.src.2 hx.off.1 hx.off.2
  have p2 := placeT_len x.dst x.off hx.dst.1 hx.dst.2 hx.off.1 hx.off.2
  unfold partT
  repeat' split
  all_goals omega
/-- strings.Join of a row of texts. -/
theorem join_row (g len : Nat) (L : List (List UInt8)) (w0 w : World) (h : RowS w0 w g L) (hl : L.length = len) (h3 : len ≤ 1000) (hlen : (Lib.join L [44, 32]).length ≤ 100000) :
    Calls Tryz.prog 62 #[.slice (some ⟨g, 0, none⟩) len len, .string ⟨#[44, 32]⟩] w (Txt (Lib.join L [44, 32]) w) := by
  have e1 : (L.map S).map (fun x : ByteArray => x.data.toList) = L := by
    rw [List.map_map]
    exact List.map_id'' (fun _ => rfl) _
  have hj := Tryz.strings_Join g 0 len (L.map S) ⟨#[44, 32]⟩ w (fun j x hx => by
    rw [List.getElem?_map] at hx
    cases hLj : L[j]? with
    | none => rw [hLj] at hx; cases hx
    | some t =>
      rw [hLj] at hx
      cases hx
      have hjl : j < L.length := (List.getElem?_eq_some_iff.1 hLj).1
      have := h.row j hjl
      rw [List.getD_eq_getElem?_getD, hLj] at this
      rw [Nat.zero_add]
      exact this) h.lt (by simp; omega) (by simp; omega) (by rw [e1]; simpa using (by omega))
  rw [e1] at hj
  have e2 : (L.map S).length = len := by simpa using hl
  rw [e2] at hj
  exact hj
theorem line_none (o d s f m n : Int) (t : List UInt8) (reg : Bool) (cap : Nat) (A : Option Addr) (w : World) : Calls Tryz.prog 45 #[lineV o d s f m n, wordV t A 0 cap reg] w (Txt t w) := by
  unfold lineV wordV
  go_enter Tryz.func45, Tryz.ntmps45
  go_wp2
  go_ret
  exact ⟨rfl, ((Below.refl _ _).alloc (Nat.le_refl _) _).alloc (by simp) _⟩
/-- What is known within the loop over a line's parts. -/
structure Lining (w0 w : World) (x : Ins) (n : Int) (t : List UInt8) (A : Option Addr) (ps : List Int) (cap : Nat) (reg : Bool) (g : Nat) (L : List (List UInt8)) : Prop where
  row : RowS w0 w g L
  env : Env w
  parts : PartsAt w A ps
  l0 : w.cell? ⟨w0.heap.size, 0, none⟩ = some (.int .u8 x.op)
  l1 : w.cell? ⟨w0.heap.size, 1, none⟩ = some (.int .u8 x.dst)
  l2 : w.cell? ⟨w0.heap.size, 2, none⟩ = some (.int .u8 x.src)
  l3 : w.cell? ⟨w0.heap.size, 3, none⟩ = some (.int .i16 x.off)
  l4 : w.cell? ⟨w0.heap.size, 4, none⟩ = some (.int .i32 x.imm)
  l5 : w.cell? ⟨w0.heap.size, 5, none⟩ = some (.int .i64 n)
  t0 : w.cell? ⟨w0.heap.size + 1, 0, none⟩ = some (.string (S t))
  t2 : w.cell? ⟨w0.heap.size + 1, 2, none⟩ = some (.bool reg)
  len : L.length = ps.length
  past : w0.heap.size + 1 < g
theorem PartsAt.on {w w' : World} {A : Option Addr} {ps : List Int} (h : PartsAt w A ps) (hb : Below w.heap.size w w') : PartsAt w' A ps := by
  exact h.keep fun g cs fz hg => by rw [hb.block g (Array.getElem?_eq_some_iff.1 hg).1]; exact hg
theorem keep1 {w0 W w2 : World} {p : Addr} {a : Value} (h : W.cell? p = some a ∧ Below w0.heap.size w0 W) (hb : Below W.heap.size W w2) : w2.cell? p = some a ∧ Below w0.heap.size w0 w2 :=
  ⟨stays hb h.1, h.2.trans (hb.mono h.2.size)⟩
/-- A line's text; given up. -/
def LineEnd (x : Ins) (n : Int) (d : Wd) (w : World) (e : Ending) (w' : World) : Prop := if lineB x n d = true then Txt (lineT x n d) w e w' else Gone w e w'
theorem Lining.on {w0 w w' : World} {x : Ins} {n : Int} {t : List UInt8} {A : Option Addr} {ps : List Int} {cap : Nat} {reg : Bool} {g : Nat} {L : List (List UInt8)} (h : Lining w0 w x n t A ps cap reg g L) (hb : Below w.heap.size w w') : Lining w0 w' x n t A ps cap reg g L :=
  ⟨h.row.on hb, h.env.on hb, h.parts.on hb, stays hb h.l0, stays hb h.l1, stays hb h.l2, stays hb h.l3, stays hb h.l4, stays hb h.l5, stays hb h.t0, stays hb h.t2, h.len, h.past⟩
theorem set_other {w : World} {g k b o : Nat} {v u : Value} (h : w.cell? ⟨b, o, none⟩ = some v) (hne : b ≠ g) : (w.setCell ⟨g, k, none⟩ u).cell? ⟨b, o, none⟩ = some v := by
  rw [World.cell?_setCell_other _ _ _ _ (by simp)]
  exact h
theorem Lining.put {w0 w : World} {x : Ins} {n : Int} {t : List UInt8} {A : Option Addr} {ps : List Int} {cap : Nat} {reg : Bool} {g : Nat} {L : List (List UInt8)} (h : Lining w0 w x n t A ps cap reg g L) (k : Nat) (hk : k < L.length) (u : List UInt8) (hA : ∀ a, A = some a → a.block < w0.heap.size) (he : Env w0) :
    Lining w0 (w.setCell ⟨g, k, none⟩ (.string (S u))) x n t A ps cap reg g (L.set k u) := by
  have hr := h.row.put k hk u
  have hp := h.past
  have hat := h.row.at_
  refine ⟨hr, he.on hr.below, ?_, set_other h.l0 (by omega), set_other h.l1 (by omega), set_other h.l2 (by omega), set_other h.l3 (by omega), set_other h.l4 (by omega), set_other h.l5 (by omega), set_other h.t0 (by omega), set_other h.t2 (by omega), by simpa using h.len, h.past⟩
  rcases h.parts with h1 | ⟨q, off, cs, fz, rfl, hl, hc⟩
  · exact .inl h1
  · have hq := hA _ rfl
    exact .inr ⟨q, off, cs, fz, rfl, by rw [Below.heap_setCell _ _ _ _ (by simp at hq ⊢; omega)]; exact hl, hc⟩
set_option maxRecDepth 100000 in
set_option maxHeartbeats 2000000 in
theorem line_some (x : Ins) (n : Int) (t : List UInt8) (ps : List Int) (reg : Bool) (cap len pg po : Nat) (w : World) (hl : ps.length = len) (h0 : 0 < len) (h4 : len ≤ 3) (hn0 : -9223372036854775808 ≤ n) (hn1 : n ≤ 9223372036854775807) (hx : x.Fit) (hps : ∀ p ∈ ps, 0 ≤ p ∧ p ≤ 6)
    (hpg : pg < w.heap.size) (hp : PartsAt w (some ⟨pg, po, none⟩) ps) (he : Env w) (ht : t.length ≤ 100) :
    Calls Tryz.prog 45 #[lineV x.op x.dst x.src x.off x.imm n, wordV t (some ⟨pg, po, none⟩) len cap reg] w (LineEnd x n (t, ps, reg) w) := by
  have hz : ((len : Int) == 0) = false := by simp; omega
  have hmk := fun w => run_blanks len (by omega) w
  have hstart : Lining w (((w.alloc (.cells #[.int .u8 x.op, .int .u8 x.dst, .int .u8 x.src, .int .i16 x.off, .int .i32 x.imm, .int .i64 n] 72)).alloc (.cells #[.string (S t), .slice (some ⟨pg, po, none⟩) len cap, .bool reg] 77)).alloc (.cells (blankCells len) 9)) x n t (some ⟨pg, po, none⟩) ps cap reg (w.heap.size + 1 + 1) (List.replicate len []) := by
    have e2 : ((w.alloc (.cells #[.int .u8 x.op, .int .u8 x.dst, .int .u8 x.src, .int .i16 x.off, .int .i32 x.imm, .int .i64 n] 72)).alloc (.cells #[.string (S t), .slice (some ⟨pg, po, none⟩) len cap, .bool reg] 77)).heap.size = w.heap.size + 1 + 1 := by simp
    have e1 : (w.alloc (.cells #[.int .u8 x.op, .int .u8 x.dst, .int .u8 x.src, .int .i16 x.off, .int .i32 x.imm, .int .i64 n] 72)).heap.size = w.heap.size + 1 := by simp
    have b2 : Below w.heap.size w ((w.alloc (.cells #[.int .u8 x.op, .int .u8 x.dst, .int .u8 x.src, .int .i16 x.off, .int .i32 x.imm, .int .i64 n] 72)).alloc (.cells #[.string (S t), .slice (some ⟨pg, po, none⟩) len cap, .bool reg] 77)) := ((Below.refl _ _).alloc (Nat.le_refl _) _).alloc (by simp) _
    have hr := blank_row w _ b2 len
    rw [e2] at hr
    refine ⟨hr, he.on hr.below, hp.on hr.below, ?_, ?_, ?_, ?_, ?_, ?_, ?_, ?_, by simp [hl], by omega⟩
    · exact cell_alloc (cell_alloc (cell_new w [.int .u8 x.op, .int .u8 x.dst, .int .u8 x.src, .int .i16 x.off, .int .i32 x.imm, .int .i64 n] 72 0 _ rfl) _) _
    · exact cell_alloc (cell_alloc (cell_new w [.int .u8 x.op, .int .u8 x.dst, .int .u8 x.src, .int .i16 x.off, .int .i32 x.imm, .int .i64 n] 72 1 _ rfl) _) _
    · exact cell_alloc (cell_alloc (cell_new w [.int .u8 x.op, .int .u8 x.dst, .int .u8 x.src, .int .i16 x.off, .int .i32 x.imm, .int .i64 n] 72 2 _ rfl) _) _
    · exact cell_alloc (cell_alloc (cell_new w [.int .u8 x.op, .int .u8 x.dst, .int .u8 x.src, .int .i16 x.off, .int .i32 x.imm, .int .i64 n] 72 3 _ rfl) _) _
    · exact cell_alloc (cell_alloc (cell_new w [.int .u8 x.op, .int .u8 x.dst, .int .u8 x.src, .int .i16 x.off, .int .i32 x.imm, .int .i64 n] 72 4 _ rfl) _) _
    · exact cell_alloc (cell_alloc (cell_new w [.int .u8 x.op, .int .u8 x.dst, .int .u8 x.src, .int .i16 x.off, .int .i32 x.imm, .int .i64 n] 72 5 _ rfl) _) _
    · have := cell_new (w.alloc (.cells #[.int .u8 x.op, .int .u8 x.dst, .int .u8 x.src, .int .i16 x.off, .int .i32 x.imm, .int .i64 n] 72)) [.string (S t), .slice (some ⟨pg, po, none⟩) len cap, .bool reg] 77 0 _ rfl
      rw [e1] at this
      exact cell_alloc this _
    · have := cell_new (w.alloc (.cells #[.int .u8 x.op, .int .u8 x.dst, .int .u8 x.src, .int .i16 x.off, .int .i32 x.imm, .int .i64 n] 72)) [.string (S t), .slice (some ⟨pg, po, none⟩) len cap, .bool reg] 77 2 _ rfl
      rw [e1] at this
      exact cell_alloc this _
  have HS := Lib.hid hstart
  have HP := Lib.hid hps
  have HE := Lib.hid he
  clear hstart hps hp he
  unfold lineV wordV
  go_enter Tryz.func45, Tryz.ntmps45
  go_wp2
  go_loopw [21] (fun i wr => ∃ (k : Nat) (L : List (List UInt8)), k ≤ len ∧ i = .int .i64 k ∧ Lining w wr x n t (some ⟨pg, po, none⟩) ps cap reg (w.heap.size + 1 + 1) L ∧ ∀ j, j < k → L.getD j [] = partT x n reg (ps.getD j 0) ∧ partB x n (ps.getD j 0) = true) (fun i _ => len - (intOf i).toNat)
  case atStart => exact ⟨0, _, by omega, rfl, HS.out, fun j hj => by omega⟩
  case round =>
    obtain ⟨k, L, hk, rfl, hln, hdone⟩ := hrel
    by_cases hkl : k < len
    · have hmem : ps.getD k 0 ∈ ps := by
        rw [List.getD_eq_getElem?_getD, List.getElem?_eq_getElem (by omega)]
        exact List.getElem_mem _
      have hp06 := HP.out _ hmem
      obtain ⟨p, hp⟩ : ∃ p, ps.getD k 0 = p := ⟨_, rfl⟩
      have hcp : wr.cell? ⟨pg, po + k, none⟩ = some (.int .u8 p) := by
        have := hln.parts.cell (j := k) (by omega)
        rw [hp] at this
        exact this
      rw [hp] at hp06
      have hb0 := hln.l0
      have hb1 := hln.l1
      have hb2 := hln.l2
      have hb3 := hln.l3
      have hb4 := hln.l4
      have hb5 := hln.l5
      have hb6 := hln.t2
      by_cases hpb : partB x n p = true
      · have hc := part_text x n p reg hn0 hn1 hp06 hpb wr hx hln.env
        have HL := Lib.hid hln
        have HD := Lib.hid hdone
        have HQ := Lib.hid hp
        have HB := Lib.hid hpb
        clear hln hdone hp hpb hmem hp06
        unfold lineV at hc
        go_wp2_with (go_at_call 61; refine hc.mono ?_; rintro e w2 ⟨rfl, hbw⟩; have HL2 := Lib.hid (HL.out.on hbw); have hst := HL2.out.row.row k (by rw [HL2.out.len]; omega); have hfr := HL2.out.row.free k; clear hbw hc HL)
        go_roundw
        case rel =>
          refine ⟨k + 1, L.set k (partT x n reg p), by omega, by go_num, HL2.out.put k (by rw [HL2.out.len]; omega) _ (fun a ha => by cases ha; exact hpg) HE.out, fun j hj => ?_⟩
          by_cases e : j = k
          · subst e
            rw [List.getD_eq_getElem?_getD, List.getElem?_set_self (by rw [HL2.out.len]; omega), HQ.out]
            exact ⟨rfl, HB.out⟩
          · rw [List.getD_eq_getElem?_getD, List.getElem?_set_ne (fun h => e h.symm), ← List.getD_eq_getElem?_getD]
            exact HD.out j (by omega)
        case measure => simp [intOf]; omega
      · have hpn : partB x n p = false := by simpa using hpb
        have hc := part_gone x n p reg hp06 hpn wr
        have HW := Lib.hid hln.row.below
        have HF := Lib.hid (show lineB x n (t, ps, reg) = false by
          unfold lineB
          rw [List.all_eq_false]
          exact ⟨_, hmem, by rw [hp]; simpa using hpb⟩)
        clear hln hdone hp hpb hmem hp06 hpn
        unfold lineV at hc
        go_wp2_with (go_at_call 61; refine hc.mono ?_; rintro e w2 ⟨rfl, hbw⟩; have HB2 := Lib.hid hbw; clear hbw hc)
        refine ⟨rfl, ?_⟩
        unfold LineEnd
        rw [HF.out, if_neg (by simp)]
        exact ⟨rfl, HW.out.trans (HB2.out.mono HW.out.size)⟩
    · have hkk : k = len := by omega
      have hL : L = ps.map (partT x n reg) := by
        apply List.ext_getElem?
        intro j
        by_cases hj : j < len
        · have h1 := (hdone j (by omega)).1
          rw [List.getD_eq_getElem?_getD, List.getElem?_eq_getElem (by rw [hln.len]; omega)] at h1
          rw [List.getElem?_map, List.getElem?_eq_getElem (by rw [hln.len]; omega), List.getElem?_eq_getElem (by omega)]
          rw [List.getD_eq_getElem?_getD, List.getElem?_eq_getElem (by omega)] at h1
          simpa using h1
        · rw [List.getElem?_eq_none (by rw [hln.len]; omega), List.getElem?_eq_none (by simp; omega)]
      have hall : lineB x n (t, ps, reg) = true := by
        unfold lineB
        rw [List.all_eq_true]
        intro p hp
        obtain ⟨j, hj, rfl⟩ := List.getElem_of_mem hp
        change j < ps.length at hj
        have h1 := (hdone j (by omega)).2
        rw [List.getD_eq_getElem?_getD, List.getElem?_eq_getElem (by omega)] at h1
        simpa using h1
      have hlen : (Lib.join L [44, 32]).length ≤ 300 := by
        have h46 : ∀ l ∈ L, l.length ≤ 46 := by
          intro l hl'
          rw [hL] at hl'
          obtain ⟨p, _, rfl⟩ := List.mem_map.1 hl'
          exact partT_len x n reg p hn0 hn1 hx
        have h3 : L.length ≤ 3 := by rw [hln.len]; omega
        clear hL hdone hln
        match L, h3 with
        | [], _ => simp [Lib.join]
        | [a], _ => have := h46 a (by simp); simp [Lib.join, List.intercalate]; omega
        | [a, b], _ => have := h46 a (by simp); have := h46 b (by simp); simp [Lib.join, List.intercalate]; omega
        | [a, b, c], _ => have := h46 a (by simp); have := h46 b (by simp); have := h46 c (by simp); simp [Lib.join, List.intercalate]; omega
      have hjn := fun (w' : World) (h : w'.cell? ⟨w.heap.size + 1, 0, none⟩ = some (.string (S t)) ∧ Below wr.heap.size wr w') => join_row (w.heap.size + 1 + 1) len L w w' (hln.row.on h.2) (by rw [hln.len]; exact hl) (by omega) (by omega)
      have hb6 := hln.t0
      obtain ⟨J, hJ⟩ : ∃ J, Lib.join L [44, 32] = J := ⟨_, rfl⟩
      have hres : lineT x n (t, ps, reg) = t ++ 32 :: J := by
        unfold lineT
        have hne : ps ≠ [] := by intro h; rw [h] at hl; simp at hl; omega
        simp only [hne, if_false]
        rw [← hJ, hL]
      rw [hJ] at hjn hlen
      unfold Txt at hjn
      have HALL := Lib.hid hall
      have HRES := Lib.hid hres
      have HW := Lib.hid hln.row.below
      have c1 : S t ++ ({ data := #[32] } : ByteArray) = S (t ++ [32]) := S_right t [32]
      have c2 : S (t ++ [32]) ++ S J = S (t ++ 32 :: J) := by rw [S_cat]; simp
      have s1 : (S t).size + 1 ≤ 9223372036854775807 := by rw [S_size]; omega
      have s2 : (S (t ++ [32])).size + (S J).size ≤ 9223372036854775807 := by rw [S_size, S_size]; simp; omega
      clear hln hdone hall hL hres hJ hkk HS HP HE hlen
      go_wp2
      have hS1 : wr.drew.cell? ⟨w.heap.size + 1, 0, none⟩ = some (.string (S t)) ∧ Below wr.heap.size wr wr.drew := ⟨hb6, (Below.refl _ _).drew⟩
      go_region_held (fun w' => w'.cell? ⟨w.heap.size + 1, 0, none⟩ = some (.string (S t)) ∧ Below wr.heap.size wr w')
        (first | exact hS1 | exact hS2 | assumption)
        (first
          | (go_at_call 62; refine (hjn _ (by assumption)).mono ?_; rintro e w2 ⟨rfl, hb2⟩; have hS2 := keep1 (by assumption) hb2; clear hb2))
      all_goals
        go_wp2
        go_ret
        unfold LineEnd
        rw [if_pos HALL.out, HRES.out]
        exact ⟨rfl, HW.out.trans (hS2.2.mono HW.out.size)⟩
end Go.Proofs.YthmibmofdmlgaaaGreatDoor
