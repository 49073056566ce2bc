import Derived.Test.YthmibmofdmlgaaaGreatDoorG08
/-
  Proved here: readParts of package asm reads what the parts' texts, joined, write. Conditions: the registers are at most 10, the numbers have their sizes; the library's table.
-/
namespace Go.Proofs.YthmibmofdmlgaaaGreatDoor
open Go.RowKit
set_option linter.unusedVariables false

/-- The bytes of a part: no newline, no blank, no comma. -/
def plainB (c : UInt8) : Prop := c ≠ 10 ∧ c ≠ 32 ∧ c ≠ 44
theorem digit_plain {c : UInt8} (h : 48 ≤ c.toNat ∧ c.toNat ≤ 57) : plainB c := by
  refine ⟨?_, ?_, ?_⟩ <;> (rintro rfl; exact absurd h.1 (by decide))
theorem itoa_plain (n : Int) : ∀ c ∈ Lib.itoa n, plainB c := by
  intro c hc
  rcases itoa_byte n c hc with h | ⟨_, rfl⟩
  · exact digit_plain h
  · exact ⟨by decide, by decide, by decide⟩
theorem reg_plain (r : Int) : ∀ c ∈ regT r, plainB c := by
  intro c hc
  unfold regT at hc
  rcases List.mem_cons.1 hc with rfl | hc
  · exact ⟨by decide, by decide, by decide⟩
  · exact itoa_plain r c hc
theorem off_plain (o : Int) : ∀ c ∈ offT o, plainB c := by
  intro c hc
  unfold offT at hc
  split at hc
  · exact itoa_plain o c hc
  · rcases List.mem_cons.1 hc with rfl | hc
    · exact ⟨by decide, by decide, by decide⟩
    · exact itoa_plain o c hc
theorem place_plain (r o : Int) : ∀ c ∈ placeT r o, plainB c := by
  intro c hc
  unfold placeT at hc
  rcases List.mem_cons.1 hc with rfl | hc
  · exact ⟨by decide, by decide, by decide⟩
  · rcases List.mem_append.1 hc with hc | hc
    · exact reg_plain r c hc
    · rcases List.mem_append.1 hc with hc | hc
      · exact off_plain o c hc
      · rw [List.mem_singleton] at hc
        subst hc
        exact ⟨by decide, by decide, by decide⟩
theorem part_plain (x : Ins) (N : Int) (reg : Bool) (p : Int) : ∀ c ∈ partT x N reg p, plainB c := by
  intro c hc
  unfold partT at hc
  split at hc
  · exact reg_plain _ c hc
  split at hc
  · exact reg_plain _ c hc
  split at hc
  · exact off_plain _ c hc
  split at hc
  · exact place_plain _ _ c hc
  split at hc
  · exact place_plain _ _ c hc
  exact itoa_plain _ c hc
/-- The line that is read from some parts. -/
def foldL (x : Ins) (N : Int) (reg : Bool) (ps : List Int) (k : Nat) (L : Ins × Int) : Ins × Int := (ps.take k).foldl (fun L p => stepL x N reg p L) L
theorem foldL_zero (x : Ins) (N : Int) (reg : Bool) (ps : List Int) (L : Ins × Int) : foldL x N reg ps 0 L = L := by simp [foldL]
theorem foldL_succ (x : Ins) (N : Int) (reg : Bool) (ps : List Int) (k : Nat) (hk : k < ps.length) (L : Ins × Int) : foldL x N reg ps (k + 1) L = stepL x N reg (ps.getD k 0) (foldL x N reg ps k L) := by
  unfold foldL
  rw [List.take_add_one, List.foldl_append, List.getD_eq_getElem?_getD, List.getElem?_eq_getElem hk]
  rfl
theorem But.cell {b : Nat} {w w' : World} (h : But b w w') {p : Addr} (hp : p.block < w.heap.size) (hb : p.block ≠ b) : w'.cell? p = w.cell? p := by
  simp only [World.cell?, h.block _ hp hb]
theorem join_bound (n : Nat) : ∀ ps : List (List UInt8), (∀ t ∈ ps, t.length ≤ n) → (Lib.join ps [44, 32]).length ≤ (n + 2) * ps.length
  | [], _ => by simp [Lib.join]
  | [x], h => by
    rw [Lib.join_one]
    have := h x (by simp)
    simp
    omega
  | x :: y :: r, h => by
    rw [join_two]
    have := h x (by simp)
    have ih := join_bound n (y :: r) (fun t ht => h t (List.mem_cons_of_mem _ ht))
    simp only [List.length_append, List.length_cons] at ih ⊢
    simp only [List.length_nil]
    have e : (n + 2) * (r.length + 1 + 1) = (n + 2) * (r.length + 1) + (n + 2) := by rw [Nat.mul_succ]
    omega
/-- What Split gives of a line's parts. -/
theorem split_parts (x : Ins) (N : Int) (reg : Bool) (ps : List Int) (h0 : 0 < ps.length) (W : World) (he : Env W) (hlen : (Lib.join (ps.map (partT x N reg)) [44, 32]).length ≤ 1000) :
    Calls Tryz.prog 33 #[.string (S (Lib.join (ps.map (partT x N reg)) [44, 32])), .string (S [44, 32])] W fun e w' => e = .returned (.slice (some ⟨W.heap.size, 0, none⟩) ps.length ps.length) ∧ w' = W.alloc (.cells ((ps.map (fun p => Value.string (S (partT x N reg p)))).toArray) 9) := by
  obtain ⟨m, hm⟩ := he.max
  refine (Tryz.strings_Split (S (Lib.join (ps.map (partT x N reg)) [44, 32])) (S [44, 32]) m W (by rw [S_size]; omega) hm (by rw [S_size]; decide)).mono ?_
  rintro e w' ⟨rfl, rfl⟩
  cases ps with
  | nil => simp at h0
  | cons p r =>
    obtain ⟨h1, h2⟩ := splitB_pieces 44 [32] (partT x N reg p) (r.map (partT x N reg)) (by
      intro y hy hc
      rw [← List.map_cons] at hy
      obtain ⟨q, _, rfl⟩ := List.mem_map.1 hy
      exact (part_plain x N reg q 44 hc).2.2 rfl)
    rw [List.map_cons, h1, h2]
    refine ⟨by simp, ?_⟩
    congr 3
    simp
/-- What is known in the loop of readParts. -/
structure Parting (w0 W W1 wr : World) (b : Nat) (L : Ins × Int) : Prop where
  line : LineI wr b L
  but : But b W1 wr
  low : Below w0.heap.size w0 wr
theorem row_text (W : World) (vs : List Value) (j : Nat) (v : Value) (h : vs[j]? = some v) : (W.alloc (.cells vs.toArray 9)).cell? ⟨W.heap.size, j, none⟩ = some v := cell_new W vs 9 j v h
set_option maxRecDepth 100000 in
set_option maxHeartbeats 2000000 in
theorem read_parts (w0 W : World) (b : Nat) (x : Ins) (N : Int) (reg : Bool) (ps : List Int) (len cap pg po : Nat) (L0 : Ins × Int) (hl : ps.length = len) (h0 : 0 < len) (h3 : len ≤ 3) (h : LineI W b L0) (hp : PartsAt W (some ⟨pg, po, none⟩) ps) (hpb : pg ≠ b)
    (hx : x.Fit) (hd : x.dst ≤ 10) (hs : x.src ≤ 10) (hps : ∀ p ∈ ps, 0 ≤ p ∧ p ≤ 6) (hN : ∀ k, FitB (bitsN (foldL x N reg ps k L0).1.op) N) (hB : ∀ p ∈ ps, partB x N p = true) (he : Env w0) (hw : Below w0.heap.size w0 W) (hb : w0.heap.size ≤ b)
    (hlen : (Lib.join (ps.map (partT x N reg)) [44, 32]).length ≤ 1000) :
    Calls Tryz.prog 52 #[.pointer (some ⟨b, 0, none⟩), .slice (some ⟨pg, po, none⟩) len cap, .string (S (Lib.join (ps.map (partT x N reg)) [44, 32]))] W (ReadsI W b (foldL x N reg ps len L0)) := by
  have hsp := split_parts x N reg ps (by omega) W (he.on hw) hlen
  obtain ⟨T, hT⟩ : ∃ T, S (Lib.join (ps.map (partT x N reg)) [44, 32]) = T := ⟨_, rfl⟩
  rw [hT, hl] at hsp
  rw [hT]
  have hlt := LineF.lt h
  have hpl := hp.lt
  have hw1 : Below W.heap.size W (W.alloc (.cells ((ps.map (fun p => Value.string (S (partT x N reg p)))).toArray) 9)) := below_box W _
  have hstart : Parting w0 W (W.alloc (.cells ((ps.map (fun p => Value.string (S (partT x N reg p)))).toArray) 9)) (W.alloc (.cells ((ps.map (fun p => Value.string (S (partT x N reg p)))).toArray) 9)) b (foldL x N reg ps 0 L0) := by
    rw [foldL_zero]
    exact ⟨LineF.on h hw1, But.refl _ _, hw.trans (hw1.mono hw.size)⟩
  have htext : ∀ j, j < len → (W.alloc (.cells ((ps.map (fun p => Value.string (S (partT x N reg p)))).toArray) 9)).cell? ⟨W.heap.size, j, none⟩ = some (.string (S (partT x N reg (ps.getD j 0)))) := by
    intro j hj
    refine row_text W _ j _ ?_
    rw [List.getElem?_map, List.getD_eq_getElem?_getD, List.getElem?_eq_getElem (by omega)]
    rfl
  have hpart : ∀ j, j < len → (W.alloc (.cells ((ps.map (fun p => Value.string (S (partT x N reg p)))).toArray) 9)).cell? ⟨pg, po + j, none⟩ = some (.int .u8 (ps.getD j 0)) := fun j hj => stays hw1 (hp.cell (by omega))
  have hbut0 : But b W (W.alloc (.cells ((ps.map (fun p => Value.string (S (partT x N reg p)))).toArray) 9)) := But.of hw1
  have hsz : (W.alloc (.cells ((ps.map (fun p => Value.string (S (partT x N reg p)))).toArray) 9)).heap.size = W.heap.size + 1 := by simp
  have hzl : ((len : Int) == (len : Int)) = true := by simp
  have z0 : ({ data := #[44, 32] } : ByteArray) = S [44, 32] := rfl
  obtain ⟨W1, hW1⟩ : ∃ W1, W.alloc (.cells ((ps.map (fun p => Value.string (S (partT x N reg p)))).toArray) 9) = W1 := ⟨_, rfl⟩
  rw [hW1] at hsp hstart htext hpart hbut0 hsz
  have HS := Lib.hid hstart
  have HT := Lib.hid htext
  have HP := Lib.hid hpart
  have HB0 := Lib.hid hbut0
  have HPS := Lib.hid hps
  have HPB := Lib.hid hB
  have HN := Lib.hid hN
  have HL := Lib.hid hl
  have HSZ := Lib.hid hsz
  have HLT := Lib.hid hlt
  have HPL := Lib.hid hpl
  clear hstart htext hpart hbut0 hps hB hN hl hw1 hsz hW1 hlt hpl hT hp h hlen
  have HR : ∀ e w', ReadsI W b (foldL x N reg ps len L0) e w' ↔ Hid (ReadsI W b (foldL x N reg ps len L0) e w') := fun e w' => ⟨Lib.hid, fun h => h.out⟩
  go_enter Tryz.func52, Tryz.ntmps52
  go_wp2_with (first
    | (go_at_call 33; refine hsp.mono ?_; rintro e w1 ⟨rfl, hw9⟩; rw [hw9]; clear hw9 hsp)
    | (go_at_call 43; refine (must_yes _).mono ?_; rintro e w3 ⟨rfl, rfl⟩))
  clear HR z0 hzl
  go_loopw [19] (fun i wr => ∃ k : Nat, k ≤ len ∧ i = .int .i64 k ∧ Parting w0 W W1 wr b (foldL x N reg ps k L0)) (fun i _ => len - (intOf i).toNat)
  case atStart => exact ⟨0, by omega, rfl, HS.out⟩
  case round =>
    obtain ⟨k, hk, rfl, hpt⟩ := hrel
    by_cases hlt : k < len
    · have hmem : ps.getD k 0 ∈ ps := by
        have := HL.out
        rw [List.getD_eq_getElem?_getD, List.getElem?_eq_getElem (by omega)]
        exact List.getElem_mem _
      have hc := read_part w0 wr b x N reg (ps.getD k 0) (foldL x N reg ps k L0) hpt.line hx hd hs (HPS.out _ hmem) (HN.out k) (HPB.out _ hmem) he hpt.low hb
      rw [← foldL_succ x N reg ps k (by have := HL.out; omega)] at hc
      have hct : wr.cell? ⟨W.heap.size, k, none⟩ = some (.string (S (partT x N reg (ps.getD k 0)))) := by
        rw [hpt.but.cell (by have := HSZ.out; simp; omega) (by have := HLT.out; simp; omega)]
        exact HT.out k hlt
      have hcp : wr.cell? ⟨pg, po + k, none⟩ = some (.int .u8 (ps.getD k 0)) := by
        rw [hpt.but.cell (by have := HSZ.out; have := HPL.out; simp; omega) (by simpa using hpb)]
        exact HP.out k hlt
      obtain ⟨p, hp⟩ : ∃ p, ps.getD k 0 = p := ⟨_, rfl⟩
      rw [hp] at hc hct hcp
      obtain ⟨t, ht⟩ : ∃ t, partT x N reg p = t := ⟨_, rfl⟩
      rw [ht] at hc hct
      have HPT := Lib.hid hpt
      have HH : ∀ e w', ReadsI wr b (foldL x N reg ps (k + 1) L0) e w' → e = .returned (.tuple #[]) ∧ Hid (LineI w' b (foldL x N reg ps (k + 1) L0) ∧ But b wr w') := fun e w' h => ⟨h.1, h.2⟩
      clear hmem hp ht hpt
      go_wp2_with (go_at_call 70; refine hc.mono ?_; intro e w2 h2; obtain ⟨rfl, hh⟩ := HH _ _ h2; clear h2 hc HH)
      go_roundw
      case rel => exact ⟨k + 1, by omega, by go_num, hh.out.1, HPT.out.but.trans hh.out.2, HPT.out.low.trans (hh.out.2.below hb HPT.out.low.size)⟩
      case measure => simp [intOf]; omega
    · obtain rfl : k = len := by omega
      have HPT := Lib.hid hpt
      clear hpt
      go_wp2
      go_end0
      exact ⟨rfl, HPT.out.line, HB0.out.trans HPT.out.but⟩
end Go.Proofs.YthmibmofdmlgaaaGreatDoor
