import Derived.Test.YthmibmofdmlgaaaGreatDoorShelf
import Derived.Test.YthmibmofdmlgaaaGreatDoorG10
import Derived.Test.YthmibmofdmlgaaaGreatDoorG14
/-
  Proved here: the library's WriteString and WriteByte of a strings.Builder, by the shelf's contracts at this program. Conditions: as each says.
-/
namespace Go.Proofs
open Go.Shelf

def Tryz.lays166_ren : Go.Shelf.Ren := ⟨fun | 166 => 20 | 240 => 42 | 276 => 59 | n => n, fun | 0 => 0 | 3 => 3 | 4 => 4 | 9 => 9 | 20 => 20 | 37 => 46 | 70 => 45 | 72 => 48 | 75 => 53 | 80 => 38 | 164 => 104 | n => n, fun | n => n⟩
theorem Tryz.lays166 : Go.Proofs.Lays.n166 Tryz.prog Tryz.lays166_ren := {
  mixed := by kernel_rfl
  f166 := Tryz.func20.trans (congrArg some (by kernel_rfl))
  f240 := Tryz.func42.trans (congrArg some (by kernel_rfl))
  f276 := Tryz.func59.trans (congrArg some (by kernel_rfl))
  t0 := Tryz.underlying0
  a0 := Tryz.isAgg0
  z0 := Tryz.sizeOf0
  v0 := Tryz.zeroValue0
  t3 := Tryz.underlying3
  a3 := Tryz.isAgg3
  z3 := Tryz.sizeOf3
  v3 := Tryz.zeroValue3
  t4 := Tryz.underlying4
  a4 := Tryz.isAgg4
  z4 := Tryz.sizeOf4
  v4 := Tryz.zeroValue4
  t9 := Tryz.underlying9
  a9 := Tryz.isAgg9
  z9 := Tryz.sizeOf9
  v9 := Tryz.zeroValue9
  t20 := Tryz.underlying20
  a20 := Tryz.isAgg20
  z20 := Tryz.sizeOf20
  v20 := Tryz.zeroValue20
  t37 := Tryz.underlying46
  a37 := Tryz.isAgg46
  z37 := Tryz.sizeOf46
  v37 := Tryz.zeroValue46
  t70 := Tryz.underlying45
  a70 := Tryz.isAgg45
  z70 := Tryz.sizeOf45
  v70 := Tryz.zeroValue45
  t72 := Tryz.underlying48
  a72 := Tryz.isAgg48
  z72 := Tryz.sizeOf48
  v72 := Tryz.zeroValue48
  t75 := Tryz.underlying53
  a75 := Tryz.isAgg53
  z75 := Tryz.sizeOf53
  v75 := Tryz.zeroValue53
  t164 := Tryz.underlying104
  a164 := Tryz.isAgg104
  z164 := Tryz.sizeOf104
  v164 := Tryz.zeroValue104 }
theorem Tryz.Builder_Extra_166 : Builder.Extra Tryz.prog Tryz.lays166_ren := {
  sizeBuilder := by kernel_rfl
  liesBuilder := by kernel_rfl
  t5 := Tryz.underlying5
  a5 := Tryz.isAgg5
  z5 := Tryz.sizeOf5
  v5 := Tryz.zeroValue5
  infoByte := by kernel_rfl
  cellsByte := by kernel_rfl
  sizeByte := by kernel_rfl
  neB5 := by decide }
def Tryz.lays167_ren : Go.Shelf.Ren := ⟨fun | 167 => 22 | 240 => 42 | 276 => 59 | n => n, fun | 0 => 0 | 4 => 4 | 5 => 5 | 9 => 9 | 20 => 20 | 37 => 46 | 70 => 45 | 72 => 48 | 75 => 53 | 80 => 38 | 164 => 104 | n => n, fun | n => n⟩
theorem Tryz.lays167 : Go.Proofs.Lays.n167 Tryz.prog Tryz.lays167_ren := {
  mixed := by kernel_rfl
  f167 := Tryz.func22.trans (congrArg some (by kernel_rfl))
  f240 := Tryz.func42.trans (congrArg some (by kernel_rfl))
  f276 := Tryz.func59.trans (congrArg some (by kernel_rfl))
  t0 := Tryz.underlying0
  a0 := Tryz.isAgg0
  z0 := Tryz.sizeOf0
  v0 := Tryz.zeroValue0
  t4 := Tryz.underlying4
  a4 := Tryz.isAgg4
  z4 := Tryz.sizeOf4
  v4 := Tryz.zeroValue4
  t5 := Tryz.underlying5
  a5 := Tryz.isAgg5
  z5 := Tryz.sizeOf5
  v5 := Tryz.zeroValue5
  t9 := Tryz.underlying9
  a9 := Tryz.isAgg9
  z9 := Tryz.sizeOf9
  v9 := Tryz.zeroValue9
  t20 := Tryz.underlying20
  a20 := Tryz.isAgg20
  z20 := Tryz.sizeOf20
  v20 := Tryz.zeroValue20
  t37 := Tryz.underlying46
  a37 := Tryz.isAgg46
  z37 := Tryz.sizeOf46
  v37 := Tryz.zeroValue46
  t70 := Tryz.underlying45
  a70 := Tryz.isAgg45
  z70 := Tryz.sizeOf45
  v70 := Tryz.zeroValue45
  t72 := Tryz.underlying48
  a72 := Tryz.isAgg48
  z72 := Tryz.sizeOf48
  v72 := Tryz.zeroValue48
  t75 := Tryz.underlying53
  a75 := Tryz.isAgg53
  z75 := Tryz.sizeOf53
  v75 := Tryz.zeroValue53
  t164 := Tryz.underlying104
  a164 := Tryz.isAgg104
  z164 := Tryz.sizeOf104
  v164 := Tryz.zeroValue104 }
theorem Tryz.Builder_Extra_167 : Builder.Extra Tryz.prog Tryz.lays167_ren := {
  sizeBuilder := by kernel_rfl
  liesBuilder := by kernel_rfl
  t5 := Tryz.underlying5
  a5 := Tryz.isAgg5
  z5 := Tryz.sizeOf5
  v5 := Tryz.zeroValue5
  infoByte := by kernel_rfl
  cellsByte := by kernel_rfl
  sizeByte := by kernel_rfl
  neB5 := by decide }
open Go.RowKit in
theorem Tryz.Builder_WriteByte (B b : Nat) (bs : List Value) (c : Int) (w : World) (h : Lib.IsBuilder 48 5 B b bs w) (hlen : bs.length + 1 ≤ 140737488355328) (hBw : B ≤ w.heap.size) :
    Calls Tryz.prog 22 #[.pointer (some ⟨b, 0, none⟩), .int .u8 c] w fun e w' => e = .returned .nilIface ∧ (Lib.BuilderAt 48 5 B b (.pointer (some ⟨b, 0, none⟩)) (bs ++ [.int .u8 c]) w' ∧ Below B w w') := Any.Builder_WriteByte Tryz.lays167 Tryz.Builder_Extra_167 B b bs c w h hlen hBw
open Go.RowKit in
theorem Tryz.Builder_WriteString (B b : Nat) (bs : List Value) (s : ByteArray) (w : World) (h : Lib.IsBuilder 48 5 B b bs w) (hlen : bs.length + s.size ≤ 140737488355328) (hBw : B ≤ w.heap.size) :
    Calls Tryz.prog 20 #[.pointer (some ⟨b, 0, none⟩), .string s] w fun e w' => e = .returned (.tuple #[.int .i64 s.size, .nilIface]) ∧ (Lib.BuilderAt 48 5 B b (.pointer (some ⟨b, 0, none⟩)) (bs ++ Lib.strCells s) w' ∧ Below B w w') := Any.Builder_WriteString Tryz.lays166 Tryz.Builder_Extra_166 B b bs s w h hlen hBw
open Go.RowKit in
theorem Tryz.Builder_WriteByte_k (B b : Nat) (bs : List Value) (c : Int) (w : World) (h : Lib.IsBuilderF 48 5 B b bs w) (hlen : bs.length + 1 ≤ 140737488355328) (hBw : B ≤ w.heap.size) :
    Calls Tryz.prog 22 #[.pointer (some ⟨b, 0, none⟩), .int .u8 c] w fun e w' => e = .returned .nilIface ∧ (Lib.BuilderAtF 48 5 B b (.pointer (some ⟨b, 0, none⟩)) (bs ++ [.int .u8 c]) w' ∧ Below B w w' ∧ Lib.OthersKept 5 (some b) w w') := Any.Builder_WriteByte_k Tryz.lays167 Tryz.Builder_Extra_167 B b bs c w h hlen hBw
open Go.RowKit in
theorem Tryz.Builder_WriteString_k (B b : Nat) (bs : List Value) (s : ByteArray) (w : World) (h : Lib.IsBuilderF 48 5 B b bs w) (hlen : bs.length + s.size ≤ 140737488355328) (hBw : B ≤ w.heap.size) :
    Calls Tryz.prog 20 #[.pointer (some ⟨b, 0, none⟩), .string s] w fun e w' => e = .returned (.tuple #[.int .i64 s.size, .nilIface]) ∧ (Lib.BuilderAtF 48 5 B b (.pointer (some ⟨b, 0, none⟩)) (bs ++ Lib.strCells s) w' ∧ Below B w w' ∧ Lib.OthersKept 5 (some b) w w') := Any.Builder_WriteString_k Tryz.lays166 Tryz.Builder_Extra_166 B b bs s w h hlen hBw
end Go.Proofs

/-
  Proved here: a builder and the map of words beside it, kept. Conditions: as each lemma says.
-/
namespace Go.Proofs.YthmibmofdmlgaaaGreatDoor
open Go.RowKit
set_option linter.unusedVariables false

theorem grown_of {w w' : World} (hb : Below w.heap.size w w') : w.grownBy w' none := ⟨hb.os, hb.tape, hb.output, hb.size, fun k hk _ => hb.block k hk⟩
/-- A builder of the call's own that holds bytes. -/
def Holds (w : World) (B : Nat) (l : List UInt8) : Prop := Lib.IsBuilderF 48 5 B B (Lib.byteCells l) w
theorem holdsAt_on {w w' : World} {B : Nat} {p : Value} {bs : List Value} (h : Lib.BuilderAtF 48 5 B B p bs w) (hb : Below w.heap.size w w') : Lib.BuilderAtF 48 5 B B p bs w' := by
  obtain ⟨hB, v, hbk, hown, hne⟩ := h
  have hl : B < w.heap.size := (Array.getElem?_eq_some_iff.1 hbk).1
  refine ⟨hB, v, (hb.block B hl).trans hbk, hown.kept (grown_of hb) ?_, hne⟩
  cases v.ownBlock with
  | none => exact .inl rfl
  | some k => exact .inr (by simp)
theorem Holds.on {w w' : World} {B : Nat} {l : List UInt8} (h : Holds w B l) (hb : Below w.heap.size w w') : Holds w' B l := by
  rcases h with h | h
  · exact .inl (holdsAt_on h hb)
  · exact .inr (holdsAt_on h hb)
theorem Holds.box {w : World} {B : Nat} {l : List UInt8} (h : Holds w B l) : ∃ cs fz, w.heap[B]? = some (Obj.cells cs 48 fz) := by
  rcases h with ⟨_, v, hb, _⟩ | ⟨_, v, hb, _⟩ <;> exact ⟨_, _, hb⟩
theorem Holds.lt {w : World} {B : Nat} {l : List UInt8} (h : Holds w B l) : B < w.heap.size := by
  obtain ⟨cs, fz, hb⟩ := h.box
  exact (Array.getElem?_eq_some_iff.1 hb).1
theorem WordsIn.others {w w' : World} {b n B : Nat} {T : List (Int × Wd)} (h : WordsIn w b n T) (ho : Lib.OthersKept 5 (some B) w w') (hB : ∃ cs fz, w.heap[B]? = some (Obj.cells cs 48 fz)) : WordsIn w' b n T := by
  obtain ⟨D, ⟨es, clock, hb, F, hs, hD⟩, h0, h1⟩ := h
  obtain ⟨cs, fz, hB⟩ := hB
  have hne : some b ≠ some B := by
    intro e
    cases e
    rw [hb] at hB
    cases hB
  refine ⟨D, ⟨es, clock, ho b _ hb hne (by simp), F, hs, hD⟩, h0, fun k d k0 k1 hk => ?_⟩
  obtain ⟨A, cap, hp, hv⟩ := h1 k d k0 k1 hk
  refine ⟨A, cap, hp.keep fun g cs' fz' hg => ho g _ hg ?_ ?_, hv⟩
  · intro e
    cases e
    rw [hg] at hB
    cases hB
  · intro c fz e
    cases e
theorem strCells_S (t : List UInt8) : Lib.strCells (S t) = Lib.byteCells t := rfl
theorem byte_cat (a b : List UInt8) : Lib.byteCells a ++ Lib.byteCells b = Lib.byteCells (a ++ b) := by simp [Lib.byteCells]
theorem write_string {w : World} {B : Nat} {l t : List UInt8} (h : Holds w B l) (hlen : l.length + t.length ≤ 1000000) :
    Calls Tryz.prog 20 #[.pointer (some ⟨B, 0, none⟩), .string (S t)] w fun e w' => e = .returned (.tuple #[.int .i64 t.length, .nilIface]) ∧ Holds w' B (l ++ t) ∧ Below B w w' ∧ Lib.OthersKept 5 (some B) w w' :=
  (Tryz.Builder_WriteString_k B B (Lib.byteCells l) (S t) w h (by rw [S_size]; simp [Lib.byteCells]; omega) (Nat.le_of_lt h.lt)).mono fun e w' h' => by
    obtain ⟨rfl, h1, h2, h3⟩ := h'
    rw [strCells_S, byte_cat] at h1
    rw [S_size]
    exact ⟨rfl, .inr h1, h2, h3⟩
theorem write_newline {w : World} {B : Nat} {l : List UInt8} (h : Holds w B l) (hlen : l.length ≤ 1000000) :
    Calls Tryz.prog 22 #[.pointer (some ⟨B, 0, none⟩), .int .u8 10] w fun e w' => e = .returned .nilIface ∧ Holds w' B (l ++ [10]) ∧ Below B w w' ∧ Lib.OthersKept 5 (some B) w w' :=
  (Tryz.Builder_WriteByte_k B B (Lib.byteCells l) 10 w h (by simp [Lib.byteCells]; omega) (Nat.le_of_lt h.lt)).mono fun e w' h' => by
    obtain ⟨rfl, h1, h2, h3⟩ := h'
    have e1 : Lib.byteCells l ++ [Value.int .u8 10] = Lib.byteCells (l ++ [10]) := by rw [← byte_cat]; rfl
    rw [e1] at h1
    exact ⟨rfl, .inr h1, h2, h3⟩
theorem string_of {w : World} {B : Nat} {l : List UInt8} (h : Holds w B l) : Calls Tryz.prog 23 #[.pointer (some ⟨B, 0, none⟩)] w fun e w' => e = .returned (.string (S l)) ∧ Below B w w' :=
  (Tryz.Builder_String_any_k B B l w h (Nat.le_of_lt h.lt)).mono fun e w' h' => ⟨h'.1, h'.2.2.1⟩
theorem holds_new (w : World) : Holds (w.alloc (.cells #[.pointer none, .slice none 0 0] 48)) w.heap.size [] := Lib.IsBuilderF.of (Lib.fresh_isBuilder 48 5 w)
end Go.Proofs.YthmibmofdmlgaaaGreatDoor

/-
  Proved here: textOf of package asm returns the text of a code, or is given up. Conditions: at most 100 instructions; the fields fit; the library's table.
-/
namespace Go.Proofs.YthmibmofdmlgaaaGreatDoor
open Go.RowKit
set_option linter.unusedVariables false

/-- What is known in the loop of textOf. -/
structure Texting (w wr : World) (b n : Nat) (l : List Ins) (k : Nat) (acc : List UInt8) : Prop where
  holds : Holds wr w.heap.size acc
  words : WordsIn wr b n (memT 256)
  below : Below w.heap.size w wr
  code : codeT l = (codeT (l.drop (nextK l k))).map fun s => acc ++ s
  len : acc.length ≤ 600 * k
theorem Texting.skip {w wr w' : World} {b n : Nat} {l : List Ins} {k : Nat} {acc : List UInt8} (h : Texting w wr b n l k acc) (hb : Below wr.heap.size wr w') (hs : secN l k = true) : Texting w w' b n l (k + 1) acc := by
  refine ⟨h.holds.on hb, h.words.on hb, h.below.trans (hb.mono h.below.size), ?_, by have := h.len; omega⟩
  have h1 := h.code
  have e : nextK l (k + 1) = nextK l k := by
    unfold nextK
    rw [hs, sec_next hs]
    rfl
  rw [e]
  exact h1
theorem Texting.gone {w wr : World} {b n : Nat} {l : List Ins} {k : Nat} {acc : List UInt8} (h : Texting w wr b n l k acc) (hk : k < l.length) (hs : secN l k = false) (ha : atO l k = none) : codeT l = none := by
  rw [h.code]
  have e : nextK l k = k := by unfold nextK; rw [hs]; rfl
  rw [e, code_step hk hs, ha]
  rfl
theorem Texting.next {w wr w1 w2 w3 : World} {b n : Nat} {l : List Ins} {k : Nat} {acc t : List UInt8} (h : Texting w wr b n l k acc) (hk : k < l.length) (hs : secN l k = false) (ha : atO l k = some t) (ht : t.length ≤ 500)
    (h1 : Below wr.heap.size wr w1) (h2 : Holds w2 w.heap.size (acc ++ t)) (b2 : Below w.heap.size w1 w2) (o2 : Lib.OthersKept 5 (some w.heap.size) w1 w2) (h3 : Holds w3 w.heap.size (acc ++ t ++ [10])) (b3 : Below w.heap.size w2 w3) (o3 : Lib.OthersKept 5 (some w.heap.size) w2 w3) :
    Texting w w3 b n l (k + 1) (acc ++ t ++ [10]) := by
  refine ⟨h3, ((h.words.on h1).others o2 (h.holds.on h1).box).others o3 h2.box, ((h.below.trans (h1.mono h.below.size)).trans b2).trans b3, ?_, ?_⟩
  · rw [h.code]
    have e : nextK l k = k := by unfold nextK; rw [hs]; rfl
    rw [e, code_step hk hs, ha]
    simp only [Option.map_map]
    congr 1
    funext s
    simp
  · have := h.len
    simp
    omega
set_option maxRecDepth 100000 in
set_option maxHeartbeats 4000000 in
theorem text_of (w : World) (A : Option Addr) (len cap : Nat) (l : List Ins) (hl : l.length = len) (h100 : len ≤ 100) (hrow : InsAt w A l) (hf : ∀ x ∈ l, x.Fit) (he : Env w) :
    Calls Tryz.prog 11 #[.slice A len cap] w (EndO (codeT l) w) := by
  have htab := table_made (w.alloc (.cells #[.pointer none, .slice none 0 0] 48))
  have es : (w.alloc (.cells #[.pointer none, .slice none 0 0] 48)).heap.size = w.heap.size + 1 := by simp
  rw [es] at htab
  have hsec := fun (W : World) (k : Nat) (hb : Below w.heap.size w W) => second_isa W A len cap k l hl (by unfold maxLen; omega) (hrow.below hb)
  have hline := fun (W : World) (n k : Nat) (hk : k < len) (hw : WordsIn W (w.heap.size + 1) n (memT 256)) (hb : Below w.heap.size w W) => line_at W (w.heap.size + 1) n len cap k A l hl (by omega) hk (hrow.below hb) hf hw (he.on hb)
  have hnew := Lib.hid (holds_new w)
  have HF := Lib.hid hf
  clear es hrow he hf
  go_enter Tryz.func11, Tryz.ntmps11
  go_wp2_with (go_at_call 18; refine htab.mono ?_; rintro e w1 ⟨rfl, n, hm⟩; have HM := Lib.hid hm; clear hm htab)
  have hstart : Texting w w1 (w.heap.size + 1) n l 0 [] := by
    have hb1 : Below (w.alloc (.cells #[.pointer none, .slice none 0 0] 48)).heap.size (w.alloc (.cells #[.pointer none, .slice none 0 0] 48)) w1 := HM.out.below
    refine ⟨hnew.out.on hb1, HM.out.words, (below_box w _).trans (hb1.mono (by simp)), ?_, by simp⟩
    have e : nextK l 0 = 0 := by unfold nextK; rw [sec_zero]; rfl
    rw [e]
    simp
  have HS := Lib.hid hstart
  clear hstart HM hnew
  go_loopw [9] (fun i wr => ∃ (k : Nat) (acc : List UInt8), k ≤ len ∧ i = .int .i64 k ∧ Texting w wr (w.heap.size + 1) n l k acc) (fun i _ => len - (intOf i).toNat)
  case atStart => exact ⟨0, [], by omega, rfl, HS.out⟩
  case round =>
    obtain ⟨k, acc, hk, rfl, ht⟩ := hrel
    by_cases hlt : k < len
    · have HT := Lib.hid ht
      have hb0 := ht.below
      have hc19 := hsec wr k hb0
      clear ht hb0 hsec
      cases hs : secN l k
      · rw [hs] at hc19
        have HSK := Lib.hid hs
        clear hs
        have hc21 := fun W (hb : Below wr.heap.size wr W) => hline W n k hlt (HT.out.words.on hb) (HT.out.below.trans (hb.mono HT.out.below.size))
        clear hline
        cases ha : atO l k with
        | none =>
          rw [ha] at hc21
          have HA := Lib.hid ha
          clear ha
          go_wp2_with (first
            | (go_at_call 19; refine hc19.mono ?_; rintro e w1 ⟨rfl, hb1⟩; have HB1 := Lib.hid hb1; clear hb1 hc19)
            | (go_at_call 21; refine (hc21 _ HB1.out).mono ?_; rintro e w2 ⟨hb2, rfl⟩; have HB2 := Lib.hid (HB1.out.trans (hb2.mono HB1.out.size)); clear hb2 hc21))
          exact ⟨rfl, HT.out.below.trans (HB2.out.mono HT.out.below.size), by rw [HT.out.gone (by omega) HSK.out HA.out]⟩
        | some t =>
          rw [ha] at hc21
          have HA := Lib.hid ha
          have hlen := Lib.hid (atO_len HF.out (by omega) ha)
          have hacc := Lib.hid HT.out.len
          clear ha
          go_wp2_with (first
            | (go_at_call 19; refine hc19.mono ?_; rintro e w1 ⟨rfl, hb1⟩; have HB1 := Lib.hid hb1; clear hb1 hc19)
            | (go_at_call 21; refine (hc21 _ HB1.out).mono ?_; rintro e w2 ⟨hb2, rfl⟩; have HB2 := Lib.hid (HB1.out.trans (hb2.mono HB1.out.size)); clear hb2 hc21)
            | (go_at_call 20; refine (write_string (HT.out.holds.on HB2.out) (by have := hlen.out; have := hacc.out; omega)).mono ?_; rintro e w3 ⟨rfl, h3, b3, o3⟩; have H3 := Lib.hid h3; have B3 := Lib.hid b3; have O3 := Lib.hid o3; clear h3 b3 o3)
            | (go_at_call 22; refine (write_newline H3.out (by have := hlen.out; have := hacc.out; simp; omega)).mono ?_; rintro e w4 ⟨rfl, h4, b4, o4⟩; have H4 := Lib.hid h4; have B4 := Lib.hid b4; have O4 := Lib.hid o4; clear h4 b4 o4))
          go_roundw
          case rel => exact ⟨k + 1, acc ++ t ++ [10], by omega, by go_num, HT.out.next (by omega) HSK.out HA.out hlen.out HB2.out H3.out B3.out O3.out H4.out B4.out O4.out⟩
          case measure => simp [intOf]; omega
      · rw [hs] at hc19
        have HSK := Lib.hid hs
        clear hs
        go_wp2_with (go_at_call 19; refine hc19.mono ?_; rintro e w1 ⟨rfl, hb1⟩; have HB1 := Lib.hid hb1; clear hb1 hc19)
        go_roundw
        case rel => exact ⟨k + 1, acc, by omega, by go_num, HT.out.skip HB1.out HSK.out⟩
        case measure => simp [intOf]; omega
    · have hkl : k = l.length := by omega
      have HT := Lib.hid ht
      have hcode := Lib.hid (show codeT l = some acc by
        rw [ht.code]
        have e : nextK l k = k := by unfold nextK; rw [hkl, sec_end]; rfl
        rw [e, hkl, List.drop_length]
        simp [codeT])
      have hstr := string_of ht.holds
      clear ht hkl hsec hline
      go_wp2_with (go_at_call 23; refine hstr.mono ?_; rintro e w2 ⟨rfl, hb2⟩; have HB2 := Lib.hid hb2; clear hb2)
      go_ret
      exact ⟨HT.out.below.trans HB2.out, by rw [hcode.out]; rfl⟩
end Go.Proofs.YthmibmofdmlgaaaGreatDoor
