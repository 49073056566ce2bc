/-
  Proved here: what the program's package objs must do (a structure); parts and what is made of them, as plain lists. Conditions: none.
-/
import Derived.Test.YtcdpmggjdmibjaaOGreat
namespace Go.Proofs.Ytcdpmggjdmibjaa
open Go.RowKit

/-- A part of a context that is made. -/
structure Pt where
  null : Bool
  has : Bool
  obj : Kob
  num : Int
instance : Inhabited Pt := ⟨⟨false, false, default, 0⟩⟩
/-- The sixteen cells of a part. -/
structure PtX (w : World) (X : Array Value) (p : Pt) : Prop where
  size : X.size = 16
  x0 : X[0]? = some (.bool p.null)
  x1 : X[1]? = some (.bool p.has)
  xo : ∃ Y, ObX w Y p.obj ∧ ∀ j, j < 13 → X[2 + j]? = Y[j]?
  x15 : X[15]? = some (.int .u64 p.num)
  bn : 0 ≤ p.num ∧ p.num ≤ 18446744073709551615
theorem PtX.stay {w w' : World} {X : Array Value} {p : Pt} (h : PtX w X p) (hb : Below w.heap.size w w') : PtX w' X p :=
  ⟨h.size, h.x0, h.x1, by obtain ⟨Y, h1, h2⟩ := h.xo; exact ⟨Y, h1.stay hb, h2⟩, h.x15, h.bn⟩
/-- A row of parts. -/
def PtRow (w : World) (a : Option Addr) (l : List Pt) : Prop := 0 < l.length → ∃ p off, a = some ⟨p, off, none⟩ ∧ p < w.heap.size ∧ ∀ i, i < l.length → ∃ X, PtX w X (l.getD i default) ∧ ∀ j, j < 16 → w.cell? ⟨p, off + (i * 16 + j), none⟩ = X[j]?
theorem PtRow.stay {w w' : World} {a : Option Addr} {l : List Pt} (h : PtRow w a l) (hb : Below w.heap.size w w') : PtRow w' a l := by
  intro hn
  obtain ⟨p, off, ha, hp, hc⟩ := h hn
  refine ⟨p, off, ha, Nat.lt_of_lt_of_le hp hb.size, fun i hi => ?_⟩
  obtain ⟨X, h1, h2⟩ := hc i hi
  exact ⟨X, h1.stay hb, fun j hj => (hb.cell (p := ⟨p, off + (i * 16 + j), none⟩) hp).trans (h2 j hj)⟩
/-- Does a part suit a letter? -/
def suitB (z : Int) (p : Pt) : Bool :=
  if z = 110 then !p.null && !p.has
  else if p.null = true then z == 109
  else p.has && ((z == 116 && p.obj.typ == 1) || (z != 116 && p.obj.typ == 2))
def isObj (p : Pt) : Bool := !p.null && p.has
/-- May a context be made of these? -/
def mayB (hook : Int) (l : List Pt) : Bool := decide (0 < (lettH hook).size) && decide ((lettH hook).size = l.length) && (List.range l.length).all fun i => suitB (byteAt (lettH hook) i) (l.getD i default)
/-- The objects of parts. -/
def objsOf (l : List Pt) : List Kob := (l.filter isObj).map Pt.obj
/-- The word at a place. -/
def wordAt (l : List Pt) (i : Nat) : Int := if i < l.length then (if (l.getD i default).null = true then 0 else if (l.getD i default).has = true then ((objsOf (l.take i)).length + 1 : Nat) else (l.getD i default).num) else 0
/-- What is made. -/
structure IsMade (hook now : Int) (l : List Pt) (c : Cx) : Prop where
  hook : c.hook = hook
  now : c.now = now
  objs : c.objs = objsOf l
  words : ∀ i, i < 8 → c.words.getD i 0 = wordAt l i
def GaveCx (hook now : Int) (l : List Pt) (w : World) (e : Ending) (w' : World) : Prop := ∃ C c, e = .returned (.tuple #[.agg C, .bool true]) ∧ CxX w' C c ∧ IsMade hook now l c ∧ Below w.heap.size w w'
def zeroC : Array Value := #[.int .i64 0, .int .u64 0, .int .u64 0, .int .u64 0, .int .u64 0, .int .u64 0, .int .u64 0, .int .u64 0, .int .u64 0, .slice none 0 0, .int .u64 0]
/-- What is told of a word. -/
def wordV (c : Cx) (i : Int) : Value :=
  if rightB c = true ∧ 0 ≤ i ∧ i < (lettH c.hook).size then
    if byteAt (lettH c.hook) i.toNat = 110 then .tuple #[.int .u64 (c.words.getD i.toNat 0), .int .i64 (-1), .bool true]
    else .tuple #[.int .u64 0, .int .i64 (c.words.getD i.toNat 0 - 1), .bool true]
  else .tuple #[.int .u64 0, .int .i64 (-1), .bool false]
/-- The first i parts' objects come of fifty at most. -/
def Ups (l : List Pt) (i : Nat) : Prop := ∀ j, j < i → (l.getD j default).obj.up.length ≤ 50
/-- What the program's package must do. -/
structure Acts17 : Prop where
  right : ∀ (C : Array Value) (c : Cx) (w : World), CxX w C c → Calls Try.prog 8 #[.agg C] w (Tells (.bool (rightB c)) w)
  word : ∀ (C : Array Value) (c : Cx) (i : Int) (w : World), CxX w C c → -9223372036854775808 ≤ i ∧ i ≤ 9223372036854775807 → Calls Try.prog 10 #[.agg C, .int .i64 i] w (Tells (wordV c i) w)
  load : ∀ (X : Array Value) (o : Kob) (at_ n : Int) (w : World), ObX w X o → -9223372036854775808 ≤ at_ ∧ at_ ≤ 9223372036854775807 → -9223372036854775808 ≤ n ∧ n ≤ 9223372036854775807 → Calls Try.prog 12 #[.agg X, .int .i64 at_, .int .i64 n] w (Tells (loadO o at_ n) w)
  make_yes : ∀ (hook now : Int) (l : List Pt) (a : Option Addr) (k : Nat) (w : World), PtRow w a l → l.length ≤ 20 → Ups l l.length → -9223372036854775808 ≤ hook ∧ hook ≤ 9223372036854775807 → 0 ≤ now ∧ now ≤ 18446744073709551615 → mayB hook l = true → Calls Try.prog 19 #[.int .i64 hook, .int .u64 now, .slice a l.length k] w (GaveCx hook now l w)
  make_no : ∀ (hook now : Int) (l : List Pt) (a : Option Addr) (k : Nat) (w : World), PtRow w a l → l.length ≤ 20 → Ups l l.length → -9223372036854775808 ≤ hook ∧ hook ≤ 9223372036854775807 → 0 ≤ now ∧ now ≤ 18446744073709551615 → mayB hook l = false → Calls Try.prog 19 #[.int .i64 hook, .int .u64 now, .slice a l.length k] w (Tells (.tuple #[.agg zeroC, .bool false]) w)

/-! ### What is made is right -/
theorem objsOf_take_lt {l : List Pt} {i : Nat} (hi : i < l.length) (h : isObj (l.getD i default) = true) : (objsOf (l.take i)).length < (objsOf l).length ∧ (objsOf l).getD (objsOf (l.take i)).length default = (l.getD i default).obj := by
  have e : l = l.take i ++ l.getD i default :: l.drop (i + 1) := by
    rw [List.getD_eq_getElem?_getD, List.getElem?_eq_getElem hi, Option.getD_some, ← List.drop_eq_getElem_cons hi, List.take_append_drop]
  have e2 : objsOf l = objsOf (l.take i) ++ (l.getD i default).obj :: objsOf (l.drop (i + 1)) := by
    conv => lhs; rw [e]
    unfold objsOf
    rw [List.filter_append, List.map_append, List.filter_cons_of_pos h, List.map_cons]
  rw [e2]
  constructor
  · rw [List.length_append, List.length_cons]; omega
  · rw [List.getD_eq_getElem?_getD, List.getElem?_append_right (Nat.le_refl _), Nat.sub_self]
    rfl
theorem objsOf_len (l : List Pt) : (objsOf l).length ≤ l.length := by
  unfold objsOf
  rw [List.length_map]
  exact List.length_filter_le _ _
theorem mayB_at {hook : Int} {l : List Pt} (h : mayB hook l = true) : 0 < (lettH hook).size ∧ (lettH hook).size = l.length ∧ ∀ i, i < l.length → suitB (byteAt (lettH hook) i) (l.getD i default) = true := by
  unfold mayB at h
  simp only [Bool.and_eq_true, decide_eq_true_eq, List.all_eq_true, List.mem_range] at h
  exact ⟨h.1.1, h.1.2, h.2⟩
theorem lettH_len (hook : Int) : (lettH hook).size ≤ 5 := by
  unfold lettH
  split
  · have := (lettB_pos hook.toNat (by omega) (by omega)).2
    omega
  · show 0 ≤ 5
    omega
theorem suit_type {z : Int} {p : Pt} (h : suitB z p = true) (ho : isObj p = true) : typeB p.obj = true ∧ z ≠ 110 ∧ ((p.obj.typ == 1) = (z == 116)) := by
  unfold suitB at h
  unfold isObj at ho
  unfold typeB
  simp only [Bool.and_eq_true, Bool.not_eq_true'] at ho
  by_cases hz : z = 110
  · rw [if_pos hz, ho.2] at h; simp at h
  · rw [if_neg hz, ho.1, if_neg (by simp), ho.2] at h
    simp at h
    refine ⟨?_, hz, ?_⟩
    · rcases h with h | h <;> simp [h.2]
    · rcases h with h | h
      · simp [h.1, h.2]
      · rw [h.2]; simp [h.1]
theorem made_right {hook now : Int} {l : List Pt} {c : Cx} (h : IsMade hook now l c) (hm : mayB hook l = true) : rightB c = true := by
  obtain ⟨m0, m1, m2⟩ := mayB_at hm
  have h5 := lettH_len hook
  have hlen : c.objs.length ≤ l.length := by rw [h.objs]; exact objsOf_len l
  refine right_all (by rw [h.hook]; exact m0) (by omega) ?_ fun i hi => ?_
  · rw [List.all_eq_true]
    intro o ho
    rw [h.objs] at ho
    unfold objsOf at ho
    obtain ⟨p, hp, rfl⟩ := List.mem_map.1 ho
    obtain ⟨hp1, hp2⟩ := List.mem_filter.1 hp
    obtain ⟨j, hj, rfl⟩ := List.mem_iff_getElem.1 hp1
    have hs := m2 j hj
    rw [List.getD_eq_getElem?_getD, List.getElem?_eq_getElem hj, Option.getD_some] at hs
    exact (suit_type hs hp2).1
  · rw [h.hook, h.words i hi]
    by_cases hil : i < (lettH hook).size
    · have hin : i < l.length := by omega
      have hs := m2 i hin
      have hz : byteAt (lettH hook) i = (((lettH hook)[i]'hil).toNat : Int) := by unfold byteAt; rw [dif_pos hil]
      rw [hz] at hs
      cases z110 : ((((lettH hook)[i]'hil).toNat : Int) == 110)
      · have hzn : ¬ (((lettH hook)[i]'hil).toNat : Int) = 110 := by intro e; rw [e] at z110; cases z110
        by_cases hn : (l.getD i default).null = true
        · have hw : wordAt l i = 0 := by unfold wordAt; rw [if_pos hin, if_pos hn]
          rw [hw, word_null hil z110 rfl]
          unfold suitB at hs
          rwa [if_neg hzn, if_pos hn] at hs
        · have hn' : (l.getD i default).null = false := by simpa using hn
          by_cases hh : (l.getD i default).has = true
          · have ho : isObj (l.getD i default) = true := by unfold isObj; rw [hn', hh]; rfl
            obtain ⟨hlt, hget⟩ := objsOf_take_lt hin ho
            have hw : wordAt l i = ((objsOf (l.take i)).length + 1 : Nat) := by unfold wordAt; rw [if_pos hin, if_neg hn, if_pos hh]
            rw [hw, h.objs, word_obj hil z110 hlt, hget, (suit_type hs ho).2.2]
            simp
          · unfold suitB at hs
            rw [if_neg hzn, if_neg hn] at hs
            rw [Bool.and_eq_true] at hs
            exact absurd hs.1 hh
      · exact word_num hil z110
    · have hw : wordAt l i = 0 := by unfold wordAt; rw [if_neg (by omega)]
      rw [hw, word_out hil]
      rfl
end Go.Proofs.Ytcdpmggjdmibjaa
