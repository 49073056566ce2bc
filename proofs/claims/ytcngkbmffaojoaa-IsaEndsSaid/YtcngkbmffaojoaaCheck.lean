/-
  Proved here: what all and Check of package isa return. Conditions: at most 200 instructions whose fields fit; the number of maps is an int.
-/
import Derived.Test.YtcngkbmffaojoaaAll
namespace Go.Proofs.Ytcngkbmffaojoaa
open Go.RowKit

/-- All that is asked of all places. -/
def allB (l : List Ins) (maps : Int) : Bool := (List.range l.length).all fun k => oneB l k maps
theorem allB_false {l : List Ins} {maps : Int} {k : Nat} (hk : k < l.length) (h : oneB l k maps = false) : allB l maps = false := by
  unfold allB
  rw [Bool.eq_false_iff]
  intro h2
  have := List.all_eq_true.1 h2 k (List.mem_range.2 hk)
  rw [h] at this
  cases this
theorem allB_true {l : List Ins} {maps : Int} (h : ∀ k, k < l.length → oneB l k maps = true) : allB l maps = true :=
  List.all_eq_true.2 fun k hk => h k (List.mem_range.1 hk)
def AllUpTo (l : List Ins) (maps : Int) (k : Nat) : Prop := ∀ j, j < k → oneB l j maps = true
theorem AllUpTo.next {l : List Ins} {maps : Int} {k : Nat} (h : AllUpTo l maps k) (hk : oneB l k maps = true) : AllUpTo l maps (k + 1) := by
  intro j hj
  rcases Nat.lt_or_ge j k with h1 | h1
  · exact h j h1
  · obtain rfl : j = k := by omega
    exact hk
def ClosureV (p : Nat) : Value := .func (.func 23) #[] #[.pointer (some ⟨p + 3, 0, none⟩), .pointer (some ⟨p, 0, none⟩), .pointer (some ⟨p + 1, 0, none⟩)]
theorem all_isa (w : World) (p b : Nat) (A : Option Addr) (len cap : Nat) (l : List Ins) (maps : Int) (hl : l.length = len) (h200 : len ≤ 200) (hfit : ∀ x ∈ l, x.Fit) (ht : Taken w p b A len cap l maps)
    (h0 : -9223372036854775808 ≤ maps) (h1 : maps ≤ 9223372036854775807) :
    Calls Try.prog 22 #[.slice A len cap, ClosureV p] w fun e w' => e = .returned (.bool (allB l maps)) ∧ Below w.heap.size w w' := by
  have HL := Lib.hid hl
  have HT := Lib.hid ht
  clear hl ht
  unfold ClosureV
  go_enter Try.func22, Try.ntmps22
  go_wp2
  go_loopw [8] (fun i wr => ∃ k : Nat, k ≤ len ∧ i = .int .i64 k ∧ Taken wr p b A len cap l maps ∧ AllUpTo l maps k ∧ Below w.heap.size w wr) (fun i _ => len - (intOf i).toNat)
  case atStart => exact ⟨0, by omega, rfl, HT.out, fun j hj => absurd hj (by omega), Below.refl _ _⟩
  case round =>
    obtain ⟨k, hk, rfl, ht, ha, hb⟩ := hrel
    have HT := Lib.hid ht
    have HA := Lib.hid ha
    have HB := Lib.hid hb
    clear ht ha hb
    by_cases hlt : k < len
    · cases ho : oneB l k maps
      · have hf := allB_false (by rw [HL.out]; exact hlt) ho
        have HO := Lib.hid ho
        have HF := Lib.hid hf
        clear ho hf
        go_wp2_with (go_at_call 23; refine (closure_all _ p b A len cap k l maps HL.out h200 hfit hlt HT.out h0 h1).mono ?_; rintro e w1 ⟨rfl, hb1⟩; rw [HO.out]; have HB1 := Lib.hid hb1; clear hb1)
        go_ret
        exact ⟨ret_bool HF.out.symm, HB.out.trans (HB1.out.mono HB.out.size)⟩
      · have HO := Lib.hid ho
        clear ho
        go_wp2_with (go_at_call 23; refine (closure_all _ p b A len cap k l maps HL.out h200 hfit hlt HT.out h0 h1).mono ?_; rintro e w1 ⟨rfl, hb1⟩; rw [HO.out]; have HB1 := Lib.hid hb1; clear hb1)
        go_roundw
        case rel => exact ⟨k + 1, by omega, by go_num, HT.out.below HB1.out, HA.out.next HO.out, HB.out.trans (HB1.out.mono HB.out.size)⟩
        case measure => simp [intOf]; omega
    · obtain rfl : k = len := by omega
      go_wp2
      go_ret
      exact ⟨ret_bool (allB_true (by rw [HL.out]; exact HA.out)).symm, HB.out⟩

/-- Is a code well formed, by Check of package isa? -/
def checkI (l : List Ins) (maps : Int) : Bool := decide (1 ≤ l.length) && decide (l.length ≤ 64) && (shp (l.getD (l.length - 1) .zero).op == 8) && allB l maps
/-- .. as an error's number. -/
def errI (ok : Bool) : Int := if ok then 0 else 22
theorem check_size (w : World) (A : Option Addr) (len cap : Nat) (maps : Int) (hm : len ≤ maxLen) (h : len < 1 ∨ 64 < len) :
    Calls Try.prog 15 #[.slice A len cap, .int .i64 maps] w fun e w' => e = .returned (.int .i64 22) ∧ Below w.heap.size w w' := by
  unfold maxLen at hm
  rcases h with h | h
  · obtain rfl : len = 0 := by omega
    go_enter Try.func15, Try.ntmps15
    go_wp2
    go_ret
    exact ⟨rfl, ((Below.refl _ _).alloc (Nat.le_refl _) _).alloc (by simp) _⟩
  · have h1 : ¬ len < 1 := by omega
    go_enter Try.func15, Try.ntmps15
    go_wp2
    go_ret
    exact ⟨rfl, ((Below.refl _ _).alloc (Nat.le_refl _) _).alloc (by simp) _⟩
theorem check_last (w : World) (g off len cap : Nat) (maps o d s f m : Int) (h0 : 1 ≤ len) (h1 : len ≤ 64) (hg : g < w.heap.size) (hc : At5 w g (off + (len - 1) * 5) ⟨o, d, s, f, m⟩) (hs : shp o ≠ 8) :
    Calls Try.prog 15 #[.slice (some ⟨g, off, none⟩) len cap, .int .i64 maps] w fun e w' => e = .returned (.int .i64 22) ∧ Below w.heap.size w w' := by
  have e1 : IntKind.i64.wrap ((len : Int) - 1) = (len : Int) - 1 := IntWalk.i64_in _ (by omega)
  have e2 : (0 : Int) ≤ (len : Int) - 1 := by omega
  have e3 : ((len : Int) - 1).toNat = len - 1 := by omega
  obtain ⟨t, ht⟩ : ∃ t, shp o = t := ⟨_, rfl⟩
  rw [ht] at hs
  have hs' : (t != 8) = true := by simpa using hs
  have HT := Lib.hid ht
  clear ht
  obtain ⟨x0, x1, x2, x3, x4⟩ := hc
  go_enter Try.func15, Try.ntmps15
  go_wp2_with (go_at_call 21; refine (shape_of _ _).mono ?_; rintro e w' ⟨rfl, rfl⟩; rw [HT.out])
  go_ret
  exact ⟨rfl, ((Below.refl _ _).alloc (Nat.le_refl _) _).alloc (by simp) _⟩
/-- The four new blocks: the two boxes, the map, the map's box. -/
def Four (w : World) (A : Option Addr) (len cap : Nat) (maps : Int) : World :=
  (((w.alloc (.cells #[.slice A len cap] 28)).alloc (.cells #[.int .i64 maps] 3)).alloc (.map (ents 12) 12)).alloc (.cells #[.map (some (w.heap.size + 1 + 1))] 37)
theorem four_heap (w : World) (A : Option Addr) (len cap : Nat) (maps : Int) : (Four w A len cap maps).heap =
    (((w.heap.push (.cells #[.slice A len cap] 28)).push (.cells #[.int .i64 maps] 3)).push (.map (ents 12) 12)).push (.cells #[.map (some (w.heap.size + 1 + 1))] 37) := rfl
theorem push_four {α : Type} (H : Array α) (a b c d : α) : ((((H.push a).push b).push c).push d)[H.size]? = some a ∧ ((((H.push a).push b).push c).push d)[H.size + 1]? = some b ∧
    ((((H.push a).push b).push c).push d)[H.size + 1 + 1]? = some c ∧ ((((H.push a).push b).push c).push d)[H.size + 3]? = some d := by
  refine ⟨?_, ?_, ?_, ?_⟩
  · rw [Array.getElem?_push, if_neg (by simp; omega), Array.getElem?_push, if_neg (by simp; omega), Array.getElem?_push, if_neg (by simp), Array.getElem?_push, if_pos rfl]
  · rw [Array.getElem?_push, if_neg (by simp), Array.getElem?_push, if_neg (by simp), Array.getElem?_push, if_pos (by simp)]
  · rw [Array.getElem?_push, if_neg (by simp), Array.getElem?_push, if_pos (by simp)]
  · rw [Array.getElem?_push, if_pos (by simp)]
theorem four_below (w : World) (A : Option Addr) (len cap : Nat) (maps : Int) : Below w.heap.size w (Four w A len cap maps) :=
  ((((Below.refl _ _).alloc (Nat.le_refl _) _).alloc (by simp) _).alloc (by simp; omega) _).alloc (by simp; omega) _
theorem taken_four (w : World) (A : Option Addr) (len cap : Nat) (l : List Ins) (maps : Int) (hr : InsAt w A l) : Taken (Four w A len cap maps) w.heap.size (w.heap.size + 1 + 1) A len cap l maps where
  code := by
    have h := (push_four w.heap (.cells #[.slice A len cap] 28) (.cells #[.int .i64 maps] 3) (.map (ents 12) 12) (.cells #[.map (some (w.heap.size + 1 + 1))] 37)).1
    simp only [World.cell?, four_heap, h]
    rfl
  maps := by
    have h := (push_four w.heap (.cells #[.slice A len cap] 28) (.cells #[.int .i64 maps] 3) (.map (ents 12) 12) (.cells #[.map (some (w.heap.size + 1 + 1))] 37)).2.1
    simp only [World.cell?, four_heap, h]
    rfl
  may := by
    have h := (push_four w.heap (.cells #[.slice A len cap] 28) (.cells #[.int .i64 maps] 3) (.map (ents 12) 12) (.cells #[.map (some (w.heap.size + 1 + 1))] 37)).2.2.2
    simp only [World.cell?, four_heap, h]
    rfl
  fields := (push_four w.heap (.cells #[.slice A len cap] 28) (.cells #[.int .i64 maps] 3) (.map (ents 12) 12) (.cells #[.map (some (w.heap.size + 1 + 1))] 37)).2.2.1
  ins := hr.below (four_below w A len cap maps)
theorem all_four (w : World) (A : Option Addr) (len cap : Nat) (l : List Ins) (maps : Int) (hl : l.length = len) (h200 : len ≤ 200) (hfit : ∀ x ∈ l, x.Fit) (hr : InsAt w A l)
    (h0 : -9223372036854775808 ≤ maps) (h1 : maps ≤ 9223372036854775807) :
    Calls Try.prog 22 #[.slice A len cap, .func (.func 23) #[] #[.pointer (some ⟨w.heap.size + 1 + 1 + 1, 0, none⟩), .pointer (some ⟨w.heap.size, 0, none⟩), .pointer (some ⟨w.heap.size + 1, 0, none⟩)]]
      ((((w.alloc (.cells #[.slice A len cap] 28)).alloc (.cells #[.int .i64 maps] 3)).alloc (.map (ents 12) 12)).alloc (.cells #[.map (some (w.heap.size + 1 + 1))] 37))
      fun e w' => e = .returned (.bool (allB l maps)) ∧ Below w.heap.size w w' :=
  (all_isa (Four w A len cap maps) w.heap.size (w.heap.size + 1 + 1) A len cap l maps hl h200 hfit (taken_four w A len cap l maps hr) h0 h1).mono fun _ _ ⟨he, hb⟩ =>
    ⟨he, (four_below w A len cap maps).trans (hb.mono (four_below w A len cap maps).size)⟩
theorem check_all (w : World) (g off len cap : Nat) (l : List Ins) (maps o d s f m : Int) (hl : l.length = len) (h0 : 1 ≤ len) (h1 : len ≤ 64) (hfit : ∀ x ∈ l, x.Fit) (hg : g < w.heap.size) (hr : InsAt w (some ⟨g, off, none⟩) l)
    (hc : At5 w g (off + (len - 1) * 5) ⟨o, d, s, f, m⟩) (hs : shp o = 8) (hm0 : -9223372036854775808 ≤ maps) (hm1 : maps ≤ 9223372036854775807) :
    Calls Try.prog 15 #[.slice (some ⟨g, off, none⟩) len cap, .int .i64 maps] w fun e w' => e = .returned (.int .i64 (errI (allB l maps))) ∧ Below w.heap.size w w' := by
  have e1 : IntKind.i64.wrap ((len : Int) - 1) = (len : Int) - 1 := IntWalk.i64_in _ (by omega)
  have e2 : (0 : Int) ≤ (len : Int) - 1 := by omega
  have e3 : ((len : Int) - 1).toNat = len - 1 := by omega
  have HS := Lib.hid hs
  have HL := Lib.hid hl
  clear hs hl
  obtain ⟨x0, x1, x2, x3, x4⟩ := hc
  cases hR : allB l maps
  all_goals
    have HR := Lib.hid hR
    clear hR
    go_enter Try.func15, Try.ntmps15
    go_wp2_with (first
      | (go_at_call 21; refine (shape_of _ _).mono ?_; rintro e w' ⟨rfl, rfl⟩; rw [HS.out])
      | (go_at_call 19; refine (fields_map _).mono ?_; rintro e w1 ⟨rfl, rfl⟩)
      | (go_at_call 22; refine (all_four w _ _ _ l maps HL.out (by omega) hfit hr hm0 hm1).mono ?_; rintro e w1 ⟨rfl, hb1⟩; rw [HR.out]; have HB1 := Lib.hid hb1; clear hb1))
    go_ret
    exact ⟨rfl, HB1.out⟩
theorem check_isa (w : World) (A : Option Addr) (len cap : Nat) (l : List Ins) (maps : Int) (hl : l.length = len) (hm : len ≤ maxLen) (hfit : ∀ x ∈ l, x.Fit) (hr : InsAt w A l) (hm0 : -9223372036854775808 ≤ maps) (hm1 : maps ≤ 9223372036854775807) :
    Calls Try.prog 15 #[.slice A len cap, .int .i64 maps] w fun e w' => e = .returned (.int .i64 (errI (checkI l maps))) ∧ Below w.heap.size w w' := by
  by_cases hs : 1 ≤ len ∧ len ≤ 64
  · obtain ⟨g, off, rfl, hg, hc⟩ := at5_of (k := len - 1) hl hr (by omega)
    unfold checkI
    rw [hl]
    obtain ⟨⟨o, d, s, f, m⟩, hx⟩ : ∃ x, l.getD (len - 1) .zero = x := ⟨_, rfl⟩
    rw [hx] at hc ⊢
    by_cases h8 : shp o = 8
    · have := check_all w g off len cap l maps o d s f m hl hs.1 hs.2 hfit hg hr hc h8 hm0 hm1
      simpa [hs.1, hs.2, h8] using this
    · have := check_last w g off len cap maps o d s f m hs.1 hs.2 hg hc h8
      simpa [h8, errI] using this
  · have := check_size w A len cap maps hm (by omega)
    have e : checkI l maps = false := by
      unfold checkI
      rw [hl]
      have : (decide (1 ≤ len) && decide (len ≤ 64)) = false := by
        rw [← Bool.decide_and]
        exact decide_eq_false hs
      rw [this]
      rfl
    rw [e]
    exact this
end Go.Proofs.Ytcngkbmffaojoaa
