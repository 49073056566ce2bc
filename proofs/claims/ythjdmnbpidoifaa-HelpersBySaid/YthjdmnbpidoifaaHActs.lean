/-
  Proved here: what the program's package helpers must do (a structure), and facts of the table. Conditions: none.
-/
import Derived.Test.YthjdmnbpidoifaaHArg
import Derived.WideShapes
import Derived.Deep.RegionWith
namespace Go.Proofs.Ythjdmnbpidoifaa
open Go.RowKit

/-- What Of gives of a helper that there is. -/
def GaveHelper (k : Nat) (w : World) (e : Ending) (w' : World) : Prop := ∃ a1 c1 a2 c2, e = .returned (.tuple #[.agg #[.string (hnameB k), .slice a1 (hargL k).length c1, .slice a2 (hmapL k).length c2, .int .u8 (retI (hretC k))], .bool true]) ∧
  Below w.heap.size w w' ∧ SlRow w' w.heap.size .u8 a1 (hargL k) ∧ SlRow w' w.heap.size .i64 a2 (hmapL k)
def isHelp (name : ByteArray) (i : Nat) : Bool := (hnameB (i + 1)).toList == name.toList
/-- The number of a name; 0 without one. -/
def byH (name : ByteArray) : Nat := match (List.range 13).find? (isHelp name) with
  | some i => i + 1
  | none => 0
/-- What the program's package must do. -/
structure Acts16 : Prop where
  of_yes : ∀ (k : Nat) (w : World), 1 ≤ k → k ≤ 13 → Calls Try.prog 7 #[.int .i64 k] w (GaveHelper k w)
  of_no : ∀ (k : Int) (w : World), ¬ (1 ≤ k ∧ k ≤ 13) → Calls Try.prog 7 #[.int .i64 k] w (Tells (.tuple #[.agg #[.string { data := #[] }, .slice none 0 0, .slice none 0 0, .int .u8 0], .bool false]) w)
  count : ∀ w : World, Calls Try.prog 10 #[] w (Tells (.int .i64 13) w)
  suits_yes : ∀ (k : Nat) (kind : Int) (w : World), 1 ≤ k → k ≤ 13 → Calls Try.prog 12 #[.int .i64 k, .int .i64 kind] w (Tells (.bool (suitsB k kind)) w)
  suits_no : ∀ (k kind : Int) (w : World), ¬ (1 ≤ k ∧ k ≤ 13) → Calls Try.prog 12 #[.int .i64 k, .int .i64 kind] w (Tells (.bool false) w)
  by_ : ∀ (name : ByteArray) (w : World), Calls Try.prog 13 #[.string name] w (Tells (.int .i64 (byH name)) w)

theorem hname_full (k : Nat) (h1 : 1 ≤ k) (h2 : k ≤ 13) : (hnameB k).toList.isEmpty = false := by
  have h : ∀ i : Fin 14, 1 ≤ i.val → (hnameB i.val).toList.isEmpty = false := by decide +kernel
  exact h ⟨k, by omega⟩ h1
theorem harg_size (k : Nat) : (hargB k).size = (hargL k).length := by
  unfold hargL
  rw [List.length_map]
  rfl
theorem harg_at (k : Nat) (ws : ByteArray) (hw : hargB k = ws) (i : Nat) (hi : i < ws.size) : argI ((ws[i]).toNat : Int) = (hargL k).getD i 0 := by
  subst hw
  unfold hargL
  have hl : i < (hargB k).data.toList.length := by simpa using hi
  rw [List.getD_eq_getElem?_getD, List.getElem?_map, List.getElem?_eq_getElem hl]
  rfl
theorem harg_len (k : Nat) (h2 : k ≤ 13) : (hargL k).length ≤ 5 ∧ (hmapL k).length ≤ 5 := by
  have h : ∀ i : Fin 14, (hargL i.val).length ≤ 5 ∧ (hmapL i.val).length ≤ 5 := by decide +kernel
  exact h ⟨k, by omega⟩
theorem hba_of {a b : ByteArray} (h : (a.toList == b.toList) = true) : a = b := by
  have h' := eq_of_beq h
  rw [ByteArray.toList_eq, ByteArray.toList_eq] at h'
  exact Go.WideShapes.bytes_inj h'
theorem byH_name (i : Nat) (h1 : 1 ≤ i) (h2 : i ≤ 13) : byH (hnameB i) = i := by
  have h : ∀ i : Fin 14, 1 ≤ i.val → byH (hnameB i.val) = i.val := by decide +kernel
  exact h ⟨i, by omega⟩ h1
theorem byH_lt (name : ByteArray) : byH name < 14 := by
  unfold byH
  split
  · rename_i i h
    have := List.mem_of_find?_eq_some h
    simp at this
    omega
  · omega
theorem byH_is (name : ByteArray) (h : byH name ≠ 0) : isHelp name (byH name - 1) = true := by
  unfold byH at *
  split at h
  · rename_i i h'
    have := List.find?_some h'
    simpa [h'] using this
  · exact absurd rfl h
/-- What has been found of a name behind the helpers below i. -/
def wantH (name : ByteArray) (i : Nat) : Nat := if byH name < i then byH name else 0
theorem wantH_yes {name : ByteArray} {i : Nat} (h : ((hnameB i).toList == name.toList) = true) (h1 : 1 ≤ i) (h2 : i ≤ 13) : wantH name (i + 1) = i := by
  have e := hba_of h
  subst e
  unfold wantH
  rw [byH_name i h1 h2, if_pos (by omega)]
theorem wantH_no {name : ByteArray} {i : Nat} (h : ((hnameB i).toList == name.toList) = false) (h1 : 1 ≤ i) : wantH name (i + 1) = wantH name i := by
  unfold wantH
  by_cases hi : byH name = i
  · have := byH_is name (by omega)
    unfold isHelp at this
    rw [hi, show i - 1 + 1 = i by omega, h] at this
    cases this
  · by_cases hlt : byH name < i
    · rw [if_pos (by omega), if_pos hlt]
    · rw [if_neg (by omega), if_neg hlt]
theorem wantH_start (name : ByteArray) : wantH name 1 = 0 := by
  unfold wantH
  split <;> omega
theorem wantH_end (name : ByteArray) : wantH name 14 = byH name := by
  unfold wantH
  rw [if_pos (byH_lt name)]
theorem boxed {w w' : World} {cs : Array Value} {T : TypeId} (hb : Below (w.alloc (.cells cs T)).heap.size (w.alloc (.cells cs T)) w') : (∀ j, w'.cell? ⟨w.heap.size, j, none⟩ = cs[j]?) ∧ (∀ j, w'.frozen? ⟨w.heap.size, j, none⟩ = false) := by
  have hh : w'.heap[w.heap.size]? = some (.cells cs T (0, 0)) := (hb.block w.heap.size (by simp)).trans (heap_alloc_new w _)
  exact ⟨fun j => by simp [World.cell?, hh], fun j => by simp [World.frozen?, hh]⟩
theorem below_box {w w' : World} {o : Obj} (hb : Below (w.alloc o).heap.size (w.alloc o) w') : Below w.heap.size w w' := ((Below.refl _ _).alloc (Nat.le_refl _) _).trans (hb.mono (by simp))
theorem below_drewN (w : World) (n : Nat) : Below w.heap.size w (w.drewN n) := ⟨rfl, rfl, rfl, Nat.le_refl _, fun _ _ => rfl⟩
theorem below_drews {B : Nat} {a w : World} (h : Below B a w) (n : Nat) : Below B a (w.drewN n) := ⟨h.os, h.tape, h.output, h.size, h.block⟩

def GaveReserve (w : World) (e : Ending) (w' : World) : Prop := ∃ a1 c1 a2 c2, e = .returned (.tuple #[.agg #[.string { data := #[114, 101, 115, 101, 114, 118, 101] }, .slice a1 2 c1, .slice a2 1 c2, .int .u8 3], .bool true]) ∧ Below w.heap.size w w'
theorem alive16 (A : Acts16) (w : World) : Calls Try.prog 6 #[] w (Tells (.bool true) w) := by
  have h8 : ∀ w, Calls Try.prog 7 #[.int .i64 8] w (GaveReserve w) := fun w => (A.of_yes 8 w (by omega) (by omega)).mono fun e w' ⟨a1, c1, a2, c2, he, hb, _, _⟩ => ⟨a1, c1, a2, c2, he, hb⟩
  have s5 : ∀ w, Calls Try.prog 12 #[.int .i64 8, .int .i64 5] w (Tells (.bool true) w) := fun w => A.suits_yes 8 5 w (by omega) (by omega)
  have s2 : ∀ w, Calls Try.prog 12 #[.int .i64 8, .int .i64 2] w (Tells (.bool false) w) := fun w => A.suits_yes 8 2 w (by omega) (by omega)
  have bp : ∀ w, Calls Try.prog 13 #[.string { data := #[112, 97, 116, 104] }] w (Tells (.int .i64 12) w) := fun w => by
    have h := A.by_ { data := #[112, 97, 116, 104] } w
    have e1 : byH { data := #[112, 97, 116, 104] } = 12 := by decide +kernel
    rw [e1] at h
    exact h
  have H8 := Lib.hid h8
  have S5 := Lib.hid s5
  have S2 := Lib.hid s2
  have BP := Lib.hid bp
  clear h8 s5 s2 bp A
  go_enter Try.func6, Try.ntmps6
  go_wp2_with (first
    | (go_at_call 7; refine (H8.out _).mono ?_; rintro e w1 ⟨a1, c1, a2, c2, rfl, hb⟩; have HB := Lib.hid hb; clear hb)
    | (go_at_call_of 12 (Value.int .i64 8); refine (S5.out _).mono ?_; rintro e w2 ⟨rfl, hb2⟩; obtain ⟨hx, hf⟩ := boxed hb2; have HB2 := Lib.hid hb2; clear hb2 hf; clear S5)
    | (go_at_call_of 12 (Value.int .i64 8); refine (S2.out _).mono ?_; rintro e w3 ⟨rfl, hb3⟩; have HB3 := Lib.hid hb3; clear hb3)
    | (go_at_call 13; refine (BP.out _).mono ?_; rintro e w4 ⟨rfl, hb4⟩; have HB4 := Lib.hid hb4; clear hb4))
  go_ret
  exact ⟨rfl, ((HB.out.trans ((below_box HB2.out).mono HB.out.size)).trans (HB3.out.mono (Nat.le_trans HB.out.size (below_box HB2.out).size))).trans (HB4.out.mono (Nat.le_trans (Nat.le_trans HB.out.size (below_box HB2.out).size) HB3.out.size))⟩
end Go.Proofs.Ythjdmnbpidoifaa
