import Derived.Test.YthmibmofdmlgaaaGreatDoorRows
import Derived.WalkKit
import Derived.IntWalk
import Derived.Laws.BitsAllLaws
import Derived.Deep.Slices
import Derived.Deep.Fields
import Derived.ChangeSame
import Derived.OpenShut
import Derived.Lib.SmallJoins
import Derived.Below
/-
  Proved here: what IsSize, Zext, Sext, Low of package words, and Size, Power, Zext, Sext, Low of the document's answers, return, as closed numbers. Conditions: a number that is cut is a uint64; Power's argument lies between 0 and 63.
-/
namespace Go.Proofs.YthmibmofdmlgaaaGreatDoor
open Go.RowKit

/-- A size. -/
def sizeB (n : Int) : Bool := n == 1 || n == 2 || n == 4 || n == 8
/-- The n low bytes of x. -/
def zx (x n : Int) : Int := if n = 1 then x % 256 else if n = 2 then x % 65536 else if n = 4 then x % 4294967296 else x
/-- These as a number with a sign, as 64 bits again. -/
def sx (x n : Int) : Int :=
  if n = 1 then (if 128 ≤ x % 256 then x % 256 - 256 + 18446744073709551616 else x % 256)
  else if n = 2 then (if 32768 ≤ x % 65536 then x % 65536 - 65536 + 18446744073709551616 else x % 65536)
  else if n = 4 then (if 2147483648 ≤ x % 4294967296 then x % 4294967296 - 4294967296 + 18446744073709551616 else x % 4294967296)
  else x
/-- The number whose n lowest bits are 1. -/
def lw (n : Int) : Int := if n < 1 then 0 else if 63 < n then 18446744073709551615 else 2 ^ n.toNat - 1
def Ret (v : Value) (w : World) (e : Ending) (w' : World) : Prop := e = .returned v ∧ w = w'

theorem pow_le63 {n : Nat} (h : n ≤ 63) : (1 : Int) ≤ 2 ^ n ∧ (2 : Int) ^ n ≤ 9223372036854775808 := by
  constructor
  · exact Int.pow_pos (by decide)
  · have : (2 : Nat) ^ n ≤ 2 ^ 63 := Nat.pow_le_pow_right (by decide) h
    have h2 : ((2 ^ n : Nat) : Int) ≤ ((2 ^ 63 : Nat) : Int) := by exact_mod_cast this
    simpa using h2
theorem ret_u64 {a b : Int} (h : a = b) : Ending.returned (.int .u64 a) = .returned (.int .u64 b) := by rw [h]
theorem ret_bool {a b : Bool} (h : a = b) : Ending.returned (.bool a) = .returned (.bool b) := by rw [h]

/-! ### IsSize, Size -/
theorem size_ref (n : Int) (w : World) : Calls Tryz.prog 63 #[.int .i64 n] w (Ret (.bool (sizeB n)) w) := by
  unfold Ret sizeB
  go_enter Tryz.func63, Tryz.ntmps63
  go_wp2
  all_goals
    go_ret
    exact ⟨ret_bool (by simp [*]), rfl⟩
theorem size_words (n : Int) (w : World) : Calls Tryz.prog 74 #[.int .i64 n] w (Ret (.bool (sizeB n)) w) := by
  unfold Ret sizeB
  go_enter Tryz.func74, Tryz.ntmps74
  go_wp2
  all_goals
    go_ret
    exact ⟨ret_bool (by simp [*]), rfl⟩

/-! ### Power -/
theorem power (m : Int) (w : World) (h0 : 0 ≤ m) (h : m ≤ 63) : Calls Tryz.prog 64 #[.int .i64 m] w (Ret (.int .u64 (2 ^ m.toNat)) w) := by
  unfold Ret
  go_enter Tryz.func64, Tryz.ntmps64
  go_wp2
  go_loop [3, 4] (fun p i => ∃ k : Nat, (k : Int) ≤ m ∧ i = .int .i64 k ∧ p = .int .u64 (2 ^ k)) (fun _ i => m.toNat - (intOf i).toNat)
  case atStart => exact ⟨0, by omega, rfl, rfl⟩
  case round =>
    obtain ⟨k, hk, rfl, rfl⟩ := hrel
    by_cases hlt : (k : Int) < m
    · have hp := pow_le63 (n := k) (by omega)
      have hp2 := pow_le63 (n := k + 1) (by omega)
      have hb : (0 : Int) ≤ 2 ^ k * 2 ∧ (2 : Int) ^ k * 2 ≤ 18446744073709551615 := by omega
      clear hp hp2
      go_wp2
      go_round
      case rel => exact ⟨k + 1, by omega, by go_num, by rw [Int.pow_succ]⟩
      case measure => simp [intOf]; omega
    · obtain rfl : m = k := by omega
      go_wp2
      go_ret
      exact ⟨ret_u64 (by simp), rfl⟩

/-! ### Low -/
theorem low_words (n : Int) (w : World) : Calls Tryz.prog 75 #[.int .i64 n] w (Ret (.int .u64 (lw n)) w) := by
  unfold Ret
  by_cases h1 : n < 1
  · go_enter Tryz.func75, Tryz.ntmps75
    go_wp2
    go_ret
    exact ⟨ret_u64 (by simp [lw, h1]), rfl⟩
  · by_cases h2 : 63 < n
    · go_enter Tryz.func75, Tryz.ntmps75
      go_wp2
      go_ret
      exact ⟨ret_u64 (by simp [lw, h1, h2]), rfl⟩
    · have hp := pow_le63 (n := n.toNat) (by omega)
      have e1 : IntKind.u64.wrap (2 ^ n.toNat) = 2 ^ n.toNat := IntWalk.u64_in _ (by omega)
      go_enter Tryz.func75, Tryz.ntmps75
      go_wp2
      go_ret
      exact ⟨ret_u64 (by rw [lw, if_neg (by omega), if_neg (by omega)]), rfl⟩
/-! ### Zext -/
theorem sizeB_not {n : Int} (h1 : n ≠ 1) (h2 : n ≠ 2) (h4 : n ≠ 4) (h8 : n ≠ 8) : sizeB n = false := by
  simp [sizeB, h1, h2, h4, h8]
theorem sizeB_1 : sizeB 1 = true := rfl
theorem sizeB_2 : sizeB 2 = true := rfl
theorem sizeB_4 : sizeB 4 = true := rfl
theorem sizeB_8 : sizeB 8 = true := rfl
theorem and_low (x : Int) (h0 : 0 ≤ x) (h1 : x ≤ 18446744073709551615) (m : Nat) (hm : m ≤ 63) : bits BinOp.and IntKind.u64 x (2 ^ m - 1) = x % 2 ^ m := by
  have hp := pow_le63 hm
  obtain ⟨y, rfl⟩ := Int.eq_ofNat_of_zero_le h0
  rw [u64_and y _ h0 (by omega) (by omega) (by omega)]
  have e : ((2 : Int) ^ m - 1).toNat = 2 ^ m - 1 := by
    have : ((2 : Int) ^ m) = ((2 ^ m : Nat) : Int) := by simp
    rw [this]; omega
  rw [e, Nat.and_two_pow_sub_one_eq_mod]
  simp
theorem and_all (x : Int) (h0 : 0 ≤ x) (h1 : x ≤ 18446744073709551615) : bits BinOp.and IntKind.u64 x 18446744073709551615 = x := by
  obtain ⟨y, rfl⟩ := Int.eq_ofNat_of_zero_le h0
  rw [u64_and y _ h0 (by omega) (by omega) (by omega)]
  have e : (18446744073709551615 : Int).toNat = 2 ^ 64 - 1 := by decide
  rw [e, Nat.and_two_pow_sub_one_eq_mod]
  simp; omega
theorem zext_words (x n : Int) (w : World) (h0 : 0 ≤ x) (h1 : x ≤ 18446744073709551615) : Calls Tryz.prog 60 #[.int .u64 x, .int .i64 n] w (Ret (.int .u64 (zx x n)) w) := by
  unfold Ret
  by_cases n1 : n = 1
  · subst n1
    have e := and_low x h0 h1 8 (by decide)
    simp at e
    go_enter Tryz.func60, Tryz.ntmps60
    go_wp2
    go_ret
    exact ⟨ret_u64 (by simp [zx]), rfl⟩
  by_cases n2 : n = 2
  · subst n2
    have e := and_low x h0 h1 16 (by decide)
    simp at e
    go_enter Tryz.func60, Tryz.ntmps60
    go_wp2
    go_ret
    exact ⟨ret_u64 (by simp [zx]), rfl⟩
  by_cases n4 : n = 4
  · subst n4
    have e := and_low x h0 h1 32 (by decide)
    simp at e
    go_enter Tryz.func60, Tryz.ntmps60
    go_wp2
    go_ret
    exact ⟨ret_u64 (by simp [zx]), rfl⟩
  by_cases n8 : n = 8
  · subst n8
    have e := and_all x h0 h1
    go_enter Tryz.func60, Tryz.ntmps60
    go_wp2
    go_ret
    exact ⟨ret_u64 (by simp [zx]), rfl⟩
  have hs := sizeB_not n1 n2 n4 n8
  have ez : zx x n = x := by rw [zx, if_neg n1, if_neg n2, if_neg n4]
  rw [ez]
  go_enter Tryz.func60, Tryz.ntmps60
  go_wp2_with (go_at_call 74; refine (size_words _ _).mono ?_; rintro e w' ⟨rfl, rfl⟩)
  go_ret
  exact ⟨rfl, rfl⟩
theorem zext_ref (x n : Int) (w : World) (h0 : 0 ≤ x) (h1 : x ≤ 18446744073709551615) : Calls Tryz.prog 47 #[.int .u64 x, .int .i64 n] w (Ret (.int .u64 (zx x n)) w) := by
  unfold Ret
  by_cases n1 : n = 1
  · subst n1
    have hs := sizeB_1
    go_enter Tryz.func47, Tryz.ntmps47
    go_wp2_with (first | (go_at_call 63; refine (size_ref _ _).mono ?_; rintro e w' ⟨rfl, rfl⟩) | (go_at_call 64; refine (power _ _ (by omega) (by omega)).mono ?_; rintro e w' ⟨rfl, rfl⟩))
    go_ret
    exact ⟨ret_u64 (by simp [zx]), rfl⟩
  by_cases n2 : n = 2
  · subst n2
    have hs := sizeB_2
    go_enter Tryz.func47, Tryz.ntmps47
    go_wp2_with (first | (go_at_call 63; refine (size_ref _ _).mono ?_; rintro e w' ⟨rfl, rfl⟩) | (go_at_call 64; refine (power _ _ (by omega) (by omega)).mono ?_; rintro e w' ⟨rfl, rfl⟩))
    go_ret
    exact ⟨ret_u64 (by simp [zx]), rfl⟩
  by_cases n4 : n = 4
  · subst n4
    have hs := sizeB_4
    go_enter Tryz.func47, Tryz.ntmps47
    go_wp2_with (first | (go_at_call 63; refine (size_ref _ _).mono ?_; rintro e w' ⟨rfl, rfl⟩) | (go_at_call 64; refine (power _ _ (by omega) (by omega)).mono ?_; rintro e w' ⟨rfl, rfl⟩))
    go_ret
    exact ⟨ret_u64 (by simp [zx]), rfl⟩
  by_cases n8 : n = 8
  · subst n8
    have hs := sizeB_8
    go_enter Tryz.func47, Tryz.ntmps47
    go_wp2_with (first | (go_at_call 63; refine (size_ref _ _).mono ?_; rintro e w' ⟨rfl, rfl⟩) | (go_at_call 64; refine (power _ _ (by omega) (by omega)).mono ?_; rintro e w' ⟨rfl, rfl⟩))
    go_ret
    exact ⟨ret_u64 (by simp [zx]), rfl⟩
  have hs := sizeB_not n1 n2 n4 n8
  have ez : zx x n = x := by rw [zx, if_neg n1, if_neg n2, if_neg n4]
  rw [ez]
  go_enter Tryz.func47, Tryz.ntmps47
  go_wp2_with (go_at_call 63; refine (size_ref _ _).mono ?_; rintro e w' ⟨rfl, rfl⟩)
  go_ret
  exact ⟨rfl, rfl⟩
/-! ### Sext -/
end Go.Proofs.YthmibmofdmlgaaaGreatDoor

/-
  Proved here: a struct of integers that came in is its integers, and a slice of such structs is a row of their cells. Conditions: each field is one cell, an integer of a named kind.
-/
namespace Go.Proofs.YthmibmofdmlgaaaGreatDoor
open Go.ChangeShapes Go.WideShapes Go.RowKit Go.Deep

section
variable {H : Type} {enc : TypeId × Value → H} {P : Program} {w : World} {base : Nat} {spare : Nat → Bool} {held : Bool}

/-- Each field is one cell: an integer of the kind that the list has for it. -/
def intFields (P : Program) (fs : Array Field) (ks : List IntKind) : Bool :=
  oneCellFields P fs && fs.size == ks.length && (List.range ks.length).all fun i => match fs[i]?, ks[i]? with
    | some f, some k => (match P.underlying f.type with | some (.int k') => k' == k | _ => false)
    | _, _ => false
theorem intFields_at {fs : Array Field} {ks : List IntKind} (h : intFields P fs ks = true) :
    oneCellFields P fs = true ∧ fs.size = ks.length ∧ ∀ (i : Nat) (k : IntKind), ks[i]? = some k → ∃ f : Field, fs[i]? = some f ∧ P.underlying f.type = some (.int k) := by
  simp only [intFields, Bool.and_eq_true, beq_iff_eq, List.all_eq_true, List.mem_range] at h
  obtain ⟨⟨h1, h2⟩, h3⟩ := h
  refine ⟨h1, h2, fun i k hk => ?_⟩
  have hi : i < ks.length := (List.getElem?_eq_some_iff.1 hk).1
  have h4 := h3 i hi
  have hf : fs[i]? = some (fs[i]'(by omega)) := Array.getElem?_eq_getElem (by omega)
  rw [hf, hk] at h4
  refine ⟨_, hf, ?_⟩
  simp only at h4
  split at h4
  · rename_i k' e
    rw [e, eq_of_beq h4]
  · cases h4

/-- The cells of a struct of integers are integers of these kinds. -/
theorem trod_ints {t : TypeId} {fs : Array Field} {ks : List IntKind} {fuel : Nat} {cs : List Value} {x : DataW H × List MemPlace} (hs : P.underlying t = some (.struct fs))
    (hi : intFields P fs ks = true) (hc : P.cellsOf t = ks.length) (h : DataW.trod enc P w base spare held fuel t cs = some x) :
    cs.length = ks.length ∧ ∀ (i : Nat) (k : IntKind), ks[i]? = some k → ∃ n : Int, cs[i]? = some (Value.int k n) ∧ (Lit.int k n).wf = true := by
  obtain ⟨hone, hsz, hk⟩ := intFields_at hi
  obtain ⟨xs, n, _, _, hlen, hxl, hf⟩ := DataW.trod_struct hs h
  rw [hc] at hlen
  refine ⟨hlen, fun i k hik => ?_⟩
  obtain ⟨f, hfi, hu⟩ := hk i k hik
  obtain ⟨ho, hone1⟩ := hone_of hone i f hfi
  have h1 := hf i f hfi
  have hil : i < ks.length := (List.getElem?_eq_some_iff.1 hik).1
  rw [ho, hone1] at h1
  have hd : (cs.drop i).take 1 = [cs[i]'(by omega)] := by
    rw [List.drop_eq_getElem_cons (by omega)]; rfl
  have hx : xs[i]? = some (xs[i]'(by omega)) := List.getElem?_eq_getElem (by omega)
  rw [hd, hx] at h1
  obtain ⟨m, hm, -, hw⟩ := DataW.trod_int hu h1
  refine ⟨m, ?_, hw⟩
  rw [List.getElem?_eq_getElem (by omega)]
  injection hm with hm
  rw [hm]

/-- A slice of structs of integers: nil, or a row of cells: len structs and the spare room. -/
theorem open_rows {t e : TypeId} {fs : Array Field} {ks : List IntKind} {fuel : Nat} {cs : List Value} {x : DataW H × List MemPlace} (ht : P.underlying t = some (.slice e)) (hs : P.underlying e = some (.struct fs))
    (hi : intFields P fs ks = true) (hc : P.cellsOf e = ks.length) (h : DataW.trod enc P w base spare held fuel t cs = some x) :
    cs = [.slice none 0 0] ∨ ∃ (a : Addr) (len cap : Nat), cs = [.slice (some a) len cap] ∧ len ≤ cap ∧ cap ≤ maxLen ∧
      ∀ j, j < len → ∀ (i : Nat) (k : IntKind), ks[i]? = some k → ∃ n : Int, w.cell? (a.add (j * ks.length + i)) = some (.int k n) ∧ (Lit.int k n).wf = true := by
  rcases open_slice ht h with ⟨h0, -⟩ | ⟨a, len, cap, m, n, D, Pl, hcs, -, hl, hm, hmm, -, hel⟩
  · exact .inl h0
  · refine .inr ⟨a, len, cap, hcs, hl, hm, fun j hj i k hik => ?_⟩
    have hjm : j < m := by rw [hmm]; split <;> omega
    obtain ⟨cs', hc', ht'⟩ := hel j hjm
    rw [hc] at hc'
    obtain ⟨_, hcl, hat⟩ := World.cells?_some hc'
    obtain ⟨-, hk⟩ := trod_ints hs hi hc ht'
    obtain ⟨v, hv, hw⟩ := hk i k hik
    have hil : i < ks.length := (List.getElem?_eq_some_iff.1 hik).1
    refine ⟨v, ?_, hw⟩
    rw [← Go.Deep.add_add, hat i hil, hv]

/-! ### What came in, said of the value alone -/
variable {r : Reach} {b0 : Nat} {t : TypeId} {v : Value} {d : DataW H} {p : List MemPlace}
/-- An integer of a kind. -/
def IsInt (k : IntKind) (v : Value) : Prop := ∃ n : Int, v = .int k n ∧ (Lit.int k n).wf = true
/-- A struct of integers of these kinds. -/
def IsInts (ks : List IntKind) (v : Value) : Prop := ∃ cs : List Value, v = .agg cs.toArray ∧ cs.length = ks.length ∧ ∀ (i : Nat) (k : IntKind), ks[i]? = some k → ∃ n : Int, cs[i]? = some (Value.int k n) ∧ (Lit.int k n).wf = true
/-- A slice of integers of a kind. -/
def IsSlice (k : IntKind) (w : World) (v : Value) : Prop := v = .slice none 0 0 ∨ ∃ (a : Addr) (len cap : Nat), v = .slice (some a) len cap ∧ len ≤ cap ∧ cap ≤ maxLen ∧
  ∀ j, j < len → ∃ n : Int, w.cell? (a.add j) = some (.int k n) ∧ (Lit.int k n).wf = true
/-- A slice of structs of integers of these kinds. -/
def IsRows (ks : List IntKind) (w : World) (v : Value) : Prop := v = .slice none 0 0 ∨ ∃ (a : Addr) (len cap : Nat), v = .slice (some a) len cap ∧ len ≤ cap ∧ cap ≤ maxLen ∧
  ∀ j, j < len → ∀ (i : Nat) (k : IntKind), ks[i]? = some k → ∃ n : Int, w.cell? (a.add (j * ks.length + i)) = some (.int k n) ∧ (Lit.int k n).wf = true

theorem isInt_of {k : IntKind} (ht : P.underlying t = some (.int k)) (hv : Value.okWide P w r b0 t v) (h : DataW.Trod enc P w base spare held t v d p) : IsInt k v := by
  obtain ⟨a, rfl, -, -, hw⟩ := open_int ht hv h
  exact ⟨a, rfl, hw⟩
theorem isInts_of {fs : Array Field} {ks : List IntKind} (hs : P.underlying t = some (.struct fs)) (hi : intFields P fs ks = true) (hc : P.cellsOf t = ks.length)
    (hv : Value.okWide P w r b0 t v) (h : DataW.Trod enc P w base spare held t v d p) : IsInts ks v := by
  obtain ⟨cs, rfl, -⟩ := okWide_struct hs hv
  obtain ⟨fuel, hf⟩ := h
  obtain ⟨hl, hk⟩ := trod_ints hs hi hc hf
  exact ⟨cs.toList, by simp, hl, hk⟩
theorem isSlice_of {e : TypeId} {k : IntKind} (ht : P.underlying t = some (.slice e)) (he : P.underlying e = some (.int k)) (hc : P.cellsOf e = 1)
    (hv : Value.okWide P w r b0 t v) (h : DataW.Trod enc P w base spare held t v d p) : IsSlice k w v := by
  obtain ⟨a, len, cap, rfl⟩ := okWide_slice ht hv
  obtain ⟨fuel, hf⟩ := h
  rcases open_ints ht he hc hf with ⟨hcs, _⟩ | ⟨x, l, c, zs, hcs, _, hl, hm, hz, _, hcell, hwz⟩
  · simp [Value.cells] at hcs
    obtain ⟨rfl, rfl, rfl⟩ := hcs
    exact .inl rfl
  · simp [Value.cells] at hcs
    obtain ⟨rfl, rfl, rfl⟩ := hcs
    have hlen : len ≤ zs.length := by
      rw [hz]; split <;> omega
    refine .inr ⟨_, _, _, rfl, hl, hm, fun j hj => ⟨_, hcell j (by omega), hwz _ ?_⟩⟩
    · rw [List.getD_eq_getElem?_getD, List.getElem?_eq_getElem (by omega)]
      exact List.getElem_mem (by omega)
theorem isRows_of {e : TypeId} {fs : Array Field} {ks : List IntKind} (ht : P.underlying t = some (.slice e)) (hs : P.underlying e = some (.struct fs)) (hi : intFields P fs ks = true) (hc : P.cellsOf e = ks.length)
    (hv : Value.okWide P w r b0 t v) (h : DataW.Trod enc P w base spare held t v d p) : IsRows ks w v := by
  obtain ⟨a, len, cap, rfl⟩ := okWide_slice ht hv
  obtain ⟨fuel, hf⟩ := h
  rcases open_rows ht hs hi hc hf with hcs | ⟨x, l, c, hcs, hl, hm, hcell⟩
  · simp [Value.cells] at hcs
    obtain ⟨rfl, rfl, rfl⟩ := hcs
    exact .inl rfl
  · simp [Value.cells] at hcs
    obtain ⟨rfl, rfl, rfl⟩ := hcs
    exact .inr ⟨_, _, _, rfl, hl, hm, hcell⟩
end
end Go.Proofs.YthmibmofdmlgaaaGreatDoor

/-
  Proved here: an instruction, its value and its fields' bounds; a slice of instructions as a row of cells, kept where nothing below is turned; what came in as such. Conditions: as each lemma says. No Go text is spoken of.
-/
namespace Go.Proofs.YthmibmofdmlgaaaGreatDoor
open Go.RowKit

/-- An instruction. -/
structure Ins where
  op : Int
  dst : Int
  src : Int
  off : Int
  imm : Int

structure Ins.Fit (x : Ins) : Prop where
  op : 0 ≤ x.op ∧ x.op ≤ 255
  dst : 0 ≤ x.dst ∧ x.dst ≤ 255
  src : 0 ≤ x.src ∧ x.src ≤ 255
  off : -32768 ≤ x.off ∧ x.off ≤ 32767
  imm : -2147483648 ≤ x.imm ∧ x.imm ≤ 2147483647

def Ins.zero : Ins := ⟨0, 0, 0, 0, 0⟩
instance : Inhabited Ins := ⟨.zero⟩
/-- Its value, field by field. -/
def insV (o d s f m : Int) : Value := .agg #[.int .u8 o, .int .u8 d, .int .u8 s, .int .i16 f, .int .i32 m]
/-- Its value. -/
def Ins.val (x : Ins) : Value := .agg #[.int .u8 x.op, .int .u8 x.dst, .int .u8 x.src, .int .i16 x.off, .int .i32 x.imm]

/-- The cells of instructions in a row. -/
def InsRow (w : World) (g off : Nat) (l : List Ins) : Prop := ∀ j, j < l.length →
  w.cell? ⟨g, off + j * 5, none⟩ = some (.int .u8 (l.getD j .zero).op) ∧ w.cell? ⟨g, off + j * 5 + 1, none⟩ = some (.int .u8 (l.getD j .zero).dst) ∧
  w.cell? ⟨g, off + j * 5 + 2, none⟩ = some (.int .u8 (l.getD j .zero).src) ∧ w.cell? ⟨g, off + j * 5 + 3, none⟩ = some (.int .i16 (l.getD j .zero).off) ∧
  w.cell? ⟨g, off + j * 5 + 4, none⟩ = some (.int .i32 (l.getD j .zero).imm)
theorem InsRow.below {B : Nat} {w w' : World} {g off : Nat} {l : List Ins} (h : InsRow w g off l) (hb : Below B w w') (hg : g < B) : InsRow w' g off l := by
  intro j hj
  obtain ⟨h0, h1, h2, h3, h4⟩ := h j hj
  exact ⟨(hb.cell (p := ⟨g, _, none⟩) hg).trans h0, (hb.cell (p := ⟨g, _, none⟩) hg).trans h1, (hb.cell (p := ⟨g, _, none⟩) hg).trans h2, (hb.cell (p := ⟨g, _, none⟩) hg).trans h3, (hb.cell (p := ⟨g, _, none⟩) hg).trans h4⟩
/-- A slice of instructions. -/
def InsAt (w : World) (A : Option Addr) (l : List Ins) : Prop := l.length = 0 ∨ ∃ g off, A = some ⟨g, off, none⟩ ∧ g < w.heap.size ∧ InsRow w g off l
theorem InsAt.below {w w' : World} {A : Option Addr} {l : List Ins} (h : InsAt w A l) (hb : Below w.heap.size w w') : InsAt w' A l := by
  rcases h with h | ⟨g, off, rfl, hg, hr⟩
  · exact .inl h
  · exact .inr ⟨g, off, rfl, Nat.lt_of_lt_of_le hg hb.size, hr.below hb hg⟩

/-- The kinds of an instruction's fields. -/
abbrev insKinds : List IntKind := [.u8, .u8, .u8, .i16, .i32]
theorem ins_in {v : Value} (h : IsInts insKinds v) : ∃ x : Ins, v = x.val ∧ x.Fit := by
  obtain ⟨cs, rfl, hl, hk⟩ := h
  obtain ⟨o, ho, wo⟩ := hk 0 .u8 rfl
  obtain ⟨d, hd, wd⟩ := hk 1 .u8 rfl
  obtain ⟨s, hs, ws⟩ := hk 2 .u8 rfl
  obtain ⟨f, hf, wf⟩ := hk 3 .i16 rfl
  obtain ⟨m, hm, wm⟩ := hk 4 .i32 rfl
  refine ⟨⟨o, d, s, f, m⟩, ?_, ⟨bounds_u8 wo, bounds_u8 wd, bounds_u8 ws, bounds_i16 wf, bounds_i32 wm⟩⟩
  match cs, hl with
  | [c0, c1, c2, c3, c4], _ =>
    simp only [List.getElem?_cons_zero, List.getElem?_cons_succ, Option.some.injEq] at ho hd hs hf hm
    subst ho hd hs hf hm
    rfl
theorem rows_in {w : World} {v : Value} (h : IsRows insKinds w v) : ∃ A len cap l, v = .slice A len cap ∧ l.length = len ∧ len ≤ maxLen ∧ (∀ x ∈ l, x.Fit) ∧ InsAt w A l := by
  rcases h with rfl | ⟨a, len, cap, rfl, hl, hm, hc⟩
  · exact ⟨none, 0, 0, [], rfl, rfl, Nat.zero_le _, by simp, .inl rfl⟩
  · have hx : ∀ j, j < len → ∃ x : Ins, x.Fit ∧ w.cell? (a.add (j * 5 + 0)) = some (.int .u8 x.op) ∧ w.cell? (a.add (j * 5 + 1)) = some (.int .u8 x.dst) ∧ w.cell? (a.add (j * 5 + 2)) = some (.int .u8 x.src) ∧
        w.cell? (a.add (j * 5 + 3)) = some (.int .i16 x.off) ∧ w.cell? (a.add (j * 5 + 4)) = some (.int .i32 x.imm) := by
      intro j hj
      obtain ⟨o, ho, wo⟩ := hc j hj 0 .u8 rfl
      obtain ⟨d, hd, wd⟩ := hc j hj 1 .u8 rfl
      obtain ⟨s, hs, ws⟩ := hc j hj 2 .u8 rfl
      obtain ⟨f, hf, wf⟩ := hc j hj 3 .i16 rfl
      obtain ⟨m, hm, wm⟩ := hc j hj 4 .i32 rfl
      exact ⟨⟨o, d, s, f, m⟩, ⟨bounds_u8 wo, bounds_u8 wd, bounds_u8 ws, bounds_i16 wf, bounds_i32 wm⟩, ho, hd, hs, hf, hm⟩
    obtain ⟨f, hf⟩ := Go.Deep.choose_lt hx
    refine ⟨some a, len, cap, (List.range len).map f, rfl, by simp, by omega, ?_, ?_⟩
    · intro x hx
      simp only [List.mem_map, List.mem_range] at hx
      obtain ⟨j, hj, rfl⟩ := hx
      exact (hf j hj).1
    · rcases Nat.eq_zero_or_pos len with h0 | h0
      · exact .inl (by simp [h0])
      · obtain ⟨b, off, spot⟩ := a
        have h1 := (hf 0 h0).2.1
        have hspot : spot = none := by simpa [Addr.add] using World.cell?_spot h1
        subst hspot
        have hg : b < w.heap.size := by
          have := World.block_lt_of_cell? w _ h1
          simpa [Addr.add] using this
        refine .inr ⟨b, off, rfl, hg, fun j hj => ?_⟩
        have hj' : j < len := by simpa using hj
        have e : ((List.range len).map f).getD j .zero = f j := by
          rw [List.getD_eq_getElem?_getD, List.getElem?_map, List.getElem?_range hj']
          rfl
        rw [e]
        obtain ⟨_, k0, k1, k2, k3, k4⟩ := hf j hj'
        rw [Go.WideShapes.add_plain] at k0 k1 k2 k3 k4
        exact ⟨k0, k1, k2, k3, k4⟩
end Go.Proofs.YthmibmofdmlgaaaGreatDoor
