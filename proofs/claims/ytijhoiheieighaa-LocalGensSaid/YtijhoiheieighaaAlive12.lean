/-
  Proved here: the document's example of storages comes out; what filling storages makes of objects and bytes, as lists. Conditions: the contracts.
-/
import Derived.Test.YtijhoiheieighaaActs12
import Derived.LoopTactic
import Derived.RegionTactic
import Derived.BigRegion
namespace Go.Proofs.Ytijhoiheieighaa
open Go.RowKit

theorem place_in {s n L q r : Nat} (hd : Dim s n L) (hq : q < n) (hr : r < s) : q * s + r < L := by
  have := hd.at hq
  omega
/-- What is known of the example's storage. -/
structure Ex (PS : StMem) (w W : World) (D : Nat → Prop) (h G : Nat) (os : List Ob) (zs : List Int) : Prop where
  p : PS W D h G os zs
  b : Below w.heap.size w W
  d : ∀ b, D b → w.heap.size ≤ b
section
variable {PS : StMem} {s n L : Nat} {w W W1 : World} {D D2 : Nat → Prop} {h G G2 : Nat} {os os2 : List Ob} {zs zs2 : List Int}
theorem Ex.stay (hx : Ex PS w W D h G os zs) (A : Acts12 PS s n L) (hb : Below W.heap.size W W1) : Ex PS w W1 D h G os zs := ⟨A.stay hx.p hb, hx.b.trans (hb.mono hx.b.size), hx.d⟩
theorem Ex.next (hx : Ex PS w W D h G os zs) (ht : Turned D W W1) (hp : PS W1 D2 h G2 os2 zs2) (hD : ∀ b, D2 b → D b ∨ W.heap.size ≤ b) : Ex PS w W1 D2 h G2 os2 zs2 := by
  refine ⟨hp, ht.below hx.b hx.d, fun b hb' => ?_⟩
  rcases hD b hb' with h2 | h2
  · exact hx.d b h2
  · exact Nat.le_trans hx.b.size h2
theorem Ex.put (hx : Ex PS w W D h G os zs) (A : Acts12 PS s n L) {j : Nat} (hj : j < L) (c : Int) : Ex PS w (W.setCell ⟨G, j, none⟩ (.int .u8 c)) D h G os (zs.set j c) :=
  hx.next ((Turned.refl D W).set (a := ⟨G, j, none⟩) (.inl (A.inG hx.p)) _) (A.put hx.p hj) (fun _ hb => .inl hb)
end
theorem ex1 : getR [] (zeros 1) 1 1 (5, 1) true = (0, 0, [(5, 1)], zeros 1) := by decide +kernel
theorem ex2 : getR [(5, 1)] (zeros 1) 1 1 (5, 2) true = (0, 28, [(5, 1)], zeros 1) := by decide +kernel
theorem ex3 : getR [(5, 1)] (zeros 1) 1 1 (5, 2) false = (0, 2, [(5, 1)], zeros 1) := by decide +kernel
theorem alive12 {PS : StMem} (ac : Acts12 PS 1 1 1) (w : World) : Calls Try.prog 6 #[] w (fun e w' => e = .returned (.bool true) ∧ Below w.heap.size w w') := by
  have A := Lib.hid ac
  clear ac
  go_enter Try.func6, Try.ntmps6
  go_wp2_with (first
    | (go_at_call 7; refine (A.out.new _).mono ?_; rintro e w1 ⟨h, D1, G1, rfl, hp1, hb1, hd1⟩; have X1 := Lib.hid (Ex.mk hp1 hb1 hd1); clear hp1 hb1 hd1)
    | (go_at_call 17; refine (A.out.get (o := (5, 1)) (c := true) X1.out.p).mono ?_; rintro e w2 ⟨D2, he, hp2, ht2, hd2⟩; rw [ex1] at he hp2; subst he; have X2 := Lib.hid (X1.out.next ht2 hp2 hd2); clear hp2 ht2 hd2 X1)
    | (go_at_call 17; refine (A.out.get (o := (5, 2)) (c := true) X2.out.p).mono ?_; rintro e w3 ⟨D3, he, hp3, ht3, hd3⟩; rw [ex2] at he hp3; subst he; have X3 := Lib.hid (X2.out.next ht3 hp3 hd3); clear hp3 ht3 hd3 X2)
    | (go_at_call 17; refine (A.out.get (o := (5, 2)) (c := false) X3.out.p).mono ?_; rintro e w4 ⟨D4, he, hp4, ht4, hd4⟩; rw [ex3] at he hp4; subst he; have X4 := Lib.hid (X3.out.next ht4 hp4 hd4); clear hp4 ht4 hd4 X3))
  go_ret
  exact ⟨rfl, X4.out.b⟩
/-! ### Filling -/
def osF (i : Nat) : List Ob := (List.range i).map fun (j : Nat) => ((100 : Int) + (j : Int), (1 : Int))
def zsF (m i : Nat) : List Int := (List.range m).map fun j => if j < i then 1 + (j : Int) else 0
def zsG (m g : Nat) : List Int := (List.range m).map fun j => if j + 1 < m then 1 + (j : Int) + (if g ≤ j then 1 else 0) else 0
theorem fill_start (m : Nat) : zeros m = zsF m 0 := by
  unfold zeros zsF
  apply List.ext_getElem
  · simp
  · intro i h1 h2; simp
theorem fill_step : ∀ m : Fin 17, ∀ i : Fin 16, i.val < m.val → getR (osF i) (zsF m i) 1 m (100 + (i.val : Int), 1) true = ((i.val : Int), 0, osF (i + 1), zsF m i) := by decide +kernel
theorem fill_set : ∀ m : Fin 17, ∀ i : Fin 16, i.val < m.val → (zsF m i).set (i * 1) (1 + (i.val : Int)) = zsF m (i + 1) := by decide +kernel
theorem fill_more : ∀ m : Fin 17, 1 ≤ m.val → getR (osF m) (zsF m m) 1 m (1, 0) true = (0, 28, osF m, zsF m m) := by decide +kernel
theorem fill_drop : ∀ m : Fin 17, ∀ g : Fin 16, g.val < m.val → dropR (osF m) (zsF m m) 1 (100 + (g.val : Int), 1) = (0, (osF m).eraseIdx g, zsG m g) := by decide +kernel
theorem fill_len : ∀ m : Fin 17, ∀ g : Fin 16, g.val < m.val → ((osF m).eraseIdx g).length = m - 1 := by decide +kernel
theorem fill_again : ∀ m : Fin 17, ∀ g : Fin 16, g.val < m.val → getR ((osF m).eraseIdx g) (zsG m g) 1 m (1, 0) true = (((m.val - 1 : Nat) : Int), 0, (osF m).eraseIdx g ++ [(1, 0)], zsG m g) := by decide +kernel
theorem fill_last (m g : Nat) (hm : 1 ≤ m) : (zsG m g).getD (m - 1) 0 = 0 := by
  rw [List.getD_eq_getElem?_getD, List.getElem?_eq_getElem (by simp [zsG]; omega)]
  simp [zsG]
  omega
theorem fill_lo (m g i : Nat) (hi : i + 1 < m) (h : ¬ g ≤ i) : (zsG m g).getD i 0 = 1 + (i : Int) := by
  rw [List.getD_eq_getElem?_getD, List.getElem?_eq_getElem (by simp [zsG]; omega)]
  simp [zsG, hi, h]
theorem fill_hi (m g i : Nat) (hi : i + 1 < m) (h : g ≤ i) : (zsG m g).getD i 0 = 1 + (i : Int) + 1 := by
  rw [List.getD_eq_getElem?_getD, List.getElem?_eq_getElem (by simp [zsG]; omega)]
  simp [zsG, hi, h]
end Go.Proofs.Ytijhoiheieighaa
