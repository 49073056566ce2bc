/-
  Proved here: what a condition's way says of what is known of both numbers; that a number taken away at both ends leaves nothing. No Go text is spoken of. Conditions: none.
-/
import Derived.Test.YtbljijbmjccalaaHSoundNum
import Derived.Test.YtbljijbmjccalaaRefH
import Derived.Test.YtbljijbmjccalaaPopBv
namespace Go.Proofs.Ytbljijbmjccalaa
open Go.RowKit

/-- What a way says of both, not refined yet; can it be gone? -/
structure Tw where
  ok : Bool
  x : K
  y : K
def swapT (t : Tw) : Tw := ⟨t.ok, t.y, t.x⟩
def K.upA (k : K) (z : B64) : K := ⟨k.v, k.m, maxU k.a z, k.b, k.c, k.d⟩
def K.dnB (k : K) (z : B64) : K := ⟨k.v, k.m, k.a, minU k.b z, k.c, k.d⟩
def K.upC (k : K) (z : B64) : K := ⟨k.v, k.m, k.a, k.b, maxS k.c z, k.d⟩
def K.dnD (k : K) (z : B64) : K := ⟨k.v, k.m, k.a, k.b, k.c, minS k.d z⟩
def sameT (x y : K) : Tw := ⟨x.okM y, x.both y, x.both y⟩
/-- One end without a number. -/
def K.woA (k : K) (z : B64) : K := ⟨k.v, k.m, if u k.a = u z ∧ u z < 18446744073709551615 then k.a + 1#64 else k.a, k.b, k.c, k.d⟩
def K.woB (k : K) (z : B64) : K := ⟨k.v, k.m, k.a, if u k.b = u z ∧ 0 < u z then k.b - 1#64 else k.b, k.c, k.d⟩
def K.woC (k : K) (z : B64) : K := ⟨k.v, k.m, k.a, k.b, if s k.c = s z ∧ s z < 9223372036854775807 then k.c + 1#64 else k.c, k.d⟩
def K.woD (k : K) (z : B64) : K := ⟨k.v, k.m, k.a, k.b, k.c, if s k.d = s z ∧ -9223372036854775808 < s z then k.d - 1#64 else k.d⟩
def K.wo (k : K) (z : B64) : K := (((k.woA z).woB z).woC z).woD z
def diffT (x y : K) : Tw := ⟨true, if u y.m = 0 then x.wo y.v else x, if u x.m = 0 then y.wo x.v else y⟩
def aboveT (x y : K) : Tw := if u y.a = 18446744073709551615 ∨ u x.b = 0 then ⟨false, x, y⟩ else ⟨true, x.upA (y.a + 1#64), y.dnB (x.b - 1#64)⟩
def levelT (x y : K) : Tw := ⟨true, x.upA y.a, y.dnB x.b⟩
def aboveST (x y : K) : Tw := if s y.c = 9223372036854775807 ∨ s x.d = -9223372036854775808 then ⟨false, x, y⟩ else ⟨true, x.upC (y.c + 1#64), y.dnD (x.d - 1#64)⟩
def levelST (x y : K) : Tw := ⟨true, x.upC y.c, y.dnD x.d⟩
def metT (x y : K) (v m : B64) : Tw := ⟨mtOk x.v x.m v m, x.put (mV x.v x.m v m) (mM x.v x.m v m), y⟩
def commonT (x y : K) : Tw := if u y.m = 0 ∧ ones y.v.toNat = 1 then metT x y y.v (~~~y.v) else ⟨true, x, y⟩
def apartT (x y : K) : Tw := if u y.m = 0 then metT x y 0#64 (~~~y.v) else ⟨true, x, y⟩
/-- What a condition's way says. -/
def ruleT (op : Int) (hs : Bool) (x y : K) : Tw :=
  if op = 16 then (if hs = true then sameT x y else diffT x y)
  else if op = 80 then (if hs = true then diffT x y else sameT x y)
  else if op = 32 then (if hs = true then aboveT x y else swapT (levelT y x))
  else if op = 48 then (if hs = true then levelT x y else swapT (aboveT y x))
  else if op = 160 then (if hs = true then swapT (aboveT y x) else levelT x y)
  else if op = 176 then (if hs = true then swapT (levelT y x) else aboveT x y)
  else if op = 96 then (if hs = true then aboveST x y else swapT (levelST y x))
  else if op = 112 then (if hs = true then levelST x y else swapT (aboveST y x))
  else if op = 192 then (if hs = true then swapT (aboveST y x) else levelST x y)
  else if op = 208 then (if hs = true then swapT (levelST y x) else aboveST x y)
  else (if hs = true then commonT x y else apartT x y)
def Tw.good (t : Tw) : Bool := t.ok && (t.x.okF && t.y.okF)
/-- What is told. -/
def backV (x y : K) (t : Tw) : Value := if t.good = true then .tuple #[numV t.x.fine, numV t.y.fine, .bool true] else .tuple #[numV x, numV y, .bool false]
def lowK (k : K) : Bool := decide (u k.b ≤ 4294967295)
def isSig (op : Int) : Bool := op == 96 || op == 112 || op == 192 || op == 208
/-- Is anything told of it? -/
def tells (op : Int) (wide : Bool) (x y : K) : Bool := isCond op && (wide || (!isSig op && (lowK x && lowK y)))
def wayV (op : Int) (wide : Bool) (x y : K) (hs : Bool) : Value := if tells op wide x y = true then backV x y (ruleT op hs x y) else .tuple #[numV x, numV y, .bool true]

/-! ### Nothing is left -/
theorem maxU_ge (x y : B64) : u x ≤ u (maxU x y) := by rw [← max_u]; omega
theorem minU_le (x y : B64) : u (minU x y) ≤ u x := by rw [← min_u]; omega
theorem bound_a (k : K) : u k.a ≤ u k.bound.a := by
  have h1 : u k.a ≤ u k.byBits.a := by
    unfold K.byBits
    rw [inS_a, inU_a]
    exact maxU_ge _ _
  have h2 : u k.byBits.each1.a = u k.byBits.a := by
    unfold K.each1; split
    · rw [inS_a]
    · rfl
  have h3 : u k.byBits.each1.a ≤ u k.byBits.each1.each2.a := by
    unfold K.each2; split
    · rw [inU_a]; exact maxU_ge _ _
    · exact Int.le_refl _
  unfold K.bound
  omega
theorem bound_b (k : K) : u k.bound.b ≤ u k.b := by
  have h1 : u k.byBits.b ≤ u k.b := by
    unfold K.byBits
    rw [inS_b, inU_b]
    exact minU_le _ _
  have h2 : u k.byBits.each1.b = u k.byBits.b := by
    unfold K.each1; split
    · rw [inS_b]
    · rfl
  have h3 : u k.byBits.each1.each2.b ≤ u k.byBits.each1.b := by
    unfold K.each2; split
    · rw [inU_b]; exact minU_le _ _
    · exact Int.le_refl _
  unfold K.bound
  omega
theorem crossed_okF {k : K} (h : u k.b < u k.a) : k.okF = false := by
  have h1 := bound_a k
  have h2 := bound_b k
  have : k.bound.crossed = true := by
    unfold K.crossed
    rw [decide_eq_true (show u k.bound.b < u k.bound.a by omega)]
    rfl
  unfold K.okF K.okR
  rw [this]
  rfl
theorem u_one : u 1#64 = 1 := by decide
theorem u_add1 {x : B64} (h : u x < 18446744073709551615) : u (x + 1#64) = u x + 1 := by
  have := u_bd x
  rw [← u_add, u_one, wrap_u]
  omega
theorem u_sub1 {x : B64} (h : 0 < u x) : u (x - 1#64) = u x - 1 := by
  have := u_bd x
  rw [← u_sub, u_one, wrap_u]
  omega
theorem u_inc (x : B64) : IntKind.u64.wrap (u x + 1) = u (x + 1#64) := by
  rw [← u_add, u_one]
theorem u_less (x : B64) : IntKind.u64.wrap (u x - 1) = u (x - 1#64) := by
  rw [← u_sub, u_one]
theorem s_inc (x : B64) : IntKind.i64.wrap (s x + 1) = s (x + 1#64) := by
  have h := u_inc x
  rw [wrap_u] at h
  rw [wrap_s]
  have h1 := s_eq x
  have h2 := s_eq (x + 1#64)
  have b1 := u_bd x
  have b2 := u_bd (x + 1#64)
  split at h1 <;> split at h2 <;> omega
theorem s_less (x : B64) : IntKind.i64.wrap (s x - 1) = s (x - 1#64) := by
  have h := u_less x
  rw [wrap_u] at h
  rw [wrap_s]
  have h1 := s_eq x
  have h2 := s_eq (x - 1#64)
  have b1 := u_bd x
  have b2 := u_bd (x - 1#64)
  split at h1 <;> split at h2 <;> omega
theorem s_inc64 (x : B64) : wrap64 (s x + 1) = s (x + 1#64) := by rw [← IntWalk.i64_left, s_inc]
theorem s_less64 (x : B64) : wrap64 (s x - 1) = s (x - 1#64) := by rw [← IntWalk.i64_left, s_less]
theorem wo_a (k : K) (z : B64) : (k.wo z).a = (k.woA z).a := rfl
theorem wo_b (k : K) (z : B64) : (k.wo z).b = (k.woB z).b := rfl
theorem wo_none {k : K} {z : B64} (ha : u k.a = u z) (hb : u k.b = u z) : (k.wo z).okF = false := by
  apply crossed_okF
  rw [wo_a, wo_b]
  unfold K.woA K.woB
  show u (if u k.b = u z ∧ 0 < u z then k.b - 1#64 else k.b) < u (if u k.a = u z ∧ u z < 18446744073709551615 then k.a + 1#64 else k.a)
  have := u_bd z
  by_cases h0 : 0 < u z
  · rw [if_pos ⟨hb, h0⟩, u_sub1 (by omega)]
    split
    · rw [u_add1 (by omega)]; omega
    · omega
  · rw [if_neg (by omega), if_pos ⟨ha, by omega⟩, u_add1 (by omega)]
    omega
theorem swap_good (t : Tw) : (swapT t).good = t.good := by
  unfold swapT Tw.good
  cases t.ok <;> cases t.x.okF <;> cases t.y.okF <;> rfl
end Go.Proofs.Ytbljijbmjccalaa
