/-
  Proved here: what the loops over the choices of one bit keep of the memory: what has been found is what the choices so far tell. Conditions: as each lemma says.
-/
import Derived.Test.YtogadmlnmcojpaaRefMeet
namespace Go.Proofs.Ytogadmlnmcojpaa
open Go.RowKit

/-- A pair of bools in a block. -/
def Duo (W : World) (B : Nat) (c : Bool × Bool) : Prop := W.heap[B]? = some (.cells #[.bool c.1, .bool c.2] 84)
theorem duo_facts {W : World} {B : Nat} {c : Bool × Bool} (h : Duo W B c) :
    W.cell? ⟨B, 0, none⟩ = some (.bool c.1) ∧ W.cell? ⟨B, 1, none⟩ = some (.bool c.2) ∧ W.frozen? ⟨B, 0, none⟩ = false ∧ W.frozen? ⟨B, 1, none⟩ = false ∧ B < W.heap.size := by
  unfold Duo at h
  exact ⟨by simp [World.cell?, h], by simp [World.cell?, h], by simp [World.frozen?, h], by simp [World.frozen?, h], (Array.getElem?_eq_some_iff.1 h).1⟩
theorem duo_keep {W W' : World} {B : Nat} {c : Bool × Bool} (h : Duo W B c) (hb : Below W.heap.size W W') : Duo W' B c := (hb.block _ (duo_facts h).2.2.2.2).trans h
theorem duo_far {W : World} {B : Nat} {c : Bool × Bool} (h : Duo W B c) {p : Addr} (hp : p.block ≠ B) (v : Value) : Duo (W.setCell p v) B c := by
  unfold Duo at *
  simp [World.setCell, Array.getElem?_modify, h, hp]
theorem duo_put {W : World} {B : Nat} {c : Bool × Bool} (h : Duo W B c) (b : Bool) (v : Bool) : Duo (W.setCell ⟨B, cond b 1 0, none⟩ (.bool v)) B (if b = true then (c.1, v) else (v, c.2)) := by
  unfold Duo at *
  cases b <;> simp [World.setCell, Array.getElem?_modify, h]
theorem duo_new (W : World) (a b : Bool) : Duo (W.alloc (.cells #[.bool a, .bool b] 84)) W.heap.size (a, b) := (MapKept.heap_alloc W _).1

/-- Behind j choices of bit number k: the rows' bit k, the carries that may come; the numbers of the blocks are apart. -/
def InnerAt (w0 : World) (kind : Nat) (va ma vb mb : B64) (g q X Y C N k : Nat) (Z O : Nat → Bool) (x y c : Bool × Bool) (j : Nat) (W : World) : Prop :=
  Rows3 w0 va ma vb mb g q (fun i => if i = k then (tot kind x y c j).z else rowF Z k i) (fun i => if i = k then (tot kind x y c j).o else rowF O k i) W ∧
  Duo W X x ∧ Duo W Y y ∧ Duo W C c ∧ Duo W N ((tot kind x y c j).n0, (tot kind x y c j).n1) ∧
  (N ≠ X ∧ N ≠ Y ∧ N ≠ C ∧ N ≠ g ∧ N ≠ q ∧ X ≠ g ∧ X ≠ q ∧ Y ≠ g ∧ Y ≠ q ∧ C ≠ g ∧ C ≠ q) ∧ w0.heap.size + 2 < N
variable {w0 W W' : World} {kind : Nat} {va ma vb mb : B64} {g q X Y C N k : Nat} {Z O : Nat → Bool} {x y c : Bool × Bool} {j : Nat}
theorem rows3_far {f h : Nat → Bool} (hr : Rows3 w0 va ma vb mb g q f h W) {p : Addr} (h1 : p.block ≠ g) (h2 : p.block ≠ q) (h3 : w0.heap.size + 2 < p.block) (v : Value) : Rows3 w0 va ma vb mb g q f h (W.setCell p v) := by
  obtain ⟨a1, a2, a3, hT, hf, hh⟩ := hr
  exact ⟨a1, a2, a3, three_far hT h3 _, row_other hf h1 _, row_other hh h2 _⟩
def cP (j : Nat) : Bool := decide (4 ≤ j)
def cQ (j : Nat) : Bool := decide (2 ≤ j % 4)
def cR (j : Nat) : Bool := decide (j % 2 = 1)
theorem tot_succ (kind : Nat) (x y c : Bool × Bool) (j : Nat) : tot kind x y c (j + 1) = (tot kind x y c j).step kind (cP j) (cQ j) (cR j) (act x y c (cP j) (cQ j) (cR j)) := rfl
theorem inner_no (h : InnerAt w0 kind va ma vb mb g q X Y C N k Z O x y c j W) (ha : act x y c (cP j) (cQ j) (cR j) = false) : InnerAt w0 kind va ma vb mb g q X Y C N k Z O x y c (j + 1) W := by
  unfold InnerAt at *
  rw [tot_succ, ha]
  exact h
theorem inner_yes (hk : k < 64) (nb ob : Bool) (h : InnerAt w0 kind va ma vb mb g q X Y C N k Z O x y c j W) (ha : act x y c (cP j) (cQ j) (cR j) = true) (hb : bitOf kind (cP j) (cQ j) (cR j) = (ob, nb)) :
    InnerAt w0 kind va ma vb mb g q X Y C N k Z O x y c (j + 1) ((W.setCell ⟨N, cond nb 1 0, none⟩ (.bool true)).setCell ⟨cond ob q g, k, none⟩ (.bool true)) := by
  obtain ⟨hR, hX, hY, hC, hN, ⟨n1, n2, n3, n4, n5, n6, n7, n8, n9, n10, n11⟩, hlt⟩ := h
  have hR1 := rows3_far hR (p := ⟨N, cond nb 1 0, none⟩) n4 n5 hlt (.bool true)
  have hN1 := duo_put hN nb true
  unfold InnerAt
  rw [tot_succ, ha]
  unfold Acc.step
  rw [hb, if_pos rfl]
  cases ob
  · refine ⟨rows3_congr (rows3_z hR1 hk true) (fun i hi => ?_) (fun i hi => ?_), duo_far (duo_far hX n1 _) (Ne.symm n6) _, duo_far (duo_far hY n2 _) (Ne.symm n8) _, duo_far (duo_far hC n3 _) (Ne.symm n10) _, ?_, ⟨n1, n2, n3, n4, n5, n6, n7, n8, n9, n10, n11⟩, hlt⟩
    · by_cases e : i = k <;> simp [e]
    · by_cases e : i = k <;> simp [e]
    · have := duo_far hN1 (p := ⟨g, k, none⟩) (Ne.symm n4) (.bool true)
      cases nb <;> simpa using this
  · refine ⟨rows3_congr (rows3_o hR1 hk true) (fun i hi => ?_) (fun i hi => ?_), duo_far (duo_far hX n1 _) (Ne.symm n7) _, duo_far (duo_far hY n2 _) (Ne.symm n9) _, duo_far (duo_far hC n3 _) (Ne.symm n11) _, ?_, ⟨n1, n2, n3, n4, n5, n6, n7, n8, n9, n10, n11⟩, hlt⟩
    · by_cases e : i = k <;> simp [e]
    · by_cases e : i = k <;> simp [e]
    · have := duo_far hN1 (p := ⟨q, k, none⟩) (Ne.symm n5) (.bool true)
      cases nb <;> simpa using this
/-- What a round of the innermost loop asks of the memory. -/
theorem inner_facts (hk : k < 64) (h : InnerAt w0 kind va ma vb mb g q X Y C N k Z O x y c j W) :
    (W.cell? ⟨X, 0, none⟩ = some (.bool x.1) ∧ W.cell? ⟨X, 1, none⟩ = some (.bool x.2) ∧ W.cell? ⟨Y, 0, none⟩ = some (.bool y.1) ∧ W.cell? ⟨Y, 1, none⟩ = some (.bool y.2) ∧ W.cell? ⟨C, 0, none⟩ = some (.bool c.1) ∧ W.cell? ⟨C, 1, none⟩ = some (.bool c.2)) ∧
    (W.cell? ⟨N, 0, none⟩ = some (.bool (tot kind x y c j).n0) ∧ W.cell? ⟨N, 1, none⟩ = some (.bool (tot kind x y c j).n1) ∧ W.frozen? ⟨N, 0, none⟩ = false ∧ W.frozen? ⟨N, 1, none⟩ = false) ∧
    (W.cell? ⟨g, k, none⟩ = some (.bool (tot kind x y c j).z) ∧ W.frozen? ⟨g, k, none⟩ = false ∧ W.cell? ⟨q, k, none⟩ = some (.bool (tot kind x y c j).o) ∧ W.frozen? ⟨q, k, none⟩ = false) ∧
    ¬ N = g ∧ ¬ g = N ∧ ¬ N = q ∧ ¬ q = N := by
  obtain ⟨hR, hX, hY, hC, hN, ⟨n1, n2, n3, n4, n5, n6, n7, n8, n9, n10, n11⟩, hlt⟩ := h
  obtain ⟨x0, x1, -⟩ := duo_facts hX
  obtain ⟨y0, y1, -⟩ := duo_facts hY
  obtain ⟨c0, c1, -⟩ := duo_facts hC
  obtain ⟨m0, m1, f0, f1, -⟩ := duo_facts hN
  obtain ⟨z0, z1⟩ := row_at hR.2.2.2.2.1 hk
  obtain ⟨o0, o1⟩ := row_at hR.2.2.2.2.2 hk
  simp only [if_true] at z0 o0
  exact ⟨⟨x0, x1, y0, y1, c0, c1⟩, ⟨m0, m1, f0, f1⟩, ⟨z0, z1, o0, o1⟩, n4, Ne.symm n4, n5, Ne.symm n5⟩
/-- Before the first choice. -/
theorem inner_start (hR : Rows3 w0 va ma vb mb g q (rowF Z k) (rowF O k) W) (hX : Duo W X x) (hY : Duo W Y y) (hC : Duo W C c) (hN : Duo W N (false, false))
    (hn : N ≠ X ∧ N ≠ Y ∧ N ≠ C ∧ N ≠ g ∧ N ≠ q ∧ X ≠ g ∧ X ≠ q ∧ Y ≠ g ∧ Y ≠ q ∧ C ≠ g ∧ C ≠ q) (hlt : w0.heap.size + 2 < N) : InnerAt w0 kind va ma vb mb g q X Y C N k Z O x y c 0 W := by
  refine ⟨rows3_congr hR (fun i hi => ?_) (fun i hi => ?_), hX, hY, hC, hN, hn, hlt⟩
  · by_cases e : i = k
    · subst e; simp [rowF, tot]
    · rw [if_neg e]
  · by_cases e : i = k
    · subst e; simp [rowF, tot]
    · rw [if_neg e]
/-- What the outermost loop keeps. -/
def TwoRel (w0 : World) (kind : Nat) (va ma vb mb : B64) (g q C : Nat) (a : Value) (W : World) : Prop := ∃ k : Nat, k ≤ 64 ∧ a = .int .i64 k ∧ w0.heap.size + 2 < C ∧ C ≠ g ∧ C ≠ q ∧
  Rows3 w0 va ma vb mb g q (rowF (fun i => (totAt kind va ma vb mb i).z) k) (rowF (fun i => (totAt kind va ma vb mb i).o) k) W ∧ Duo W C (crs kind va ma vb mb k)
/-- A round's memory ahead of the choices. -/
def St (w0 : World) (va ma vb mb : B64) (g q X Y C : Nat) (f h : Nat → Bool) (a b c : Bool × Bool) (W : World) : Prop :=
  Rows3 w0 va ma vb mb g q f h W ∧ Duo W C c ∧ Duo W X a ∧ Duo W Y b ∧ (X ≠ Y ∧ X ≠ C ∧ Y ≠ C ∧ X ≠ g ∧ X ≠ q ∧ Y ≠ g ∧ Y ≠ q ∧ C ≠ g ∧ C ≠ q) ∧ w0.heap.size + 2 < X ∧ w0.heap.size + 2 < Y
variable {f h : Nat → Bool} {a b : Bool × Bool}
theorem st_new (hR : Rows3 w0 va ma vb mb g q f h W) (hD : Duo W C c) (nCg : C ≠ g) (nCq : C ≠ q) :
    St w0 va ma vb mb g q W.heap.size (W.heap.size + 1) C f h (false, false) (false, false) c ((W.alloc (.cells #[.bool false, .bool false] 84)).alloc (.cells #[.bool false, .bool false] 84)) := by
  have e : (W.alloc (.cells #[.bool false, .bool false] 84)).heap.size = W.heap.size + 1 := by simp
  have hY := duo_new (W.alloc (.cells #[.bool false, .bool false] 84)) false false
  rw [e] at hY
  have b1 := below_box W (.cells #[.bool false, .bool false] 84)
  have b2 := below_box (W.alloc (.cells #[.bool false, .bool false] 84)) (.cells #[.bool false, .bool false] 84)
  have lg := row_lt hR.2.2.2.2.1
  have lq := row_lt hR.2.2.2.2.2
  have lC := (duo_facts hD).2.2.2.2
  have lH := (blk_facts hR.2.2.2.1.2.2.1).2.2.2.2
  exact ⟨rows3_keep (rows3_keep hR b1) b2, duo_keep (duo_keep hD b1) b2, duo_keep (duo_new W false false) b2, hY, ⟨by omega, by omega, by omega, by omega, by omega, by omega, by omega, nCg, nCq⟩, lH, by omega⟩
theorem st_keep (hs : St w0 va ma vb mb g q X Y C f h a b c W) (hb : Below W.heap.size W W') : St w0 va ma vb mb g q X Y C f h a b c W' :=
  ⟨rows3_keep hs.1 hb, duo_keep hs.2.1 hb, duo_keep hs.2.2.1 hb, duo_keep hs.2.2.2.1 hb, hs.2.2.2.2⟩
theorem duo_set {B : Nat} {c : Bool × Bool} (h : Duo W B c) (a b : Bool) : Duo ((W.setCell ⟨B, 0, none⟩ (.bool a)).setCell ⟨B, 1, none⟩ (.bool b)) B (a, b) := by
  unfold Duo at *
  simp [World.setCell, Array.getElem?_modify, h]
theorem st_x (hs : St w0 va ma vb mb g q X Y C f h a b c W) (a0 a1 : Bool) : St w0 va ma vb mb g q X Y C f h (a0, a1) b c ((W.setCell ⟨X, 0, none⟩ (.bool a0)).setCell ⟨X, 1, none⟩ (.bool a1)) := by
  obtain ⟨hR, hC, hX, hY, ⟨n1, n2, n3, n4, n5, n6, n7, n8, n9⟩, l1, l2⟩ := hs
  exact ⟨rows3_far (rows3_far hR n4 n5 l1 _) n4 n5 l1 _, duo_far (duo_far hC n2 _) n2 _, duo_set hX a0 a1, duo_far (duo_far hY n1 _) n1 _, ⟨n1, n2, n3, n4, n5, n6, n7, n8, n9⟩, l1, l2⟩
theorem st_y (hs : St w0 va ma vb mb g q X Y C f h a b c W) (a0 a1 : Bool) : St w0 va ma vb mb g q X Y C f h a (a0, a1) c ((W.setCell ⟨Y, 0, none⟩ (.bool a0)).setCell ⟨Y, 1, none⟩ (.bool a1)) := by
  obtain ⟨hR, hC, hX, hY, ⟨n1, n2, n3, n4, n5, n6, n7, n8, n9⟩, l1, l2⟩ := hs
  exact ⟨rows3_far (rows3_far hR n6 n7 l2 _) n6 n7 l2 _, duo_far (duo_far hC n3 _) n3 _, duo_far (duo_far hX (Ne.symm n1) _) (Ne.symm n1) _, duo_set hY a0 a1, ⟨n1, n2, n3, n4, n5, n6, n7, n8, n9⟩, l1, l2⟩
theorem st_inner (hs : St w0 va ma vb mb g q X Y C (rowF Z k) (rowF O k) a b c W) : InnerAt w0 kind va ma vb mb g q X Y C W.heap.size k Z O a b c 0 (W.alloc (.cells #[.bool false, .bool false] 84)) := by
  obtain ⟨hR, hC, hX, hY, ⟨n1, n2, n3, n4, n5, n6, n7, n8, n9⟩, l1, l2⟩ := hs
  have b1 := below_box W (.cells #[.bool false, .bool false] 84)
  have lg := row_lt hR.2.2.2.2.1
  have lq := row_lt hR.2.2.2.2.2
  have lC := (duo_facts hC).2.2.2.2
  have lX := (duo_facts hX).2.2.2.2
  have lY := (duo_facts hY).2.2.2.2
  have lH := (blk_facts hR.2.2.2.1.2.2.1).2.2.2.2
  exact inner_start (rows3_keep hR b1) (duo_keep hX b1) (duo_keep hY b1) (duo_keep hC b1) (duo_new W false false) ⟨by omega, by omega, by omega, by omega, by omega, n4, n5, n6, n7, n8, n9⟩ lH
/-- What the walk asks between the two calls of Bit. -/
theorem st_facts (hs : St w0 va ma vb mb g q X Y C f h a b c W) :
    (W.cell? ⟨w0.heap.size, 0, none⟩ = some (.int .u64 (u va)) ∧ W.cell? ⟨w0.heap.size, 1, none⟩ = some (.int .u64 (u ma)) ∧ W.cell? ⟨w0.heap.size + 1, 0, none⟩ = some (.int .u64 (u vb)) ∧ W.cell? ⟨w0.heap.size + 1, 1, none⟩ = some (.int .u64 (u mb))) ∧
    (W.cell? ⟨X, 0, none⟩ = some (.bool a.1) ∧ W.cell? ⟨X, 1, none⟩ = some (.bool a.2) ∧ W.frozen? ⟨X, 0, none⟩ = false ∧ W.frozen? ⟨X, 1, none⟩ = false) ∧
    (W.cell? ⟨Y, 0, none⟩ = some (.bool b.1) ∧ W.cell? ⟨Y, 1, none⟩ = some (.bool b.2) ∧ W.frozen? ⟨Y, 0, none⟩ = false ∧ W.frozen? ⟨Y, 1, none⟩ = false) ∧
    (¬ X = w0.heap.size ∧ ¬ w0.heap.size = X ∧ ¬ X = w0.heap.size + 1 ∧ ¬ w0.heap.size + 1 = X) := by
  obtain ⟨hR, hC, hX, hY, -, l1, l2⟩ := hs
  have t := three_cells hR.2.2.2.1
  obtain ⟨x0, x1, x2, x3, -⟩ := duo_facts hX
  obtain ⟨y0, y1, y2, y3, -⟩ := duo_facts hY
  exact ⟨⟨t.1, t.2.1, t.2.2.1, t.2.2.2.1⟩, ⟨x0, x1, x2, x3⟩, ⟨y0, y1, y2, y3⟩, by omega, by omega, by omega, by omega⟩
/-- A counter from 0 to 2, and what has been gone through. -/
def L3 (P : Nat → World → Prop) (j d : Nat) (a : Value) (W : World) : Prop := (a = .int .i64 0 ∧ P j W) ∨ (a = .int .i64 1 ∧ P (j + d) W) ∨ (a = .int .i64 2 ∧ P (j + 2 * d) W)
/-- What the choices' loops need, with letters for all that stays. -/
structure Choices (kind g q X Y C N k : Nat) (a0 a1 b0 b1 e0 e1 : Bool) (P : Nat → World → Prop) : Prop where
  no : ∀ j W, act (a0, a1) (b0, b1) (e0, e1) (cP j) (cQ j) (cR j) = false → P j W → P (j + 1) W
  yes : ∀ j W nb ob, act (a0, a1) (b0, b1) (e0, e1) (cP j) (cQ j) (cR j) = true → bitOf kind (cP j) (cQ j) (cR j) = (ob, nb) → P j W → P (j + 1) ((W.setCell ⟨N, cond nb 1 0, none⟩ (.bool true)).setCell ⟨cond ob q g, k, none⟩ (.bool true))
  facts : ∀ j W, P j W → (W.cell? ⟨X, 0, none⟩ = some (.bool a0) ∧ W.cell? ⟨X, 1, none⟩ = some (.bool a1) ∧ W.cell? ⟨Y, 0, none⟩ = some (.bool b0) ∧ W.cell? ⟨Y, 1, none⟩ = some (.bool b1) ∧ W.cell? ⟨C, 0, none⟩ = some (.bool e0) ∧ W.cell? ⟨C, 1, none⟩ = some (.bool e1)) ∧
    (∃ n0 n1 z o : Bool, W.cell? ⟨N, 0, none⟩ = some (.bool n0) ∧ W.cell? ⟨N, 1, none⟩ = some (.bool n1) ∧ W.frozen? ⟨N, 0, none⟩ = false ∧ W.frozen? ⟨N, 1, none⟩ = false ∧
    W.cell? ⟨g, k, none⟩ = some (.bool z) ∧ W.frozen? ⟨g, k, none⟩ = false ∧ W.cell? ⟨q, k, none⟩ = some (.bool o) ∧ W.frozen? ⟨q, k, none⟩ = false) ∧
    ¬ N = g ∧ ¬ g = N ∧ ¬ N = q ∧ ¬ q = N
theorem choices (hk : k < 64) : Choices kind g q X Y C N k x.1 x.2 y.1 y.2 c.1 c.2 (InnerAt w0 kind va ma vb mb g q X Y C N k Z O x y c) where
  no := fun _ _ ha h => inner_no h ha
  yes := fun _ _ nb ob ha hb h => inner_yes hk nb ob h ha hb
  facts := fun _ _ h => by
    obtain ⟨h1, ⟨h2, h3, h4, h5⟩, ⟨h6, h7, h8, h9⟩, h10⟩ := inner_facts hk h
    exact ⟨h1, ⟨_, _, _, _, h2, h3, h4, h5, h6, h7, h8, h9⟩, h10⟩
theorem act_1 {a0 a1 b0 b1 e0 e1 P Q R : Bool} (h : (if P = true then a1 else a0) = false) : act (a0, a1) (b0, b1) (e0, e1) P Q R = false := by unfold act; rw [h]; rfl
theorem act_2 {a0 a1 b0 b1 e0 e1 P Q R : Bool} (h : (if Q = true then b1 else b0) = false) : act (a0, a1) (b0, b1) (e0, e1) P Q R = false := by unfold act; rw [h]; simp
theorem act_3 {a0 a1 b0 b1 e0 e1 P Q R : Bool} (h : (if R = true then e1 else e0) = false) : act (a0, a1) (b0, b1) (e0, e1) P Q R = false := by unfold act; rw [h]; simp
theorem act_4 {a0 a1 b0 b1 e0 e1 P Q R : Bool} (h1 : (if P = true then a1 else a0) = true) (h2 : (if Q = true then b1 else b0) = true) (h3 : (if R = true then e1 else e0) = true) : act (a0, a1) (b0, b1) (e0, e1) P Q R = true := by unfold act; rw [h1, h2, h3]; rfl
/-- Behind the choices: the round is done. -/
theorem inner_end (hk : k < 64) (hI : InnerAt w0 kind va ma vb mb g q X Y C N k (fun i => (totAt kind va ma vb mb i).z) (fun i => (totAt kind va ma vb mb i).o) (bz va ma k, bo va ma k) (bz vb mb k, bo vb mb k) (crs kind va ma vb mb k) 8 W) (hC : w0.heap.size + 2 < C) :
    TwoRel w0 kind va ma vb mb g q C (.int .i64 ((k : Int) + 1)) ((W.setCell ⟨C, 0, none⟩ (.bool (totAt kind va ma vb mb k).n0)).setCell ⟨C, 1, none⟩ (.bool (totAt kind va ma vb mb k).n1)) := by
  obtain ⟨hR, hX, hY, hD, hN, ⟨n1, n2, n3, n4, n5, n6, n7, n8, n9, n10, n11⟩, hlt⟩ := hI
  refine ⟨k + 1, by omega, rfl, hC, n10, n11, rows3_congr (rows3_far (rows3_far hR n10 n11 hC _) n10 n11 hC _) (fun i hi => ?_) (fun i hi => ?_), ?_⟩
  · exact rowF_put (fun i => (totAt kind va ma vb mb i).z) k _ rfl i
  · exact rowF_put (fun i => (totAt kind va ma vb mb i).o) k _ rfl i
  · exact duo_set hD _ _
end Go.Proofs.Ytogadmlnmcojpaa
