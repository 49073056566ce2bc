/-
  Proved here: a region that draws its order is run in whatever order, if something that holds at its beginning is kept by each operation that may come up. Conditions: none.
-/
import Derived.RegionTactic
import Derived.Below
import Derived.Test.YtbljijbmjccalaaHWayAll
import Derived.Test.YtbljijbmjccalaaHRefNum
namespace Go.Proofs.Ytbljijbmjccalaa
open Go.RowKit

/-- How many of the first k numbers are so. -/
def cnt (p : Nat → Bool) : Nat → Nat
  | 0 => 0
  | k + 1 => cnt p k + if p k then 1 else 0
theorem cnt_congr {p q : Nat → Bool} : ∀ k, (∀ j, j < k → p j = q j) → cnt p k = cnt q k
  | 0, _ => rfl
  | k + 1, h => by
    unfold cnt
    rw [cnt_congr k (fun j hj => h j (by omega)), h k (by omega)]
theorem cnt_less {p q : Nat → Bool} {i : Nat} (hp : p i = true) (hq : q i = false) (h : ∀ j, j ≠ i → q j = p j) : ∀ k, i < k → cnt q k + 1 = cnt p k
  | 0, hi => by omega
  | k + 1, hi => by
    unfold cnt
    by_cases e : i = k
    · subst e
      rw [hp, hq, cnt_congr i (fun j hj => h j (by omega))]
      simp
    · have := cnt_less hp hq h k (by omega)
      rw [h k (fun e' => e e'.symm)]
      omega
theorem cnt_zero {p : Nat → Bool} : ∀ k, cnt p k = 0 → ∀ i, i < k → p i = false
  | 0, _, i, hi => by omega
  | k + 1, h, i, hi => by
    unfold cnt at h
    by_cases e : i = k
    · subst e
      cases hp : p i
      · rfl
      · rw [hp] at h; simp at h
    · exact cnt_zero k (by omega) i (by omega)
section
variable {P : Program} {ops : Array Oper} {Q : Exit → Act → World → Prop} {md : Region.Mode}
theorem ready_lt {listed : Array Bool} {i : Nat} (h : i ∈ Region.ready md ops listed) : i < ops.size ∧ listed.getD i true = false := by
  unfold Region.ready at h
  rw [List.mem_filter, List.mem_range, Bool.and_eq_true, Bool.not_eq_true'] at h
  exact ⟨h.1, h.2.1⟩
theorem wpAny_inv {I : Array Bool → Act → World → Prop}
    (hdone : ∀ listed a w, I listed a w → Region.ready md ops listed = [] → Q .normal a w)
    (hstep : ∀ listed a w i, I listed a w → i ∈ Region.ready md ops listed → wpOp P ops Q i (I (listed.setIfInBounds i true)) a w) :
    ∀ fuel listed a w, cnt (fun i => !listed.getD i true) ops.size ≤ fuel → I listed a w → wpAny P md ops Q fuel listed a w
  | 0, listed, a, w, hc, hI => by
    have hr : Region.ready md ops listed = [] := by
      cases e : Region.ready md ops listed with
      | nil => rfl
      | cons i l =>
        obtain ⟨h1, h2⟩ := ready_lt (md := md) (ops := ops) (listed := listed) (i := i) (by rw [e]; exact List.mem_cons_self)
        have h3 : (!listed.getD i true) = false := cnt_zero (p := fun i => !listed.getD i true) ops.size (by omega) i h1
        rw [h2] at h3
        cases h3
    exact ⟨hr, hdone listed a w hI hr⟩
  | fuel + 1, listed, a, w, hc, hI => by
    refine ⟨fun hr => hdone listed a w hI hr, fun i hi => ?_⟩
    obtain ⟨h1, h2⟩ := ready_lt hi
    refine wpOp_mono (fun a' w' hI' => wpAny_inv hdone hstep fuel _ a' w' ?_ hI') (hstep listed a w i hI hi)
    have hs : i < listed.size := by
      by_cases e : i < listed.size
      · exact e
      · rw [Array.getD_eq_getD_getElem?, Array.getElem?_eq_none (by omega)] at h2
        cases h2
    have := cnt_less (p := fun i => !listed.getD i true) (q := fun j => !(listed.setIfInBounds i true).getD j true) (i := i) (by show (!listed.getD i true) = true; rw [h2]; rfl)
      (by show (!(listed.setIfInBounds i true).getD i true) = false; rw [Array.getD_eq_getD_getElem?, Array.getElem?_setIfInBounds, if_pos rfl, if_pos hs]; rfl)
      (fun j hj => by show (!(listed.setIfInBounds i true).getD j true) = !listed.getD j true; rw [Array.getD_eq_getD_getElem?, Array.getD_eq_getD_getElem?, Array.getElem?_setIfInBounds, if_neg (fun e => hj e.symm)]) ops.size h1
    omega
/-- The region. -/
theorem wp_region_inv {id : Nat} {a : Act} {w : World} {I : Array Bool → Act → World → Prop} (hm : P.follows .mixedOrders = true)
    (hI : I (Array.replicate ops.size false) a w.drew)
    (hdone : ∀ listed a w, I listed a w → Region.ready .any ops listed = [] → Q .normal a w)
    (hstep : ∀ listed a w i, I listed a w → i ∈ Region.ready .any ops listed → wpOp P ops Q i (I (listed.setIfInBounds i true)) a w) :
    (Code.region id ops true).wp P Q a w := by
  refine wp_region_any hm (wpAny_inv hdone hstep ops.size _ a _ ?_ hI)
  have : ∀ k, cnt (fun i => !(Array.replicate ops.size false).getD i true) k ≤ k := by
    intro k
    induction k with
    | zero => exact Nat.le_refl _
    | succ k ih => unfold cnt; split <;> omega
  exact this _
end
end Go.Proofs.Ytbljijbmjccalaa

/-
  Proved here: a region of the law's examples, in whatever order it is run. Conditions: none.
-/
namespace Go.Proofs.Ytbljijbmjccalaa
open Go.RowKit
attribute [local go_sem] u_and u_or u_xor u_andNot u_add u_sub s_conv u_conv max_u min_u max_s min_s u_inc u_less s_inc s_less s_inc64 s_less64
set_option linter.unusedSimpArgs false


/-- A box of the walk's own. -/
def EB (w0 : World) (n : Nat) (k : K) (W : World) : Prop := NumAt n k W ∧ w0.heap.size ≤ n ∧ Below w0.heap.size w0 W
section
variable {w0 W W' : World} {n g : Nat} {k : K}
theorem eb_keep (h : EB w0 n k W) (hb : Below W.heap.size W W') : EB w0 n k W' := ⟨num_keep h.1 hb, h.2.1, h.2.2.trans (hb.mono h.2.2.size)⟩
theorem eb_new (hb : Below w0.heap.size w0 W) (k : K) : EB w0 W.heap.size k (W.alloc (.cells #[.int .u64 (u k.v), .int .u64 (u k.m), .int .u64 (u k.a), .int .u64 (u k.b), .int .i64 (s k.c), .int .i64 (s k.d)] 26)) := ⟨num_new k W, hb.size, hb.alloc hb.size _⟩
theorem eb_six (h : EB w0 n k W) (hg : n < g) (x0 x1 x2 x3 x4 x5 : Value) : EB w0 n k ((((((W.setCell ⟨g, 0, none⟩ x0).setCell ⟨g, 1, none⟩ x1).setCell ⟨g, 2, none⟩ x2).setCell ⟨g, 3, none⟩ x3).setCell ⟨g, 4, none⟩ x4).setCell ⟨g, 5, none⟩ x5) := by
  have hb := below_six (Below.refl g W) x0 x1 x2 x3 x4 x5
  have h2 := h.2.1
  exact ⟨(hb.block _ hg).trans h.1, h.2.1, h.2.2.trans (hb.mono (by omega))⟩
end
/-- Block g holds a struct. -/
def Six (g : Nat) (W : World) : Prop := ∃ k : K, NumAt g k W
theorem six_keep {g : Nat} {W W' : World} (h : Six g W) (hb : Below W.heap.size W W') : Six g W' := by
  obtain ⟨k, h⟩ := h
  exact ⟨k, num_keep h hb⟩
theorem num_away {g g' : Nat} {k : K} {W : World} (h : NumAt g k W) (hne : g ≠ g') (r : K) : NumAt g k ((((((W.setCell ⟨g', 0, none⟩ (.int .u64 (u r.v))).setCell ⟨g', 1, none⟩ (.int .u64 (u r.m))).setCell ⟨g', 2, none⟩ (.int .u64 (u r.a))).setCell ⟨g', 3, none⟩ (.int .u64 (u r.b))).setCell ⟨g', 4, none⟩ (.int .i64 (s r.c))).setCell ⟨g', 5, none⟩ (.int .i64 (s r.d))) := by
  have hn : ∀ (W : World) (o : Nat) (v : Value), (W.setCell ⟨g', o, none⟩ v).heap[g]? = W.heap[g]? := fun W o v => Below.heap_setCell W _ v g hne
  unfold NumAt at *
  simp only [hn]
  exact h
theorem six_store {g g' : Nat} {W : World} (h : Six g W) (r : K) : Six g ((((((W.setCell ⟨g', 0, none⟩ (.int .u64 (u r.v))).setCell ⟨g', 1, none⟩ (.int .u64 (u r.m))).setCell ⟨g', 2, none⟩ (.int .u64 (u r.a))).setCell ⟨g', 3, none⟩ (.int .u64 (u r.b))).setCell ⟨g', 4, none⟩ (.int .i64 (s r.c))).setCell ⟨g', 5, none⟩ (.int .i64 (s r.d))) := by
  obtain ⟨k, h⟩ := h
  by_cases e : g = g'
  · subst e
    exact ⟨r, num_six h r⟩
  · exact ⟨k, num_away h e r⟩
theorem set_getD {L : Array Bool} {i : Nat} (hs : L.size = 12) (hi : i < 12) (k : Nat) : (L.setIfInBounds i true).getD k false = (decide (i = k) || L.getD k false) := by
  rw [Array.getD_eq_getD_getElem?, Array.getD_eq_getD_getElem?, Array.getElem?_setIfInBounds]
  by_cases e : i = k
  · subst e
    rw [if_pos rfl, if_pos (by omega)]
    simp
  · rw [if_neg e, decide_eq_false e, Bool.false_or]
theorem ready_after {md : Region.Mode} {ops : Array Oper} {L : Array Bool} {i : Nat} {o : Oper} (h : i ∈ Region.ready md ops L) (ho : ops[i]? = some o) : ∀ e ∈ o.after, Region.binds md e = true → L.getD e.on false = true := by
  unfold Region.ready at h
  rw [List.mem_filter, Bool.and_eq_true, ho] at h
  have h2 := h.2.2
  simp only [Option.map_some, Option.getD_some, Array.all_eq_true'] at h2
  intro e he hb
  have := h2 e he
  rw [hb] at this
  simpa using this
/-- What is so on the way. -/
structure RI (w0 : World) (n1 n2 : Nat) (P1 P2 o6 : K) (L : Array Bool) (v7 v8 v9 v24 v25 v26 v27 v28 v29 v30 : Value) (w : World) : Prop where
  sz : L.size = 12
  b2 : EB w0 n2 P2 w
  b1 : EB w0 n1 P1 w
  f0 : L.getD 0 false = true → v25 = numV P2
  f1 : L.getD 1 false = true → v26 = numV o6
  f2 : L.getD 2 false = true → v27 = .tuple #[numV P2, numV o6, .bool false]
  f3 : L.getD 3 false = true → v24 = .tuple #[numV P2, numV o6, .bool false]
  f4 : L.getD 4 false = true → v28 = numV P2
  f5 : L.getD 5 false = true → v29 = numV o6
  f6 : L.getD 6 false = true → v30 = .bool false
  f7 : L.getD 7 false = true → ∃ g, v7 = .pointer (some ⟨g, 0, none⟩) ∧ Six g w ∧ n1 < g ∧ n2 < g
  f8 : L.getD 8 false = true → ∃ g, v8 = .pointer (some ⟨g, 0, none⟩) ∧ Six g w ∧ n1 < g ∧ n2 < g
  f11 : L.getD 11 false = true → v9 = .bool false
section
variable {ρ : Operand → Value} {W : World} {k : K} {n : Nat}
theorem run_ld (h : ρ (.tmp 4) = .pointer (some ⟨n, 0, none⟩)) (hk : NumAt n k W) : (execOp ρ { dst := some 25, op := Op.load 26 (Operand.tmp 4), type := 26, pos := "law.go:16", after := #[], guard := none }).run Try.prog W = .ok (.value (numV k)) W := by
  obtain ⟨x0, x1, x2, x3, x4, x5⟩ := num_cells hk
  unfold numV
  simp [go_sem, h, x0, x1, x2, x3, x4, x5]
theorem run_c1 (hF : ∀ f, ρ (.func f) = .func (.func f) #[] #[]) (hC : ∀ v, ρ (.const v) = v) : (execOp ρ { dst := some 26, op := Op.call { callee := Callee.value (Operand.func 11), args := #[Operand.const (Value.int IntKind.u64 6)], argTypes := #[22] }, type := 26, pos := "law.go:16", after := #[], guard := none }).run Try.prog W = .ok (.enter 11 #[.int .u64 6]) W := by
  simp [go_sem, hF, hC]
theorem run_c2 (hF : ∀ f, ρ (.func f) = .func (.func f) #[] #[]) (hC : ∀ v, ρ (.const v) = v) : (execOp ρ { dst := some 27, op := Op.call { callee := Callee.value (Operand.func 6), args := #[Operand.const (Value.int IntKind.u8 16), Operand.const (Value.bool true), Operand.tmp 25, Operand.tmp 26, Operand.const (Value.bool true)], argTypes := #[5, 4, 26, 26, 4] }, type := 28, pos := "law.go:16", after := #[{ on := 0, ground := Ground.data }, { on := 1, ground := Ground.data }, { on := 1, ground := Ground.chain }], guard := none }).run Try.prog W = .ok (.enter 6 #[.int .u8 16, .bool true, ρ (.tmp 25), ρ (.tmp 26), .bool true]) W := by
  simp [go_sem, hF, hC]
theorem run_mv : (execOp ρ { dst := some 24, op := Op.move (Operand.tmp 27), type := 28, pos := "law.go:16", after := #[{ on := 2, ground := Ground.data }], guard := none }).run Try.prog W = .ok (.value (ρ (.tmp 27))) W := by
  simp [go_sem]
theorem run_x0 {a b c : Value} (h : ρ (.tmp 24) = .tuple #[a, b, c]) : (execOp ρ { dst := some 28, op := Op.extract (Operand.tmp 24) 0, type := 26, pos := "law.go:16", after := #[{ on := 3, ground := Ground.data }], guard := none }).run Try.prog W = .ok (.value a) W := by
  simp [go_sem, h]
theorem run_x1 {a b c : Value} (h : ρ (.tmp 24) = .tuple #[a, b, c]) : (execOp ρ { dst := some 29, op := Op.extract (Operand.tmp 24) 1, type := 26, pos := "law.go:16", after := #[{ on := 3, ground := Ground.data }, { on := 9, ground := Ground.gcOnly Departure.lateStores }], guard := none }).run Try.prog W = .ok (.value b) W := by
  simp [go_sem, h]
theorem run_x2 {a b c : Value} (h : ρ (.tmp 24) = .tuple #[a, b, c]) : (execOp ρ { dst := some 30, op := Op.extract (Operand.tmp 24) 2, type := 4, pos := "law.go:16", after := #[{ on := 3, ground := Ground.data }, { on := 10, ground := Ground.gcOnly Departure.lateStores }], guard := none }).run Try.prog W = .ok (.value c) W := by
  simp [go_sem, h]
theorem run_al7 : (execOp ρ { dst := some 7, op := Op.alloc 26, type := 0, pos := "law.go:16", after := #[], guard := none }).run Try.prog W = .ok (.value (.pointer (some ⟨W.heap.size, 0, none⟩))) (W.alloc (.cells #[.int .u64 0, .int .u64 0, .int .u64 0, .int .u64 0, .int .i64 0, .int .i64 0] 26)) := by
  simp [go_sem]
theorem run_al8 : (execOp ρ { dst := some 8, op := Op.alloc 26, type := 0, pos := "law.go:16", after := #[], guard := none }).run Try.prog W = .ok (.value (.pointer (some ⟨W.heap.size, 0, none⟩))) (W.alloc (.cells #[.int .u64 0, .int .u64 0, .int .u64 0, .int .u64 0, .int .i64 0, .int .i64 0] 26)) := by
  simp [go_sem]
theorem run_st9 (h : ρ (.tmp 7) = .pointer (some ⟨n, 0, none⟩)) (hv : ρ (.tmp 28) = numV k) (hs : Six n W) : (execOp ρ { dst := none, op := Op.store 26 (Operand.tmp 7) (Operand.tmp 28), type := 0, pos := "law.go:16", after := #[{ on := 7, ground := Ground.data }, { on := 4, ground := Ground.data }, { on := 2, ground := Ground.chain }, { on := 0, ground := Ground.phase }, { on := 1, ground := Ground.phase }, { on := 2, ground := Ground.phase }, { on := 3, ground := Ground.phase }, { on := 4, ground := Ground.phase }, { on := 5, ground := Ground.textOnly Departure.lateStores }, { on := 6, ground := Ground.textOnly Departure.lateStores }, { on := 7, ground := Ground.phase }, { on := 8, ground := Ground.phase }], guard := none }).run Try.prog W = .ok .skip ((((((W.setCell ⟨n, 0, none⟩ (.int .u64 (u k.v))).setCell ⟨n, 1, none⟩ (.int .u64 (u k.m))).setCell ⟨n, 2, none⟩ (.int .u64 (u k.a))).setCell ⟨n, 3, none⟩ (.int .u64 (u k.b))).setCell ⟨n, 4, none⟩ (.int .i64 (s k.c))).setCell ⟨n, 5, none⟩ (.int .i64 (s k.d))) := by
  obtain ⟨k0, hk⟩ := hs
  obtain ⟨x0, x1, x2, x3, x4, x5⟩ := num_cells hk
  obtain ⟨f0, f1, f2, f3, f4, f5⟩ := num_free hk
  unfold numV at hv
  simp [go_sem, h, hv, x0, x1, x2, x3, x4, x5, f0, f1, f2, f3, f4, f5]
theorem run_st10 (h : ρ (.tmp 8) = .pointer (some ⟨n, 0, none⟩)) (hv : ρ (.tmp 29) = numV k) (hs : Six n W) : (execOp ρ { dst := none, op := Op.store 26 (Operand.tmp 8) (Operand.tmp 29), type := 0, pos := "law.go:16", after := #[{ on := 8, ground := Ground.data }, { on := 5, ground := Ground.data }, { on := 9, ground := Ground.chain }, { on := 0, ground := Ground.phase }, { on := 1, ground := Ground.phase }, { on := 2, ground := Ground.phase }, { on := 3, ground := Ground.phase }, { on := 4, ground := Ground.phase }, { on := 5, ground := Ground.phase }, { on := 6, ground := Ground.textOnly Departure.lateStores }, { on := 7, ground := Ground.phase }, { on := 8, ground := Ground.phase }, { on := 9, ground := Ground.phase }], guard := none }).run Try.prog W = .ok .skip ((((((W.setCell ⟨n, 0, none⟩ (.int .u64 (u k.v))).setCell ⟨n, 1, none⟩ (.int .u64 (u k.m))).setCell ⟨n, 2, none⟩ (.int .u64 (u k.a))).setCell ⟨n, 3, none⟩ (.int .u64 (u k.b))).setCell ⟨n, 4, none⟩ (.int .i64 (s k.c))).setCell ⟨n, 5, none⟩ (.int .i64 (s k.d))) := by
  obtain ⟨k0, hk⟩ := hs
  obtain ⟨x0, x1, x2, x3, x4, x5⟩ := num_cells hk
  obtain ⟨f0, f1, f2, f3, f4, f5⟩ := num_free hk
  unfold numV at hv
  simp [go_sem, h, hv, x0, x1, x2, x3, x4, x5, f0, f1, f2, f3, f4, f5]
theorem run_as : (execOp ρ { dst := some 9, op := Op.assign (Operand.tmp 30), type := 4, pos := "law.go:16", after := #[{ on := 6, ground := Ground.data }, { on := 10, ground := Ground.chain }, { on := 0, ground := Ground.phase }, { on := 1, ground := Ground.phase }, { on := 2, ground := Ground.phase }, { on := 3, ground := Ground.phase }, { on := 4, ground := Ground.phase }, { on := 5, ground := Ground.phase }, { on := 6, ground := Ground.phase }, { on := 7, ground := Ground.phase }, { on := 8, ground := Ground.phase }, { on := 9, ground := Ground.phase }, { on := 10, ground := Ground.phase }], guard := none }).run Try.prog W = .ok (.value (ρ (.tmp 30))) W := by
  simp [go_sem]
end
theorem ready_nil {md : Region.Mode} {ops : Array Oper} {L : Array Bool} {i : Nat} {o : Oper} (h : Region.ready md ops L = []) (ho : ops[i]? = some o) (hs : i < L.size) (ha : ∀ e ∈ o.after, Region.binds md e = true → L.getD e.on false = true) : L.getD i false = true := by
  cases e : L.getD i true
  · have : i ∈ Region.ready md ops L := by
      unfold Region.ready
      rw [List.mem_filter, Bool.and_eq_true, ho, e]
      refine ⟨List.mem_range.2 (Array.getElem?_eq_some_iff.1 ho).1, rfl, ?_⟩
      simp only [Option.map_some, Option.getD_some, Array.all_eq_true']
      intro x hx
      cases hb : Region.binds md x
      · rfl
      · rw [ha x hx hb]; rfl
    rw [h] at this
    cases this
  · rw [Array.getD_eq_getD_getElem?, Array.getElem?_eq_getElem hs] at e ⊢
    exact e
set_option maxRecDepth 100000 in
set_option maxHeartbeats 8000000 in
theorem third {w0 W : World} {n1 n2 : Nat} {P1 P2 o6 : K} (hc6 : ∀ W, Calls Try.prog 11 #[.int .u64 6] W (Gives (numV o6) W))
    (h3 : ∀ W, Calls Try.prog 6 #[.int .u8 16, .bool true, numV P2, numV o6, .bool true] W (Gives (.tuple #[numV P2, numV o6, .bool false]) W))
    (h2 : EB w0 n2 P2 W) (h1 : EB w0 n1 P1 W) {Q : Exit → Act → World → Prop} {s0 s1 s2 s3 s5 s6 s10 s11 s12 s13 s14 s15 s16 s17 s18 s19 s20 s21 s22 s23 s31 s32 s33 s34 s35 s36 s37 s38 s39 s40 s41 s42 s43 s44 s45 s46 s47 s48 v7 v8 v9 v24 v25 v26 v27 v28 v29 v30 : Value}
    (hQ : ∀ (v7 v8 v9 v24 v25 v26 v27 v28 v29 v30 : Value) (W' : World), v9 = .bool false → EB w0 n2 P2 W' → EB w0 n1 P1 W' → Q .normal { tmps := (List.toArray (s0 :: s1 :: s2 :: s3 :: .pointer (some ⟨n2, 0, none⟩) :: s5 :: s6 :: v7 :: v8 :: v9 :: s10 :: s11 :: s12 :: s13 :: s14 :: s15 :: s16 :: s17 :: s18 :: s19 :: s20 :: s21 :: s22 :: s23 :: v24 :: v25 :: v26 :: v27 :: v28 :: v29 :: v30 :: s31 :: s32 :: s33 :: s34 :: s35 :: s36 :: s37 :: s38 :: s39 :: s40 :: s41 :: s42 :: s43 :: s44 :: s45 :: s46 :: s47 :: s48 :: [])), defers := [] } W') :
    Code.wp Try.prog (Code.region 3 #[{ dst := some 25, op := Op.load 26 (Operand.tmp 4), type := 26, pos := "law.go:16", after := #[], guard := none }, { dst := some 26, op := Op.call { callee := Callee.value (Operand.func 11), args := #[Operand.const (Value.int IntKind.u64 6)], argTypes := #[22] }, type := 26, pos := "law.go:16", after := #[], guard := none }, { dst := some 27, op := Op.call { callee := Callee.value (Operand.func 6), args := #[Operand.const (Value.int IntKind.u8 16), Operand.const (Value.bool true), Operand.tmp 25, Operand.tmp 26, Operand.const (Value.bool true)], argTypes := #[5, 4, 26, 26, 4] }, type := 28, pos := "law.go:16", after := #[{ on := 0, ground := Ground.data }, { on := 1, ground := Ground.data }, { on := 1, ground := Ground.chain }], guard := none }, { dst := some 24, op := Op.move (Operand.tmp 27), type := 28, pos := "law.go:16", after := #[{ on := 2, ground := Ground.data }], guard := none }, { dst := some 28, op := Op.extract (Operand.tmp 24) 0, type := 26, pos := "law.go:16", after := #[{ on := 3, ground := Ground.data }], guard := none }, { dst := some 29, op := Op.extract (Operand.tmp 24) 1, type := 26, pos := "law.go:16", after := #[{ on := 3, ground := Ground.data }, { on := 9, ground := Ground.gcOnly Departure.lateStores }], guard := none }, { dst := some 30, op := Op.extract (Operand.tmp 24) 2, type := 4, pos := "law.go:16", after := #[{ on := 3, ground := Ground.data }, { on := 10, ground := Ground.gcOnly Departure.lateStores }], guard := none }, { dst := some 7, op := Op.alloc 26, type := 0, pos := "law.go:16", after := #[], guard := none }, { dst := some 8, op := Op.alloc 26, type := 0, pos := "law.go:16", after := #[], guard := none }, { dst := none, op := Op.store 26 (Operand.tmp 7) (Operand.tmp 28), type := 0, pos := "law.go:16", after := #[{ on := 7, ground := Ground.data }, { on := 4, ground := Ground.data }, { on := 2, ground := Ground.chain }, { on := 0, ground := Ground.phase }, { on := 1, ground := Ground.phase }, { on := 2, ground := Ground.phase }, { on := 3, ground := Ground.phase }, { on := 4, ground := Ground.phase }, { on := 5, ground := Ground.textOnly Departure.lateStores }, { on := 6, ground := Ground.textOnly Departure.lateStores }, { on := 7, ground := Ground.phase }, { on := 8, ground := Ground.phase }], guard := none }, { dst := none, op := Op.store 26 (Operand.tmp 8) (Operand.tmp 29), type := 0, pos := "law.go:16", after := #[{ on := 8, ground := Ground.data }, { on := 5, ground := Ground.data }, { on := 9, ground := Ground.chain }, { on := 0, ground := Ground.phase }, { on := 1, ground := Ground.phase }, { on := 2, ground := Ground.phase }, { on := 3, ground := Ground.phase }, { on := 4, ground := Ground.phase }, { on := 5, ground := Ground.phase }, { on := 6, ground := Ground.textOnly Departure.lateStores }, { on := 7, ground := Ground.phase }, { on := 8, ground := Ground.phase }, { on := 9, ground := Ground.phase }], guard := none }, { dst := some 9, op := Op.assign (Operand.tmp 30), type := 4, pos := "law.go:16", after := #[{ on := 6, ground := Ground.data }, { on := 10, ground := Ground.chain }, { on := 0, ground := Ground.phase }, { on := 1, ground := Ground.phase }, { on := 2, ground := Ground.phase }, { on := 3, ground := Ground.phase }, { on := 4, ground := Ground.phase }, { on := 5, ground := Ground.phase }, { on := 6, ground := Ground.phase }, { on := 7, ground := Ground.phase }, { on := 8, ground := Ground.phase }, { on := 9, ground := Ground.phase }, { on := 10, ground := Ground.phase }], guard := none }] true) Q { tmps := (List.toArray (s0 :: s1 :: s2 :: s3 :: .pointer (some ⟨n2, 0, none⟩) :: s5 :: s6 :: v7 :: v8 :: v9 :: s10 :: s11 :: s12 :: s13 :: s14 :: s15 :: s16 :: s17 :: s18 :: s19 :: s20 :: s21 :: s22 :: s23 :: v24 :: v25 :: v26 :: v27 :: v28 :: v29 :: v30 :: s31 :: s32 :: s33 :: s34 :: s35 :: s36 :: s37 :: s38 :: s39 :: s40 :: s41 :: s42 :: s43 :: s44 :: s45 :: s46 :: s47 :: s48 :: [])), defers := [] } W := by
  refine wp_region_inv (I := fun L a w => ∃ v7 v8 v9 v24 v25 v26 v27 v28 v29 v30 : Value, a = { tmps := (List.toArray (s0 :: s1 :: s2 :: s3 :: .pointer (some ⟨n2, 0, none⟩) :: s5 :: s6 :: v7 :: v8 :: v9 :: s10 :: s11 :: s12 :: s13 :: s14 :: s15 :: s16 :: s17 :: s18 :: s19 :: s20 :: s21 :: s22 :: s23 :: v24 :: v25 :: v26 :: v27 :: v28 :: v29 :: v30 :: s31 :: s32 :: s33 :: s34 :: s35 :: s36 :: s37 :: s38 :: s39 :: s40 :: s41 :: s42 :: s43 :: s44 :: s45 :: s46 :: s47 :: s48 :: [])), defers := [] } ∧ RI w0 n1 n2 P1 P2 o6 L v7 v8 v9 v24 v25 v26 v27 v28 v29 v30 w) (by kernel_rfl) ?_ ?_ ?_
  · refine ⟨v7, v8, v9, v24, v25, v26, v27, v28, v29, v30, rfl, ?_⟩
    have hz : ∀ k, (Array.replicate 12 false).getD k false = true → False := by
      intro k h
      rw [Array.getD_eq_getD_getElem?, Array.getElem?_replicate] at h
      split at h <;> cases h
    exact { sz := (by simp), b2 := ⟨h2.1, h2.2.1, h2.2.2.drew⟩, b1 := ⟨h1.1, h1.2.1, h1.2.2.drew⟩, f0 := (fun h => (hz 0 h).elim), f1 := (fun h => (hz 1 h).elim), f2 := (fun h => (hz 2 h).elim), f3 := (fun h => (hz 3 h).elim), f4 := (fun h => (hz 4 h).elim), f5 := (fun h => (hz 5 h).elim), f6 := (fun h => (hz 6 h).elim), f7 := (fun h => (hz 7 h).elim), f8 := (fun h => (hz 8 h).elim), f11 := (fun h => (hz 11 h).elim) }
  · rintro L a w ⟨v7, v8, v9, v24, v25, v26, v27, v28, v29, v30, rfl, R⟩ hr
    have k0 := ready_nil hr (i := 0) (o := { dst := some 25, op := Op.load 26 (Operand.tmp 4), type := 26, pos := "law.go:16", after := #[], guard := none }) rfl (by rw [R.sz]; decide) (fun e he hb => by simp at he)
    have k1 := ready_nil hr (i := 1) (o := { dst := some 26, op := Op.call { callee := Callee.value (Operand.func 11), args := #[Operand.const (Value.int IntKind.u64 6)], argTypes := #[22] }, type := 26, pos := "law.go:16", after := #[], guard := none }) rfl (by rw [R.sz]; decide) (fun e he hb => by simp at he)
    have k2 := ready_nil hr (i := 2) (o := { dst := some 27, op := Op.call { callee := Callee.value (Operand.func 6), args := #[Operand.const (Value.int IntKind.u8 16), Operand.const (Value.bool true), Operand.tmp 25, Operand.tmp 26, Operand.const (Value.bool true)], argTypes := #[5, 4, 26, 26, 4] }, type := 28, pos := "law.go:16", after := #[{ on := 0, ground := Ground.data }, { on := 1, ground := Ground.data }, { on := 1, ground := Ground.chain }], guard := none }) rfl (by rw [R.sz]; decide) (fun e he hb => by
      simp at he
      rcases he with rfl | rfl | rfl
      all_goals first | assumption | (exact absurd hb (by decide)))
    have k3 := ready_nil hr (i := 3) (o := { dst := some 24, op := Op.move (Operand.tmp 27), type := 28, pos := "law.go:16", after := #[{ on := 2, ground := Ground.data }], guard := none }) rfl (by rw [R.sz]; decide) (fun e he hb => by
      simp at he
      rcases he with rfl
      all_goals first | assumption | (exact absurd hb (by decide)))
    have k4 := ready_nil hr (i := 4) (o := { dst := some 28, op := Op.extract (Operand.tmp 24) 0, type := 26, pos := "law.go:16", after := #[{ on := 3, ground := Ground.data }], guard := none }) rfl (by rw [R.sz]; decide) (fun e he hb => by
      simp at he
      rcases he with rfl
      all_goals first | assumption | (exact absurd hb (by decide)))
    have k5 := ready_nil hr (i := 5) (o := { dst := some 29, op := Op.extract (Operand.tmp 24) 1, type := 26, pos := "law.go:16", after := #[{ on := 3, ground := Ground.data }, { on := 9, ground := Ground.gcOnly Departure.lateStores }], guard := none }) rfl (by rw [R.sz]; decide) (fun e he hb => by
      simp at he
      rcases he with rfl | rfl
      all_goals first | assumption | (exact absurd hb (by decide)))
    have k6 := ready_nil hr (i := 6) (o := { dst := some 30, op := Op.extract (Operand.tmp 24) 2, type := 4, pos := "law.go:16", after := #[{ on := 3, ground := Ground.data }, { on := 10, ground := Ground.gcOnly Departure.lateStores }], guard := none }) rfl (by rw [R.sz]; decide) (fun e he hb => by
      simp at he
      rcases he with rfl | rfl
      all_goals first | assumption | (exact absurd hb (by decide)))
    have k7 := ready_nil hr (i := 7) (o := { dst := some 7, op := Op.alloc 26, type := 0, pos := "law.go:16", after := #[], guard := none }) rfl (by rw [R.sz]; decide) (fun e he hb => by simp at he)
    have k8 := ready_nil hr (i := 8) (o := { dst := some 8, op := Op.alloc 26, type := 0, pos := "law.go:16", after := #[], guard := none }) rfl (by rw [R.sz]; decide) (fun e he hb => by simp at he)
    have k9 := ready_nil hr (i := 9) (o := { dst := none, op := Op.store 26 (Operand.tmp 7) (Operand.tmp 28), type := 0, pos := "law.go:16", after := #[{ on := 7, ground := Ground.data }, { on := 4, ground := Ground.data }, { on := 2, ground := Ground.chain }, { on := 0, ground := Ground.phase }, { on := 1, ground := Ground.phase }, { on := 2, ground := Ground.phase }, { on := 3, ground := Ground.phase }, { on := 4, ground := Ground.phase }, { on := 5, ground := Ground.textOnly Departure.lateStores }, { on := 6, ground := Ground.textOnly Departure.lateStores }, { on := 7, ground := Ground.phase }, { on := 8, ground := Ground.phase }], guard := none }) rfl (by rw [R.sz]; decide) (fun e he hb => by
      simp at he
      rcases he with rfl | rfl | rfl | rfl | rfl | rfl | rfl | rfl | rfl | rfl | rfl | rfl
      all_goals first | assumption | (exact absurd hb (by decide)))
    have k10 := ready_nil hr (i := 10) (o := { dst := none, op := Op.store 26 (Operand.tmp 8) (Operand.tmp 29), type := 0, pos := "law.go:16", after := #[{ on := 8, ground := Ground.data }, { on := 5, ground := Ground.data }, { on := 9, ground := Ground.chain }, { on := 0, ground := Ground.phase }, { on := 1, ground := Ground.phase }, { on := 2, ground := Ground.phase }, { on := 3, ground := Ground.phase }, { on := 4, ground := Ground.phase }, { on := 5, ground := Ground.phase }, { on := 6, ground := Ground.textOnly Departure.lateStores }, { on := 7, ground := Ground.phase }, { on := 8, ground := Ground.phase }, { on := 9, ground := Ground.phase }], guard := none }) rfl (by rw [R.sz]; decide) (fun e he hb => by
      simp at he
      rcases he with rfl | rfl | rfl | rfl | rfl | rfl | rfl | rfl | rfl | rfl | rfl | rfl | rfl
      all_goals first | assumption | (exact absurd hb (by decide)))
    have k11 := ready_nil hr (i := 11) (o := { dst := some 9, op := Op.assign (Operand.tmp 30), type := 4, pos := "law.go:16", after := #[{ on := 6, ground := Ground.data }, { on := 10, ground := Ground.chain }, { on := 0, ground := Ground.phase }, { on := 1, ground := Ground.phase }, { on := 2, ground := Ground.phase }, { on := 3, ground := Ground.phase }, { on := 4, ground := Ground.phase }, { on := 5, ground := Ground.phase }, { on := 6, ground := Ground.phase }, { on := 7, ground := Ground.phase }, { on := 8, ground := Ground.phase }, { on := 9, ground := Ground.phase }, { on := 10, ground := Ground.phase }], guard := none }) rfl (by rw [R.sz]; decide) (fun e he hb => by
      simp at he
      rcases he with rfl | rfl | rfl | rfl | rfl | rfl | rfl | rfl | rfl | rfl | rfl | rfl | rfl
      all_goals first | assumption | (exact absurd hb (by decide)))
    exact hQ _ _ _ _ _ _ _ _ _ _ _ (R.f11 k11) R.b2 R.b1
  · rintro L a w i ⟨v7, v8, v9, v24, v25, v26, v27, v28, v29, v30, rfl, R⟩ hi
    have hl : i < 12 := (ready_lt hi).1
    have hc : i = 0 ∨ i = 1 ∨ i = 2 ∨ i = 3 ∨ i = 4 ∨ i = 5 ∨ i = 6 ∨ i = 7 ∨ i = 8 ∨ i = 9 ∨ i = 10 ∨ i = 11 := by omega
    clear hl
    rcases hc with rfl | rfl | rfl | rfl | rfl | rfl | rfl | rfl | rfl | rfl | rfl | rfl
    · -- 0
      refine wpOp_step (o := { dst := some 25, op := Op.load 26 (Operand.tmp 4), type := 26, pos := "law.go:16", after := #[], guard := none }) rfl (fun K hK => ?_)
      simp only [Region.wanted, ↓reduceIte]
      unfold Oper.wp
      rw [run_ld rfl R.b2.1]
      exact hK _ _ ⟨v7, v8, v9, v24, numV P2, v26, v27, v28, v29, v30, rfl, { sz := (by rw [Array.size_setIfInBounds]; exact R.sz), b2 := (R.b2), b1 := (R.b1), f0 := (fun _ => rfl), f1 := (fun h => R.f1 (by rw [set_getD R.sz (by decide)] at h; simpa using h)), f2 := (fun h => R.f2 (by rw [set_getD R.sz (by decide)] at h; simpa using h)), f3 := (fun h => R.f3 (by rw [set_getD R.sz (by decide)] at h; simpa using h)), f4 := (fun h => R.f4 (by rw [set_getD R.sz (by decide)] at h; simpa using h)), f5 := (fun h => R.f5 (by rw [set_getD R.sz (by decide)] at h; simpa using h)), f6 := (fun h => R.f6 (by rw [set_getD R.sz (by decide)] at h; simpa using h)), f7 := (fun h => R.f7 (by rw [set_getD R.sz (by decide)] at h; simpa using h)), f8 := (fun h => R.f8 (by rw [set_getD R.sz (by decide)] at h; simpa using h)), f11 := (fun h => R.f11 (by rw [set_getD R.sz (by decide)] at h; simpa using h)) }⟩
    · -- 1
      refine wpOp_step (o := { dst := some 26, op := Op.call { callee := Callee.value (Operand.func 11), args := #[Operand.const (Value.int IntKind.u64 6)], argTypes := #[22] }, type := 26, pos := "law.go:16", after := #[], guard := none }) rfl (fun K hK => ?_)
      simp only [Region.wanted, ↓reduceIte]
      unfold Oper.wp
      rw [run_c1 (fun _ => rfl) (fun _ => rfl)]
      show Calls Try.prog 11 #[.int .u64 6] w _
      refine (hc6 _).mono ?_
      rintro e w' ⟨rfl, hb⟩
      exact hK _ _ ⟨v7, v8, v9, v24, v25, numV o6, v27, v28, v29, v30, rfl, { sz := (by rw [Array.size_setIfInBounds]; exact R.sz), b2 := (eb_keep R.b2 hb), b1 := (eb_keep R.b1 hb), f0 := (fun h => R.f0 (by rw [set_getD R.sz (by decide)] at h; simpa using h)), f1 := (fun _ => rfl), f2 := (fun h => R.f2 (by rw [set_getD R.sz (by decide)] at h; simpa using h)), f3 := (fun h => R.f3 (by rw [set_getD R.sz (by decide)] at h; simpa using h)), f4 := (fun h => R.f4 (by rw [set_getD R.sz (by decide)] at h; simpa using h)), f5 := (fun h => R.f5 (by rw [set_getD R.sz (by decide)] at h; simpa using h)), f6 := (fun h => R.f6 (by rw [set_getD R.sz (by decide)] at h; simpa using h)), f7 := ((fun h => (by obtain ⟨g, e, hs, m1, m2⟩ := R.f7 (by rw [set_getD R.sz (by decide)] at h; simpa using h); exact ⟨g, e, six_keep hs hb, m1, m2⟩))), f8 := ((fun h => (by obtain ⟨g, e, hs, m1, m2⟩ := R.f8 (by rw [set_getD R.sz (by decide)] at h; simpa using h); exact ⟨g, e, six_keep hs hb, m1, m2⟩))), f11 := (fun h => R.f11 (by rw [set_getD R.sz (by decide)] at h; simpa using h)) }⟩
    · -- 2
      refine wpOp_step (o := { dst := some 27, op := Op.call { callee := Callee.value (Operand.func 6), args := #[Operand.const (Value.int IntKind.u8 16), Operand.const (Value.bool true), Operand.tmp 25, Operand.tmp 26, Operand.const (Value.bool true)], argTypes := #[5, 4, 26, 26, 4] }, type := 28, pos := "law.go:16", after := #[{ on := 0, ground := Ground.data }, { on := 1, ground := Ground.data }, { on := 1, ground := Ground.chain }], guard := none }) rfl (fun K hK => ?_)
      simp only [Region.wanted, ↓reduceIte]
      have d0 := ready_after hi (o := { dst := some 27, op := Op.call { callee := Callee.value (Operand.func 6), args := #[Operand.const (Value.int IntKind.u8 16), Operand.const (Value.bool true), Operand.tmp 25, Operand.tmp 26, Operand.const (Value.bool true)], argTypes := #[5, 4, 26, 26, 4] }, type := 28, pos := "law.go:16", after := #[{ on := 0, ground := Ground.data }, { on := 1, ground := Ground.data }, { on := 1, ground := Ground.chain }], guard := none }) rfl ⟨0, Ground.data⟩ (by simp) rfl
      have d1 := ready_after hi (o := { dst := some 27, op := Op.call { callee := Callee.value (Operand.func 6), args := #[Operand.const (Value.int IntKind.u8 16), Operand.const (Value.bool true), Operand.tmp 25, Operand.tmp 26, Operand.const (Value.bool true)], argTypes := #[5, 4, 26, 26, 4] }, type := 28, pos := "law.go:16", after := #[{ on := 0, ground := Ground.data }, { on := 1, ground := Ground.data }, { on := 1, ground := Ground.chain }], guard := none }) rfl ⟨1, Ground.data⟩ (by simp) rfl
      obtain rfl := R.f0 d0
      obtain rfl := R.f1 d1
      unfold Oper.wp
      rw [run_c2 (fun _ => rfl) (fun _ => rfl)]
      show Calls Try.prog 6 #[.int .u8 16, .bool true, numV P2, numV o6, .bool true] w _
      refine (h3 _).mono ?_
      rintro e w' ⟨rfl, hb⟩
      exact hK _ _ ⟨v7, v8, v9, v24, _, _, (.tuple #[numV P2, numV o6, .bool false]), v28, v29, v30, rfl, { sz := (by rw [Array.size_setIfInBounds]; exact R.sz), b2 := (eb_keep R.b2 hb), b1 := (eb_keep R.b1 hb), f0 := (fun h => R.f0 (by rw [set_getD R.sz (by decide)] at h; simpa using h)), f1 := (fun h => R.f1 (by rw [set_getD R.sz (by decide)] at h; simpa using h)), f2 := (fun _ => rfl), f3 := (fun h => R.f3 (by rw [set_getD R.sz (by decide)] at h; simpa using h)), f4 := (fun h => R.f4 (by rw [set_getD R.sz (by decide)] at h; simpa using h)), f5 := (fun h => R.f5 (by rw [set_getD R.sz (by decide)] at h; simpa using h)), f6 := (fun h => R.f6 (by rw [set_getD R.sz (by decide)] at h; simpa using h)), f7 := ((fun h => (by obtain ⟨g, e, hs, m1, m2⟩ := R.f7 (by rw [set_getD R.sz (by decide)] at h; simpa using h); exact ⟨g, e, six_keep hs hb, m1, m2⟩))), f8 := ((fun h => (by obtain ⟨g, e, hs, m1, m2⟩ := R.f8 (by rw [set_getD R.sz (by decide)] at h; simpa using h); exact ⟨g, e, six_keep hs hb, m1, m2⟩))), f11 := (fun h => R.f11 (by rw [set_getD R.sz (by decide)] at h; simpa using h)) }⟩
    · -- 3
      refine wpOp_step (o := { dst := some 24, op := Op.move (Operand.tmp 27), type := 28, pos := "law.go:16", after := #[{ on := 2, ground := Ground.data }], guard := none }) rfl (fun K hK => ?_)
      simp only [Region.wanted, ↓reduceIte]
      have d2 := ready_after hi (o := { dst := some 24, op := Op.move (Operand.tmp 27), type := 28, pos := "law.go:16", after := #[{ on := 2, ground := Ground.data }], guard := none }) rfl ⟨2, Ground.data⟩ (by simp) rfl
      obtain rfl := R.f2 d2
      unfold Oper.wp
      rw [run_mv]
      exact hK _ _ ⟨v7, v8, v9, (.tuple #[numV P2, numV o6, .bool false]), v25, v26, _, v28, v29, v30, rfl, { sz := (by rw [Array.size_setIfInBounds]; exact R.sz), b2 := (R.b2), b1 := (R.b1), f0 := (fun h => R.f0 (by rw [set_getD R.sz (by decide)] at h; simpa using h)), f1 := (fun h => R.f1 (by rw [set_getD R.sz (by decide)] at h; simpa using h)), f2 := (fun h => R.f2 (by rw [set_getD R.sz (by decide)] at h; simpa using h)), f3 := (fun _ => rfl), f4 := (fun h => R.f4 (by rw [set_getD R.sz (by decide)] at h; simpa using h)), f5 := (fun h => R.f5 (by rw [set_getD R.sz (by decide)] at h; simpa using h)), f6 := (fun h => R.f6 (by rw [set_getD R.sz (by decide)] at h; simpa using h)), f7 := (fun h => R.f7 (by rw [set_getD R.sz (by decide)] at h; simpa using h)), f8 := (fun h => R.f8 (by rw [set_getD R.sz (by decide)] at h; simpa using h)), f11 := (fun h => R.f11 (by rw [set_getD R.sz (by decide)] at h; simpa using h)) }⟩
    · -- 4
      refine wpOp_step (o := { dst := some 28, op := Op.extract (Operand.tmp 24) 0, type := 26, pos := "law.go:16", after := #[{ on := 3, ground := Ground.data }], guard := none }) rfl (fun K hK => ?_)
      simp only [Region.wanted, ↓reduceIte]
      have d3 := ready_after hi (o := { dst := some 28, op := Op.extract (Operand.tmp 24) 0, type := 26, pos := "law.go:16", after := #[{ on := 3, ground := Ground.data }], guard := none }) rfl ⟨3, Ground.data⟩ (by simp) rfl
      obtain rfl := R.f3 d3
      unfold Oper.wp
      rw [run_x0 (a := numV P2) (b := numV o6) (c := .bool false) rfl]
      exact hK _ _ ⟨v7, v8, v9, _, v25, v26, v27, numV P2, v29, v30, rfl, { sz := (by rw [Array.size_setIfInBounds]; exact R.sz), b2 := (R.b2), b1 := (R.b1), f0 := (fun h => R.f0 (by rw [set_getD R.sz (by decide)] at h; simpa using h)), f1 := (fun h => R.f1 (by rw [set_getD R.sz (by decide)] at h; simpa using h)), f2 := (fun h => R.f2 (by rw [set_getD R.sz (by decide)] at h; simpa using h)), f3 := (fun h => R.f3 (by rw [set_getD R.sz (by decide)] at h; simpa using h)), f4 := (fun _ => rfl), f5 := (fun h => R.f5 (by rw [set_getD R.sz (by decide)] at h; simpa using h)), f6 := (fun h => R.f6 (by rw [set_getD R.sz (by decide)] at h; simpa using h)), f7 := (fun h => R.f7 (by rw [set_getD R.sz (by decide)] at h; simpa using h)), f8 := (fun h => R.f8 (by rw [set_getD R.sz (by decide)] at h; simpa using h)), f11 := (fun h => R.f11 (by rw [set_getD R.sz (by decide)] at h; simpa using h)) }⟩
    · -- 5
      refine wpOp_step (o := { dst := some 29, op := Op.extract (Operand.tmp 24) 1, type := 26, pos := "law.go:16", after := #[{ on := 3, ground := Ground.data }, { on := 9, ground := Ground.gcOnly Departure.lateStores }], guard := none }) rfl (fun K hK => ?_)
      simp only [Region.wanted, ↓reduceIte]
      have d3 := ready_after hi (o := { dst := some 29, op := Op.extract (Operand.tmp 24) 1, type := 26, pos := "law.go:16", after := #[{ on := 3, ground := Ground.data }, { on := 9, ground := Ground.gcOnly Departure.lateStores }], guard := none }) rfl ⟨3, Ground.data⟩ (by simp) rfl
      obtain rfl := R.f3 d3
      unfold Oper.wp
      rw [run_x1 (a := numV P2) (b := numV o6) (c := .bool false) rfl]
      exact hK _ _ ⟨v7, v8, v9, _, v25, v26, v27, v28, numV o6, v30, rfl, { sz := (by rw [Array.size_setIfInBounds]; exact R.sz), b2 := (R.b2), b1 := (R.b1), f0 := (fun h => R.f0 (by rw [set_getD R.sz (by decide)] at h; simpa using h)), f1 := (fun h => R.f1 (by rw [set_getD R.sz (by decide)] at h; simpa using h)), f2 := (fun h => R.f2 (by rw [set_getD R.sz (by decide)] at h; simpa using h)), f3 := (fun h => R.f3 (by rw [set_getD R.sz (by decide)] at h; simpa using h)), f4 := (fun h => R.f4 (by rw [set_getD R.sz (by decide)] at h; simpa using h)), f5 := (fun _ => rfl), f6 := (fun h => R.f6 (by rw [set_getD R.sz (by decide)] at h; simpa using h)), f7 := (fun h => R.f7 (by rw [set_getD R.sz (by decide)] at h; simpa using h)), f8 := (fun h => R.f8 (by rw [set_getD R.sz (by decide)] at h; simpa using h)), f11 := (fun h => R.f11 (by rw [set_getD R.sz (by decide)] at h; simpa using h)) }⟩
    · -- 6
      refine wpOp_step (o := { dst := some 30, op := Op.extract (Operand.tmp 24) 2, type := 4, pos := "law.go:16", after := #[{ on := 3, ground := Ground.data }, { on := 10, ground := Ground.gcOnly Departure.lateStores }], guard := none }) rfl (fun K hK => ?_)
      simp only [Region.wanted, ↓reduceIte]
      have d3 := ready_after hi (o := { dst := some 30, op := Op.extract (Operand.tmp 24) 2, type := 4, pos := "law.go:16", after := #[{ on := 3, ground := Ground.data }, { on := 10, ground := Ground.gcOnly Departure.lateStores }], guard := none }) rfl ⟨3, Ground.data⟩ (by simp) rfl
      obtain rfl := R.f3 d3
      unfold Oper.wp
      rw [run_x2 (a := numV P2) (b := numV o6) (c := .bool false) rfl]
      exact hK _ _ ⟨v7, v8, v9, _, v25, v26, v27, v28, v29, (.bool false), rfl, { sz := (by rw [Array.size_setIfInBounds]; exact R.sz), b2 := (R.b2), b1 := (R.b1), f0 := (fun h => R.f0 (by rw [set_getD R.sz (by decide)] at h; simpa using h)), f1 := (fun h => R.f1 (by rw [set_getD R.sz (by decide)] at h; simpa using h)), f2 := (fun h => R.f2 (by rw [set_getD R.sz (by decide)] at h; simpa using h)), f3 := (fun h => R.f3 (by rw [set_getD R.sz (by decide)] at h; simpa using h)), f4 := (fun h => R.f4 (by rw [set_getD R.sz (by decide)] at h; simpa using h)), f5 := (fun h => R.f5 (by rw [set_getD R.sz (by decide)] at h; simpa using h)), f6 := (fun _ => rfl), f7 := (fun h => R.f7 (by rw [set_getD R.sz (by decide)] at h; simpa using h)), f8 := (fun h => R.f8 (by rw [set_getD R.sz (by decide)] at h; simpa using h)), f11 := (fun h => R.f11 (by rw [set_getD R.sz (by decide)] at h; simpa using h)) }⟩
    · -- 7
      refine wpOp_step (o := { dst := some 7, op := Op.alloc 26, type := 0, pos := "law.go:16", after := #[], guard := none }) rfl (fun K hK => ?_)
      simp only [Region.wanted, ↓reduceIte]
      unfold Oper.wp
      rw [run_al7]
      exact hK _ _ ⟨(.pointer (some ⟨w.heap.size, 0, none⟩)), v8, v9, v24, v25, v26, v27, v28, v29, v30, rfl, { sz := (by rw [Array.size_setIfInBounds]; exact R.sz), b2 := (eb_keep R.b2 (below_box _ _)), b1 := (eb_keep R.b1 (below_box _ _)), f0 := (fun h => R.f0 (by rw [set_getD R.sz (by decide)] at h; simpa using h)), f1 := (fun h => R.f1 (by rw [set_getD R.sz (by decide)] at h; simpa using h)), f2 := (fun h => R.f2 (by rw [set_getD R.sz (by decide)] at h; simpa using h)), f3 := (fun h => R.f3 (by rw [set_getD R.sz (by decide)] at h; simpa using h)), f4 := (fun h => R.f4 (by rw [set_getD R.sz (by decide)] at h; simpa using h)), f5 := (fun h => R.f5 (by rw [set_getD R.sz (by decide)] at h; simpa using h)), f6 := (fun h => R.f6 (by rw [set_getD R.sz (by decide)] at h; simpa using h)), f7 := (fun _ => ⟨_, rfl, ⟨zeroK, zero_new w⟩, num_lt R.b1.1, num_lt R.b2.1⟩), f8 := ((fun h => (by obtain ⟨g, e, hs, m1, m2⟩ := R.f8 (by rw [set_getD R.sz (by decide)] at h; simpa using h); exact ⟨g, e, six_keep hs (below_box _ _), m1, m2⟩))), f11 := (fun h => R.f11 (by rw [set_getD R.sz (by decide)] at h; simpa using h)) }⟩
    · -- 8
      refine wpOp_step (o := { dst := some 8, op := Op.alloc 26, type := 0, pos := "law.go:16", after := #[], guard := none }) rfl (fun K hK => ?_)
      simp only [Region.wanted, ↓reduceIte]
      unfold Oper.wp
      rw [run_al8]
      exact hK _ _ ⟨v7, (.pointer (some ⟨w.heap.size, 0, none⟩)), v9, v24, v25, v26, v27, v28, v29, v30, rfl, { sz := (by rw [Array.size_setIfInBounds]; exact R.sz), b2 := (eb_keep R.b2 (below_box _ _)), b1 := (eb_keep R.b1 (below_box _ _)), f0 := (fun h => R.f0 (by rw [set_getD R.sz (by decide)] at h; simpa using h)), f1 := (fun h => R.f1 (by rw [set_getD R.sz (by decide)] at h; simpa using h)), f2 := (fun h => R.f2 (by rw [set_getD R.sz (by decide)] at h; simpa using h)), f3 := (fun h => R.f3 (by rw [set_getD R.sz (by decide)] at h; simpa using h)), f4 := (fun h => R.f4 (by rw [set_getD R.sz (by decide)] at h; simpa using h)), f5 := (fun h => R.f5 (by rw [set_getD R.sz (by decide)] at h; simpa using h)), f6 := (fun h => R.f6 (by rw [set_getD R.sz (by decide)] at h; simpa using h)), f7 := ((fun h => (by obtain ⟨g, e, hs, m1, m2⟩ := R.f7 (by rw [set_getD R.sz (by decide)] at h; simpa using h); exact ⟨g, e, six_keep hs (below_box _ _), m1, m2⟩))), f8 := (fun _ => ⟨_, rfl, ⟨zeroK, zero_new w⟩, num_lt R.b1.1, num_lt R.b2.1⟩), f11 := (fun h => R.f11 (by rw [set_getD R.sz (by decide)] at h; simpa using h)) }⟩
    · -- 9
      refine wpOp_step (o := { dst := none, op := Op.store 26 (Operand.tmp 7) (Operand.tmp 28), type := 0, pos := "law.go:16", after := #[{ on := 7, ground := Ground.data }, { on := 4, ground := Ground.data }, { on := 2, ground := Ground.chain }, { on := 0, ground := Ground.phase }, { on := 1, ground := Ground.phase }, { on := 2, ground := Ground.phase }, { on := 3, ground := Ground.phase }, { on := 4, ground := Ground.phase }, { on := 5, ground := Ground.textOnly Departure.lateStores }, { on := 6, ground := Ground.textOnly Departure.lateStores }, { on := 7, ground := Ground.phase }, { on := 8, ground := Ground.phase }], guard := none }) rfl (fun K hK => ?_)
      simp only [Region.wanted, ↓reduceIte]
      have d7 := ready_after hi (o := { dst := none, op := Op.store 26 (Operand.tmp 7) (Operand.tmp 28), type := 0, pos := "law.go:16", after := #[{ on := 7, ground := Ground.data }, { on := 4, ground := Ground.data }, { on := 2, ground := Ground.chain }, { on := 0, ground := Ground.phase }, { on := 1, ground := Ground.phase }, { on := 2, ground := Ground.phase }, { on := 3, ground := Ground.phase }, { on := 4, ground := Ground.phase }, { on := 5, ground := Ground.textOnly Departure.lateStores }, { on := 6, ground := Ground.textOnly Departure.lateStores }, { on := 7, ground := Ground.phase }, { on := 8, ground := Ground.phase }], guard := none }) rfl ⟨7, Ground.data⟩ (by simp) rfl
      have d4 := ready_after hi (o := { dst := none, op := Op.store 26 (Operand.tmp 7) (Operand.tmp 28), type := 0, pos := "law.go:16", after := #[{ on := 7, ground := Ground.data }, { on := 4, ground := Ground.data }, { on := 2, ground := Ground.chain }, { on := 0, ground := Ground.phase }, { on := 1, ground := Ground.phase }, { on := 2, ground := Ground.phase }, { on := 3, ground := Ground.phase }, { on := 4, ground := Ground.phase }, { on := 5, ground := Ground.textOnly Departure.lateStores }, { on := 6, ground := Ground.textOnly Departure.lateStores }, { on := 7, ground := Ground.phase }, { on := 8, ground := Ground.phase }], guard := none }) rfl ⟨4, Ground.data⟩ (by simp) rfl
      obtain ⟨g, rfl, hs0, l1, l2⟩ := R.f7 d7
      obtain rfl := R.f4 d4
      unfold Oper.wp
      rw [run_st9 (n := g) (k := P2) rfl rfl hs0]
      exact hK _ _ ⟨_, v8, v9, v24, v25, v26, v27, _, v29, v30, rfl, { sz := (by rw [Array.size_setIfInBounds]; exact R.sz), b2 := (eb_six R.b2 l2 _ _ _ _ _ _), b1 := (eb_six R.b1 l1 _ _ _ _ _ _), f0 := (fun h => R.f0 (by rw [set_getD R.sz (by decide)] at h; simpa using h)), f1 := (fun h => R.f1 (by rw [set_getD R.sz (by decide)] at h; simpa using h)), f2 := (fun h => R.f2 (by rw [set_getD R.sz (by decide)] at h; simpa using h)), f3 := (fun h => R.f3 (by rw [set_getD R.sz (by decide)] at h; simpa using h)), f4 := (fun h => R.f4 (by rw [set_getD R.sz (by decide)] at h; simpa using h)), f5 := (fun h => R.f5 (by rw [set_getD R.sz (by decide)] at h; simpa using h)), f6 := (fun h => R.f6 (by rw [set_getD R.sz (by decide)] at h; simpa using h)), f7 := ((fun h => (by obtain ⟨g, e, hs, m1, m2⟩ := R.f7 (by rw [set_getD R.sz (by decide)] at h; simpa using h); exact ⟨g, e, six_store hs P2, m1, m2⟩))), f8 := ((fun h => (by obtain ⟨g, e, hs, m1, m2⟩ := R.f8 (by rw [set_getD R.sz (by decide)] at h; simpa using h); exact ⟨g, e, six_store hs P2, m1, m2⟩))), f11 := (fun h => R.f11 (by rw [set_getD R.sz (by decide)] at h; simpa using h)) }⟩
    · -- 10
      refine wpOp_step (o := { dst := none, op := Op.store 26 (Operand.tmp 8) (Operand.tmp 29), type := 0, pos := "law.go:16", after := #[{ on := 8, ground := Ground.data }, { on := 5, ground := Ground.data }, { on := 9, ground := Ground.chain }, { on := 0, ground := Ground.phase }, { on := 1, ground := Ground.phase }, { on := 2, ground := Ground.phase }, { on := 3, ground := Ground.phase }, { on := 4, ground := Ground.phase }, { on := 5, ground := Ground.phase }, { on := 6, ground := Ground.textOnly Departure.lateStores }, { on := 7, ground := Ground.phase }, { on := 8, ground := Ground.phase }, { on := 9, ground := Ground.phase }], guard := none }) rfl (fun K hK => ?_)
      simp only [Region.wanted, ↓reduceIte]
      have d8 := ready_after hi (o := { dst := none, op := Op.store 26 (Operand.tmp 8) (Operand.tmp 29), type := 0, pos := "law.go:16", after := #[{ on := 8, ground := Ground.data }, { on := 5, ground := Ground.data }, { on := 9, ground := Ground.chain }, { on := 0, ground := Ground.phase }, { on := 1, ground := Ground.phase }, { on := 2, ground := Ground.phase }, { on := 3, ground := Ground.phase }, { on := 4, ground := Ground.phase }, { on := 5, ground := Ground.phase }, { on := 6, ground := Ground.textOnly Departure.lateStores }, { on := 7, ground := Ground.phase }, { on := 8, ground := Ground.phase }, { on := 9, ground := Ground.phase }], guard := none }) rfl ⟨8, Ground.data⟩ (by simp) rfl
      have d5 := ready_after hi (o := { dst := none, op := Op.store 26 (Operand.tmp 8) (Operand.tmp 29), type := 0, pos := "law.go:16", after := #[{ on := 8, ground := Ground.data }, { on := 5, ground := Ground.data }, { on := 9, ground := Ground.chain }, { on := 0, ground := Ground.phase }, { on := 1, ground := Ground.phase }, { on := 2, ground := Ground.phase }, { on := 3, ground := Ground.phase }, { on := 4, ground := Ground.phase }, { on := 5, ground := Ground.phase }, { on := 6, ground := Ground.textOnly Departure.lateStores }, { on := 7, ground := Ground.phase }, { on := 8, ground := Ground.phase }, { on := 9, ground := Ground.phase }], guard := none }) rfl ⟨5, Ground.data⟩ (by simp) rfl
      obtain ⟨g, rfl, hs0, l1, l2⟩ := R.f8 d8
      obtain rfl := R.f5 d5
      unfold Oper.wp
      rw [run_st10 (n := g) (k := o6) rfl rfl hs0]
      exact hK _ _ ⟨v7, _, v9, v24, v25, v26, v27, v28, _, v30, rfl, { sz := (by rw [Array.size_setIfInBounds]; exact R.sz), b2 := (eb_six R.b2 l2 _ _ _ _ _ _), b1 := (eb_six R.b1 l1 _ _ _ _ _ _), f0 := (fun h => R.f0 (by rw [set_getD R.sz (by decide)] at h; simpa using h)), f1 := (fun h => R.f1 (by rw [set_getD R.sz (by decide)] at h; simpa using h)), f2 := (fun h => R.f2 (by rw [set_getD R.sz (by decide)] at h; simpa using h)), f3 := (fun h => R.f3 (by rw [set_getD R.sz (by decide)] at h; simpa using h)), f4 := (fun h => R.f4 (by rw [set_getD R.sz (by decide)] at h; simpa using h)), f5 := (fun h => R.f5 (by rw [set_getD R.sz (by decide)] at h; simpa using h)), f6 := (fun h => R.f6 (by rw [set_getD R.sz (by decide)] at h; simpa using h)), f7 := ((fun h => (by obtain ⟨g, e, hs, m1, m2⟩ := R.f7 (by rw [set_getD R.sz (by decide)] at h; simpa using h); exact ⟨g, e, six_store hs o6, m1, m2⟩))), f8 := ((fun h => (by obtain ⟨g, e, hs, m1, m2⟩ := R.f8 (by rw [set_getD R.sz (by decide)] at h; simpa using h); exact ⟨g, e, six_store hs o6, m1, m2⟩))), f11 := (fun h => R.f11 (by rw [set_getD R.sz (by decide)] at h; simpa using h)) }⟩
    · -- 11
      refine wpOp_step (o := { dst := some 9, op := Op.assign (Operand.tmp 30), type := 4, pos := "law.go:16", after := #[{ on := 6, ground := Ground.data }, { on := 10, ground := Ground.chain }, { on := 0, ground := Ground.phase }, { on := 1, ground := Ground.phase }, { on := 2, ground := Ground.phase }, { on := 3, ground := Ground.phase }, { on := 4, ground := Ground.phase }, { on := 5, ground := Ground.phase }, { on := 6, ground := Ground.phase }, { on := 7, ground := Ground.phase }, { on := 8, ground := Ground.phase }, { on := 9, ground := Ground.phase }, { on := 10, ground := Ground.phase }], guard := none }) rfl (fun K hK => ?_)
      simp only [Region.wanted, ↓reduceIte]
      have d6 := ready_after hi (o := { dst := some 9, op := Op.assign (Operand.tmp 30), type := 4, pos := "law.go:16", after := #[{ on := 6, ground := Ground.data }, { on := 10, ground := Ground.chain }, { on := 0, ground := Ground.phase }, { on := 1, ground := Ground.phase }, { on := 2, ground := Ground.phase }, { on := 3, ground := Ground.phase }, { on := 4, ground := Ground.phase }, { on := 5, ground := Ground.phase }, { on := 6, ground := Ground.phase }, { on := 7, ground := Ground.phase }, { on := 8, ground := Ground.phase }, { on := 9, ground := Ground.phase }, { on := 10, ground := Ground.phase }], guard := none }) rfl ⟨6, Ground.data⟩ (by simp) rfl
      obtain rfl := R.f6 d6
      unfold Oper.wp
      rw [run_as]
      exact hK _ _ ⟨v7, v8, (.bool false), v24, v25, v26, v27, v28, v29, _, rfl, { sz := (by rw [Array.size_setIfInBounds]; exact R.sz), b2 := (R.b2), b1 := (R.b1), f0 := (fun h => R.f0 (by rw [set_getD R.sz (by decide)] at h; simpa using h)), f1 := (fun h => R.f1 (by rw [set_getD R.sz (by decide)] at h; simpa using h)), f2 := (fun h => R.f2 (by rw [set_getD R.sz (by decide)] at h; simpa using h)), f3 := (fun h => R.f3 (by rw [set_getD R.sz (by decide)] at h; simpa using h)), f4 := (fun h => R.f4 (by rw [set_getD R.sz (by decide)] at h; simpa using h)), f5 := (fun h => R.f5 (by rw [set_getD R.sz (by decide)] at h; simpa using h)), f6 := (fun h => R.f6 (by rw [set_getD R.sz (by decide)] at h; simpa using h)), f7 := (fun h => R.f7 (by rw [set_getD R.sz (by decide)] at h; simpa using h)), f8 := (fun h => R.f8 (by rw [set_getD R.sz (by decide)] at h; simpa using h)), f11 := (fun _ => rfl) }⟩
end Go.Proofs.Ytbljijbmjccalaa

/-
  Proved here: the document's examples of chapter narrow come out: alive returns true. Conditions: none.
-/
namespace Go.Proofs.Ytbljijbmjccalaa
open Go.RowKit
attribute [local go_sem] u_and u_or u_xor u_andNot u_add u_sub s_conv u_conv max_u min_u max_s min_s u_inc u_less s_inc s_less s_inc64 s_less64
set_option linter.unusedSimpArgs false


def Pe : K := (ruleT 32 true allK (oneK 5#64)).x.fine
def Qe : K := (ruleT 32 true allK (oneK 5#64)).y.fine
def Pf : K := (ruleT 32 false allK (oneK 5#64)).x.fine
def Qf : K := (ruleT 32 false allK (oneK 5#64)).y.fine
theorem ex_good1 : (ruleT 32 true allK (oneK 5#64)).good = true := by decide +kernel
theorem ex_good2 : (ruleT 32 false allK (oneK 5#64)).good = true := by decide +kernel
theorem ex_good3 : (ruleT 16 true Pf (oneK 6#64)).good = false := by decide +kernel
theorem ex_a : u Pe.a = 6 := by decide +kernel
theorem ex_b : u Pf.b = 5 := by decide +kernel
theorem ex_way1 : wayV 32 true allK (oneK 5#64) true = .tuple #[numV Pe, numV Qe, .bool true] := by
  unfold wayV
  rw [if_pos (show tells 32 true allK (oneK 5#64) = true from rfl)]
  unfold backV
  rw [if_pos ex_good1]
  rfl
theorem ex_way2 : wayV 32 true allK (oneK 5#64) false = .tuple #[numV Pf, numV Qf, .bool true] := by
  unfold wayV
  rw [if_pos (show tells 32 true allK (oneK 5#64) = true from rfl)]
  unfold backV
  rw [if_pos ex_good2]
  rfl
theorem ex_way3 : wayV 16 true Pf (oneK 6#64) true = .tuple #[numV Pf, numV (oneK 6#64), .bool false] := by
  unfold wayV
  rw [if_pos (show tells 16 true Pf (oneK 6#64) = true from rfl)]
  unfold backV
  rw [if_neg (by rw [ex_good3]; exact Bool.false_ne_true)]
set_option maxRecDepth 100000 in
set_option maxHeartbeats 16000000 in
theorem alive_num (w : World) : Calls Try.prog 5 #[] w (Gives (.bool true) w) := by
  have hall := fun W => refall_num W
  have hc5 := fun W => refconst_num 5#64 W
  have hc6 := fun W => refconst_num 6#64 W
  have h1 := fun W => way_num 32 true true allK (oneK 5#64) W
  have h2 := fun W => way_num 32 true false allK (oneK 5#64) W
  have h3 := fun W => way_num 16 true true Pf (oneK 6#64) W
  rw [ex_way1] at h1
  rw [ex_way2] at h2
  rw [ex_way3] at h3
  have va := ex_a
  have vb := ex_b
  have l5 : u 5#64 = 5 := rfl
  have l6 : u 6#64 = 6 := rfl
  rw [l5] at hc5
  rw [l6] at hc6
  obtain ⟨A, hA⟩ : ∃ e, allK = e := ⟨_, rfl⟩
  obtain ⟨o5, h5⟩ : ∃ e, oneK 5#64 = e := ⟨_, rfl⟩
  obtain ⟨o6, h6⟩ : ∃ e, oneK 6#64 = e := ⟨_, rfl⟩
  obtain ⟨P1, hP1⟩ : ∃ e, Pe = e := ⟨_, rfl⟩
  obtain ⟨Q1, hQ1⟩ : ∃ e, Qe = e := ⟨_, rfl⟩
  obtain ⟨P2, hP2⟩ : ∃ e, Pf = e := ⟨_, rfl⟩
  obtain ⟨Q2, hQ2⟩ : ∃ e, Qf = e := ⟨_, rfl⟩
  rw [hA] at hall h1 h2
  rw [h5] at hc5 h1 h2
  rw [h6] at hc6 h3
  rw [hP1, hQ1] at h1
  rw [hP2, hQ2] at h2
  rw [hP2] at h3 vb
  rw [hP1] at va
  clear hA h5 h6 hP1 hQ1 hP2 hQ2 l5 l6
  have VA := Lib.hid va
  have VB := Lib.hid vb
  clear va vb
  have hc6n := hc6
  have h3n := h3
  unfold numV at hall hc5 h1 h2
  clear hc6 h3
  unfold Gives
  go_enter Try.func5, Try.ntmps5
  go_upto_region 2 with (first
    | (go_at_call 10; refine (hall _).mono ?_; rintro e w1 ⟨rfl, hb⟩; have HB := Lib.hid hb; clear hb)
    | (go_at_call 11; refine (hc5 _).mono ?_; rintro e w2 ⟨rfl, hb⟩; replace HB := Lib.hid (HB.out.trans (hb.mono HB.out.size)); clear hb)
    | (go_at_call 6; refine (h1 _).mono ?_; rintro e w3 ⟨rfl, hb⟩; have H1 := Lib.hid (eb_new (HB.out.trans (hb.mono HB.out.size)) P1); clear hb HB))
  have HX := Lib.hid (eb_keep H1.out (below_box _ (.cells #[.int .u64 (u Q1.v), .int .u64 (u Q1.m), .int .u64 (u Q1.a), .int .u64 (u Q1.b), .int .i64 (s Q1.c), .int .i64 (s Q1.d)] 26)))
  clear H1
  generalize World.alloc _ _ = Wa at HX ⊢
  generalize w3.heap.size = na at HX ⊢
  obtain ⟨W1, hW1⟩ : ∃ W, Wa = W := ⟨_, rfl⟩
  obtain ⟨n1, hn1⟩ : ∃ n, na = n := ⟨_, rfl⟩
  rw [hW1, hn1] at HX
  rw [hW1, hn1]
  clear hW1 hn1
  have H1 := HX
  clear HX h1
  go_upto_region 3 with (first
    | (go_at_call 10; refine (hall _).mono ?_; rintro e w4 ⟨rfl, hb⟩; replace H1 := Lib.hid (eb_keep H1.out hb); clear hb)
    | (go_at_call 11; refine (hc5 _).mono ?_; rintro e w5 ⟨rfl, hb⟩; replace H1 := Lib.hid (eb_keep H1.out hb); clear hb)
    | (go_at_call 6; refine (h2 _).mono ?_; rintro e w6 ⟨rfl, hb⟩; replace H1 := Lib.hid (eb_keep H1.out hb); have H2 := Lib.hid (eb_new H1.out.2.2 P2); clear hb))
  have HX := Lib.hid (eb_keep H1.out ((below_box w6 (.cells #[.int .u64 (u P2.v), .int .u64 (u P2.m), .int .u64 (u P2.a), .int .u64 (u P2.b), .int .i64 (s P2.c), .int .i64 (s P2.d)] 26)).trans ((below_box _ (.cells #[.int .u64 (u Q2.v), .int .u64 (u Q2.m), .int .u64 (u Q2.a), .int .u64 (u Q2.b), .int .i64 (s Q2.c), .int .i64 (s Q2.d)] 26)).mono (by simp))))
  have HY := Lib.hid (eb_keep H2.out (below_box _ (.cells #[.int .u64 (u Q2.v), .int .u64 (u Q2.m), .int .u64 (u Q2.a), .int .u64 (u Q2.b), .int .i64 (s Q2.c), .int .i64 (s Q2.d)] 26)))
  clear H1 H2
  generalize World.alloc _ _ = Wa at HX HY ⊢
  generalize w6.heap.size = nb at HY ⊢
  obtain ⟨W2, hW2⟩ : ∃ W, Wa = W := ⟨_, rfl⟩
  obtain ⟨n2, hn2⟩ : ∃ n, nb = n := ⟨_, rfl⟩
  rw [hW2] at HX HY
  rw [hn2] at HY
  rw [hW2, hn2]
  clear hW2 hn2 h2 hall hc5
  have y1 := num_lt HX.out.1
  have y2 := num_lt HY.out.1
  clear y1 y2
  go_cut [9] (fun c wx => c = .bool false ∧ EB w n2 P2 wx ∧ EB w n1 P1 wx)
  case first =>
    refine third (w0 := w) hc6n h3n HY.out HX.out ?_
    rintro v7 v8 v9 v24 v25 v26 v27 v28 v29 v30 W' rfl hE2 hE1
    first
      | (go_meet; exact ⟨rfl, hE2, hE1⟩)
      | (go_wp2_with fail; go_meet; exact ⟨rfl, hE2, hE1⟩)
      | (go_meet; go_meet; exact ⟨rfl, hE2, hE1⟩)
      | (show _; trace_state; fail)
  case rest =>
    obtain ⟨rfl, hE2, hE1⟩ := hcut
    have H2 := Lib.hid hE2
    have H1 := Lib.hid hE1
    clear hE1 hE2 HX HY
    obtain ⟨a0, a1, a2, a3, a4, a5⟩ := num_cells H1.out.1
    obtain ⟨b0, b1, b2, b3, b4, b5⟩ := num_cells H2.out.1
    rw [VA.out] at a2
    rw [VB.out] at b3
    go_wp2
    go_ret
    exact ⟨by simp, H1.out.2.2⟩
end Go.Proofs.Ytbljijbmjccalaa
