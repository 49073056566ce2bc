/-
  Proved here: what an operation makes of the bytes; what Write of the document does, for whatever operation. Conditions: as each says.
-/
import Derived.Test.YtdboapeookmfkaaOps
namespace Go.Proofs.Ytdboapeookmfkaa
open Go.RowKit

/-- The bytes behind an operation. -/
def putO (zs : List Int) (s n : Nat) (K T C : Int) : List Int := if 0 ≤ K ∧ K < n ∧ 0 ≤ T ∧ T < s then zs.set (K.toNat * s + T.toNat) C else zs
theorem putO_yes {zs : List Int} {s n q t : Nat} {C : Int} (hq : q < n) (ht : t < s) : putO zs s n q t C = zs.set (q * s + t) C := by
  unfold putO
  rw [if_pos (by omega)]
  rfl
theorem putO_no {zs : List Int} {s n : Nat} {K T C : Int} (h : ¬ (0 ≤ K ∧ K < n ∧ 0 ≤ T ∧ T < s)) : putO zs s n K T C = zs := if_neg h
/-- What is known in a round. -/
def Know (W wr : World) (A G R B cap s n L : Nat) (gs : Nat → Nat) (zs ys : List Int) (c x : Value) : Prop :=
  St W wr A G R B cap s n L gs zs ys ∧ CopySt wr G s n L gs c x
section
variable {W wr wx : World} {A G R B cap s n L : Nat} {gs : Nat → Nat} {zs ys : List Int} {c x : Value}
theorem Know.stay (h : Know W wr A G R B cap s n L gs zs ys c x) (hd : Dim s n L) (hb : Below wr.heap.size wr wx) : Know W wx A G R B cap s n L gs zs ys c x :=
  ⟨h.1.stay hd.s0 hd.n0 hb, h.2.stay hb⟩
theorem Know.drew (h : Know W wr A G R B cap s n L gs zs ys c x) (hd : Dim s n L) : Know W wr.drew A G R B cap s n L gs zs ys c x := h.stay hd (Below.refl _ _).drew
theorem Know.putA {p : Nat} {y : Int} (h : Know W wr A G R B cap s n L gs zs ys c x) (ha : Apart W A G R B n gs) (hp : p < L) : Know W (wr.setCell ⟨G, p, none⟩ (.int .u8 y)) A G R B cap s n L gs (zs.set p y) ys c x :=
  ⟨h.1.putA ha hp, h.2.far _ _ (.inl rfl)⟩
/-- Write of the document, for whatever operation. -/
theorem write_any (h : Know W wr A G R B cap s n L gs zs ys c x) (ha : Apart W A G R B n gs) (hd : Dim s n L) (K T C : Int) :
    Calls Try.prog 11 #[.pointer (some ⟨R, 0, none⟩), .int .i64 K, .int .i64 T, .int .u8 C] wr (fun e w' => e = .returned (.tuple #[]) ∧ Know W w' A G R B cap s n L gs zs (putO ys s n K T C) c x) := by
  by_cases hin : 0 ≤ K ∧ K < n ∧ 0 ≤ T ∧ T < s
  · obtain ⟨a1, a2, a3, a4⟩ := hin
    obtain ⟨q, rfl⟩ := Int.eq_ofNat_of_zero_le a1
    obtain ⟨t, rfl⟩ := Int.eq_ofNat_of_zero_le a3
    have hq : q < n := by omega
    have ht : t < s := by omega
    rw [putO_yes hq ht]
    refine (write_yes _ _ _ _ _ _ _ _ _ _ _ _ h.1.rf hq ht).mono ?_
    rintro e w' ⟨rfl, rfl⟩
    exact ⟨rfl, h.1.putR ha hd hq ht, h.2.far _ _ (.inr ⟨q, hq, rfl⟩)⟩
  · rw [putO_no hin]
    refine (write_no _ _ _ _ _ _ _ _ _ _ _ _ h.1.rf hin).mono ?_
    rintro e w' ⟨rfl, rfl⟩
    exact ⟨rfl, h⟩
/-- The bytes of a slot of the array, as the law has them. -/
theorem Know.slot (h : Know W wr A G R B cap s n L gs zs ys c x) (hd : Dim s n L) {q p : Nat} (hq : q < n) (hp : q * s = p) : ∀ j u, (u8s (slotL zs s q))[j]? = some u → wr.cell? ⟨G, p + j, none⟩ = some u := by
  have hps := hd.at hq
  refine u8s_cells (slotL_length h.1.arr.len hps) fun j hj => ?_
  rw [slotL_get hj, ← hp]
  have := h.1.arr.row (q * s + j) (by omega)
  rwa [Nat.zero_add] at this
theorem Know.slotLen (h : Know W wr A G R B cap s n L gs zs ys c x) (hd : Dim s n L) {q : Nat} (hq : q < n) : (u8s (slotL zs s q)).length = s * 1 := by
  rw [u8s_length, slotL_length h.1.arr.len (hd.at hq), Nat.mul_one]
/-- A byte more is put behind a slot's bytes: a new row. -/
theorem wpList_junk (h : Know W wr A G R B cap s n L gs zs ys c x) (hd : Dim s n L) {q p : Nat} (hq : q < n) (hp : q * s = p) {ops : Array Oper} {rest : List Oper} {o : Oper} {a : Act} {Q : Exit → Act → World → Prop} (hgd : o.guard = none) (a1 a2 : Operand)
    (ho : o.op = .call { callee := .builtin .append, args := #[a1, a2], argTypes := #[32, 32] }) (e1 : a.eval a1 = .slice (some ⟨G, p, none⟩) s s) (e2 : a.eval a2 = .slice (some ⟨wr.heap.size, 0, none⟩) 1 1)
    (hK : ∀ v' w', Know W w' A G R B cap s n L gs zs ys c x → wpList Try.prog ops Q rest (a.put o.dst v') w') : wpList Try.prog ops Q (o :: rest) a (wr.alloc (.cells #[.int .u8 77] 5)) := by
  obtain ⟨i0, hi0, hz0, hz1, hz2⟩ := info_parts u8_info
  have hs := hd.s1
  refine wpList_append_grows _ hgd _ _ 32 ho 5 i0 _ 1 1 Try.underlying32 hi0 hz0 hz1 hz2 rfl (by omega) (some ⟨G, p, none⟩) s s (u8s (slotL zs s q)) e1 (fun e => by cases e) (h.slotLen hd hq)
    (fun b hb j u hu => by injection hb with hb; subst hb; rw [add_lit, World.cell?_alloc_lt _ _ _ h.1.arr.lt]; exact h.slot hd hq hp j u hu) ⟨wr.heap.size, 0, none⟩ 1 1 [.int .u8 77] e2 rfl (cell_one_new _ _ _) (fun u hu => by simp at hu; subst hu; rfl)
    (by omega) (by unfold maxLen; omega) (by omega) fun v' w' _ hgr => hK v' w' (h.stay hd ?_)
  exact ((Below.refl _ _).alloc (Nat.le_refl _) _).grown hgr (by simp) (fun k hk => by cases hk)
/-- .. behind none. -/
theorem wpList_junk0 (h : Know W wr A G R B cap s n L gs zs ys c x) (hd : Dim s n L) {ops : Array Oper} {rest : List Oper} {o : Oper} {a : Act} {Q : Exit → Act → World → Prop} (hgd : o.guard = none) (a1 a2 : Operand)
    (ho : o.op = .call { callee := .builtin .append, args := #[a1, a2], argTypes := #[32, 32] }) (e1 : a.eval a1 = .slice none 0 0) (e2 : a.eval a2 = .slice (some ⟨wr.heap.size, 0, none⟩) 1 1)
    (hK : ∀ v' w', Know W w' A G R B cap s n L gs zs ys c x → wpList Try.prog ops Q rest (a.put o.dst v') w') : wpList Try.prog ops Q (o :: rest) a (wr.alloc (.cells #[.int .u8 77] 5)) := by
  obtain ⟨i0, hi0, hz0, hz1, hz2⟩ := info_parts u8_info
  refine wpList_append_grows _ hgd _ _ 32 ho 5 i0 _ 1 1 Try.underlying32 hi0 hz0 hz1 hz2 rfl (by omega) none 0 0 [] e1 (fun _ => ⟨rfl, rfl⟩) rfl
    (fun b hb => by cases hb) ⟨wr.heap.size, 0, none⟩ 1 1 [.int .u8 77] e2 rfl (cell_one_new _ _ _) (fun u hu => by simp at hu; subst hu; rfl)
    (by omega) (by unfold maxLen; omega) (by omega) fun v' w' _ hgr => hK v' w' (h.stay hd ?_)
  exact ((Below.refl _ _).alloc (Nat.le_refl _) _).grown hgr (by simp) (fun k hk => by cases hk)
end
end Go.Proofs.Ytdboapeookmfkaa
