/-
  Proved here: what Held and End of the document's rings tell, and what they make of the ring. Conditions: as each says.
-/
import Derived.Test.YthpfockaipbhgaaRg
namespace Go.Proofs.Ythpfockaipbhgaa
open Go.RowKit

/-! ### Held -/
def heldT (rs : List Rc) : Nat → List Int
  | 0 => []
  | k + 1 => heldT rs k ++ if hasR rs (k : Int) = true then [(k : Int)] else []
def heldR (rs : List Rc) : List Int := heldT rs rs.length
theorem heldT_len (rs : List Rc) : ∀ k, (heldT rs k).length ≤ k
  | 0 => Nat.le_refl _
  | k + 1 => by
    have := heldT_len rs k
    show (heldT rs k ++ _).length ≤ _
    rw [List.length_append]
    split <;> simp <;> omega
def ints (xs : List Int) : List Value := xs.map (Value.int .i64)
/-- A slice of numbers to be looked at, all its blocks in E. -/
def IntsIn (w : World) (E : Nat → Prop) (a : Option Addr) (xs : List Int) : Prop := 0 < xs.length → ∃ g, a = some ⟨g, 0, none⟩ ∧ E g ∧ g < w.heap.size ∧ ∀ i, i < xs.length → w.cell? ⟨g, i, none⟩ = some (.int .i64 (xs.getD i 0))
theorem IntsIn.kept {w w' : World} {E : Nat → Prop} {a : Option Addr} {xs : List Int} (h : IntsIn w E a xs) (hz : w.heap.size ≤ w'.heap.size) (e : ∀ b, E b → b < w.heap.size → w'.heap[b]? = w.heap[b]?) : IntsIn w' E a xs := fun h0 => by
  obtain ⟨g, e1, e2, e3, hc⟩ := h h0
  exact ⟨g, e1, e2, Nat.lt_of_lt_of_le e3 hz, fun i hi => (World.cell?_of_block (w := w) (a := ⟨g, i, none⟩) (e g e2 e3)).trans (hc i hi)⟩
theorem ints_in {w : World} {B n : Nat} {v : Value} {xs : List Int} (hn : xs.length = n) (h : w.ownsRow B 3 1 v n (ints xs)) : ∃ a c, v = .slice a n c ∧ IntsIn w (fun b => B ≤ b) a xs := by
  rcases h.2 with ⟨rfl, h0⟩ | ⟨g, cap, cur, hv, hg, hh, -⟩
  · exact ⟨none, 0, by rw [h0], fun hp => by omega⟩
  · subst hv
    refine ⟨_, cap, rfl, fun _ => ⟨g, rfl, hg, (Array.getElem?_eq_some_iff.1 hh).1, fun i hi => ?_⟩⟩
    rw [h.cellAt i (by omega), ints, List.getElem?_map, List.getElem?_eq_getElem hi, List.getD_eq_getElem?_getD, List.getElem?_eq_getElem hi]
    rfl
def IntsP (xs : List Int) (W : World) (e : Ending) (w : World) : Prop := ∃ a c, e = .returned (.slice a xs.length c) ∧ IntsIn w (fun b => W.heap.size ≤ b) a xs ∧ Below W.heap.size W w
theorem int_info : (Try.prog.info? 3).map (fun i => (i.zero, i.size, i.bytes)) = some (some (.int .i64 0), 1, 8) := by kernel_rfl
theorem one_new (W : World) (v : Value) (e : TypeId) : ∀ j u, [v][j]? = some u → (W.alloc (.cells #[v] e)).cell? ((⟨W.heap.size, 0, none⟩ : Addr).add j) = some u := by
  intro j u hu
  have hn : (W.alloc (.cells #[v] e)).heap[W.heap.size]? = some (.cells #[v] e) := heap_alloc_new W _
  rw [add_lit, Nat.zero_add]
  unfold World.cell?
  simp only [hn]
  simpa using hu
/-- How far it has come. -/
structure Hm (W wr : World) (v : Value) (xs : List Int) : Prop where
  own : wr.ownsRow W.heap.size 3 1 v xs.length (ints xs)
  b : Below W.heap.size W wr
theorem Hm.push {W wr w' : World} {v v' : Value} {xs : List Int} {x : Int} (h : Hm W wr v xs) (hown : w'.ownsRow W.heap.size 3 1 v' (xs.length + 1) (ints xs ++ [.int .i64 x])) (hg : (wr.alloc (.cells #[.int .i64 x] 3)).grownBy w' v.ownBlock) : Hm W w' v' (xs ++ [x]) := by
  refine ⟨?_, (h.b.alloc h.b.size _).grown hg (by have := h.b.size; simp; omega) (fun k hk => (h.own.lt k hk).1)⟩
  rw [List.length_append]
  simpa [ints] using hown
set_option maxRecDepth 100000 in
theorem rg_held {w : World} {H : Nat} {room drops : Int} {kv : Value} {gs : Nat → Nat} {rs : List Rc} (h : Rg w H room drops kv gs rs) :
    Calls Try.prog 32 #[.pointer (some ⟨H, 0, none⟩)] w (IntsP (heldR rs) w) := by
  obtain ⟨a, c, rfl, -⟩ := h.shape
  have hle := h.le
  obtain ⟨m, hm⟩ : ∃ m, rs.length = m := ⟨_, rfl⟩
  have HG := Lib.hid h
  rw [hm] at hle HG
  have HM := Lib.hid hm
  obtain ⟨i0, hi0, hz0, hz1, hz2⟩ := info_parts int_info
  have HI := Lib.hid (And.intro hi0 (And.intro hz0 (And.intro hz1 hz2)))
  clear h hm hi0 hz0 hz1 hz2
  go_enter Try.func32, Try.ntmps32
  go_wp2
  go_loopw [3, 4] (fun s v wr => ∃ k : Nat, k ≤ m ∧ v = .int .i64 k ∧ Hm w wr s (heldT rs k)) (fun _ v _ => 1001 - (intOf v).toNat)
  case atStart => exact ⟨0, by omega, rfl, ⟨World.ownsRow_nil _ _ _ _, Below.refl _ _⟩⟩
  case round =>
    obtain ⟨k, hk, rfl, hhm⟩ := hrel
    have HHM := Lib.hid hhm
    have HGW := Lib.hid (HG.out.stay hhm.b)
    have c2 := HGW.out.h2
    have hln := heldT_len rs k
    clear hhm
    by_cases hlt : k < m
    · obtain ⟨b, hb⟩ : ∃ b, hasR rs (k : Int) = b := ⟨_, rfl⟩
      have HB := Lib.hid hb
      clear hb
      cases b
      · have hs : heldT rs (k + 1) = heldT rs k := by
          show heldT rs k ++ _ = _
          rw [HB.out]; simp
        have HS := Lib.hid hs
        clear hs
        go_wp2_with (go_at_call 18; refine (rg_has HGW.out _).mono ?_; rintro e w1 ⟨he, hw⟩; rw [HB.out] at he; subst he; subst hw)
        go_roundw
        case rel => exact ⟨k + 1, by omega, by go_num, by rw [HS.out]; exact HHM.out⟩
        case measure => simp [intOf]; omega
      · have hs : heldT rs (k + 1) = heldT rs k ++ [(k : Int)] := by
          show heldT rs k ++ _ = _
          rw [HB.out]; simp
        have HS := Lib.hid hs
        clear hs
        go_wp2_with (first
          | (go_at_call 18; refine (rg_has HGW.out _).mono ?_; rintro e w1 ⟨he, hw⟩; rw [HB.out] at he; subst he; subst hw)
          | (at_builtin; refine wpList_append_own_at _ rfl _ _ 69 rfl w.heap.size 3 i0 _ 1 8 Try.underlying69 HI.out.1 HI.out.2.1 HI.out.2.2.1 HI.out.2.2.2 rfl (by omega) _ _ _ rfl (HHM.out.own.alloc _) ⟨wr.heap.size, 0, none⟩ 1 1 [.int .i64 (k : Int)] rfl rfl (one_new _ _ _) (fun u hu => by simp at hu; subst hu; rfl) (by unfold maxLen; omega) (by omega) (Nat.le_trans HHM.out.b.size (by simp)) ?_; intro v1 w2 hown hgr _ _; have HH2 := Lib.hid (HHM.out.push hown hgr); clear hown hgr))
        go_roundw
        case rel => exact ⟨k + 1, by omega, by go_num, by rw [HS.out]; exact HH2.out⟩
        case measure => simp [intOf]; omega
    · obtain rfl : k = m := by omega
      go_wp2
      go_ret
      obtain ⟨a', c', he, hin⟩ := ints_in rfl HHM.out.own
      rw [heldR, HM.out]
      exact ⟨a', c', by rw [← he]; rfl, hin, HHM.out.b⟩
end Go.Proofs.Ythpfockaipbhgaa
