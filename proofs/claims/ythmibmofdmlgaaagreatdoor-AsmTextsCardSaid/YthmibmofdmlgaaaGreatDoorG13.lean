import Derived.Test.YthmibmofdmlgaaaGreatDoorHWords
import Derived.Test.YthmibmofdmlgaaaGreatDoorG05
import Derived.Test.YthmibmofdmlgaaaGreatDoorHTableWalk
/-
  Proved here: no two words of a line that aren't from a register have one text, none is empty, none is that of a map. No Go text is spoken of. Conditions: none.
-/
namespace Go.Proofs.YthmibmofdmlgaaaGreatDoor
open Go.RowKit

/-- The texts of the words that aren't from a register, each with its opcode. -/
def texL (k : Nat) : Option (List UInt8 × Nat) := match wdOf (k : Int) with
  | some (t, _, false) => some (t, k)
  | _ => none
def texts : List (List UInt8 × Nat) := (List.range 256).filterMap texL
theorem texts_ok : ((texts.map Prod.fst).Nodup ∧ ∀ p ∈ texts, p.1 ≠ [] ∧ p.1 ≠ [109, 97, 112]) := by decide +kernel
theorem texts_mem {k : Nat} (hk : k < 256) {t : List UInt8} {ps : List Int} (h : wdOf (k : Int) = some (t, ps, false)) : (t, k) ∈ texts := by
  unfold texts
  rw [List.mem_filterMap]
  exact ⟨k, List.mem_range.2 hk, by unfold texL; rw [h]⟩
theorem nodup_fst : ∀ (l : List (List UInt8 × Nat)), (l.map Prod.fst).Nodup → ∀ t a b, (t, a) ∈ l → (t, b) ∈ l → a = b
  | [], _, _, _, _, h, _ => by cases h
  | p :: l, hn, t, a, b, ha, hb => by
    simp only [List.map_cons, List.nodup_cons] at hn
    rcases List.mem_cons.1 ha with e1 | h1
    · rcases List.mem_cons.1 hb with e2 | h2
      · rw [← e1] at e2; cases e2; rfl
      · exact absurd (List.mem_map.2 ⟨(t, b), h2, by rw [← e1]⟩) hn.1
    · rcases List.mem_cons.1 hb with e2 | h2
      · exact absurd (List.mem_map.2 ⟨(t, a), h1, by rw [← e2]⟩) hn.1
      · exact nodup_fst l hn.2 t a b h1 h2
theorem texts_one {a b : Int} (ha0 : 0 ≤ a) (ha1 : a ≤ 255) (hb0 : 0 ≤ b) (hb1 : b ≤ 255) {t : List UInt8} {ps ps' : List Int} (h1 : wdOf a = some (t, ps, false)) (h2 : wdOf b = some (t, ps', false)) : a = b := by
  obtain ⟨x, rfl⟩ := Int.eq_ofNat_of_zero_le ha0
  obtain ⟨y, rfl⟩ := Int.eq_ofNat_of_zero_le hb0
  have := nodup_fst texts texts_ok.1 t x y (texts_mem (by omega) h1) (texts_mem (by omega) h2)
  rw [this]
theorem texts_not {a : Int} (ha0 : 0 ≤ a) (ha1 : a ≤ 255) {t : List UInt8} {ps : List Int} (h1 : wdOf a = some (t, ps, false)) : t ≠ [] ∧ t ≠ [109, 97, 112] := by
  obtain ⟨x, rfl⟩ := Int.eq_ofNat_of_zero_le ha0
  exact texts_ok.2 _ (texts_mem (by omega) h1)
end Go.Proofs.YthmibmofdmlgaaaGreatDoor

/-
  Proved here: a store into the map of words by texts; what it has while the words by opcodes are gone through, in whatever order. No Go text is walked. Conditions: as each lemma says.
-/
namespace Go.Proofs.YthmibmofdmlgaaaGreatDoor
open Go.RowKit
set_option linter.unusedVariables false

theorem put_text {w : World} {b n : Nat} {D : DataW Value} (h : w.ownsMap Tryz.prog 9 anyR b n D) {t : List UInt8} (ht : t.length ≤ 1000) (hn : n < 5000) (v : Value) :
    ∃ w', (Instr.mapUpdate 67 (.map (some b)) (.string (S t)) v).run Tryz.prog w = .ok () w' ∧ w'.ownsMap Tryz.prog 9 anyR b (n + 1) (D.put (.string t) (.held v)) ∧ w.grownBy w' (some b) :=
  h.update keyed9 Tryz.underlying67 (by unfold maxLen; omega) (key9 t ht) (val := v) rfl
/-- A block that a map lies in holds no cells. -/
theorem map_block {w : World} {b n : Nat} {T : TypeId} {R : Value → Option (DataW Value × List MemPlace)} {D : DataW Value} (h : w.ownsMap Tryz.prog T R b n D) : ∃ o, w.heap[b]? = some o ∧ ∀ c t f, o ≠ .cells c t f := by
  obtain ⟨es, clock, hb, _⟩ := h
  exact ⟨_, hb, by simp⟩
/-- The words by opcodes, as they are gone through. -/
structure Passed (w0 w : World) (b0 r n0 : Nat) (D0 : DataW Value) (left : Lit → Bool) (cnt : Nat) : Prop where
  ranges : w.ranges Tryz.prog 5 anyR b0 r n0 D0 left cnt
  no : ∀ k, 0 ≤ k → k ≤ 255 → wdOf k = none → Maps.has D0 (.int .u8 k) = false
  yes : ∀ k d, 0 ≤ k → k ≤ 255 → wdOf k = some d → ∃ A cap, PartsAt w A d.2.1 ∧ ∀ zd, D0.atKey (.int .u8 k) zd = .held (wordV d.1 A d.2.1.length cap d.2.2)
  below : Below w0.heap.size w0 w
/-- The words by texts, so far. -/
structure Texts (w : World) (b n : Nat) (left : Lit → Bool) : Prop where
  own : ∃ D : DataW Value, w.ownsMap Tryz.prog 9 anyR b n D ∧ Maps.has D (.string []) = false ∧
    (∀ k t ps, 0 ≤ k → k ≤ 255 → wdOf k = some (t, ps, false) → left (.int .u8 k) = false → ∃ A cap, PartsAt w A ps ∧ Maps.has D (.string t) = true ∧ ∀ zd, D.atKey (.string t) zd = .held (startV k 0 A ps.length cap)) ∧
    ∃ A cap, PartsAt w A [0, 3] ∧ Maps.has D (.string [109, 97, 112]) = true ∧ ∀ zd, D.atKey (.string [109, 97, 112]) zd = .held (startV 24 1 A 2 cap)
theorem Texts.lt {w : World} {b n : Nat} {left : Lit → Bool} (h : Texts w b n left) : b < w.heap.size := by
  obtain ⟨D, h, _⟩ := h.own
  exact h.lt
theorem Texts.kept {w w' : World} {b n : Nat} {left : Lit → Bool} {row : Option Nat} (h : Texts w b n left) (hg : w.grownBy w' row) (hb : some b ≠ row) (hr : ∀ g, row = some g → ∃ o, w.heap[g]? = some o ∧ ∀ c t f, o ≠ .cells c t f) : Texts w' b n left := by
  obtain ⟨D, h1, h2, h3, A, cap, hp, h4⟩ := h.own
  refine ⟨D, h1.kept hg hb, h2, fun k t ps k0 k1 hk hl => ?_, A, cap, hp.grown hg hr, h4⟩
  obtain ⟨A, cap, hp, h5⟩ := h3 k t ps k0 k1 hk hl
  exact ⟨A, cap, hp.grown hg hr, h5⟩
theorem Passed.kept {w0 w w' : World} {b0 r n0 cnt : Nat} {D0 : DataW Value} {left : Lit → Bool} {row : Option Nat} (h : Passed w0 w b0 r n0 D0 left cnt) (hg : w.grownBy w' row) (hb : some b0 ≠ row) (hr : some r ≠ row) (hn : ∀ g, row = some g → w0.heap.size ≤ g ∧ ∃ o, w.heap[g]? = some o ∧ ∀ c t f, o ≠ .cells c t f) : Passed w0 w' b0 r n0 D0 left cnt :=
  ⟨h.ranges.kept hg hb hr, h.no, fun k d k0 k1 hk => by
    obtain ⟨A, cap, hp, hv⟩ := h.yes k d k0 k1 hk
    exact ⟨A, cap, hp.grown hg (fun g hg' => (hn g hg').2), hv⟩, h.below.grown hg h.below.size (fun k hk => (hn k hk).1)⟩
/-- The word that has come. -/
theorem Passed.come {w0 w : World} {b0 r n0 cnt : Nat} {D0 : DataW Value} {left : Lit → Bool} (h : Passed w0 w b0 r n0 D0 left cnt) {x : Int} {c : Value} {kl : Lit} {y : DataW Value × List MemPlace} (hkey : keyOf Tryz.prog 5 (.int .u8 x) = some kl) (hv : anyR c = some y) (hat : ∀ zd, D0.atKey kl zd = y.1) :
    kl = .int .u8 x ∧ 0 ≤ x ∧ x ≤ 255 ∧ ∃ t ps f A cap, wdOf x = some (t, ps, f) ∧ c = .agg #[.string (S t), .slice A ps.length cap, .bool f] ∧ PartsAt w A ps := by
  obtain ⟨z, e1, rfl, hw⟩ := Maps.keyOf_int_inv Tryz.underlying5 hkey
  cases e1
  have hb := bounds_u8 hw
  refine ⟨rfl, hb.1, hb.2, ?_⟩
  unfold anyR at hv
  cases hv
  cases hd : wdOf x with
  | none =>
    have hno := h.no x hb.1 hb.2 hd
    have := Maps.has_true_of_atKey hat
    rw [hno] at this
    cases this
  | some d =>
    obtain ⟨t, ps, f⟩ := d
    obtain ⟨A, cap, hp, hv⟩ := h.yes x _ hb.1 hb.2 hd
    have e := (hat (.held (.bool false))).symm.trans (hv (.held (.bool false)))
    dsimp only at e hp
    have e2 : c = wordV t A ps.length cap f := by injection e
    exact ⟨t, ps, f, A, cap, rfl, e2, hp⟩
/-- A word that is from a register is passed over. -/
theorem Texts.skip {w : World} {b n : Nat} {left : Lit → Bool} (h : Texts w b n left) {x : Int} {t : List UInt8} {ps : List Int} (hw : wdOf x = some (t, ps, true)) : Texts w b n (fun z => left z && !z.sameKey (.int .u8 x)) := by
  obtain ⟨D, h1, h2, h3, h4⟩ := h.own
  refine ⟨D, h1, h2, fun k t' ps' k0 k1 hk hl => ?_, h4⟩
  simp only [Bool.and_eq_false_iff, Bool.not_eq_false'] at hl
  rcases hl with hl | hl
  · exact h3 k t' ps' k0 k1 hk hl
  · have : k = x := by simpa [Lit.sameKey] using hl
    subst this
    rw [hw] at hk
    cases hk
/-- A word is put. -/
theorem Texts.put {w : World} {b n : Nat} {left : Lit → Bool} (h : Texts w b n left) {x : Int} {t : List UInt8} {ps : List Int} {A : Option Addr} {cap : Nat} (x0 : 0 ≤ x) (x1 : x ≤ 255) (hw : wdOf x = some (t, ps, false)) (hp : PartsAt w A ps) (ht : t.length ≤ 1000) (hn : n < 5000) :
    ∃ w', (Instr.mapUpdate 67 (.map (some b)) (.string (S t)) (startV x 0 A ps.length cap)).run Tryz.prog w = .ok () w' ∧ Texts w' b (n + 1) (fun z => left z && !z.sameKey (.int .u8 x)) ∧ w.grownBy w' (some b) := by
  obtain ⟨D, h1, h2, h3, A', cap', hp', h4, h5⟩ := h.own
  obtain ⟨w', hrun, hown, hg⟩ := put_text h1 ht hn (startV x 0 A ps.length cap)
  have hobj := map_block h1
  have hmap : Maps.IsMap D := h1.isMap
  have hr : ∀ g, some b = some g → ∃ o, w.heap[g]? = some o ∧ ∀ c t f, o ≠ .cells c t f := fun g hg' => by cases hg'; exact hobj
  obtain ⟨n0, nm⟩ := texts_not x0 x1 hw
  have hkl := keyed9.key (key9 t ht)
  refine ⟨w', hrun, ⟨_, hown, ?_, fun k t' ps' k0 k1 hk hl => ?_, A', cap', hp'.grown hg hr, ?_, fun zd => ?_⟩, hg⟩
  · rw [Maps.has_put_other (fun e => n0 (by cases e; rfl))]
    exact h2
  · by_cases e : k = x
    · subst e
      rw [hw] at hk
      cases hk
      exact ⟨A, cap, hp.grown hg hr, Maps.has_put_same hmap hkl _, fun zd => Maps.atKey_put_same hmap hkl _ _⟩
    · have hne : t' ≠ t := fun et => by
        subst et
        exact e (texts_one k0 k1 x0 x1 hk hw)
      have hl' : left (.int .u8 k) = false := by
        simp only [Bool.and_eq_false_iff, Bool.not_eq_false'] at hl
        rcases hl with hl | hl
        · exact hl
        · exact absurd (by simpa [Lit.sameKey] using hl) e
      obtain ⟨A2, cap2, hp2, h6, h7⟩ := h3 k t' ps' k0 k1 hk hl'
      have hne' : (Lit.string t') ≠ Lit.string t := fun e => hne (by cases e; rfl)
      refine ⟨A2, cap2, hp2.grown hg hr, by rw [Maps.has_put_other hne']; exact h6, fun zd => ?_⟩
      rw [Maps.atKey_put_other hne']
      exact h7 zd
  · rw [Maps.has_put_other (fun e => nm (by cases e; rfl))]
    exact h4
  · rw [Maps.atKey_put_other (fun e => nm (by cases e; rfl))]
    exact h5 zd
/-- The map of one word. -/
theorem Texts.one {w : World} {A : Option Addr} {cap : Nat} (hp : PartsAt w A [0, 3]) :
    ∃ w', (Instr.mapUpdate 67 (.map (some w.heap.size)) (.string (S [109, 97, 112])) (startV 24 1 A 2 cap)).run Tryz.prog (w.alloc (.map #[] 0)) = .ok () w' ∧ Texts w' w.heap.size 1 (fun _ => true) ∧ (w.alloc (.map #[] 0)).grownBy w' (some w.heap.size) := by
  have h1 : (w.alloc (.map #[] 0)).ownsMap Tryz.prog 9 anyR w.heap.size 0 (.map []) := World.ownsMap_made _ _ _ _
  obtain ⟨w', hrun, hown, hg⟩ := put_text h1 (t := [109, 97, 112]) (by decide) (by omega) (startV 24 1 A 2 cap)
  have hobj := map_block h1
  have hmap : Maps.IsMap (.map [] : DataW Value) := h1.isMap
  have hkl := keyed9.key (key9 [109, 97, 112] (by decide))
  have hp1 := hp.grown (World.grownBy_alloc w (.map #[] 0) none) (by simp)
  refine ⟨w', hrun, ⟨_, hown, ?_, fun k t' ps' k0 k1 hk hl => (by cases hl), A, cap, hp1.grown hg (fun g hg' => by cases hg'; exact hobj), Maps.has_put_same hmap hkl _, fun zd => Maps.atKey_put_same hmap hkl _ _⟩, hg⟩
  rw [Maps.has_put_other (fun e => by cases e)]
  rfl
theorem Texts.done {w : World} {b n : Nat} {left : Lit → Bool} (h : Texts w b n left) (hl : ∀ kl, left kl = false) : StartsIn w b n := by
  obtain ⟨D, h1, h2, h3, h4⟩ := h.own
  exact ⟨D, h1, h2, fun k t ps k0 k1 hk => h3 k t ps k0 k1 hk (hl _), h4⟩
theorem ranges_block {w : World} {b r n cnt : Nat} {D : DataW Value} {left : Lit → Bool} (h : w.ranges Tryz.prog 5 anyR b r n D left cnt) : ∃ o, w.heap[r]? = some o ∧ ∀ c t f, o ≠ .cells c t f := by
  obtain ⟨es, clock, since, seen, c0, _, _, _, _, hr, _⟩ := h
  exact ⟨_, hr, by simp⟩
theorem wd_len : ∀ n : Fin 256, (match wdOf (n.val : Int) with | some d => decide (d.1.length ≤ 100) | none => true) = true := by decide +kernel
theorem wd_short {x : Int} (x0 : 0 ≤ x) (x1 : x ≤ 255) {t : List UInt8} {ps : List Int} {f : Bool} (hw : wdOf x = some (t, ps, f)) : t.length ≤ 1000 := by
  obtain ⟨y, rfl⟩ := Int.eq_ofNat_of_zero_le x0
  have h := wd_len ⟨y, by omega⟩
  simp only [hw, decide_eq_true_eq] at h
  omega
end Go.Proofs.YthmibmofdmlgaaaGreatDoor
