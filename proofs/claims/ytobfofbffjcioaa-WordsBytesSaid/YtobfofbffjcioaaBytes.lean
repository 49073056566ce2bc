/-
  Proved here: the law WordsBytes returns true for all bytes, every place, every number of bytes and every uint64, and its arguments read behind the call as before (P1.2, P1.4). Conditions: none but the row's own (printed in its sentence).
-/
import Derived.Test.YtobfofbffjcioaaRows
import Derived.Test.YtobfofbffjcioaaYes
import Derived.WalkKit
import Derived.ProofKit
import Derived.OpenShut
import Derived.ShutString
import Derived.ChangeOld
import Derived.Below
namespace Go.Proofs.Ytobfofbffjcioaa.wordsBytes
open Go.ChangeShapes Go.WideShapes Go.ChangeAt Go.RowKit
open Go.ChangeMaps (open_string shut_string)
set_option linter.unusedVariables false

theorem own : ownKnob Try.prog.godebug = none := by kernel_rfl
theorem laidOut : laidOutB Try.prog = true := by kernel_rfl

/-- WHAT THE WALK IS TOLD OF A SLICE OF INTEGERS THAT CAME IN: it is nil; or it leads to a row of 'cap' cells, the numbers 'zs' (the first 'len' are its elements, the rest its spare room), each fitting its kind. -/
def IsRow (k : IntKind) (w : World) (a : Option Addr) (len cap : Nat) (zs : List Int) : Prop :=
  (a = none ∧ len = 0 ∧ cap = 0 ∧ zs = []) ∨
  ∃ x, a = some x ∧ len ≤ cap ∧ cap ≤ maxLen ∧ zs.length = cap ∧ (∀ i, i < zs.length → w.cell? (x.add i) = some (.int k (zs.getD i 0))) ∧ ∀ n ∈ zs, (Lit.int k n).wf = true

theorem walk_long (a : Option Addr) (len cap : Nat) (p n x : Int) (w : World) (hl : 300 < len) (hm : len ≤ maxLen) :
    Calls Try.prog 4 #[.slice a len cap, .int .i64 p, .int .i64 n, .int .u64 x] w fun e w' => e = .returned (.bool true) ∧ Below w.heap.size w w' := by
  unfold maxLen at hm
  go_enter Try.func4, Try.ntmps4
  go_wp2_with (go_at_call 6; refine (alive _).mono ?_; rintro e w1 ⟨rfl, hb1, -⟩; have HB1 := Lib.hid hb1; clear hb1)
  go_ret
  exact ⟨rfl, HB1.out⟩
theorem walk_none (a : Option Addr) (cap : Nat) (p n x : Int) (w : World) (ha : a = none → cap = 0) (hpi : -9223372036854775808 ≤ p ∧ p ≤ 9223372036854775807) :
    Calls Try.prog 4 #[.slice a 0 cap, .int .i64 p, .int .i64 n, .int .u64 x] w fun e w' => e = .returned (.bool true) ∧ Below w.heap.size w w' := by
  have ht : thB 0 p n = false := by
    cases h : thB 0 p n
    · rfl
    · obtain ⟨hs, h0, h1⟩ := thB_true h
      have := size_bd hs
      omega
  have hm : 0 ≤ maxLen := Nat.zero_le _
  have hc := fun (A : Option Addr) (c : Nat) (W : World) => run_convert_bytes_zero (P := Try.prog) W 28 5 Try.underlying28 Try.underlying5 A c 9 Try.underlying9
  go_enter Try.func4, Try.ntmps4
  go_wp2_with (first
    | (go_at_call 6; refine (alive _).mono ?_; rintro e w1 ⟨rfl, hb1, -⟩; have HB1 := Lib.hid hb1; clear hb1)
    | (at_builtin; refine wpList_clone0 rfl _ _ rfl rfl a cap rfl ha ?_; intro A2 cap2 w2 hb2; have HB2 := Lib.hid hb2; clear hb2)
    | (go_at_call 15; refine (load_no _ _ _ _ _ _ hm hpi ht).mono ?_; rintro e w' ⟨rfl, rfl⟩)
    | (go_at_call 16; refine (store_no _ _ _ _ _ _ _ hm hpi ht).mono ?_; rintro e w' ⟨rfl, rfl⟩)
    | (go_at_call 17; refine (there_ref _ _ _ _ _ _ hm hpi).mono ?_; rintro e w' ⟨rfl, rfl⟩))
  go_ret
  exact ⟨rfl, HB1.out.trans (HB2.out.mono HB1.out.size)⟩
set_option maxHeartbeats 1000000 in
theorem walk_no (g off len cap : Nat) (p n x : Int) (zs : List Int) (w : World) (hz : zs.length = len) (h0 : 0 < len) (hl : len ≤ 300) (hr : RowAt w g off len zs) (hg : g < w.heap.size)
    (ht : thB len p n = false) (hpi : -9223372036854775808 ≤ p ∧ p ≤ 9223372036854775807) :
    Calls Try.prog 4 #[.slice (some ⟨g, off, none⟩) len cap, .int .i64 p, .int .i64 n, .int .u64 x] w fun e w' => e = .returned (.bool true) ∧ Below w.heap.size w w' := by
  have hm : len ≤ maxLen := by unfold maxLen; omega
  obtain ⟨s, hs⟩ : ∃ s, strOfNums zs = s := ⟨_, rfl⟩
  have HS := Lib.hid hs
  have HZ := Lib.hid hz
  clear hs hz
  go_enter Try.func4, Try.ntmps4
  go_wp2_with (first
    | (go_at_call 6; refine (alive _).mono ?_; rintro e w1 ⟨rfl, hb1, -⟩; have hr1 := rowAt_below hr hg hb1; have hg1 := Nat.lt_of_lt_of_le hg hb1.size; have HB1 := Lib.hid hb1; clear hb1)
    | (at_builtin; refine wpList_clone rfl _ _ rfl rfl g off len cap zs rfl HZ.out h0 (by omega) hr1 hg1 ?_; intro g2 cap2 w2 hf2;
        have hc1 : (convert 28 9 (.slice (some ⟨g2, 0, none⟩) len cap2)).run Try.prog w2 = .ok (.string s) w2 := (by rw [← HS.out]; exact str_of HZ.out hf2.row);
        have hc2 : (convert 28 9 (.slice (some ⟨g, off, none⟩) len cap)).run Try.prog w2 = .ok (.string s) w2 := (by rw [← HS.out]; exact str_of HZ.out (rowAt_below hr1 hg1 hf2.below)))
    | (go_at_call 15; refine (load_no _ _ _ _ _ _ hm hpi ht).mono ?_; rintro e w' ⟨rfl, rfl⟩)
    | (go_at_call 16; refine (store_no _ _ _ _ _ _ _ hm hpi ht).mono ?_; rintro e w' ⟨rfl, rfl⟩)
    | (go_at_call 17; refine (there_ref _ _ _ _ _ _ hm hpi).mono ?_; rintro e w' ⟨rfl, rfl⟩))
  go_ret
  exact ⟨rfl, HB1.out.trans (hf2.below.mono HB1.out.size)⟩
/-! ### STEP 1: THE WALK: the Go text returns true, AND WRITES NOTHING THAT WAS THERE: 'Below w.heap.size w w'' (Derived/Below.lean: '.refl', '.alloc', '.drew', '.setCell' at a new block, '.trans'). Open each 'IsRow' by 'rcases' AHEAD of 'go_enter'; part every test ahead of the walk. -/
theorem walk (a0 : Option Addr) (len0 cap0 : Nat) (z0 : List Int) (a1 : Int) (a2 : Int) (a3 : Int) (w : World) (w0 : IsRow .u8 w a0 len0 cap0 z0) (w1 : (Lit.int .i64 a1).wf = true) (w2 : (Lit.int .i64 a2).wf = true) (w3 : (Lit.int .u64 a3).wf = true) :
    Calls Try.prog 4 #[.slice a0 len0 cap0, .int .i64 a1, .int .i64 a2, .int .u64 a3] w fun e w' => e = .returned (.bool true) ∧ Below w.heap.size w w' := by
  obtain ⟨p0, p1⟩ := bounds_i64 w1
  obtain ⟨n0, n1⟩ := bounds_i64 w2
  obtain ⟨x0, x1⟩ := bounds_u64 w3
  rcases w0 with ⟨rfl, rfl, rfl, rfl⟩ | ⟨ad, rfl, hlc, hcm, hlen, hcell, hwf⟩
  · exact walk_none none 0 a1 a2 a3 w (fun _ => rfl) ⟨p0, p1⟩
  by_cases hlong : 300 < len0
  · exact walk_long _ _ _ _ _ _ _ hlong (by omega)
  by_cases hzero : len0 = 0
  · subst hzero
    exact walk_none (some ad) cap0 a1 a2 a3 w (fun h => by cases h) ⟨p0, p1⟩
  obtain ⟨g, off, rfl, hc⟩ := ints_at hcell (by omega)
  have hz : (z0.take len0).length = len0 := by simp; omega
  have hget : ∀ j, j < len0 → (z0.take len0).getD j 0 = z0.getD j 0 := fun j hj => by
    rw [List.getD_eq_getElem?_getD, List.getD_eq_getElem?_getD, List.getElem?_take_of_lt hj]
  have hr : RowAt w g off len0 (z0.take len0) := fun j hj => by
    rw [hget j hj]; exact hc j (by omega)
  have hg : g < w.heap.size := cell_block_lt (hr 0 (by omega))
  have hb : BytesIn (z0.take len0) := fun j => by
    rcases Nat.lt_or_ge j len0 with hj | hj
    · rw [hget j hj, List.getD_eq_getElem?_getD, List.getElem?_eq_getElem (by omega)]
      exact bounds_u8 (hwf _ (List.getElem_mem (by omega)))
    · rw [List.getD_eq_getElem?_getD, List.getElem?_eq_none (by omega)]
      decide
  cases ht : thB len0 a1 a2
  · exact walk_no g off len0 cap0 a1 a2 a3 _ w hz (by omega) (by omega) hr hg ht ⟨p0, p1⟩
  · obtain ⟨hs, hp, hpn⟩ := thB_true ht
    have hn := size_bd hs
    obtain ⟨p, rfl⟩ := Int.eq_ofNat_of_zero_le hp
    obtain ⟨n, rfl⟩ := Int.eq_ofNat_of_zero_le (show 0 ≤ a2 by omega)
    exact walk_yes g off len0 cap0 p n a3 _ w hz (by omega) (by omega) hr hg hb ht x0 x1

/-! ### THE ROW's STEP: WRITTEN OUT: LEAVE IT -/
set_option maxRecDepth 100000 in
theorem lifted (os : Os) (started : os.Started) (H : Type) (enc : TypeId × Value → H) :
    ReturnsInHanded {} Try.checked os 4 .any (Rows.wordsBytesSpec.pre6 enc Try.prog Try.f4 Rows.wordsBytesRow.domain false) (Rows.wordsBytesSpec.post enc Try.prog Try.f4 false true false false) := by
  refine returnsInHanded_of_change (C := Try.checked) own started (by kernel_rfl) Try.func4
    (ChangeSpec.witness6 (enc := enc) (C := Try.checked) false ⟨#[], #[.slice none 0 0, .int .i64 0, .int .i64 0, .int .u64 0], []⟩ 8 (by kernel_rfl) (by kernel_rfl) (by kernel_rfl) (by kernel_rfl)) ?_
  intro W base args ds gs before hval0 hW hcnd _
  have hval : ∀ (j : Nat) t v, Try.f4.params[j]? = some t → args[j]? = some v → Value.okWide Try.prog W .any base t v := hval0
  have hW' := hW
  obtain ⟨p, q, hA0, hV, rfl, hfz, hnd⟩ := hW
  have hA : DataW.TrodAll enc Try.prog W 0 (fun _ => true) true Try.f4.params.toList args.toList ds p := hA0
  rw [Try.params4] at hA hval
  obtain ⟨v0, vs0, d0, ds0, p0, q0, hargs, rfl, rfl, h0, r0⟩ := trodAll_cons hA
  obtain ⟨v1, vs1, d1, ds1, p1, q1, rfl, rfl, rfl, h1, r1⟩ := trodAll_cons r0
  obtain ⟨v2, vs2, d2, ds2, p2, q2, rfl, rfl, rfl, h2, r2⟩ := trodAll_cons r1
  obtain ⟨v3, vs3, d3, ds3, p3, q3, rfl, rfl, rfl, h3, r3⟩ := trodAll_cons r2
  obtain ⟨rfl, rfl, rfl⟩ := trodAll_nil r3
  obtain rfl : args = #[v0, v1, v2, v3] := by cases args; simp_all
  obtain ⟨rfl, rfl⟩ := trodVars_none hV
  obtain ⟨a0, len0, cap0, rfl⟩ := okWide_slice Try.underlying28 (hval 0 28 v0 rfl rfl)
  have k0 := h0
  have lt0 : ∀ x ∈ p0, x.block < W.heap.size := by obtain ⟨m, hm⟩ := k0; exact DataW.trod_lt m _ _ _ hm
  obtain ⟨z0, w0⟩ : ∃ zs, IsRow .u8 W a0 len0 cap0 zs := by
    obtain ⟨fuel, hf⟩ := h0
    rcases open_ints Try.underlying28 Try.underlying5 (by kernel_rfl) hf with ⟨hcs, _⟩ | ⟨x, l, c, zs, hcs, _, hl, hm, hz, _, hcell, hwz⟩
    · simp [Value.cells] at hcs
      obtain ⟨rfl, rfl, rfl⟩ := hcs
      exact ⟨[], .inl ⟨rfl, rfl, rfl, rfl⟩⟩
    · simp [Value.cells] at hcs
      obtain ⟨rfl, rfl, rfl⟩ := hcs
      exact ⟨zs, .inr ⟨_, rfl, hl, hm, by simpa using hz, hcell, hwz⟩⟩
  obtain ⟨a1, rfl, rfl, rfl, w1⟩ := open_int Try.underlying3 (hval 1 3 v1 rfl rfl) h1
  obtain ⟨a2, rfl, rfl, rfl, w2⟩ := open_int Try.underlying3 (hval 2 3 v2 rfl rfl) h2
  obtain ⟨a3, rfl, rfl, rfl, w3⟩ := open_int Try.underlying22 (hval 3 22 v3 rfl rfl) h3
  clear hA0 hval0
  refine (walk a0 len0 cap0 z0 a1 a2 a3 W w0 w1 w2 w3).mono fun e W' ⟨he, bel⟩ => ?_
  subst he
  exact ⟨_, rfl, _, _, _, [], _, [], hW', trodAll_mk1 (shut_bool Try.underlying4 _), (trodAll_cons_mk (Below.trod laidOut (by kernel_rfl) (of_decide_eq_true (by kernel_rfl)) k0 bel lt0) (trodAll_cons_mk (shut_int Try.underlying3 w1) (trodAll_cons_mk (shut_int Try.underlying3 w2) (trodAll_cons_mk (shut_int Try.underlying22 w3) trodAll_mk0)))), rfl, bel.frame _, fun h => by cases h⟩

theorem over : Rows.wordsBytesRow.holds Try.pinned (OpenSpec.ofChange Rows.wordsBytesSpec) :=
  OpenClaim.holds_of_wide 4 Try.f4 rfl rfl rfl rfl rfl rfl rfl ⟨rfl, rfl, rfl, rfl, rfl⟩ rfl rfl rfl rfl rfl (by kernel_rfl) Try.func4 (by kernel_rfl)
    (of_decide_eq_true (by kernel_rfl)) (by unfold Func.isWrapper; first | (rw [if_pos (by decide +kernel)]; kernel_rfl) | (rw [if_neg (by decide +kernel)]; exact ⟨rfl, rfl⟩))
    (fun os started H enc _ => lifted os started H enc)

/-- ████ THE STATEMENT ████ -/
theorem proved : Rows.WordsBytesSaid := over
#print axioms proved
end Go.Proofs.Ytobfofbffjcioaa.wordsBytes
