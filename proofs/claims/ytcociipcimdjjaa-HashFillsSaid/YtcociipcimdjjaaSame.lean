/-
  Proved here: the law's Same, over whatever memory of the program's map keeps its contracts. Conditions: the contracts.
-/
import Derived.Test.YtcociipcimdjjaaRefHA
import Derived.Deep.RegionWith
import Derived.Deep.RegionHeld
import Derived.Deep.DeepCutAuto
namespace Go.Proofs.Ytcociipcimdjjaa
open Go.RowKit

/-- What Keys tells: lists of bytes, whose strings are the keys. -/
def KeysAt (w : World) (a : Option Addr) (l : List ByteArray) : Prop := l.length = 0 ∨ ∃ B, a = some ⟨B, 0, none⟩ ∧ B < w.heap.size ∧ ∀ j, j < l.length → ∃ g off c kz, w.cell? ⟨B, j, none⟩ = some (.slice (some ⟨g, off, none⟩) kz.length c) ∧ g < w.heap.size ∧ RowAt w g off kz.length kz ∧ strOfNums kz = l.getD j .empty
theorem KeysAt.stay {w w' : World} {a : Option Addr} {l : List ByteArray} (h : KeysAt w a l) (hb : Below w.heap.size w w') : KeysAt w' a l := by
  rcases h with h | ⟨B, e, hB, h⟩
  · exact .inl h
  · refine .inr ⟨B, e, Nat.lt_of_lt_of_le hB hb.size, fun j hj => ?_⟩
    obtain ⟨g, off, c, kz, h1, h2, h3, h4⟩ := h j hj
    exact ⟨g, off, c, kz, (hb.cell (p := ⟨B, j, none⟩) hB).trans h1, Nat.lt_of_lt_of_le h2 hb.size, rowAt_below h3 h2 hb, h4⟩
/-- What Find tells. -/
def FoundP (ks : List ByteArray) (key : Nat) (kz : List Int) (W : World) (e : Ending) (w : World) : Prop :=
  e = .returned (if kz.length = key then (match ks.findIdx? (· = strOfNums kz) with
    | some i => .tuple #[.int .i64 (i : Int), .bool true]
    | none => .tuple #[.int .i64 0, .bool false]) else .tuple #[.int .i64 0, .bool false]) ∧ Below W.heap.size W w
/-- The calls that only tell, of a map in memory. -/
structure Tells (PS : World → Nat → List ByteArray → List Int → Prop) (key L : Nat) : Prop where
  stay : ∀ {w w' : World} {h : Nat} {ks : List ByteArray} {zs : List Int}, PS w h ks zs → Below w.heap.size w w' → PS w' h ks zs
  zlen : ∀ {w : World} {h : Nat} {ks : List ByteArray} {zs : List Int}, PS w h ks zs → zs.length = L
  ksz : ∀ {w : World} {h : Nat} {ks : List ByteArray} {zs : List Int}, PS w h ks zs → ∀ y, y ∈ ks → y ≠ ⟨#[]⟩ → y.size = key
  len : ∀ {w : World} {h : Nat} {ks : List ByteArray} {zs : List Int}, PS w h ks zs → Calls Try.prog 11 #[.pointer (some ⟨h, 0, none⟩)] w (fun e w' => e = .returned (.int .i64 (listK ks).length) ∧ Below w.heap.size w w')
  bytes : ∀ {w : World} {h : Nat} {ks : List ByteArray} {zs : List Int}, PS w h ks zs → Calls Try.prog 10 #[.pointer (some ⟨h, 0, none⟩)] w (GaveRow w L zs)
  keys : ∀ {w : World} {h : Nat} {ks : List ByteArray} {zs : List Int}, PS w h ks zs → Calls Try.prog 34 #[.pointer (some ⟨h, 0, none⟩)] w (fun e w' => ∃ a c, e = .returned (.slice a (listK ks).length c) ∧ KeysAt w' a (listK ks) ∧ Below w.heap.size w w')
  find : ∀ {w : World} {h : Nat} {ks : List ByteArray} {zs : List Int} {v : Value} {kz : List Int}, PS w h ks zs → KeyAt w v kz → (kz.length = key ∨ kz.length ≤ maxLen) → Calls Try.prog 12 #[.pointer (some ⟨h, 0, none⟩), v] w (FoundP ks key kz w)
/-- The row of strings that List tells. -/
def StrsAt (w : World) (a : Option Addr) (l : List ByteArray) : Prop := l.length = 0 ∨ ∃ B, a = some ⟨B, 0, none⟩ ∧ B < w.heap.size ∧ ∀ j, j < l.length → w.cell? ⟨B, j, none⟩ = some (.string (l.getD j .empty))
theorem strsAt_of {w : World} {base : Nat} {v : Value} {l : List ByteArray} (h : w.ownsRow base 9 1 v l.length (strs l)) : ∃ a c, v = .slice a l.length c ∧ StrsAt w a l := by
  rcases h.2 with ⟨rfl, h0⟩ | ⟨g, cap, cur, rfl, hg, hh, -⟩
  · exact ⟨none, 0, by rw [h0], .inl h0⟩
  · refine ⟨_, cap, rfl, .inr ⟨g, rfl, lt_of_heap hh, fun j hj => ?_⟩⟩
    have hc := h.cells (g := g) rfl j (.string (l.getD j .empty)) (by
      simp only [strs, List.getElem?_map, List.getD_eq_getElem?_getD, List.getElem?_eq_getElem hj]
      rfl)
    rwa [add_lit, Nat.zero_add] at hc
theorem StrsAt.stay {w w' : World} {a : Option Addr} {l : List ByteArray} (h : StrsAt w a l) (hb : Below w.heap.size w w') : StrsAt w' a l := by
  rcases h with h | ⟨B, e2, hB, h⟩
  · exact .inl h
  · exact .inr ⟨B, e2, Nat.lt_of_lt_of_le hB hb.size, fun j hj => (hb.cell (p := ⟨B, j, none⟩) hB).trans (h j hj)⟩
/-- All that Same looks at. -/
structure Sm (PS : World → Nat → List ByteArray → List Int → Prop) (W wx : World) (h H K R B cap key s n L : Nat) (gs : Nat → Nat) (ks : List ByteArray) (zs : List Int) (a1 a2 : Option Addr) : Prop where
  p : PS wx h ks zs
  r : Hf wx H K R B cap key s n L gs ks zs
  k1 : KeysAt wx a1 (listK ks)
  k2 : StrsAt wx a2 (listK ks)
  b : Below W.heap.size W wx
theorem Sm.stay {PS : World → Nat → List ByteArray → List Int → Prop} {W wx wy : World} {h H K R B cap key s n L : Nat} {gs : Nat → Nat} {ks : List ByteArray} {zs : List Int} {a1 a2 : Option Addr} (hx : Sm PS W wx h H K R B cap key s n L gs ks zs a1 a2) (T : Tells PS key L) (hd : Dim s n L)
    (hb : Below wx.heap.size wx wy) : Sm PS W wy h H K R B cap key s n L gs ks zs a1 a2 :=
  ⟨T.stay hx.p hb, hx.r.stay hd.s0 hd.n0 hb, hx.k1.stay hb, hx.k2.stay hb, hx.b.trans (hb.mono hx.b.size)⟩
set_option maxRecDepth 100000 in
set_option maxHeartbeats 4000000 in
theorem same_yes {PS : World → Nat → List ByteArray → List Int → Prop} {h H K R B cap key s n L : Nat} {gs : Nat → Nat} {ks : List ByteArray} {zs : List Int} (w : World) (hd : Dim s n L) (hk : 1 ≤ key) (T : Tells PS key L) (hp : PS w h ks zs) (hh : Hf w H K R B cap key s n L gs ks zs) :
    Calls Try.prog 20 #[.pointer (some ⟨h, 0, none⟩), .pointer (some ⟨H, 0, none⟩)] w (fun e w' => e = .returned (.bool true) ∧ Below w.heap.size w w') := by
  have s0 := hd.s0
  have n0 := hd.n0
  have n1 := hd.n1
  have HD := Lib.hid hd
  have HP := Lib.hid hp
  have HH := Lib.hid hh
  have HT := Lib.hid T
  have hm : (listK ks).length ≤ 16 := Nat.le_trans (listK_len ks) (by rw [hh.klen]; exact n1)
  obtain ⟨m, hml⟩ : ∃ m, (listK ks).length = m := ⟨_, rfl⟩
  rw [hml] at hm
  have HM := Lib.hid hml
  obtain ⟨str, hstr⟩ : ∃ x, strOfNums zs = x := ⟨_, rfl⟩
  have HSTR := Lib.hid hstr
  clear hd hp hh T hml hstr
  go_enter Try.func20, Try.ntmps20
  go_wp2_with (first
    | (go_at_call 34; refine (HT.out.keys HP.out).mono ?_; rintro e w1 ⟨a1, c1, rfl, hka, hb1⟩; rw [HM.out]; have HKA := Lib.hid hka; have HB1 := Lib.hid hb1; have HP1 := Lib.hid (HT.out.stay HP.out hb1); have HH1 := Lib.hid (HH.out.stay s0 n0 hb1); clear hka hb1)
    | (go_at_call 35; refine (list_ref _ _ _ _ _ _ _ _ _ _ _ _ _ HH1.out n1 n0).mono ?_; rintro e w2 ⟨v2, rfl, ho2, hb2⟩; obtain ⟨a2, c2, rfl, hsa⟩ := strsAt_of ho2; rw [HM.out]; have HSA := Lib.hid hsa; clear hsa; have HB2 := Lib.hid hb2; have HP2 := Lib.hid (HT.out.stay HP1.out hb2); have HH2 := Lib.hid (HH1.out.stay s0 n0 hb2); have HKA2 := Lib.hid (HKA.out.stay hb2); clear ho2 hb2))
  have hbb := HB1.out.trans (HB2.out.mono HB1.out.size)
  have HX := Lib.hid (Sm.mk HP2.out HH2.out HKA2.out HSA.out hbb)
  clear hbb HSA HP2 HH2 HKA2 HB1 HB2 HKA HP1 HH1 HP HH
  go_upto_region 2 with fail
  go_cut [37] (fun v wx => v = .bool false ∧ Sm PS w wx h H K R B cap key s n L gs ks zs a1 a2)
  case first =>
    as_aux_lemma =>
    have HX0 := Lib.hid (HX.out.stay HT.out HD.out (Below.refl _ _).drew)
    have c0 := HX0.out.r.h2
    go_region_held (fun W => W.cell? ⟨H, 2, none⟩ = some (.pointer (some ⟨R, 0, none⟩))) (first | with_reducible exact c5 | with_reducible exact c4 | with_reducible exact c3 | with_reducible exact c0) (first
      | (go_at_call 11; refine (HT.out.len HX0.out.p).mono ?_; rintro e w3 ⟨rfl, hb3⟩; rw [HM.out]; have HX3 := Lib.hid (HX0.out.stay HT.out HD.out hb3); have c3 := HX3.out.r.h2; clear hb3)
      | (go_at_call 10; refine (HT.out.bytes HX3.out.p).mono ?_; rintro e w4 ⟨g4, cap4, rfl, hf4⟩; have hc4 := str_of (cap := cap4) (HT.out.zlen HX3.out.p) hf4.row; rw [HSTR.out] at hc4; have HX4 := Lib.hid (HX3.out.stay HT.out HD.out hf4.below); have c4 := HX4.out.r.h2; have HF4 := Lib.hid hf4; clear hf4)
      | (go_at_call 36; refine (ref_bytes _ _ _ _ _ _ _ _ _ HD.out HX4.out.r.rf).mono ?_; rintro e w5 ⟨g5, cap5, rfl, hf5⟩; have hc5 := str_of (cap := cap5) HX4.out.r.rf.len hf5.row; rw [HSTR.out] at hc5; have hc45 := str_of (cap := cap4) (HT.out.zlen HX4.out.p) (rowAt_below HF4.out.row (cell_block_lt (HF4.out.row 0 HD.out.pos)) hf5.below); rw [HSTR.out] at hc45; have HX5 := Lib.hid (HX4.out.stay HT.out HD.out hf5.below); have c5 := HX5.out.r.h2; clear hf5))
    all_goals
      go_wp2_with fail
      go_meet
      case rel => exact ⟨rfl, HX5.out⟩
  case rest =>
    obtain ⟨rfl, hx⟩ := hcut
    have HX6 := Lib.hid hx
    clear hx HX
    go_wp2
    go_loopw [7] (fun i wr => ∃ c : Nat, c ≤ m ∧ i = .int .i64 c ∧ Sm PS w wr h H K R B cap key s n L gs ks zs a1 a2) (fun i _ => m - (intOf i).toNat)
    case atStart => exact ⟨0, by omega, rfl, HX6.out⟩
    case round =>
      obtain ⟨c, hc, rfl, hx⟩ := hrel
      clear HX6
      by_cases hlt : c < m
      · obtain ⟨y, hy⟩ : ∃ y, (listK ks).getD c .empty = y := ⟨_, rfl⟩
        have hk1 := hx.k1
        have hk2 := hx.k2
        have hcl : c < (listK ks).length := by rw [HM.out]; exact hlt
        rcases hk1 with h0 | ⟨B1, rfl, hB1, hk1⟩
        · omega
        obtain ⟨g, off, c0, kz, e1, hg, hr, hS⟩ := hk1 c hcl
        rcases hk2 with h0 | ⟨B2, rfl, hB2, hk2⟩
        · omega
        have e2 := hk2 c hcl
        rw [hy] at e2 hS
        have hmem : y ∈ listK ks := by
          rw [← hy, List.getD_eq_getElem?_getD, List.getElem?_eq_getElem hcl]
          exact List.getElem_mem _
        obtain ⟨hin, hne⟩ := List.mem_filter.1 hmem
        have hne2 : y ≠ ⟨#[]⟩ := by simpa using hne
        have hkz : kz.length = key := by
          have h1 := HT.out.ksz hx.p y hin hne2
          rw [← hS, strOfNums_size] at h1
          exact h1
        obtain ⟨f, hf⟩ : ∃ f, ks.findIdx? (· = y) = some f := by
          cases hf : ks.findIdx? (· = y) with
          | some f => exact ⟨f, rfl⟩
          | none =>
            have := List.findIdx?_eq_none_iff.1 hf y hin
            simp at this
        have hka : KeyAt wr (.slice (some ⟨g, off, none⟩) kz.length c0) kz := .row g off _ c0 kz rfl hr (fun _ => hg)
        have HF := Lib.hid hf
        have HS := Lib.hid hS
        have HKZ := Lib.hid hkz
        have HR := Lib.hid hr
        have HX7 := Lib.hid hx
        have HKA := Lib.hid hka
        clear hx hk1 hk2 hf hS hkz hr hka hmem hin hne hne2 hy
        go_upto_region 8 with (go_at_call 12; refine (HT.out.find HX7.out.p HKA.out (.inl HKZ.out)).mono ?_; rintro e w8 ⟨he, hb8⟩; rw [if_pos HKZ.out, HS.out, HF.out] at he; subst he; have HX8 := Lib.hid (HX7.out.stay HT.out HD.out hb8); have HB8 := Lib.hid hb8; clear hb8)
        have HB80 := HB8.out
        have d1 := (HB80.cell (p := ⟨B1, c, none⟩) hB1).trans e1
        have d2 := (HB80.cell (p := ⟨B2, c, none⟩) hB2).trans e2
        have hr8 := rowAt_below HR.out hg HB80
        have hg8 := Nat.lt_of_lt_of_le hg HB80.size
        have hcv8 : (convert 31 9 (.slice (some ⟨g, off, none⟩) kz.length c0)).run Try.prog w8.drew = .ok (.string y) w8.drew := by rw [← HS.out]; exact str_of (w := w8.drew) rfl hr8
        have HX80 := Lib.hid (HX8.out.stay HT.out HD.out (Below.refl _ _).drew)
        have HKA8 := Lib.hid (KeyAt.row (w := w8.drew) g off _ c0 kz rfl hr8 (fun _ => hg8))
        have hB1' := Nat.lt_of_lt_of_le hB1 HB80.size
        have hB2' := Nat.lt_of_lt_of_le hB2 HB80.size
        have hyy : (y.toList == y.toList) = true := by simp
        have HR8 := Lib.hid hr8
        clear HB80 e1 e2 hr8
        go_cut [76] (fun v wx => v = .bool false ∧ Sm PS w wx h H K R B cap key s n L gs ks zs (some ⟨B1, 0, none⟩) (some ⟨B2, 0, none⟩))
        case first =>
          as_aux_lemma =>
          go_region_held (fun W => W.cell? ⟨B1, c, none⟩ = some (.slice (some ⟨g, off, none⟩) kz.length c0) ∧ W.cell? ⟨B2, c, none⟩ = some (.string y)) (first | with_reducible exact ⟨f1, f2⟩ | exact ⟨d1, d2⟩)
            ((go_at_call 13; refine (find_any _ _ _ _ _ _ _ _ _ _ _ _ _ _ _ HX80.out.r n1 n0 hk HKA8.out).mono ?_; rintro e w9 ⟨he, hb9⟩; rw [if_pos HKZ.out, HS.out, findK_some HF.out] at he; subst he; have f1 := (hb9.cell (p := ⟨B1, c, none⟩) hB1').trans d1; have f2 := (hb9.cell (p := ⟨B2, c, none⟩) hB2').trans d2; have hcv9 : (convert 31 9 (.slice (some ⟨g, off, none⟩) kz.length c0)).run Try.prog w9 = .ok (.string y) w9 := (by rw [← HS.out]; exact str_of (w := w9) rfl (rowAt_below (w := w8.drew) HR8.out hg8 hb9)); have HX9 := Lib.hid (HX80.out.stay HT.out HD.out hb9); clear hb9))
          all_goals
            go_wp2_with fail
            go_meet
            case rel => exact ⟨rfl, HX9.out⟩
        case rest =>
          obtain ⟨rfl, hx9⟩ := hcut
          have HX9 := Lib.hid hx9
          clear hx9
          go_wp2
          go_roundw
          case rel => exact ⟨c + 1, by omega, by go_num, HX9.out⟩
          case measure => simp [intOf]; omega
      · obtain rfl : c = m := by omega
        have HX7 := Lib.hid hx
        clear hx
        go_wp2
        go_ret
        exact ⟨rfl, HX7.out.b⟩
end Go.Proofs.Ytcociipcimdjjaa
