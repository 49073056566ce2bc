/-
  Proved here: what Put of the document's maps by keys does. Conditions: as each says.
-/
import Derived.Test.YtenjdgoammaiiaaGC
import Derived.RegionTactic
import Derived.BigRegion
namespace Go.Proofs.Ytenjdgoammaiiaa
open Go.RowKit
set_option maxRecDepth 100000

/-- The slot for a key: its own, or the first one that is free. -/
def placeK (ks : List ByteArray) (k : ByteArray) : Option Nat := match ks.findIdx? (· = k) with
  | some i => some i
  | none => ks.findIdx? (· = ⟨#[]⟩)
/-- The first i of these bytes written from p on. -/
def putN (zs : List Int) (p : Nat) (vz : List Int) : Nat → List Int
  | 0 => zs
  | i + 1 => (putN zs p vz i).set (p + i) (vz.getD i 0)
/-- Why a key is not put: an error's number, or 0. -/
def putE (ks : List ByteArray) (key s : Nat) (kz vz : List Int) (fl : Int) : Int :=
  if kz.length = key ∧ vz.length = s ∧ fl ≤ 2 then
    match ks.findIdx? (· = strOfNums kz) with
    | some _ => if fl = 1 then 17 else 0
    | none => if fl = 2 then 2 else match ks.findIdx? (· = ⟨#[]⟩) with
      | some _ => 0
      | none => 28
  else 22
section
variable {w : World} {H K R B cap key s n L : Nat} {gs : Nat → Nat} {ks : List ByteArray} {zs : List Int}
theorem Hf.putA {k t : Nat} {y : Int} (h : Hf w H K R B cap key s n L gs ks zs) (hk : k < n) (ht : t < s) (hL : k * s + s ≤ L) : Hf (w.setCell ⟨gs k, t, none⟩ (.int .u8 y)) H K R B cap key s n L gs ks (zs.set (k * s + t) y) := by
  have eH := Below.heap_setCell w ⟨gs k, t, none⟩ (.int .u8 y) H (fun e => h.Hg k hk e.symm)
  have eK := Below.heap_setCell w ⟨gs k, t, none⟩ (.int .u8 y) K (fun e => h.Kg k hk e.symm)
  exact ⟨(World.cell?_of_block (w := w) eH).trans h.h0, (World.cell?_of_block (w := w) eH).trans h.h1, (World.cell?_of_block (w := w) eH).trans h.h2, fun k hk => (World.cell?_of_block (w := w) eK).trans (h.keys k hk),
    fun j => (World.frozen?_of_block (w := w) eK).trans (h.free j), h.klen, h.rf.put hk ht hL, h.HK, h.KR, h.KB, h.Kg, h.Hg⟩
theorem Hf.drew (h : Hf w H K R B cap key s n L gs ks zs) : Hf w.drew H K R B cap key s n L gs ks zs := ⟨h.h0, h.h1, h.h2, h.keys, h.free, h.klen, ⟨h.rf.r0, h.rf.r1, h.rf.rows, h.rf.row, h.rf.free, h.rf.len, h.rf.inj, h.rf.neR, h.rf.neB⟩, h.HK, h.KR, h.KB, h.Kg, h.Hg⟩
end
/-- What Put turns: the keys, and the slots. -/
def PutS (K n : Nat) (gs : Nat → Nat) : Nat → Prop := fun b => b = K ∨ ∃ i, i < n ∧ b = gs i
def PutNo (w0 : World) (v : Int) (e : Ending) (w : World) : Prop := e = .returned (.tuple #[.int .i64 0, .int .i64 v]) ∧ Below w0.heap.size w0 w
theorem put_other (H K R B cap key s n L : Nat) (gs : Nat → Nat) (ks : List ByteArray) (zs : List Int) (a1 a2 : Option Addr) (l1 c1 l2 c2 : Nat) (fl : Int) (w : World) (h : Hf w H K R B cap key s n L gs ks zs) (hne : ¬ (l1 = key ∧ l2 = s ∧ fl ≤ 2)) :
    Calls Try.prog 52 #[.pointer (some ⟨H, 0, none⟩), .slice a1 l1 c1, .slice a2 l2 c2, .int .u64 fl] w (PutNo w 22) := by
  have H0 := h.h0
  have H2 := h.h2
  have r0 := h.rf.r0
  clear h
  by_cases e1 : l1 = key
  · subst e1
    by_cases e2 : l2 = s
    · subst e2
      have hf : decide (2 < fl) = true := by simp; omega
      have hf2 : 2 < fl := by omega
      go_enter Try.func52, Try.ntmps52
      go_wp2
      go_ret2
      exact ⟨rfl, Below.refl _ _⟩
    · have hq : ((l2 : Int) == (s : Int)) = false := by simp; omega
      go_enter Try.func52, Try.ntmps52
      go_wp2
      go_ret2
      exact ⟨rfl, Below.refl _ _⟩
  · have hq : ((l1 : Int) == (key : Int)) = false := by simp; omega
    go_enter Try.func52, Try.ntmps52
    go_wp2
    go_ret2
    exact ⟨rfl, Below.refl _ _⟩
theorem put_none2 (H K R B cap key s n L : Nat) (gs : Nat → Nat) (ks : List ByteArray) (zs : List Int) (g1 o1 c1 : Nat) (a2 : Option Addr) (c2 : Nat) (kz : List Int) (w : World) (h : Hf w H K R B cap key s n L gs ks zs) (hn : n ≤ 16) (hn0 : 1 ≤ n) (hk : 1 ≤ key) (hlen : kz.length = key)
    (hv : KeyAt w (.slice (some ⟨g1, o1, none⟩) key c1) kz) (hf : ks.findIdx? (· = strOfNums kz) = none) :
    Calls Try.prog 52 #[.pointer (some ⟨H, 0, none⟩), .slice (some ⟨g1, o1, none⟩) key c1, .slice a2 s c2, .int .u64 2] w (PutNo w 2) := by
  have H0 := h.h0
  have H2 := h.h2
  have r0 := h.rf.r0
  have HH := Lib.hid h
  have HV := Lib.hid hv
  have HL := Lib.hid hlen
  have HF := Lib.hid hf
  clear h hv hlen hf
  go_enter Try.func52, Try.ntmps52
  go_wp2_with (go_at_call 59; refine (find_any _ _ _ _ _ _ _ _ _ _ _ _ _ _ _ HH.out hn hn0 hk HV.out).mono ?_; rintro e w1 ⟨he, hb1⟩; rw [if_pos HL.out, findK_none HF.out] at he; subst he; have HB1 := Lib.hid hb1; clear hb1)
  go_ret2
  exact ⟨rfl, HB1.out⟩
theorem put_some1 (H K R B cap key s n L i : Nat) (gs : Nat → Nat) (ks : List ByteArray) (zs : List Int) (g1 o1 c1 : Nat) (a2 : Option Addr) (c2 : Nat) (kz : List Int) (w : World) (h : Hf w H K R B cap key s n L gs ks zs) (hn : n ≤ 16) (hn0 : 1 ≤ n) (hk : 1 ≤ key) (hlen : kz.length = key)
    (hv : KeyAt w (.slice (some ⟨g1, o1, none⟩) key c1) kz) (hf : ks.findIdx? (· = strOfNums kz) = some i) :
    Calls Try.prog 52 #[.pointer (some ⟨H, 0, none⟩), .slice (some ⟨g1, o1, none⟩) key c1, .slice a2 s c2, .int .u64 1] w (PutNo w 17) := by
  have H0 := h.h0
  have H2 := h.h2
  have r0 := h.rf.r0
  have HH := Lib.hid h
  have HV := Lib.hid hv
  have HL := Lib.hid hlen
  have HF := Lib.hid hf
  clear h hv hlen hf
  go_enter Try.func52, Try.ntmps52
  go_wp2_with (go_at_call 59; refine (find_any _ _ _ _ _ _ _ _ _ _ _ _ _ _ _ HH.out hn hn0 hk HV.out).mono ?_; rintro e w1 ⟨he, hb1⟩; rw [if_pos HL.out, findK_some HF.out] at he; subst he; have HB1 := Lib.hid hb1; clear hb1)
  go_ret2
  exact ⟨rfl, HB1.out⟩
/-- What Put gives where it puts. -/
def PutYes (w0 : World) (H K R B cap key s n L : Nat) (gs : Nat → Nat) (ks : List ByteArray) (zs : List Int) (kS : ByteArray) (vz : List Int) (f : Nat) (e : Ending) (w : World) : Prop :=
  e = .returned (.tuple #[.int .i64 f, .int .i64 0]) ∧ Hf w H K R B cap key s n L gs (ks.set f kS) (putN zs (f * s) vz s) ∧ Turned (PutS K n gs) w0 w
def PutAny (w0 : World) (H K R B cap key s n L : Nat) (gs : Nat → Nat) (ks : List ByteArray) (zs : List Int) (kS : ByteArray) (vz : List Int) (e : Ending) (w : World) : Prop :=
  match placeK ks kS with
  | some f => PutYes w0 H K R B cap key s n L gs ks zs kS vz f e w
  | none => PutNo w0 28 e w
theorem turned_row {S : Nat → Prop} {W w : World} {g off len : Nat} {zs : List Int} (h : Turned S W w) (hr : RowAt W g off len zs) (hg : g < W.heap.size) (hS : ¬ S g) : RowAt w g off len zs :=
  fun j hj => (World.cell?_of_block (w := W) (h.block g hg hS)).trans (hr j hj)
/-- How loop 1 stands. -/
def Seek (ks : List ByteArray) (kS : ByteArray) (c : Nat) (v : Value) : Prop :=
  (v = .int .i64 (-1) ∧ ks.findIdx? (· = kS) = none ∧ ∀ j, j < c → ks.getD j .empty ≠ ⟨#[]⟩) ∨ ∃ f : Nat, v = .int .i64 f ∧ placeK ks kS = some f
theorem placeK_lt {ks : List ByteArray} {kS : ByteArray} {f : Nat} (h : placeK ks kS = some f) : f < ks.length := by
  unfold placeK at h
  split at h
  · rename_i i e
    injection h with h
    subst h
    obtain ⟨hi, -⟩ := List.findIdx?_eq_some_iff_getElem.1 e
    exact hi
  · obtain ⟨hi, -⟩ := List.findIdx?_eq_some_iff_getElem.1 h
    exact hi
theorem place_at {ks : List ByteArray} {kS : ByteArray} {k : Nat} (h0 : ks.findIdx? (· = kS) = none) (h : ∀ j, j < k → ks.getD j .empty ≠ ⟨#[]⟩) (hk : k < ks.length) (he : ks.getD k .empty = ⟨#[]⟩) : placeK ks kS = some k := by
  unfold placeK
  rw [h0]
  refine List.findIdx?_eq_some_iff_getElem.2 ⟨hk, ?_, fun j hj => ?_⟩
  · rw [List.getD_eq_getElem?_getD, List.getElem?_eq_getElem hk] at he
    simpa using he
  · have := h j hj
    rw [List.getD_eq_getElem?_getD, List.getElem?_eq_getElem (by omega)] at this
    simpa using this
theorem place_none {ks : List ByteArray} {kS : ByteArray} (h0 : ks.findIdx? (· = kS) = none) (h : ∀ j, j < ks.length → ks.getD j .empty ≠ ⟨#[]⟩) : placeK ks kS = none := by
  unfold placeK
  rw [h0]
  refine List.findIdx?_eq_none_iff.2 fun x hx => ?_
  obtain ⟨j, hj, e⟩ := List.getElem_of_mem hx
  have := h j hj
  rw [List.getD_eq_getElem?_getD, List.getElem?_eq_getElem hj] at this
  rw [← e]
  simpa using this
set_option maxRecDepth 100000 in
set_option maxHeartbeats 4000000 in
theorem put_go (H K R B cap key s n L : Nat) (gs : Nat → Nat) (ks : List ByteArray) (zs : List Int) (g1 o1 c1 g2 o2 c2 : Nat) (kz vz : List Int) (fl : Int) (kS : ByteArray) (w : World) (hd : Dim s n L) (h : Hf w H K R B cap key s n L gs ks zs) (hk : 1 ≤ key) (hlen : kz.length = key)
    (hr1 : RowAt w g1 o1 key kz) (hS : strOfNums kz = kS) (hvl : vz.length = s) (hr2 : RowAt w g2 o2 s vz) (hb2 : ¬ PutS K n gs g2) (hfl : fl ≤ 2) (h2 : ks.findIdx? (· = kS) = none → fl ≠ 2) (h1 : ks.findIdx? (· = kS) ≠ none → fl ≠ 1) :
    Calls Try.prog 52 #[.pointer (some ⟨H, 0, none⟩), .slice (some ⟨g1, o1, none⟩) key c1, .slice (some ⟨g2, o2, none⟩) s c2, .int .u64 fl] w (PutAny w H K R B cap key s n L gs ks zs kS vz) := by
  have H0 := h.h0
  have H2 := h.h2
  have r0 := h.rf.r0
  have hs := hd.s0
  have hs1 := hd.s1
  have hn0 := hd.n0
  have hn := hd.n1
  have hg1 : g1 < w.heap.size := cell_block_lt (hr1 0 (by omega))
  have hg2 : g2 < w.heap.size := cell_block_lt (hr2 0 (by omega))
  have hv : KeyAt w (.slice (some ⟨g1, o1, none⟩) key c1) kz := .row g1 o1 key c1 kz hlen hr1 (fun _ => hg1)
  have HD := Lib.hid hd
  have HH := Lib.hid h
  have HV := Lib.hid hv
  have HL := Lib.hid hlen
  have HS := Lib.hid hS
  have HR1 := Lib.hid hr1
  have HR2 := Lib.hid hr2
  have HB2 := Lib.hid hb2
  obtain ⟨fv, hfv⟩ : ∃ fv, findK ks kS = fv := ⟨_, rfl⟩
  have hseek : Seek ks kS 0 (.int .i64 fv) := by
    rw [← hfv]
    cases hf : ks.findIdx? (· = kS) with
    | none => rw [findK_none hf]; exact .inl ⟨rfl, hf, fun j hj => by omega⟩
    | some i => rw [findK_some hf]; exact .inr ⟨i, rfl, by rw [placeK, hf]⟩
  have hc2 : (fl == 2) = true → decide (fv < 0) = false := by
    intro e
    have : fl = 2 := by simpa using e
    cases hf : ks.findIdx? (· = kS) with
    | none => exact absurd this (h2 hf)
    | some i => rw [← hfv, findK_some hf]; simp
  have hc1 : (fl == 1) = true → decide (0 ≤ fv) = false := by
    intro e
    have : fl = 1 := by simpa using e
    cases hf : ks.findIdx? (· = kS) with
    | none => rw [← hfv, findK_none hf]; simp
    | some i => exact absurd this (h1 (by rw [hf]; simp))
  have HFV := Lib.hid hfv
  have HSK := Lib.hid hseek
  have hnf : ¬ 2 < fl := by omega
  clear h hv hlen hS hr1 hr2 hb2 hfv hseek hd h1 h2
  have h3 : (fl == 2) = true ∧ (fl == 1) = false ∧ decide (fv < 0) = false ∨ (fl == 2) = false ∧ (fl == 1) = true ∧ decide (0 ≤ fv) = false ∨ (fl == 2) = false ∧ (fl == 1) = false ∧ True := by
    by_cases e2 : fl = 2
    · subst e2; exact .inl ⟨by simp, by simp, hc2 (by simp)⟩
    · by_cases e1 : fl = 1
      · subst e1; exact .inr (.inl ⟨by simp, by simp, hc1 (by simp)⟩)
      · exact .inr (.inr ⟨by simp [e2], by simp [e1], trivial⟩)
  clear hc1 hc2
  rcases h3 with ⟨q2, q1, q3⟩ | ⟨q2, q1, q3⟩ | ⟨q2, q1, q3⟩
  all_goals
    as_aux_lemma =>
    go_enter Try.func52, Try.ntmps52
    go_wp2_with (go_at_call 59; refine (find_any _ _ _ _ _ _ _ _ _ _ _ _ _ _ _ HH.out hn hn0 hk HV.out).mono ?_; rintro e w1 ⟨he, hb1⟩; rw [if_pos HL.out, HS.out, HFV.out] at he; subst he; have HB1 := Lib.hid hb1; clear hb1)
    go_loopw [10, 11] (fun kv iv wr => ∃ c : Nat, c ≤ n ∧ iv = .int .i64 c ∧ Below w.heap.size w wr ∧ Seek ks kS c kv) (fun _ iv _ => n - (intOf iv).toNat)
    case atStart => exact ⟨0, by omega, rfl, HB1.out, HSK.out⟩
    case round =>
      obtain ⟨c, hc, rfl, hb, hsk⟩ := hrel
      have hhr := HH.out.stay hs hn0 hb
      have k0 := hhr.h0
      have k1 := hhr.h1
      have HHR := Lib.hid hhr
      have HB := Lib.hid hb
      clear hhr hb HB1 HSK q1 q2 q3
      rcases hsk with ⟨rfl, hnf0, hne⟩ | ⟨f, rfl, hpl⟩
      · by_cases hlt : c < n
        · have ck := HHR.out.keys c hlt
          obtain ⟨y, hy⟩ : ∃ y, ks.getD c .empty = y := ⟨_, rfl⟩
          rw [hy] at ck
          have HY := Lib.hid hy
          have HNE := Lib.hid hne
          have HNF := Lib.hid hnf0
          clear hy hne hnf0
          by_cases he : y = ⟨#[]⟩
          · have hd1 := ba_empty he
            have HE := Lib.hid he
            clear he
            go_wp2
            go_roundw
            case rel => exact ⟨c + 1, by omega, by go_num, HB.out, .inr ⟨c, rfl, place_at HNF.out HNE.out (by rw [HH.out.klen]; exact hlt) (HY.out.trans HE.out)⟩⟩
            case measure => simp [intOf]; omega
          · have hd1 := ba_full he
            have HE := Lib.hid he
            clear he
            go_wp2
            go_roundw
            case rel => exact ⟨c + 1, by omega, by go_num, HB.out, .inl ⟨rfl, HNF.out, fun j hj => by
              by_cases e : j = c
              · subst e; rw [HY.out]; exact HE.out
              · exact HNE.out j (by omega)⟩⟩
            case measure => simp [intOf]; omega
        · obtain rfl : c = n := by omega
          have HP := Lib.hid (place_none hnf0 (by rw [HH.out.klen]; exact hne))
          clear hnf0 hne
          go_wp2
          go_ret2
          unfold PutAny
          rw [HP.out]
          exact ⟨rfl, HB.out⟩
      · have hfn := placeK_lt hpl
        rw [HH.out.klen] at hfn
        have HPL := Lib.hid hpl
        have ck := HHR.out.keys f hfn
        have cf := HHR.out.free f
        have hcv : ∀ m, (convert 32 9 (.slice (some ⟨g1, o1, none⟩) key c1)).run Try.prog (wr.drewN m) = .ok (.string kS) (wr.drewN m) := fun m => by
          rw [← HS.out]; exact str_of (w := wr.drewN m) HL.out (rowAt_below HR1.out hg1 (bdrewN HB.out m))
        have hcv1 : (convert 32 9 (.slice (some ⟨g1, o1, none⟩) key c1)).run Try.prog wr.drew = .ok (.string kS) wr.drew := hcv 1
        clear hpl
        by_cases hlt : c < n
        all_goals
          go_wp2
          go_region
          go_wp2
          have hst := (HHR.out.setKey (x := kS) hfn).drew
          have htr : Turned (PutS K n gs) w (wr.setCell ⟨K, f, none⟩ (.string kS)).drew := ((Turned.of HB.out).set (a := ⟨K, f, none⟩) (.inl rfl) _).drew
          have HST := Lib.hid hst
          have HTR := Lib.hid htr
          clear hst htr ck cf hcv hcv1 k0 k1
          obtain ⟨W2, hW2⟩ : ∃ W2, (wr.setCell ⟨K, f, none⟩ (.string kS)).drew = W2 := ⟨_, rfl⟩
          rw [hW2] at HST HTR ⊢
          clear hW2
          go_loopw [12] (fun iv wr2 => ∃ d : Nat, d ≤ s ∧ iv = .int .i64 d ∧ Hf wr2 H K R B cap key s n L gs (ks.set f kS) (putN zs (f * s) vz d) ∧ Turned (PutS K n gs) w wr2) (fun iv _ => s - (intOf iv).toNat)
          case atStart => exact ⟨0, by omega, rfl, HST.out, HTR.out⟩
          case round =>
            obtain ⟨d, hds, rfl, hh, ht⟩ := hrel
            have a2 := hh.h2
            have a3 := hh.rf.r1
            have a4 := hh.rf.rows f hfn
            by_cases hl2 : d < s
            · have a5 := hh.rf.row f d hfn hl2
              have a6 := hh.rf.free f d hfn
              have a7 := turned_row ht HR2.out hg2 HB2.out d hl2
              obtain ⟨gf, hgf⟩ : ∃ gf, gs f = gf := ⟨_, rfl⟩
              rw [hgf] at a4 a5 a6
              have HGF := Lib.hid hgf
              obtain ⟨x, hx⟩ : ∃ x, (putN zs (f * s) vz d).getD (f * s + d) 0 = x := ⟨_, rfl⟩
              obtain ⟨z, hz⟩ : ∃ z, vz.getD d 0 = z := ⟨_, rfl⟩
              rw [hx] at a5
              rw [hz] at a7
              have HZ := Lib.hid hz
              have HHH := Lib.hid hh
              have HT := Lib.hid ht
              clear hh ht hx hz hgf HST HTR
              go_wp2
              go_region
              go_wp2
              go_roundw
              case rel =>
                refine ⟨d + 1, by omega, by go_num, ?_, ?_⟩
                · have := (HHH.out.putA (y := z) hfn hl2 (HD.out.at hfn)).drew
                  rw [HGF.out] at this
                  rw [putN, HZ.out]
                  exact this
                · exact (HT.out.set (a := ⟨gf, d, none⟩) (.inr ⟨f, hfn, HGF.out.symm⟩) _).drew
              case measure => simp [intOf]; omega
            · obtain rfl : d = s := by omega
              have HHH := Lib.hid hh
              have HT := Lib.hid ht
              clear hh ht HST HTR
              go_wp2
              go_ret2
              unfold PutAny
              rw [HPL.out]
              exact ⟨rfl, HHH.out, HT.out⟩
end Go.Proofs.Ytenjdgoammaiiaa
