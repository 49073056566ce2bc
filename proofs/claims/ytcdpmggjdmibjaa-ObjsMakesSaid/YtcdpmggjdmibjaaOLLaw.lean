/-
  Proved here: the law ObjsLoads walked, over whatever package keeps the contracts. Conditions: Acts17, Acts17L.
-/
import Derived.Test.YtcdpmggjdmibjaaORLaw
import Derived.Deep.RegionWith
import Derived.Deep.RegionHeld
namespace Go.Proofs.Ytcdpmggjdmibjaa
open Go.RowKit

/-- What the program's package must do besides, for this law. -/
structure Acts17L : Prop where
  path_no : ∀ (X : Array Value) (o : Kob) (n : Int) (w : World), ObX w X o → ¬ (1 ≤ n ∧ n ≤ 32) → Calls Try.prog 14 #[.agg X, .int .i64 n] w (Tells (.tuple #[.slice none 0 0, .int .i64 0]) w)
  path_yes : ∀ (X : Array Value) (o : Kob) (n : Nat) (w : World), ObX w X o → 1 ≤ n → n ≤ 32 → Calls Try.prog 14 #[.agg X, .int .i64 n] w (GaveP o.path n w)
  inside : ∀ (X : Array Value) (o : Kob) (pid : Int) (w : World), ObX w X o → 0 ≤ pid ∧ pid ≤ 18446744073709551615 → Calls Try.prog 16 #[.agg X, .int .u64 pid] w (Tells (.bool (insideB o.up pid)) w)
  key : ∀ (X : Array Value) (o : Kob) (w : World), ObX w X o → Calls Try.prog 18 #[.agg X] w (Tells (.agg #[.int .i64 o.id, .int .i64 o.gen]) w)
/-- A slice of bytes reads as a text, whatever is made behind it. -/
def Conv (w : World) (v : Value) (st : ByteArray) : Prop := ∀ W, Below w.heap.size w W → (convert 41 9 v).run Try.prog W = .ok (.string st) W
theorem Conv.stay {w w' : World} {v : Value} {st : ByteArray} (h : Conv w v st) (hb : Below w.heap.size w w') : Conv w' v st := fun W hW => h W (hb.trans (hW.mono hb.size))
theorem Conv.now {w : World} {v : Value} {st : ByteArray} (h : Conv w v st) : (convert 41 9 v).run Try.prog w = .ok (.string st) w := h w (Below.refl _ _)
theorem conv_nil (w : World) : Conv w (.slice none 0 0) ⟨#[]⟩ := fun W _ => by kernel_rfl
theorem conv_row {w : World} {g n c : Nat} {zs : List Int} (hz : zs.length = n) (hg : g < w.heap.size) (h : RowAt w g 0 n zs) : Conv w (.slice (some ⟨g, 0, none⟩) n c) (strOfNums zs) := fun W hW =>
  run_convert_bytes_arg W 41 5 Try.underlying41 Try.underlying5 g 0 n c zs hz (fun j hj => (hW.cell (p := ⟨g, 0 + j, none⟩) hg).trans (h j hj)) 9 Try.underlying9
def pathS (s : ByteArray) (n : Int) : ByteArray := if 1 ≤ n ∧ n ≤ 32 then strOfNums (pathL s n.toNat) else ⟨#[]⟩
def pathK (s : ByteArray) (n : Int) : Int := if 1 ≤ n ∧ n ≤ 32 then ((min n.toNat s.size : Nat) : Int) else 0
def GavePS (s : ByteArray) (n : Int) (W : World) (e : Ending) (w : World) : Prop := ∃ a k c, e = .returned (.tuple #[.slice a k c, .int .i64 (pathK s n)]) ∧ Below W.heap.size W w ∧ Conv w (.slice a k c) (pathS s n)
theorem gavePS_no {s : ByteArray} {n : Int} {W : World} (h : ¬ (1 ≤ n ∧ n ≤ 32)) {e : Ending} {w : World} (ht : Tells (.tuple #[.slice none 0 0, .int .i64 0]) W e w) : GavePS s n W e w := by
  obtain ⟨rfl, hb⟩ := ht
  refine ⟨none, 0, 0, ?_, hb, ?_⟩
  · unfold pathK; rw [if_neg h]
  · unfold pathS; rw [if_neg h]; exact conv_nil _
theorem gavePS_yes {s : ByteArray} {n : Nat} {W : World} (h1 : 1 ≤ n) (h2 : n ≤ 32) {e : Ending} {w : World} (ht : GaveP s n W e w) : GavePS s n W e w := by
  obtain ⟨a, c, rfl, hb, g, rfl, -, hg, hr⟩ := ht
  have h : (1 : Int) ≤ n ∧ (n : Int) ≤ 32 := by omega
  refine ⟨some ⟨g, 0, none⟩, n, c, ?_, hb, ?_⟩
  · unfold pathK; rw [if_pos h, Int.toNat_natCast]
  · unfold pathS; rw [if_pos h, Int.toNat_natCast]; exact conv_row (pathL_len s n) hg hr
theorem path_ref (X : Array Value) (o : Kob) (n : Int) (w : World) (hx : ObX w X o) : Calls Try.prog 15 #[.agg X, .int .i64 n] w (GavePS o.path n w) := by
  by_cases h : 1 ≤ n ∧ n ≤ 32
  · obtain ⟨n, rfl⟩ := Int.eq_ofNat_of_zero_le (show 0 ≤ n by omega)
    exact (path_yes X o n w hx (by omega) (by omega)).mono fun e w' ht => gavePS_yes (by omega) (by omega) ht
  · exact (path_no X n w h).mono fun e w' ht => gavePS_no h ht
theorem path_acts (A : Acts17L) (X : Array Value) (o : Kob) (n : Int) (w : World) (hx : ObX w X o) : Calls Try.prog 14 #[.agg X, .int .i64 n] w (GavePS o.path n w) := by
  by_cases h : 1 ≤ n ∧ n ≤ 32
  · obtain ⟨n, rfl⟩ := Int.eq_ofNat_of_zero_le (show 0 ≤ n by omega)
    exact (A.path_yes X o n w hx (by omega) (by omega)).mono fun e w' ht => gavePS_yes (by omega) (by omega) ht
  · exact (A.path_no X o n w hx h).mono fun e w' ht => gavePS_no h ht
theorem loadO_is (o : Kob) (at_ n : Int) : ∃ u b, loadO o at_ n = .tuple #[.int .u64 u, .bool b] := by
  unfold loadO
  split
  · exact ⟨_, _, rfl⟩
  · exact ⟨_, _, rfl⟩
/-- An object's box, and what it leads to. -/
structure HeldO (w W : World) (X : Array Value) (o : Kob) : Prop where
  below : Below w.heap.size w W
  box : W.heap[w.heap.size]? = some (.cells X 38 (0, 0))
  ob : ObX W X o
theorem HeldO.stay {w W W' : World} {X : Array Value} {o : Kob} (h : HeldO w W X o) (hb : Below W.heap.size W W') : HeldO w W' X o :=
  ⟨h.below.trans (hb.mono h.below.size), (hb.block _ (Array.getElem?_eq_some_iff.1 h.box).1).trans h.box, h.ob.stay hb⟩
theorem HeldO.ld {w W : World} {X : Array Value} {o : Kob} (h : HeldO w W X o) : (loadObjV (.pointer (some ⟨w.heap.size, 0, none⟩))).run Try.prog W = .ok (.agg X) W := run_loadObj W w.heap.size X 38 (0, 0) h.box h.ob.size
theorem HeldO.new {w : World} {X : Array Value} {o : Kob} (h : ObX w X o) : HeldO w (w.alloc (.cells X 38)) X o :=
  ⟨(Below.refl _ _).alloc (Nat.le_refl _) _, heap_alloc_new _ _, h.stay ((Below.refl _ _).alloc (Nat.le_refl _) _)⟩
theorem HeldO.cell {w W : World} {X : Array Value} {o : Kob} (h : HeldO w W X o) (j : Nat) : W.cell? ⟨w.heap.size, j, none⟩ = X[j]? := cell_of_row _ _ _ _ _ _ h.box
/-- All that the comparison reads. -/
structure All9 (w W : World) (X : Array Value) (o : Kob) (v4 v5 : Value) (st : ByteArray) : Prop where
  held : HeldO w W X o
  c4 : Conv W v4 st
  c5 : Conv W v5 st
theorem all9_step {w W W' : World} {X : Array Value} {o : Kob} {v4 v5 : Value} {st : ByteArray} (h : Hid (All9 w W X o v4 v5 st)) (hb : Below W.heap.size W W') : Hid (All9 w W' X o v4 v5 st) :=
  Lib.hid ⟨h.out.held.stay hb, h.out.c4.stay hb, h.out.c5.stay hb⟩
theorem all9_six {w W : World} {X : Array Value} {o : Kob} {v4 v5 : Value} {st : ByteArray} {d1 d2 : Int} (h : Hid (All9 w W X o v4 v5 st)) (h1 : X[1]? = some (.int .i64 d1)) (h2 : X[2]? = some (.int .i64 d2)) :
    (convert 41 9 v4).run Try.prog W = .ok (.string st) W ∧ (convert 41 9 v5).run Try.prog W = .ok (.string st) W ∧ (loadObjV (.pointer (some ⟨w.heap.size, 0, none⟩))).run Try.prog W = .ok (.agg X) W ∧ W.cell? ⟨w.heap.size, 1, none⟩ = some (.int .i64 d1) ∧ W.cell? ⟨w.heap.size, 2, none⟩ = some (.int .i64 d2) ∧ Hid (All9 w W X o v4 v5 st) :=
  ⟨h.out.c4.now, h.out.c5.now, h.out.held.ld, (h.out.held.cell 1).trans h1, (h.out.held.cell 2).trans h2, h⟩
attribute [local go_sem ↓] loadObj_veil
set_option maxHeartbeats 1000000 in
set_option maxRecDepth 100000 in
theorem loads_law (A : Acts17) (B : Acts17L) (X : Array Value) (o : Kob) (at_ size n pid : Int) (w : World) (hx : ObX w X o) (ha : -9223372036854775808 ≤ at_ ∧ at_ ≤ 9223372036854775807) (hs : -9223372036854775808 ≤ size ∧ size ≤ 9223372036854775807) (hp : 0 ≤ pid ∧ pid ≤ 18446744073709551615) :
    Calls Try.prog 4 #[.agg X, .int .i64 at_, .int .i64 size, .int .i64 n, .int .u64 pid] w (TrueB w) := by
  have HH := Lib.hid (HeldO.new hx)
  have HX1 := Lib.hid hx.x1
  have HX2 := Lib.hid hx.x2
  have hx11 := hx.x11
  obtain ⟨a, k, hx12, -⟩ := hx.x12
  have hbp := hx.bp
  have hbu := hx.bu
  unfold maxLen at hbp hbu
  obtain ⟨u, b, hl⟩ := loadO_is o at_ size
  have HLO := Lib.hid hl
  obtain ⟨s, hso⟩ : ∃ s, o.path = s := ⟨_, rfl⟩
  obtain ⟨m, hm⟩ : ∃ m, o.up.length = m := ⟨_, rfl⟩
  rw [hso] at hx11 hbp
  rw [hm] at hx12 hbu
  have HSO := Lib.hid hso
  clear hx hl hso hm
  go_enter Try.func4, Try.ntmps4
  go_wp2_with fail
  refine (alive17 A _).mono ?_
  rintro e w1 ⟨rfl, hb1⟩
  have H1 := Lib.hid (HH.out.stay hb1)
  clear hb1 HH
  have hc11 := (H1.out.cell 11).trans hx11
  have hc12 := (H1.out.cell 12).trans hx12
  have hld := H1.out.ld
  by_cases h200 : 200 < s.size
  · go_wp2
    go_ret
    exact ⟨rfl, H1.out.below⟩
  by_cases h50 : 50 < m
  · go_wp2
    go_ret
    exact ⟨rfl, H1.out.below⟩
  go_wp2_with fail
  refine (A.load X o at_ size _ H1.out.ob ha hs).mono ?_
  rintro e w2 ⟨rfl, hb2⟩
  rw [HLO.out]
  have H2 := Lib.hid (H1.out.stay hb2)
  clear hb2 hld hc11 hc12
  have hld := H2.out.ld
  go_wp2_with fail
  refine (load_obj X o at_ size _ H2.out.ob hs).mono ?_
  rintro e w3 ⟨rfl, hb3⟩
  rw [HLO.out]
  have H3 := Lib.hid (H2.out.stay hb3)
  clear hb3 hld
  have hld := H3.out.ld
  go_wp2_with fail
  refine (path_acts B X o n _ H3.out.ob).mono ?_
  rintro e w4 ⟨a4, k4, c4, rfl, hb4, hv4⟩
  have H4 := Lib.hid (H3.out.stay hb4)
  have HV4 := Lib.hid hv4
  clear hb4 hld hv4
  have hld := H4.out.ld
  go_wp2_with fail
  refine (path_ref X o n _ H4.out.ob).mono ?_
  rintro e w5 ⟨a5, k5, c5, rfl, hb5, hv5⟩
  have H5 := Lib.hid (H4.out.stay hb5)
  have HV5 := Lib.hid hv5
  have HV45 := Lib.hid (HV4.out.stay hb5)
  clear hb5 hld hv5
  have hall : All9 w w5 X o (.slice a4 k4 c4) (.slice a5 k5 c5) (pathS o.path n) := ⟨H5.out, HV45.out, HV5.out⟩
  obtain ⟨st, hst⟩ : ∃ st, pathS o.path n = st := ⟨_, rfl⟩
  rw [hst] at hall
  obtain ⟨kk, hkk⟩ : ∃ kk, pathK o.path n = kk := ⟨_, rfl⟩
  rw [hkk]
  obtain ⟨bI, hB⟩ : ∃ bI, insideB o.up pid = bI := ⟨_, rfl⟩
  obtain ⟨d1, hd1⟩ : ∃ d, o.id = d := ⟨_, rfl⟩
  obtain ⟨d2, hd2⟩ : ∃ d, o.gen = d := ⟨_, rfl⟩
  have hA0 := all9_step (Lib.hid hall) (Below.refl _ _).drew
  have h1 := HX1.out
  have h2 := HX2.out
  rw [hd1] at h1
  rw [hd2] at h2
  have HX1' := Lib.hid h1
  have HX2' := Lib.hid h2
  have HB := Lib.hid hB
  have HD1 := Lib.hid hd1
  have HD2 := Lib.hid hd2
  clear hall hst hkk hB hd1 hd2 h1 h2 HX1 HX2 H1 H2 H3 H4 H5 HV4 HV5 HV45 hx11 hx12
  go_upto_region 9 with fail
  have hS0 := all9_six hA0 HX1'.out HX2'.out
  go_region_held (fun W => (convert 41 9 (.slice a4 k4 c4)).run Try.prog W = .ok (.string st) W ∧ (convert 41 9 (.slice a5 k5 c5)).run Try.prog W = .ok (.string st) W ∧ (loadObjV (.pointer (some ⟨w.heap.size, 0, none⟩))).run Try.prog W = .ok (.agg X) W ∧ W.cell? ⟨w.heap.size, 1, none⟩ = some (.int .i64 d1) ∧ W.cell? ⟨w.heap.size, 2, none⟩ = some (.int .i64 d2) ∧ Hid (All9 w W X o (.slice a4 k4 c4) (.slice a5 k5 c5) st))
    (first
      | exact hS0
      | exact hT3)
    (first
      | (go_at_call 16; refine (B.inside X o pid _ (HeldO.ob (w := w) (All9.held (v4 := .slice a4 k4 c4) (v5 := .slice a5 k5 c5) (st := st) (Hid.out (by assumption)))) hp).mono ?_; rintro e w6 ⟨rfl, hb6⟩; rw [HB.out]; have hA6 := all9_step (w := w) (X := X) (o := o) (v4 := .slice a4 k4 c4) (v5 := .slice a5 k5 c5) (st := st) (by assumption) hb6; have hT3 := all9_six hA6 HX1'.out HX2'.out; clear hb6)
      | (go_at_call 17; refine (inside_obj X o pid _ (HeldO.ob (w := w) (All9.held (v4 := .slice a4 k4 c4) (v5 := .slice a5 k5 c5) (st := st) (Hid.out (by assumption))))).mono ?_; rintro e w6 ⟨rfl, hb6⟩; rw [HB.out]; have hA6 := all9_step (w := w) (X := X) (o := o) (v4 := .slice a4 k4 c4) (v5 := .slice a5 k5 c5) (st := st) (by assumption) hb6; have hT3 := all9_six hA6 HX1'.out HX2'.out; clear hb6)
      | (go_at_call 18; refine (B.key X o _ (HeldO.ob (w := w) (All9.held (v4 := .slice a4 k4 c4) (v5 := .slice a5 k5 c5) (st := st) (Hid.out (by assumption))))).mono ?_; rintro e w6 ⟨rfl, hb6⟩; rw [HD1.out, HD2.out]; have hA6 := all9_step (w := w) (X := X) (o := o) (v4 := .slice a4 k4 c4) (v5 := .slice a5 k5 c5) (st := st) (by assumption) hb6; have hT3 := all9_six hA6 HX1'.out HX2'.out; clear hb6))
  go_wp2
  go_ret
  exact ⟨ret_bool (by simp), HeldO.below (X := X) (o := o) (All9.held (v4 := .slice a4 k4 c4) (v5 := .slice a5 k5 c5) (st := st) (Hid.out (by assumption)))⟩
end Go.Proofs.Ytcdpmggjdmibjaa
