import Derived.Test.YthmibmofdmlgaaaGreatDoorG02
import Derived.MapKept
import Derived.Maps.Own
import Derived.Deep.RegionWith
/-
  Proved here: fieldsByShapes of package isa makes a new map with twelve entries, and what a look-up in it tells. Conditions: none.
-/
namespace Go.Proofs.YthmibmofdmlgaaaGreatDoor
open Go.RowKit Go.MapKept

/-- What an instruction of a shape may have. -/
structure Fld where
  key : Int
  dst : Int
  src : Int
  off : Bool
  imm : Bool
def Fld.val (f : Fld) : Value := .agg #[.int .u8 f.dst, .int .u8 f.src, .bool f.off, .bool f.imm]
def tab : List Fld := [⟨1, 9, 0, false, true⟩, ⟨2, 9, 10, false, false⟩, ⟨3, 9, 0, false, false⟩, ⟨4, 10, 0, true, true⟩, ⟨5, 10, 10, true, false⟩, ⟨6, 0, 0, true, false⟩, ⟨7, 0, 0, false, true⟩, ⟨8, 0, 0, false, false⟩,
  ⟨9, 9, 10, true, false⟩, ⟨10, 10, 0, true, true⟩, ⟨11, 10, 10, true, false⟩, ⟨12, 9, 1, false, true⟩]
/-- The first n entries. -/
def ents (n : Nat) : Array MapEntry := ((tab.take n).mapIdx fun i f => { key := .int .u8 f.key, val := f.val, born := i }).toArray

theorem alloc_again (w : World) (o o' : Obj) : { w.alloc o with heap := (w.alloc o).heap.setIfInBounds w.heap.size o' } = w.alloc o' := by
  have e : (w.heap.push o).setIfInBounds w.heap.size o' = w.heap.push o' := by
    apply Array.ext_getElem?
    intro i
    rw [Array.getElem?_setIfInBounds, Array.getElem?_push, Array.getElem?_push, Array.size_push]
    by_cases h : w.heap.size = i
    · subst h; simp
    · rw [if_neg h, if_neg (Ne.symm h), if_neg (Ne.symm h)]
  show { w.alloc o with heap := (w.heap.push o).setIfInBounds w.heap.size o' } = w.alloc o'
  rw [e]
  rfl
theorem run_put (w : World) (i : Nat) (es es' : Array MapEntry) (k : Int) (v : Value) (h1 : Instr.findNow (.int .u8) (.int .u8 k) es.toList 0 = some none) (h2 : es.push { key := .int .u8 k, val := v, born := i } = es') :
    (Instr.mapUpdate 102 (.map (some w.heap.size)) (.int .u8 k) v).run Tryz.prog (w.alloc (.map es i)) = .ok () (w.alloc (.map es' (i + 1))) := by
  have hb := (heap_alloc w (.map es i)).1
  have hk : IsKey (.int .u8) (.int .u8 k) := rfl
  have hd : Tryz.prog.underlying 116 = some (.int .u8) := Tryz.underlying116
  subst h2
  simp [Instr.mapUpdate, run_underlying Tryz.underlying102, MapKept.run_getObj_map hb, run_checkKey hd hk, run_findKey hd h1, run_setObj_map _ hb, Result.andThen]
  exact alloc_again _ _ _
/-- The map: block b. -/
def FieldMap (w : World) (b : Nat) : Prop := w.heap[b]? = some (.map (ents 12) 12)
theorem FieldMap.below {B b : Nat} {w w' : World} (h : FieldMap w b) (hb : Below B w w') (hl : b < B) : FieldMap w' b := (hb.block b hl).trans h
theorem FieldMap.lt {b : Nat} {w : World} (h : FieldMap w b) : b < w.heap.size := (Array.getElem?_eq_some_iff.1 h).1
theorem FieldMap.drew {w : World} {b : Nat} (h : FieldMap w b) : FieldMap w.drew b := h

theorem fields_map (w : World) : Calls Tryz.prog 58 #[] w (Ret (.map (some w.heap.size)) (w.alloc (.map (ents 12) 12))) := by
  unfold Ret
  have e0 : (#[] : Array MapEntry) = ents 0 := rfl
  have hmm := @run_makeMap Tryz.prog
  have p0 := run_put w 0 (ents 0) (ents 1) 1 (.agg #[.int .u8 9, .int .u8 0, .bool false, .bool true]) rfl rfl
  have p1 := run_put w 1 (ents 1) (ents 2) 2 (.agg #[.int .u8 9, .int .u8 10, .bool false, .bool false]) rfl rfl
  have p2 := run_put w 2 (ents 2) (ents 3) 3 (.agg #[.int .u8 9, .int .u8 0, .bool false, .bool false]) rfl rfl
  have p3 := run_put w 3 (ents 3) (ents 4) 4 (.agg #[.int .u8 10, .int .u8 0, .bool true, .bool true]) rfl rfl
  have p4 := run_put w 4 (ents 4) (ents 5) 5 (.agg #[.int .u8 10, .int .u8 10, .bool true, .bool false]) rfl rfl
  have p5 := run_put w 5 (ents 5) (ents 6) 6 (.agg #[.int .u8 0, .int .u8 0, .bool true, .bool false]) rfl rfl
  have p6 := run_put w 6 (ents 6) (ents 7) 7 (.agg #[.int .u8 0, .int .u8 0, .bool false, .bool true]) rfl rfl
  have p7 := run_put w 7 (ents 7) (ents 8) 8 (.agg #[.int .u8 0, .int .u8 0, .bool false, .bool false]) rfl rfl
  have p8 := run_put w 8 (ents 8) (ents 9) 9 (.agg #[.int .u8 9, .int .u8 10, .bool true, .bool false]) rfl rfl
  have p9 := run_put w 9 (ents 9) (ents 10) 10 (.agg #[.int .u8 10, .int .u8 0, .bool true, .bool true]) rfl rfl
  have p10 := run_put w 10 (ents 10) (ents 11) 11 (.agg #[.int .u8 10, .int .u8 10, .bool true, .bool false]) rfl rfl
  have p11 := run_put w 11 (ents 11) (ents 12) 12 (.agg #[.int .u8 9, .int .u8 1, .bool false, .bool true]) rfl rfl
  rw [← e0] at p0
  clear e0
  go_enter Tryz.func58, Tryz.ntmps58
  go_wp2
  go_ret
  exact ⟨rfl, rfl⟩

theorem run_look (w : World) (b j : Nat) (k : Int) (v : Value) (hb : FieldMap w b) (h1 : Instr.findNow (.int .u8) (.int .u8 k) (ents 12).toList 0 = some (some (j, v))) :
    (Instr.lookup 102 (.map (some b)) (.int .u8 k) true).run Tryz.prog w = .ok (.tuple #[v, .bool true]) w := by
  unfold FieldMap at hb
  have hk : IsKey (.int .u8) (.int .u8 k) := rfl
  have hd : Tryz.prog.underlying 116 = some (.int .u8) := Tryz.underlying116
  simp [Instr.lookup, run_underlying Tryz.underlying102, MapKept.run_getObj_map hb, run_checkKey hd hk, run_findKey hd h1, Result.andThen]
theorem run_look0 (w : World) (b : Nat) (hb : FieldMap w b) :
    (Instr.lookup 102 (.map (some b)) (.int .u8 0) true).run Tryz.prog w = .ok (.tuple #[.agg #[.int .u8 0, .int .u8 0, .bool false, .bool false], .bool false]) w := by
  unfold FieldMap at hb
  have hk : IsKey (.int .u8) (.int .u8 0) := rfl
  have hd : Tryz.prog.underlying 116 = some (.int .u8) := Tryz.underlying116
  have h1 : Instr.findNow (.int .u8) (.int .u8 0) (ents 12).toList 0 = some none := rfl
  simp [Instr.lookup, run_underlying Tryz.underlying102, MapKept.run_getObj_map hb, run_checkKey hd hk, run_findKey hd h1, Result.andThen]

/-- The entry of a shape. -/
def fldOf (s : Int) : Fld := tab.getD (s.toNat - 1) ⟨0, 0, 0, false, false⟩
def fldAt (s : Int) : Fld := if s = 0 then ⟨0, 0, 0, false, false⟩ else fldOf s
theorem run_shape (w : World) (b : Nat) (s : Int) (hb : FieldMap w b) (h0 : 0 ≤ s) (h1 : s ≤ 12) :
    (Instr.lookup 102 (.map (some b)) (.int .u8 s) true).run Tryz.prog w = .ok (.tuple #[(fldAt s).val, .bool (s != 0)]) w := by
  obtain rfl | rfl | rfl | rfl | rfl | rfl | rfl | rfl | rfl | rfl | rfl | rfl | rfl : s = 0 ∨ s = 1 ∨ s = 2 ∨ s = 3 ∨ s = 4 ∨ s = 5 ∨ s = 6 ∨ s = 7 ∨ s = 8 ∨ s = 9 ∨ s = 10 ∨ s = 11 ∨ s = 12 := by omega
  · exact run_look0 w b hb
  · exact run_look w b 0 1 _ hb rfl
  · exact run_look w b 1 2 _ hb rfl
  · exact run_look w b 2 3 _ hb rfl
  · exact run_look w b 3 4 _ hb rfl
  · exact run_look w b 4 5 _ hb rfl
  · exact run_look w b 5 6 _ hb rfl
  · exact run_look w b 6 7 _ hb rfl
  · exact run_look w b 7 8 _ hb rfl
  · exact run_look w b 8 9 _ hb rfl
  · exact run_look w b 9 10 _ hb rfl
  · exact run_look w b 10 11 _ hb rfl
  · exact run_look w b 11 12 _ hb rfl


theorem shp_table : ∀ n : Fin 256, decide (0 ≤ shp (n.val : Int) ∧ shp (n.val : Int) ≤ 12) = true := by decide +kernel
theorem shp_bd {op : Int} (h0 : 0 ≤ op) (h1 : op ≤ 255) : 0 ≤ shp op ∧ shp op ≤ 12 := of_decide_eq_true (of_table (f := fun op => decide (0 ≤ shp op ∧ shp op ≤ 12)) (g := fun _ => true) shp_table h0 h1)

/-- Does an instruction keep to what its shape may have? -/
def fitB (f : Fld) (ok : Bool) (d s o m : Int) : Bool := ok && decide (d ≤ f.dst) && decide (s ≤ f.src) && (f.off || o == 0) && (f.imm || m == 0)
def rightI (x : Ins) : Bool := fitB (fldAt (shp x.op)) (shp x.op != 0) x.dst x.src x.off x.imm
set_option maxRecDepth 100000 in
theorem fits_isa (w : World) (b : Nat) (o d s f m : Int) (hb : FieldMap w b) (h0 : 0 ≤ o) (h1 : o ≤ 255) :
    Calls Tryz.prog 57 #[.map (some b), insV o d s f m] w fun e w' => e = .returned (.bool (rightI ⟨o, d, s, f, m⟩)) ∧ Below w.heap.size w w' := by
  obtain ⟨t0, t1⟩ := shp_bd h0 h1
  have hw : FieldMap (w.alloc (.cells #[.int .u8 o, .int .u8 d, .int .u8 s, .int .i16 f, .int .i32 m] 35)) b := hb.below ((Below.refl _ _).alloc (Nat.le_refl _) _) hb.lt
  have hrun := run_shape _ b _ hw t0 t1
  unfold rightI
  dsimp only
  obtain ⟨⟨k, a, b', c, i⟩, hF⟩ : ∃ F, fldAt (shp o) = F := ⟨_, rfl⟩
  obtain ⟨t, ht⟩ : ∃ t, shp o = t := ⟨_, rfl⟩
  obtain ⟨ok, hok⟩ : ∃ ok, (t != 0) = ok := ⟨_, rfl⟩
  rw [hF, ht, hok] at hrun
  rw [hF, ht, hok]
  rw [ht] at t0 t1
  have HT := Lib.hid ht
  clear hF hok ht hw
  unfold Fld.val at hrun
  unfold insV
  go_enter Tryz.func57, Tryz.ntmps57
  go_wp2_with (go_at_call 73; refine (shape_of _ _).mono ?_; rintro e w' ⟨rfl, rfl⟩; rw [HT.out])
  all_goals
    go_ret
    exact ⟨ret_bool (by simp_all [fitB] <;> (intros; omega)), ((Below.refl _ _).alloc (Nat.le_refl _) _).alloc (by simp) _⟩
end Go.Proofs.YthmibmofdmlgaaaGreatDoor

/-
  Proved here: Right of package isa and Right of the document's answers return the same for every instruction. Conditions: the opcode is a byte, the registers are not below 0.
-/
namespace Go.Proofs.YthmibmofdmlgaaaGreatDoor
open Go.RowKit

theorem map_made (w : World) : FieldMap (w.alloc (.map (ents 12) 12)) w.heap.size := (MapKept.heap_alloc w _).1
theorem map_made2 (w : World) (o : Obj) : FieldMap ((w.alloc o).alloc (.map (ents 12) 12)).drew (w.heap.size + 1) := by
  have h := map_made (w.alloc o)
  have e : (w.alloc o).heap.size = w.heap.size + 1 := by simp
  rw [e] at h
  exact h
theorem right_isa (o d s f m : Int) (w : World) (h0 : 0 ≤ o) (h1 : o ≤ 255) :
    Calls Tryz.prog 41 #[insV o d s f m] w fun e w' => e = .returned (.bool (rightI ⟨o, d, s, f, m⟩)) ∧ Below w.heap.size w w' := by
  obtain ⟨r, hr⟩ : ∃ r, rightI ⟨o, d, s, f, m⟩ = r := ⟨_, rfl⟩
  rw [hr]
  have HR := Lib.hid hr
  clear hr
  unfold insV
  go_enter Tryz.func41, Tryz.ntmps41
  go_wp2
  go_region_with (first
    | (go_at_call 58; refine (fields_map _).mono ?_; rintro e w1 ⟨rfl, rfl⟩)
    | (go_at_call 57; refine (fits_isa _ _ o d s f m (by exact map_made2 _ _) h0 h1).mono ?_; rintro e w2 ⟨rfl, hb2⟩; have HB2 := Lib.hid hb2; clear hb2))
  all_goals
    go_wp2
    go_ret
    exact ⟨ret_bool HR.out, ((((Below.refl _ _).alloc (Nat.le_refl _) _).alloc (by simp) _).drew.trans (HB2.out.mono (by simp; omega)))⟩

/-- Right by the document's answers. -/
def rightR (x : Ins) : Bool :=
  if x.op = 24 then decide (x.dst ≤ 9) && decide (x.off = 0) && decide (x.src ≤ 1)
  else if x.op % 8 = 4 ∨ x.op % 8 = 7 then
    if 12 < x.op / 16 ∨ 9 < x.dst ∨ x.off ≠ 0 then false
    else if x.op / 16 = 8 then !decide (x.op / 8 % 2 = 1) && decide (x.src = 0) && decide (x.imm = 0)
    else if x.op / 8 % 2 = 1 then decide (x.src ≤ 10) && decide (x.imm = 0) else decide (x.src = 0)
  else if condB x.op = true then
    if x.op / 8 % 2 = 1 then decide (x.dst ≤ 10) && decide (x.src ≤ 10) && decide (x.imm = 0) else decide (x.dst ≤ 10) && decide (x.src = 0)
  else if x.op = 5 then decide (x.dst = 0) && decide (x.src = 0) && decide (x.imm = 0)
  else if x.op = 133 then decide (x.dst = 0) && decide (x.src = 0) && decide (x.off = 0)
  else if x.op = 149 then decide (x.dst = 0) && decide (x.src = 0) && decide (x.off = 0) && decide (x.imm = 0)
  else if szR x.op = 0 then false
  else if x.op % 8 = 1 then decide (x.dst ≤ 9) && decide (x.src ≤ 10) && decide (x.imm = 0)
  else if x.op % 8 = 2 then decide (x.dst ≤ 10) && decide (x.src = 0)
  else decide (x.dst ≤ 10) && decide (x.src ≤ 10) && decide (x.imm = 0)
theorem below_box (w : World) (o : Obj) : Below w.heap.size w (w.alloc o) := (Below.refl _ _).alloc (Nat.le_refl _) _

set_option maxRecDepth 100000 in
theorem right_ref24 (d s f m : Int) (w : World) :
    Calls Tryz.prog 12 #[insV 24 d s f m] w fun e w' => e = .returned (.bool (rightR ⟨24, d, s, f, m⟩)) ∧ Below w.heap.size w w' := by
  unfold insV
  go_enter Tryz.func12, Tryz.ntmps12
  go_wp2
  all_goals
    go_ret
    exact ⟨ret_bool (by simp_all [rightR] <;> (intros; omega)), below_box _ _⟩
end Go.Proofs.YthmibmofdmlgaaaGreatDoor
