/-
  Proved here: what isNum and add of package objs give. Conditions: a part that reads as one, of an object of at most fifty it comes of.
-/
import Derived.Test.YtcdpmggjdmibjaaZMem
import Derived.Deep.RegionWith
import Derived.RegionTactic
import Derived.BigRegion
namespace Go.Proofs.Ytcdpmggjdmibjaa
open Go.RowKit

theorem isNum_call (X : Array Value) (p : Pt) (w : World) (hx : PtX w X p) : Calls Try.prog 35 #[.agg X] w (Tells (.bool (!p.null && !p.has)) w) := by
  have h0 := (box_cells w X 49 0).trans hx.x0
  have h1 := (box_cells w X 49 1).trans hx.x1
  clear hx
  generalize p.null = a at h0 ⊢
  generalize p.has = b at h1 ⊢
  cases a
  · cases b
    · go_enter Try.func35, Try.ntmps35
      go_wp2
      go_ret
      exact ⟨rfl, (Below.refl _ _).alloc (Nat.le_refl _) _⟩
    · go_enter Try.func35, Try.ntmps35
      go_wp2
      go_ret
      exact ⟨rfl, (Below.refl _ _).alloc (Nat.le_refl _) _⟩
  · go_enter Try.func35, Try.ntmps35
    go_wp2
    go_ret
    exact ⟨rfl, (Below.refl _ _).alloc (Nat.le_refl _) _⟩
/-- The words and the objects with a part more. -/
def addW (p : Pt) (ws : Nat → Int) (i n : Nat) : Nat → Int := if p.null = true then ws else if p.has = true then updW ws i ((n + 1 : Nat) : Int) else updW ws i p.num
def addO (p : Pt) (os : List Kob) : List Kob := if isObj p = true then os ++ [p.obj] else os
def Added (W0 : World) (G : Nat) (hook now : Int) (ws : Nat → Int) (os : List Kob) (W : World) (e : Ending) (w : World) : Prop := ∃ v, e = .returned (.tuple #[]) ∧ Mk W0 w G hook now ws v os ∧ Beside G W w
section
variable {W0 : World} {G : Nat} {hook now : Int} {ws : Nat → Int} {v : Value} {os : List Kob}
theorem add_null (X : Array Value) (p : Pt) (i : Nat) (w : World) (H : Mk W0 w G hook now ws v os) (hx : PtX w X p) (hn : p.null = true) : Calls Try.prog 36 #[.pointer (some ⟨G, 0, none⟩), .int .i64 i, .agg X] w (Added W0 G hook now (addW p ws i os.length) (addO p os) w) := by
  have e1 : addW p ws i os.length = ws := by unfold addW; rw [if_pos hn]
  have e2 : addO p os = os := by unfold addO isObj; rw [hn]; rfl
  rw [e1, e2]
  have h0 := (box_cells w X 49 0).trans hx.x0
  rw [hn] at h0
  have hb : Below w.heap.size w (w.alloc (.cells X 49)) := (Below.refl _ _).alloc (Nat.le_refl _) _
  have HR := Lib.hid (show Mk W0 (w.alloc (.cells X 49)) G hook now ws v os ∧ Beside G w (w.alloc (.cells X 49)) from ⟨H.stay hb, Beside.below hb⟩)
  clear hx H hb
  go_enter Try.func36, Try.ntmps36
  go_wp2
  first | go_end0 | refine bodyPost_ret (results_none rfl _ _ _) rfl ?_
  exact ⟨v, rfl, HR.out⟩
theorem add_num (X : Array Value) (p : Pt) (i : Nat) (w : World) (H : Mk W0 w G hook now ws v os) (hx : PtX w X p) (hi : i < 8) (hn : p.null = false) (hh : p.has = false) : Calls Try.prog 36 #[.pointer (some ⟨G, 0, none⟩), .int .i64 i, .agg X] w (Added W0 G hook now (addW p ws i os.length) (addO p os) w) := by
  have e1 : addW p ws i os.length = updW ws i p.num := by unfold addW; rw [hn, hh]; rfl
  have e2 : addO p os = os := by unfold addO isObj; rw [hn, hh]; rfl
  rw [e1, e2]
  have h0 := (box_cells w X 49 0).trans hx.x0
  have h1 := (box_cells w X 49 1).trans hx.x1
  have h15 := (box_cells w X 49 15).trans hx.x15
  rw [hn] at h0
  rw [hh] at h1
  generalize p.num = x at h15 ⊢
  have hb : Below w.heap.size w (w.alloc (.cells X 49)) := (Below.refl _ _).alloc (Nat.le_refl _) _
  have hG := (Array.getElem?_eq_some_iff.1 H.box).1
  have H1 := H.stay hb
  obtain ⟨W1, hW1⟩ : ∃ W1, w.alloc (.cells X 49) = W1 := ⟨_, rfl⟩
  rw [hW1] at h0 h1 h15 hb H1
  obtain ⟨H2, hbe⟩ := H1.word i hi x
  have HR := Lib.hid (show Mk W0 (W1.setCell ⟨G, 1 + i, none⟩ (.int .u64 x)) G hook now (updW ws i x) v os ∧ Beside G w (W1.setCell ⟨G, 1 + i, none⟩ (.int .u64 x)) from ⟨H2, (Beside.below hb).trans hbe⟩)
  have hcw : W1.cell? ⟨G, 1 + i, none⟩ = some (.int .u64 (ws i)) := by rw [cell_of_row _ _ _ _ _ _ H1.box]; exact ctx_cw _ _ _ _ i hi
  have hfw : W1.frozen? ⟨G, 1 + i, none⟩ = false := by simp [World.frozen?, H1.box]
  have HW1 := Lib.hid hW1
  clear hx H hb H1 H2 hbe hW1 e1 e2 hn hh
  go_enter Try.func36, Try.ntmps36
  go_upto_region 2 with fail
  rw [HW1.out]
  go_wp2
  go_region
  try go_wp2
  first | go_end0 | refine bodyPost_ret (results_none rfl _ _ _) rfl ?_
  exact ⟨v, rfl, HR.out.1.stay (Below.refl _ _).drew, HR.out.2.trans (Beside.below (Below.refl _ _).drew)⟩
attribute [local go_sem ↓] loadObj_veil buildOb_veil append_veil
set_option maxHeartbeats 2000000 in
set_option maxRecDepth 100000 in
theorem add_obj (X : Array Value) (p : Pt) (i : Nat) (w : World) (H : Mk W0 w G hook now ws v os) (hx : PtX w X p) (hi : i < 8) (hn : p.null = false) (hh : p.has = true) (hl : os.length ≤ 20) (hu : p.obj.up.length ≤ 50) : Calls Try.prog 36 #[.pointer (some ⟨G, 0, none⟩), .int .i64 i, .agg X] w (Added W0 G hook now (addW p ws i os.length) (addO p os) w) := by
  have e1 : addW p ws i os.length = updW ws i ((os.length + 1 : Nat) : Int) := by unfold addW; rw [hn, hh]; rfl
  have e2 : addO p os = os ++ [p.obj] := by unfold addO isObj; rw [hn, hh]; rfl
  rw [e1, e2]
  have h0 := (box_cells w X 49 0).trans hx.x0
  have h1 := (box_cells w X 49 1).trans hx.x1
  rw [hn] at h0
  rw [hh] at h1
  obtain ⟨Y, hY, hYX⟩ := hx.xo
  have hb : Below w.heap.size w (w.alloc (.cells X 49)) := (Below.refl _ _).alloc (Nat.le_refl _) _
  have hld : (loadObjV (.pointer (some ⟨w.heap.size, 2, none⟩))).run Try.prog (w.alloc (.cells X 49)) = .ok (.agg Y) (w.alloc (.cells X 49)) := run_loadOb hY.size (fun j hj => (box_cells w X 49 (2 + j)).trans (hYX j hj))
  obtain ⟨W1, hW1⟩ : ∃ W1, w.alloc (.cells X 49) = W1 := ⟨_, rfl⟩
  have HH := Lib.hid H
  rw [hW1] at h0 h1 hb hld
  obtain ⟨a0, c0, rfl⟩ := H.shape
  obtain ⟨n, hnn⟩ : ∃ n, os.length = n := ⟨_, rfl⟩
  have H1 := H.stay hb
  have hc9 : ∀ W, Below W1.heap.size W1 W → W.cell? ⟨G, 9, none⟩ = some (.slice a0 n c0) := fun W hW => by rw [cell_of_row _ _ _ _ _ _ (H1.stay hW).box, hnn]; rfl
  have hcl : ∀ W, Below W1.heap.size W1 W → Calls Try.prog 43 #[.agg Y] W (GaveC p.obj W) := fun W hW => clone17 Y p.obj W (hY.stay (hb.trans (hW.mono hb.size))) hu
  have hlt1 : w.heap.size < W1.heap.size := by rw [← hW1]; simp
  have hcy : ∀ j, j < 13 → W1.cell? ⟨w.heap.size, 2 + j, none⟩ = Y[j]? := fun j hj => by rw [← hW1]; exact (box_cells w X 49 (2 + j)).trans (hYX j hj)
  have hldW : ∀ W, Below W1.heap.size W1 W → (loadObjV (.pointer (some ⟨w.heap.size, 2, none⟩))).run Try.prog W = .ok (.agg Y) W := fun W hW => run_loadOb hY.size (fun j hj => (hW.cell (p := ⟨w.heap.size, 2 + j, none⟩) hlt1).trans (hcy j hj))
  have h9d := hc9 W1.drew (Below.refl _ _).drew
  have hldd := hldW W1.drew (Below.refl _ _).drew
  have HCL := Lib.hid hcl
  have HB := Lib.hid hb
  have HW1 := Lib.hid hW1
  have HC9 := Lib.hid hc9
  have HN := Lib.hid hnn
  rw [hnn] at hl
  clear hcl hb hW1 hc9 hnn H H1 hY hYX hx e1 e2 hn hh hu hld hcy hldW hlt1
  go_enter Try.func36, Try.ntmps36
  go_upto_region 2 with fail
  rw [HW1.out]
  go_upto_region 4 with fail
  clear h0 h1
  go_region_with (go_at_call 43; refine (HCL.out _ (Below.refl _ _).drew).mono ?_; rintro e w2 ⟨Y2, rfl, hY2, hb2⟩; have hb3 : Below W1.heap.size W1 w2 := (Below.refl _ _).drew.trans hb2; have hbl := run_buildOb w2 Y2 hY2.ob.size; obtain ⟨a4, c4, W4, hrun, hc4, hf4, hmk4, hbe4⟩ := HH.out.push (by rw [HN.out]; exact hl) (HB.out.trans (hb3.mono HB.out.size)) hY2; rw [HN.out] at hrun hc4 hmk4 hbe4; have h9a := HC9.out w2 hb3; have h9b := HC9.out (w2.alloc (.cells Y2 38)) (hb3.alloc hb3.size _); have HMK := Lib.hid hmk4; have HBE := Lib.hid hbe4; clear hmk4 hbe4 hY2 hb2 hb3)
  all_goals
    have hM := HMK.out
    have hBe := HBE.out
    obtain ⟨W5, hW5⟩ : ∃ W5, W4.setCell ⟨G, 9, none⟩ (.slice a4 (n + 1) c4) = W5 := ⟨_, rfl⟩
    rw [hW5] at hM hBe ⊢
    have k9 : W5.cell? ⟨G, 9, none⟩ = some (.slice a4 (n + 1) c4) := by rw [cell_of_row _ _ _ _ _ _ hM.box]; rfl
    have kw : W5.cell? ⟨G, 1 + i, none⟩ = some (.int .u64 (ws i)) := by rw [cell_of_row _ _ _ _ _ _ hM.box]; exact ctx_cw _ _ _ _ i hi
    have kf : W5.frozen? ⟨G, 1 + i, none⟩ = false := by simp [World.frozen?, hM.box]
    have e0 : IntKind.u64.wrap ((n + 1 : Nat) : Int) = ((n + 1 : Nat) : Int) := IntWalk.u64_in _ (by omega)
    have e3 : IntKind.u64.wrap ((n : Int) + 1) = (n : Int) + 1 := IntWalk.u64_in _ (by omega)
    have hW := hM.word i hi ((n + 1 : Nat) : Int)
    have HF := Lib.hid (And.intro hW.1 (hBe.trans hW.2))
    clear hM hBe hW5 hW HMK HBE
    go_wp2
    go_region
    try go_wp2
    first | go_end0 | refine bodyPost_ret (results_none rfl _ _ _) rfl ?_
    rw [HN.out]
    exact ⟨_, rfl, HF.out.1.stay (Below.refl _ _).drew, HF.out.2.trans (Beside.below (Below.refl _ _).drew)⟩
theorem add17 (X : Array Value) (p : Pt) (i : Nat) (w : World) (H : Mk W0 w G hook now ws v os) (hx : PtX w X p) (hi : i < 8) (hl : os.length ≤ 20) (hu : p.obj.up.length ≤ 50) : Calls Try.prog 36 #[.pointer (some ⟨G, 0, none⟩), .int .i64 i, .agg X] w (Added W0 G hook now (addW p ws i os.length) (addO p os) w) := by
  cases hn : p.null
  · cases hh : p.has
    · exact add_num X p i w H hx hi hn hh
    · exact add_obj X p i w H hx hi hn hh hl hu
  · exact add_null X p i w H hx hn
end
end Go.Proofs.Ytcdpmggjdmibjaa
