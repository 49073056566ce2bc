/-
  Proved here: what the law of storages keeps, over whatever memory of the program's storage keeps its contracts; its Same. Conditions: the contracts.
-/
import Derived.Test.YtijhoiheieighaaLoN
import Derived.Test.YtijhoiheieighaaOps12
import Derived.Deep.RegionWith
import Derived.Deep.RegionHeld
import Derived.Deep.DeepCutAuto
namespace Go.Proofs.Ytijhoiheieighaa
open Go.RowKit

/-- A program's storage in memory: the blocks D are its own, its bytes lie in block G. -/
abbrev StMem := World → (Nat → Prop) → Nat → Nat → List Ob → List Int → Prop
def GetQ (PS : StMem) (D : Nat → Prop) (h G : Nat) (r : Int × Int × List Ob × List Int) (W : World) (e : Ending) (w : World) : Prop :=
  ∃ D', e = .returned (.tuple #[.int .i64 r.1, .int .i64 r.2.1]) ∧ PS w D' h G r.2.2.1 r.2.2.2 ∧ Turned D W w ∧ ∀ b, D' b → D b ∨ W.heap.size ≤ b
def DropQ (PS : StMem) (D : Nat → Prop) (h : Nat) (r : Int × List Ob × List Int) (W : World) (e : Ending) (w : World) : Prop :=
  ∃ D' G', e = .returned (.int .i64 r.1) ∧ PS w D' h G' r.2.1 r.2.2 ∧ Turned D W w ∧ ∀ b, D' b → D b ∨ W.heap.size ≤ b
def CopyQ (PS : StMem) (os : List Ob) (zs : List Int) (W : World) (e : Ending) (w : World) : Prop :=
  ∃ h2 D2 G2, e = .returned (.pointer (some ⟨h2, 0, none⟩)) ∧ PS w D2 h2 G2 os zs ∧ Below W.heap.size W w ∧ ∀ b, D2 b → W.heap.size ≤ b
def NewQ (PS : StMem) (L : Nat) (W : World) (e : Ending) (w : World) : Prop :=
  ∃ h D G, e = .returned (.tuple #[.pointer (some ⟨h, 0, none⟩), .int .i64 0]) ∧ PS w D h G [] (zeros L) ∧ Below W.heap.size W w ∧ ∀ b, D b → W.heap.size ≤ b
structure Acts12 (PS : StMem) (s n L : Nat) : Prop where
  kept : ∀ {w w' D h G os zs}, PS w D h G os zs → (∀ b, D b → w'.heap[b]? = w.heap[b]?) → PS w' D h G os zs
  lt : ∀ {w D h G os zs}, PS w D h G os zs → ∀ b, D b → b < w.heap.size
  zlen : ∀ {w D h G os zs}, PS w D h G os zs → zs.length = L
  ole : ∀ {w D h G os zs}, PS w D h G os zs → os.length ≤ n
  inG : ∀ {w D h G os zs}, PS w D h G os zs → D G
  byte : ∀ {w D h G os zs j}, PS w D h G os zs → j < L → w.cell? ⟨G, j, none⟩ = some (.int .u8 (zs.getD j 0)) ∧ w.frozen? ⟨G, j, none⟩ = false
  put : ∀ {w D h G os zs j c}, PS w D h G os zs → j < L → PS (w.setCell ⟨G, j, none⟩ (.int .u8 c)) D h G os (zs.set j c)
  len : ∀ {w D h G os zs}, PS w D h G os zs → Calls Try.prog 12 #[.pointer (some ⟨h, 0, none⟩)] w (fun e w' => e = .returned (.int .i64 os.length) ∧ Below w.heap.size w w')
  bytes : ∀ {w D h G os zs}, PS w D h G os zs → Calls Try.prog 11 #[.pointer (some ⟨h, 0, none⟩)] w (GaveRow w L zs)
  keys : ∀ {w D h G os zs}, PS w D h G os zs → Calls Try.prog 23 #[.pointer (some ⟨h, 0, none⟩)] w (fun e w' => ∃ a c, e = .returned (.slice a os.length c) ∧ ObsIn w' a os ∧ Below w.heap.size w w')
  get : ∀ {w D h G os zs o c}, PS w D h G os zs → Calls Try.prog 17 #[.pointer (some ⟨h, 0, none⟩), obV o, .bool c] w (GetQ PS D h G (getR os zs s n o c) w)
  drop : ∀ {w D h G os zs o}, PS w D h G os zs → Calls Try.prog 13 #[.pointer (some ⟨h, 0, none⟩), obV o] w (DropQ PS D h (dropR os zs s o) w)
  slotYes : ∀ {w D h G os zs q}, PS w D h G os zs → q < n → Calls Try.prog 15 #[.pointer (some ⟨h, 0, none⟩), .int .i64 (q : Int)] w (fun e w' => e = .returned (.tuple #[.slice (some ⟨G, q * s, none⟩) s s, .bool true]) ∧ Below w.heap.size w w')
  slotNo : ∀ {w D h G os zs} {K : Int}, PS w D h G os zs → ¬ (0 ≤ K ∧ K < n) → Calls Try.prog 15 #[.pointer (some ⟨h, 0, none⟩), .int .i64 K] w (fun e w' => e = .returned (.tuple #[.slice none 0 0, .bool false]) ∧ Below w.heap.size w w')
  copy : ∀ {w D h G os zs}, PS w D h G os zs → Calls Try.prog 10 #[.pointer (some ⟨h, 0, none⟩)] w (CopyQ PS os zs w)
  new : ∀ w, Calls Try.prog 7 #[.int .i64 (s : Int), .int .i64 (n : Int)] w (NewQ PS L w)
section
variable {PS : StMem} {s n L : Nat} {w w' : World} {D : Nat → Prop} {h G : Nat} {os : List Ob} {zs : List Int}
theorem Acts12.stay (A : Acts12 PS s n L) (hp : PS w D h G os zs) (hb : Below w.heap.size w w') : PS w' D h G os zs := A.kept hp fun b hD => hb.block b (A.lt hp b hD)
end
/-- All that Same looks at. -/
structure Sm (PS : StMem) (W wx : World) (D : Nat → Prop) (h G H R B cap s n L : Nat) (kv : Value) (gs : Nat → Nat) (os : List Ob) (zs : List Int) : Prop where
  p : PS wx D h G os zs
  l : Lf wx H R B cap s n L kv gs os zs
  b : Below W.heap.size W wx
theorem Sm.stay {PS : StMem} {W wx wy : World} {D : Nat → Prop} {h G H R B cap s n L : Nat} {kv : Value} {gs : Nat → Nat} {os : List Ob} {zs : List Int} (hx : Sm PS W wx D h G H R B cap s n L kv gs os zs) (A : Acts12 PS s n L) (hd : Dim s n L) (hb : Below wx.heap.size wx wy) : Sm PS W wy D h G H R B cap s n L kv gs os zs :=
  ⟨A.stay hx.p hb, hx.l.stay hd hb, hx.b.trans (hb.mono hx.b.size)⟩
theorem Lf.obs {w : World} {H R B cap s n L : Nat} {a : Option Addr} {c m : Nat} {gs : Nat → Nat} {os : List Ob} {zs : List Int} (h : Lf w H R B cap s n L (.slice a m c) gs os zs) : ObsIn w a os := by
  obtain ⟨a', c', e, ho⟩ := h.ks.shape
  injection e with e1 _ _
  subst e1
  exact ho
set_option maxRecDepth 100000 in
set_option maxHeartbeats 4000000 in
theorem same_yes {PS : StMem} {D : Nat → Prop} {h G H R B cap s n L : Nat} {kv : Value} {gs : Nat → Nat} {os : List Ob} {zs : List Int} (w : World) (hd : Dim s n L) (A : Acts12 PS s n L) (hp : PS w D h G os zs) (hl : Lf w H R B cap s n L kv gs os zs) :
    Calls Try.prog 19 #[.pointer (some ⟨h, 0, none⟩), .pointer (some ⟨H, 0, none⟩)] w (fun e w' => e = .returned (.bool true) ∧ Below w.heap.size w w') := by
  obtain ⟨ak, ck, rfl, -⟩ := hl.ks.shape
  have hm16 : os.length ≤ 16 := Nat.le_trans hl.le hd.n1
  have HX0 := Lib.hid ((Sm.mk hp hl (Below.refl _ _)).stay A hd (Below.refl _ _).drew)
  obtain ⟨m, hm⟩ : ∃ m, os.length = m := ⟨_, rfl⟩
  rw [hm] at HX0 hm16
  have HD := Lib.hid hd
  have HA := Lib.hid A
  have HM := Lib.hid hm
  have HM16 := Lib.hid hm16
  have c0 : w.drew.cell? ⟨H, 0, none⟩ = some (.slice ak m ck) ∧ w.drew.cell? ⟨H, 1, none⟩ = some (.pointer (some ⟨R, 0, none⟩)) := ⟨HX0.out.l.h0, HX0.out.l.h1⟩
  have Q0 := Lib.hid c0
  obtain ⟨str, hstr⟩ : ∃ x, strOfNums zs = x := ⟨_, rfl⟩
  have HSTR := Lib.hid hstr
  clear hd hp hl A hm hstr c0
  go_enter Try.func19, Try.ntmps19
  go_wp2
  go_region_held (fun W => W.cell? ⟨H, 0, none⟩ = some (.slice ak m ck) ∧ W.cell? ⟨H, 1, none⟩ = some (.pointer (some ⟨R, 0, none⟩))) (first | with_reducible exact Q5.out | with_reducible exact Q4.out | with_reducible exact Q3.out | with_reducible exact Q2.out | with_reducible exact Q1.out | with_reducible exact Q0.out) (first
    | (go_at_call 12; refine (HA.out.len HX0.out.p).mono ?_; rintro e w1 ⟨rfl, hb1⟩; rw [HM.out]; have HX1 := Lib.hid (HX0.out.stay HA.out HD.out hb1); have Q1 := Lib.hid (And.intro HX1.out.l.h0 HX1.out.l.h1); clear hb1)
    | (go_at_call 23; refine (HA.out.keys HX1.out.p).mono ?_; rintro e w2 ⟨a2, c2, rfl, ho2, hb2⟩; rw [HM.out]; have HO2 := Lib.hid ho2; have HX2 := Lib.hid (HX1.out.stay HA.out HD.out hb2); have Q2 := Lib.hid (And.intro HX2.out.l.h0 HX2.out.l.h1); clear ho2 hb2)
    | (go_at_call 31; have hkk := lo_keyed w2 a2 ak c2 ck os HO2.out HX2.out.l.obs (by rw [HM.out]; exact HM16.out); rw [HM.out] at hkk; refine hkk.mono ?_; rintro e w3 ⟨rfl, hb3⟩; have HX3 := Lib.hid (HX2.out.stay HA.out HD.out hb3); have Q3 := Lib.hid (And.intro HX3.out.l.h0 HX3.out.l.h1); clear hb3 hkk)
    | (go_at_call 11; refine (HA.out.bytes HX3.out.p).mono ?_; rintro e w4 ⟨g4, cap4, rfl, hf4⟩; have hc4 := str_of (cap := cap4) (HA.out.zlen HX3.out.p) hf4.row; rw [HSTR.out] at hc4; have HX4 := Lib.hid (HX3.out.stay HA.out HD.out hf4.below); have Q4 := Lib.hid (And.intro HX4.out.l.h0 HX4.out.l.h1); have HF4 := Lib.hid hf4; clear hf4)
    | (go_at_call 32; refine (ref_bytes _ _ _ _ _ _ _ _ _ HD.out HX4.out.l.rf).mono ?_; rintro e w5 ⟨g5, cap5, rfl, hf5⟩; have hc5 := str_of (cap := cap5) HX4.out.l.rf.len hf5.row; rw [HSTR.out] at hc5; have hc45 := str_of (cap := cap4) (HA.out.zlen HX4.out.p) (rowAt_below HF4.out.row (cell_block_lt (HF4.out.row 0 HD.out.pos)) hf5.below); rw [HSTR.out] at hc45; have HX5 := Lib.hid (HX4.out.stay HA.out HD.out hf5.below); have Q5 := Lib.hid (And.intro HX5.out.l.h0 HX5.out.l.h1); clear hf5))
  all_goals
    go_wp2
    go_ret
    exact ⟨rfl, HX5.out.b⟩
end Go.Proofs.Ytijhoiheieighaa
