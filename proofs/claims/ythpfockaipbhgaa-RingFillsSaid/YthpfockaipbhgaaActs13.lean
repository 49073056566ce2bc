/-
  Proved here: what the law of rings keeps, over whatever memory of the program's ring keeps its contracts; its Same. Conditions: the contracts.
-/
import Derived.Test.YthpfockaipbhgaaRgAud
import Derived.Deep.CutBlock
namespace Go.Proofs.Ythpfockaipbhgaa
open Go.RowKit

/-- A program's ring in memory: the blocks D are its own. -/
abbrev RgMem := World → (Nat → Prop) → Nat → Int → Int → List Rc → Prop
def AnsQ (PS : RgMem) (D : Nat → Prop) (h : Nat) (room drops : Int) (v : Value) (rs : List Rc) (W : World) (e : Ending) (w : World) : Prop :=
  ∃ D', e = .returned v ∧ PS w D' h room drops rs ∧ Turned D W w ∧ ∀ b, D' b → D b ∨ W.heap.size ≤ b
def resV (r : Int × Int × List Rc) : Value := .tuple #[.int .i64 (if r.1 < 0 then 0 else r.1), .bool (decide (0 ≤ r.1))]
def DrainQ (PS : RgMem) (D : Nat → Prop) (h : Nat) (room drops : Int) (r : List (Int × List Int) × List Rc) (W : World) (e : Ending) (w : World) : Prop :=
  ∃ D' a c, e = .returned (.slice a r.1.length c) ∧ AudIn w (fun b => D b ∨ W.heap.size ≤ b) a r.1 ∧ PS w D' h room drops r.2 ∧ Turned D W w ∧ ∀ b, D' b → D b ∨ W.heap.size ≤ b
def CopyQ (PS : RgMem) (room drops : Int) (rs : List Rc) (W : World) (e : Ending) (w : World) : Prop :=
  ∃ h2 D2, e = .returned (.pointer (some ⟨h2, 0, none⟩)) ∧ PS w D2 h2 room drops rs ∧ Below W.heap.size W w ∧ ∀ b, D2 b → W.heap.size ≤ b
def NewQ (PS : RgMem) (room : Int) (W : World) (e : Ending) (w : World) : Prop :=
  ∃ h D, e = .returned (.tuple #[.pointer (some ⟨h, 0, none⟩), .int .i64 0]) ∧ PS w D h room 0 [] ∧ Below W.heap.size W w ∧ ∀ b, D b → W.heap.size ≤ b
/-- A held record's bytes themselves: where they lie, and what a write of them makes. -/
def RecQ (PS : RgMem) (D : Nat → Prop) (h : Nat) (room drops : Int) (rs : List Rc) (i : Nat) (W : World) (e : Ending) (w : World) : Prop :=
  ∃ G p c, e = .returned (.tuple #[.slice (some ⟨G, p, none⟩) (rget rs i).b.length c, .bool true]) ∧ D G ∧ Below W.heap.size W w ∧ G < w.heap.size ∧ RowAt w G p (rget rs i).b.length (rget rs i).b ∧ (∀ j, j < (rget rs i).b.length → w.frozen? ⟨G, p + j, none⟩ = false) ∧
    ∀ wx zs, zs.length = (rget rs i).b.length → WroteAt G p (rget rs i).b.length zs w wx → PS wx D h room drops (rs.set i { rget rs i with b := zs })
structure Acts13 (PS : RgMem) : Prop where
  kept : ∀ {w w' D h room drops rs}, PS w D h room drops rs → (∀ b, D b → w'.heap[b]? = w.heap[b]?) → PS w' D h room drops rs
  lt : ∀ {w D h room drops rs}, PS w D h room drops rs → ∀ b, D b → b < w.heap.size
  room : ∀ {w D h room drops rs}, PS w D h room drops rs → Calls Try.prog 8 #[.pointer (some ⟨h, 0, none⟩)] w (fun e w' => e = .returned (.int .i64 room) ∧ Below w.heap.size w w')
  used : ∀ {w D h room drops rs}, PS w D h room drops rs → Calls Try.prog 22 #[.pointer (some ⟨h, 0, none⟩)] w (fun e w' => e = .returned (.int .i64 (usedR rs)) ∧ Below w.heap.size w w')
  drops : ∀ {w D h room drops rs}, PS w D h room drops rs → Calls Try.prog 23 #[.pointer (some ⟨h, 0, none⟩)] w (fun e w' => e = .returned (.int .i64 drops) ∧ Below w.heap.size w w')
  held : ∀ {w D h room drops rs}, PS w D h room drops rs → Calls Try.prog 31 #[.pointer (some ⟨h, 0, none⟩)] w (IntsP (heldR rs) w)
  bytes : ∀ {w D h room drops rs}, PS w D h room drops rs → Calls Try.prog 10 #[.pointer (some ⟨h, 0, none⟩)] w (BytesP (bytesR rs) w)
  recYes : ∀ {w D h room drops rs} {i : Nat}, PS w D h room drops rs → hasR rs (i : Int) = true → Calls Try.prog 17 #[.pointer (some ⟨h, 0, none⟩), .int .i64 (i : Int)] w (RecQ PS D h room drops rs i w)
  recNo : ∀ {w D h room drops rs} {id : Int}, PS w D h room drops rs → hasR rs id = false → Calls Try.prog 17 #[.pointer (some ⟨h, 0, none⟩), .int .i64 id] w (fun e w' => e = .returned (.tuple #[.slice none 0 0, .bool false]) ∧ Below w.heap.size w w')
  commit : ∀ {w D h room drops rs} {id : Int}, PS w D h room drops rs → Calls Try.prog 11 #[.pointer (some ⟨h, 0, none⟩), .int .i64 id] w (AnsQ PS D h room drops (.bool (hasR rs id)) (endR rs id 1) w)
  discard : ∀ {w D h room drops rs} {id : Int}, PS w D h room drops rs → Calls Try.prog 13 #[.pointer (some ⟨h, 0, none⟩), .int .i64 id] w (AnsQ PS D h room drops (.bool (hasR rs id)) (endR rs id 2) w)
  drain : ∀ {w D h room drops rs}, PS w D h room drops rs → Calls Try.prog 15 #[.pointer (some ⟨h, 0, none⟩)] w (DrainQ PS D h room drops (drainR rs) w)
  reserve : ∀ {w D h room drops rs o n}, PS w D h room drops rs → 0 ≤ drops → drops ≤ 100000 → rs.length + 1 ≤ 1000 → Calls Try.prog 19 #[.pointer (some ⟨h, 0, none⟩), .int .i64 o, .int .i64 n] w (AnsQ PS D h room (drops + (resR rs room o n).2.1) (resV (resR rs room o n)) (resR rs room o n).2.2 w)
  copy : ∀ {w D h room drops rs}, PS w D h room drops rs → Calls Try.prog 9 #[.pointer (some ⟨h, 0, none⟩)] w (CopyQ PS room drops rs w)
  new : ∀ {w} {room : Int}, 1 ≤ room ∧ room ≤ 256 → Calls Try.prog 7 #[.int .i64 room] w (NewQ PS room w)
  no : ∀ {w} {room : Int}, ¬ (1 ≤ room ∧ room ≤ 256) → Calls Try.prog 7 #[.int .i64 room] w (fun e w' => e = .returned (.tuple #[.pointer none, .int .i64 22]) ∧ Below w.heap.size w w')
section
variable {PS : RgMem} {w w' : World} {D : Nat → Prop} {h : Nat} {room drops : Int} {rs : List Rc}
theorem Acts13.stay (A : Acts13 PS) (hp : PS w D h room drops rs) (hb : Below w.heap.size w w') : PS w' D h room drops rs := A.kept hp fun b hD => hb.block b (A.lt hp b hD)
end
/-- All that Same looks at. -/
structure Sm (PS : RgMem) (W wx : World) (D : Nat → Prop) (h H : Nat) (room drops : Int) (kv : Value) (gs : Nat → Nat) (rs : List Rc) : Prop where
  p : PS wx D h room drops rs
  l : Rg wx H room drops kv gs rs
  b : Below W.heap.size W wx
theorem Sm.stay {PS : RgMem} {W wx wy : World} {D : Nat → Prop} {h H : Nat} {room drops : Int} {kv : Value} {gs : Nat → Nat} {rs : List Rc} (hx : Sm PS W wx D h H room drops kv gs rs) (A : Acts13 PS) (hb : Below wx.heap.size wx wy) : Sm PS W wy D h H room drops kv gs rs :=
  ⟨A.stay hx.p hb, hx.l.stay hb, hx.b.trans (hb.mono hx.b.size)⟩
theorem IntsIn.below {w w' : World} {E : Nat → Prop} {a : Option Addr} {xs : List Int} (h : IntsIn w E a xs) (hb : Below w.heap.size w w') : IntsIn w' E a xs := h.kept hb.size (fun b _ hl => hb.block b hl)
theorem heldT_has {rs : List Rc} : ∀ k, k ≤ rs.length → ∀ x ∈ heldT rs k, hasR rs x = true ∧ ∃ i : Nat, x = i ∧ i < rs.length
  | 0, _, x, hx => by cases hx
  | k + 1, hk, x, hx => by
    rcases List.mem_append.1 hx with h | h
    · exact heldT_has k (by omega) x h
    · split at h
      · rename_i e
        obtain rfl := List.mem_singleton.1 h
        exact ⟨e, k, rfl, by omega⟩
      · cases h
theorem heldR_get {rs : List Rc} {k : Nat} (hk : k < (heldR rs).length) : ∃ i : Nat, (heldR rs).getD k 0 = i ∧ i < rs.length ∧ hasR rs (i : Int) = true := by
  have hm : (heldR rs).getD k 0 ∈ heldR rs := by
    rw [List.getD_eq_getElem?_getD, List.getElem?_eq_getElem hk]
    exact List.getElem_mem _
  obtain ⟨h1, i, h2, h3⟩ := heldT_has rs.length (Nat.le_refl _) _ hm
  exact ⟨i, h2, h3, by rw [← h2]; exact h1⟩
set_option maxRecDepth 100000 in
set_option maxHeartbeats 4000000 in
theorem same_yes {PS : RgMem} {D : Nat → Prop} {h H : Nat} {room drops : Int} {kv : Value} {gs : Nat → Nat} {rs : List Rc} (w : World) (A : Acts13 PS) (hp : PS w D h room drops rs) (hl : Rg w H room drops kv gs rs) :
    Calls Try.prog 21 #[.pointer (some ⟨h, 0, none⟩), .pointer (some ⟨H, 0, none⟩)] w (fun e w' => e = .returned (.bool true) ∧ Below w.heap.size w w') := by
  have hle := hl.le
  have hh1 := heldT_len rs rs.length
  have X0 := Lib.hid (Sm.mk hp hl (Below.refl _ _))
  obtain ⟨m, hm⟩ : ∃ m, (heldR rs).length = m := ⟨_, rfl⟩
  have hm2 : m ≤ 1000 := by rw [← hm]; exact Nat.le_trans hh1 hle
  obtain ⟨u, hu⟩ : ∃ u, usedR rs = u := ⟨_, rfl⟩
  obtain ⟨str, hstr⟩ : ∃ s, strOfNums (bytesR rs) = s := ⟨_, rfl⟩
  have HM := Lib.hid hm
  have HU := Lib.hid hu
  have HSTR := Lib.hid hstr
  have HA := Lib.hid A
  clear hp hl A hm hu hstr hh1 hle
  go_enter Try.func21, Try.ntmps21
  go_wp2_with (first
    | (go_at_call 31; refine (HA.out.held X0.out.p).mono ?_; rintro e w1 ⟨a1, c1, rfl, hi1, hb1⟩; rw [HM.out]; have X1 := Lib.hid (X0.out.stay HA.out hb1); have HI1 := Lib.hid hi1; clear hi1 hb1)
    | (go_at_call 32; refine (rg_held X1.out.l).mono ?_; rintro e w2 ⟨a2, c2, rfl, hi2, hb2⟩; rw [HM.out]; have X2 := Lib.hid ((X1.out.stay HA.out hb2).stay HA.out (Below.refl _ _).drew); have HI2 := Lib.hid (hi2.below (Below.refl _ _).drew); have HI3 := Lib.hid ((HI1.out.below hb2).below (Below.refl _ _).drew); have Q0 := Lib.hid X2.out.l.h1; clear hi2 hb2))
  go_cut [43] (fun v wx => v = .bool false ∧ Sm PS w wx D h H room drops kv gs rs ∧ IntsIn wx (fun b => w.heap.size ≤ b) a1 (heldR rs) ∧ IntsIn wx (fun b => w1.heap.size ≤ b) a2 (heldR rs))
  case first =>
    as_aux_lemma =>
    have Y2 := Lib.hid (Sm.mk X2.out.p X2.out.l (Below.refl _ _))
    go_region_held (fun W => W.cell? ⟨H, 1, none⟩ = some (.int .i64 drops)) (first | with_reducible exact Q7.out | with_reducible exact Q6.out | with_reducible exact Q5.out | with_reducible exact Q3.out | with_reducible exact Q0.out) (first
      | (go_at_call 22; refine (HA.out.used Y2.out.p).mono ?_; rintro e w3 ⟨he, hb3⟩; rw [HU.out] at he; subst he; have Y3 := Lib.hid (Y2.out.stay HA.out hb3); have Q3 := Lib.hid Y3.out.l.h1; clear hb3)
      | (go_at_call 30; refine (rg_used Y3.out.l).mono ?_; rintro e w4 ⟨he, hw⟩; rw [HU.out] at he; subst he; subst hw)
      | (go_at_call 23; refine (HA.out.drops Y3.out.p).mono ?_; rintro e w5 ⟨rfl, hb5⟩; have Y5 := Lib.hid (Y3.out.stay HA.out hb5); have Q5 := Lib.hid Y5.out.l.h1; clear hb5)
      | (go_at_call 10; refine (HA.out.bytes Y5.out.p).mono ?_; rintro e w6 ⟨a6, c6, rfl, hs6, hb6⟩; have hc6 := hs6.str; rw [HSTR.out] at hc6; have Y6 := Lib.hid (Y5.out.stay HA.out hb6); have Q6 := Lib.hid Y6.out.l.h1; have HS6 := Lib.hid hs6; clear hs6 hb6)
      | (go_at_call 33; refine (rg_bytes Y6.out.l).mono ?_; rintro e w7 ⟨a7, c7, rfl, hs7, hb7⟩; have hc7 := hs7.str; rw [HSTR.out] at hc7; have hc67 := (HS6.out.below hb7).str; rw [HSTR.out] at hc67; have Y7 := Lib.hid (Y6.out.stay HA.out hb7); have Q7 := Lib.hid Y7.out.l.h1; clear hs7 hb7))
    all_goals
      go_wp2_with fail
      go_meet
      case rel => exact ⟨rfl, ⟨Y7.out.p, Y7.out.l, X2.out.b.trans (Y7.out.b.mono X2.out.b.size)⟩, HI3.out.below Y7.out.b, HI2.out.below Y7.out.b⟩
  case rest =>
    obtain ⟨rfl, hx, hj1, hj2⟩ := hcut
    have X8 := Lib.hid hx
    have J1 := Lib.hid hj1
    have J2 := Lib.hid hj2
    clear hx hj1 hj2 X0 X1 X2 HI1 HI2 HI3 Q0
    go_upto_region 4 with fail
    go_wp2_with fail
    go_loopw [7] (fun v wx => ∃ k : Nat, k ≤ m ∧ v = .int .i64 k ∧ Sm PS w wx D h H room drops kv gs rs ∧ IntsIn wx (fun b => w.heap.size ≤ b) a1 (heldR rs) ∧ IntsIn wx (fun b => w1.heap.size ≤ b) a2 (heldR rs)) (fun v _ => 1001 - (intOf v).toNat)
    case atStart => exact ⟨0, by omega, rfl, X8.out, J1.out, J2.out⟩
    case round =>
      obtain ⟨k, hk, rfl, hx, hj1, hj2⟩ := hrel
      clear X8 J1 J2
      have X8 := Lib.hid hx
      have J1 := Lib.hid hj1
      have J2 := Lib.hid hj2
      clear hx hj1 hj2
      by_cases hlt : k < m
      · obtain ⟨i, hi, hil, hih⟩ := heldR_get (rs := rs) (k := k) (by rw [HM.out]; exact hlt)
        obtain ⟨g1, rfl, -, -, o1⟩ := J1.out (by rw [HM.out]; omega)
        have x1 := o1 k (by rw [HM.out]; omega)
        rw [hi] at x1
        have HIH := Lib.hid hih
        have HI := Lib.hid hi
        have HIL := Lib.hid hil
        clear o1 hih hi
        go_upto_region 8 with (go_at_call 17; refine (HA.out.recYes X8.out.p HIH.out).mono ?_; rintro e w9 ⟨G, p, c9, rfl, -, hb9, -, hr9, -, -⟩; have X9 := Lib.hid (X8.out.stay HA.out hb9); have K1 := Lib.hid (J1.out.below hb9); have K2 := Lib.hid (J2.out.below hb9); have HR9 := Lib.hid hr9; clear hb9 hr9)
        clear x1
        obtain ⟨g3, hg3, -, -, o3⟩ := K1.out (by rw [HM.out]; omega)
        injection hg3 with hg3
        injection hg3 with hg3 _ _
        subst hg3
        obtain ⟨g2, rfl, -, -, o2⟩ := K2.out (by rw [HM.out]; omega)
        have x1 := o3 k (by rw [HM.out]; omega)
        have x2 := o2 k (by rw [HM.out]; omega)
        rw [HI.out] at x1 x2
        have c2 := X9.out.l.h2
        obtain ⟨a5, c5, he5, hrow⟩ := X9.out.l.shape
        obtain ⟨g5, rfl, -, -, hcs⟩ := hrow.at_ (by have := HIL.out; omega)
        rw [he5] at c2
        obtain ⟨-, -, d2, -⟩ := hcs i HIL.out
        have hdat := X9.out.l.data i HIL.out
        obtain ⟨zs, hzs⟩ : ∃ zs, (rget rs i).b = zs := ⟨_, rfl⟩
        have hr9 := HR9.out
        rw [hzs] at d2 hdat hr9 ⊢
        obtain ⟨s9, hs9⟩ : ∃ s, strOfNums zs = s := ⟨_, rfl⟩
        have e1 : ∀ m, (convert 36 9 (.slice (some ⟨G, p, none⟩) zs.length c9)).run Try.prog (w9.drewN m) = .ok (.string s9) (w9.drewN m) := fun m => by
          rw [← hs9]; exact str_of rfl (fun j hj => hr9 j hj)
        have e2 : ∀ m, (convert 36 9 (.slice (some ⟨gs i, 0, none⟩) zs.length zs.length)).run Try.prog (w9.drewN m) = .ok (.string s9) (w9.drewN m) := fun m => by
          rw [← hs9]; exact str_of rfl (fun j hj => hdat j hj)
        have hil2 : (i : Int) < (rs.length : Int) := by have := HIL.out; omega
        obtain ⟨N, hN⟩ : ∃ N, rs.length = N := ⟨_, rfl⟩
        rw [hN] at c2 hil2
        clear o3 o2 hrow hcs hdat hzs hr9 hs9 he5 hN
        go_quiet (fail)
        go_wp2
        go_roundw
        case rel => exact ⟨k + 1, by omega, by go_num, X9.out.stay HA.out (bdrewN (Below.refl _ _) _), K1.out.below (bdrewN (Below.refl _ _) _), K2.out.below (bdrewN (Below.refl _ _) _)⟩
        case measure => simp [intOf]; omega
      · obtain rfl : k = m := by omega
        go_wp2
        go_ret
        exact ⟨rfl, X8.out.b⟩
end Go.Proofs.Ythpfockaipbhgaa
