/-
  Proved here: New, Drop in one, Write and Keyed of the document's storages. Conditions: as each says.
-/
import Derived.Test.YtijhoiheieighaaLoDrop
namespace Go.Proofs.Ytijhoiheieighaa
open Go.RowKit

section
variable {H R B cap s n L : Nat} {kv : Value} {gs : Nat → Nat} {os : List Ob} {zs : List Int}
theorem lo_drop_not {w : World} {x y : Int} (h : Lf w H R B cap s n L kv gs os zs) (hd : Dim s n L) (hf : findO os (x, y) = none) :
    Calls Try.prog 14 #[.pointer (some ⟨H, 0, none⟩), .agg #[.int .i64 x, .int .i64 y]] w (fun e w' => e = .returned (.int .i64 2) ∧ Below w.heap.size w w') := by
  have h1 := Lib.hid (h.stay hd (box_below w (.cells #[.int .i64 x, .int .i64 y] 32)))
  have HB := Lib.hid (box_below w (.cells #[.int .i64 x, .int .i64 y] 32))
  have hn1 := hd.n1
  have HF := Lib.hid (findV_no hf)
  clear h hf
  go_enter Try.func14, Try.ntmps14
  go_wp2_with (go_at_call 28; refine (lo_find h1.out (by omega) x y).mono ?_; rintro e w1 ⟨he, hb1⟩; rw [HF.out] at he; subst he; have HB1 := Lib.hid hb1; clear hb1)
  go_ret
  exact ⟨rfl, HB.out.trans (HB1.out.mono HB.out.size)⟩
theorem lo_drop {w : World} {S : Nat → Prop} {o : Ob} (h : PD s n L w S H os zs) (hd : Dim s n L) :
    Calls Try.prog 14 #[.pointer (some ⟨H, 0, none⟩), obV o] w (DropP (PD s n L) S H (dropR os zs s o) w) := by
  obtain ⟨R, B, cap, kv, gs, h, hS⟩ := h
  obtain ⟨x, y⟩ := o
  unfold dropR
  cases hf : findO os (x, y) with
  | some k => exact lo_drop_had h hd hS hf
  | none => exact (lo_drop_not h hd hf).mono fun e w' ⟨he, hb⟩ => ⟨S, he, ⟨R, B, cap, kv, gs, h.stay hd hb, hS⟩, Turned.of hb, fun _ hb => .inl hb⟩
/-- The bytes behind a write. -/
def putO (zs : List Int) (s n : Nat) (K T C : Int) : List Int := if 0 ≤ K ∧ K < n ∧ 0 ≤ T ∧ T < s then zs.set (K.toNat * s + T.toNat) C else zs
theorem putO_yes {zs : List Int} {s n q t : Nat} {C : Int} (hq : q < n) (ht : t < s) : putO zs s n q t C = zs.set (q * s + t) C := by
  unfold putO
  rw [if_pos (by omega)]
  rfl
theorem putO_no {zs : List Int} {s n : Nat} {K T C : Int} (h : ¬ (0 ≤ K ∧ K < n ∧ 0 ≤ T ∧ T < s)) : putO zs s n K T C = zs := if_neg h
theorem Lf.put {w : World} {k t : Nat} {c : Int} (h : Lf w H R B cap s n L kv gs os zs) (hd : Dim s n L) (hk : k < n) (ht : t < s) : Lf (w.setCell ⟨gs k, t, none⟩ (.int .u8 c)) H R B cap s n L kv gs os (zs.set (k * s + t) c) := by
  have eb : ∀ b, b ≠ gs k → (w.setCell ⟨gs k, t, none⟩ (.int .u8 c)).heap[b]? = w.heap[b]? := fun b hb => Below.heap_setCell w ⟨gs k, t, none⟩ _ b hb
  have eH := eb H (fun e => h.Hg k hk e.symm)
  have eR := eb R (fun e => h.rf.neR k hk e.symm)
  have eB := eb B (fun e => h.rf.neB k hk e.symm)
  exact ⟨(World.cell?_of_block (w := w) (a := ⟨H, 0, none⟩) eH).trans h.h0, (World.cell?_of_block (w := w) (a := ⟨H, 1, none⟩) eH).trans h.h1, fun j => (World.frozen?_of_block (w := w) (a := ⟨H, j, none⟩) eH).trans (h.fH j), h.ks.kept (fun b hb => eb b (fun e => h.kg k hk (by rw [← e]; exact hb))), h.hk, h.kR, h.kB, h.kg, h.le,
    h.rf.put hk ht (hd.at hk), h.HR, h.HB, h.Hg, h.RB, fun j => (World.frozen?_of_block (w := w) (a := ⟨R, j, none⟩) eR).trans (h.fR j), fun j => (World.frozen?_of_block (w := w) (a := ⟨B, j, none⟩) eB).trans (h.fB j)⟩
def WriteP (PS : World → (Nat → Prop) → Nat → List Ob → List Int → Prop) (D : Nat → Prop) (h : Nat) (os : List Ob) (zs : List Int) (W : World) (e : Ending) (w : World) : Prop := e = .returned (.tuple #[]) ∧ PS w D h os zs ∧ Turned D W w
/-- The document's storage, its array known. -/
def PDr (s n L : Nat) (R : Nat) (w : World) (S : Nat → Prop) (H : Nat) (os : List Ob) (zs : List Int) : Prop := ∃ B cap kv gs, Lf w H R B cap s n L kv gs os zs ∧ ∀ b, S b ↔ LoS H R B n kv gs b
theorem PDr.pd {R : Nat} {w : World} {S : Nat → Prop} {H : Nat} {os : List Ob} {zs : List Int} (h : PDr s n L R w S H os zs) : PD s n L w S H os zs := by
  obtain ⟨B, cap, kv, gs, h, hS⟩ := h
  exact ⟨R, B, cap, kv, gs, h, hS⟩
theorem PDr.h1 {R : Nat} {w : World} {S : Nat → Prop} {H : Nat} {os : List Ob} {zs : List Int} (h : PDr s n L R w S H os zs) : w.cell? ⟨H, 1, none⟩ = some (.pointer (some ⟨R, 0, none⟩)) := by
  obtain ⟨B, cap, kv, gs, h, hS⟩ := h
  exact h.h1
theorem PD.pdr {w : World} {S : Nat → Prop} {H : Nat} {os : List Ob} {zs : List Int} (h : PD s n L w S H os zs) : ∃ R, PDr s n L R w S H os zs := by
  obtain ⟨R, B, cap, kv, gs, h, hS⟩ := h
  exact ⟨R, B, cap, kv, gs, h, hS⟩
theorem lo_write {wr : World} {S : Nat → Prop} (h : PDr s n L R wr S H os zs) (hd : Dim s n L) (K1 T1 C1 : Int) :
    Calls Try.prog 16 #[.pointer (some ⟨R, 0, none⟩), .int .i64 K1, .int .i64 T1, .int .u8 C1] wr (WriteP (PDr s n L R) S H os (putO zs s n K1 T1 C1) wr) := by
  obtain ⟨B, cap, kv, gs, h, hS⟩ := h
  by_cases hin : 0 ≤ K1 ∧ K1 < n ∧ 0 ≤ T1 ∧ T1 < s
  · obtain ⟨a1, a2, a3, a4⟩ := hin
    obtain ⟨q, rfl⟩ := Int.eq_ofNat_of_zero_le a1
    obtain ⟨t, rfl⟩ := Int.eq_ofNat_of_zero_le a3
    have hq : q < n := by omega
    have ht : t < s := by omega
    rw [putO_yes hq ht]
    refine (write_yes _ _ _ _ _ _ _ _ _ _ _ _ h.rf hq ht).mono ?_
    rintro e w' ⟨rfl, rfl⟩
    exact ⟨rfl, ⟨B, cap, kv, gs, h.put hd hq ht, hS⟩, (Turned.refl _ _).set (a := ⟨gs q, t, none⟩) (.inl ((hS _).2 (.inr (.inr (.inr (.inr ⟨q, hq, rfl⟩)))))) _⟩
  · rw [putO_no hin]
    refine (write_no _ _ _ _ _ _ _ _ _ _ _ _ h.rf hin).mono ?_
    rintro e w' ⟨rfl, rfl⟩
    exact ⟨rfl, ⟨B, cap, kv, gs, h, hS⟩, Turned.refl _ _⟩
end
/-! ### New -/
theorem lf_of_new {W w : World} {R s n L : Nat} {v : Value} {gs : Nat → Nat} (h : NewAt W w R s n v gs) (hd : Dim s n L) :
    ∃ B cap, R < B ∧ Lf (w.alloc (.cells #[.slice none 0 0, .pointer (some ⟨R, 0, none⟩)] 46)) w.heap.size R B cap s n L (.slice none 0 0) gs [] (zeros L) := by
  have hn := hd.n0
  have hown := h.own
  obtain ⟨m, rfl⟩ : ∃ m, n = m + 1 := ⟨n - 1, by omega⟩
  obtain ⟨B, cap, rfl⟩ := own_shape h.own
  have hBl := h.own.lt B rfl
  obtain ⟨-, cur, hh⟩ := own_block h.own B rfl
  have hrf : Rf w R B cap s (m + 1) L gs (zeros L) := by
    refine ⟨h.c0, h.c1, fun k hk => ?_, fun k j hk hj => ?_, fun k j hk => ?_, zeros_length L, fun i j hi hj e => ?_, fun k hk => ?_, fun k hk => ?_⟩
    · have := h.own.cells (g := B) rfl k (.slice (some ⟨gs k, 0, none⟩) s s) (by simp [rowsOf, hk])
      rwa [add_lit, Nat.zero_add] at this
    · rw [zeros_get]
      simp [World.cell?, h.rows k hk, u8s, zeros, hj]
    · simp [World.frozen?, h.rows k hk]
    · rcases Nat.lt_trichotomy i j with hl | hl | hl
      · have := h.inc i j hl hj; omega
      · exact hl
      · have := h.inc j i hl hi; omega
    · have := h.lo k hk; omega
    · intro e
      have := h.rows k hk
      rw [e, hh] at this
      injection this with this
      injection this with _ h2 _
      cases h2
  have hb := box_below w (.cells #[.slice none 0 0, .pointer (some ⟨R, 0, none⟩)] 46)
  have hnew : (w.alloc (.cells #[.slice none 0 0, .pointer (some ⟨R, 0, none⟩)] 46)).heap[w.heap.size]? = some (.cells #[.slice none 0 0, .pointer (some ⟨R, 0, none⟩)] 46 (0, 0)) := heap_alloc_new w _
  have hRl := hrf.ltR
  have eR := (hb.block R hRl).trans h.box
  have eB := (hb.block B (by omega)).trans hh
  refine ⟨B, cap, by omega, by simp [go_sem], by simp [go_sem], fun j => ?_, World.ownsRow_nil _ _ _ _, by simp [Value.ownBlock], by simp [Value.ownBlock], by simp [Value.ownBlock], fun k _ => by simp [Value.ownBlock], Nat.zero_le _, hrf.stay hd.s0 hd.n0 hb, by omega, by omega, fun k hk => by have := hrf.ltG hd.s0 hk; omega, by omega, fun j => ?_, fun j => ?_⟩
  · unfold World.frozen?; simp only [hnew]; simp
  · unfold World.frozen?; simp only [eR]; simp
  · unfold World.frozen?; simp only [eB]; simp
def NewP (PS : World → (Nat → Prop) → Nat → List Ob → List Int → Prop) (L : Nat) (W : World) (h : Nat) (w : World) : Prop := ∃ D, PS w D h [] (zeros L) ∧ Below W.heap.size W w ∧ ∀ b, D b → W.heap.size ≤ b
theorem lo_new (s n L : Nat) (w : World) (hd : Dim s n L) : Calls Try.prog 9 #[.int .i64 s, .int .i64 n] w (fun e w' => ∃ H, e = .returned (.pointer (some ⟨H, 0, none⟩)) ∧ NewP (PD s n L) L w H w') := by
  have s1 := hd.s1
  have n1 := hd.n1
  have HD := Lib.hid hd
  clear hd
  unfold NewP
  go_enter Try.func9, Try.ntmps9
  go_wp2_with (go_at_call 21; refine (ref_new _ _ _ s1 n1).mono ?_; rintro e w3 ⟨R, v, gs, rfl, hn3⟩; have HN3 := Lib.hid hn3; clear hn3)
  go_ret
  obtain ⟨B, cap, hRB, hlf⟩ := lf_of_new HN3.out HD.out
  have hn := HN3.out
  have ha := hn.at_
  have hb := hn.below
  have hz := hb.size
  refine ⟨w3.heap.size, rfl, LoS w3.heap.size R B n (.slice none 0 0) gs, ⟨R, B, cap, _, gs, hlf, fun b => Iff.rfl⟩, (hb.mono ha).alloc (by have := hn.ltR; omega) _, ?_⟩
  rintro b (h1 | h1 | h1 | h1 | ⟨i, hi, h1⟩)
  · have := hn.ltR; omega
  · omega
  · omega
  · cases h1
  · have := hn.lo i hi; omega
/-! ### Keyed -/
def keyEq (a b : Ob) : Bool := decide (a = b)
theorem neq_key (a b : Ob) (w : World) : (binOp .neq 32 (.agg #[.int .i64 a.1, .int .i64 a.2]) (.agg #[.int .i64 b.1, .int .i64 b.2])).run Try.prog w = .ok (.bool (!keyEq a b)) w := by
  obtain ⟨p, q⟩ := a
  obtain ⟨x, y⟩ := b
  unfold keyEq
  by_cases h1 : p = x <;> by_cases h2 : q = y <;> simp [go_sem, h1, h2]
/-- A slice of objects to be looked at. -/
def ObsIn (w : World) (a : Option Addr) (os : List Ob) : Prop := 0 < os.length → ∃ g, a = some ⟨g, 0, none⟩ ∧ g < w.heap.size ∧ ObsAt w g os
theorem ObsIn.stay {w w' : World} {a : Option Addr} {os : List Ob} (h : ObsIn w a os) (hb : Below w.heap.size w w') : ObsIn w' a os := fun h0 => by
  obtain ⟨g, e, hg, ho⟩ := h h0
  exact ⟨g, e, Nat.lt_of_lt_of_le hg hb.size, fun i hi => ⟨(hb.cell (p := ⟨g, i * 2, none⟩) hg).trans (ho i hi).1, (hb.cell (p := ⟨g, i * 2 + 1, none⟩) hg).trans (ho i hi).2⟩⟩
attribute [local go_sem ↓] neq_key
theorem lo_keyed (w : World) (a1 a2 : Option Addr) (c1 c2 : Nat) (os : List Ob) (h1 : ObsIn w a1 os) (h2 : ObsIn w a2 os) (hl : os.length ≤ 16) :
    Calls Try.prog 31 #[.slice a1 os.length c1, .slice a2 os.length c2] w (fun e w' => e = .returned (.bool true) ∧ Below w.heap.size w w') := by
  have H1 := Lib.hid h1
  have H2 := Lib.hid h2
  clear h1 h2
  go_enter Try.func31, Try.ntmps31
  go_wp2
  go_loopw [5] (fun v wr => ∃ k : Nat, k ≤ os.length ∧ v = .int .i64 k ∧ Below w.heap.size w wr) (fun v _ => 17 - (intOf v).toNat)
  case atStart => exact ⟨0, by omega, rfl, Below.refl _ _⟩
  case round =>
    obtain ⟨k, hk, rfl, hb⟩ := hrel
    have HB := Lib.hid hb
    by_cases hlt : k < os.length
    · obtain ⟨g1, rfl, hg1, o1⟩ := H1.out.stay hb (by omega)
      obtain ⟨g2, rfl, hg2, o2⟩ := H2.out.stay hb (by omega)
      obtain ⟨d1, d2⟩ := o1 k hlt
      obtain ⟨e1, e2⟩ := o2 k hlt
      obtain ⟨o, ho⟩ : ∃ o, os.getD k (0, 0) = o := ⟨_, rfl⟩
      rw [ho] at d1 d2 e1 e2
      have hkq : keyEq o o = true := by simp [keyEq]
      clear hb o1 o2 ho
      go_wp2
      go_quiet (fail)
      go_wp2
      go_roundw
      case rel => exact ⟨k + 1, by omega, by go_num, bdrewN HB.out _⟩
      case measure => simp [intOf]; omega
    · obtain rfl : k = os.length := by omega
      clear hb
      go_wp2
      go_ret
      exact ⟨rfl, HB.out⟩
end Go.Proofs.Ytijhoiheieighaa
