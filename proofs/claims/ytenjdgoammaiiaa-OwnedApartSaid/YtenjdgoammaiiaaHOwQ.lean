/-
  Proved here: New of the document's maps, walked. Conditions: as each lemma says.
-/
import Derived.Test.YtenjdgoammaiiaaHOwP
namespace Go.Proofs.Ytenjdgoammaiiaa
open Go.RowKit
set_option maxRecDepth 100000
set_option linter.unusedSimpArgs false

attribute [local go_sem ↓] append_veil
theorem ra_of_new {W wr : World} {R s n : Nat} {v : Value} {gs : Nat → Nat} (h : NewAt W wr R s n v gs) (hd : Dim s n (s * n)) : ∃ B cap, v = .slice (some ⟨B, 0, none⟩) n cap ∧ Ra wr R B cap s n gs (fun _ => s) (zeros (s * n)) ∧ (∀ b, RaS R B n gs b → W.heap.size ≤ b) := by
  obtain ⟨B, cap, rfl, hRB, hrf⟩ := rf_of_new h hd
  have ha := h.at_
  have hh : ∃ cur, wr.heap[B]? = some (.cells cur 32 (0, 0)) := by
    rcases h.own.2 with ⟨h0, _⟩ | ⟨g, cap', cur, hv, _, hh, _⟩
    · cases h0
    · injection hv with hv
      injection hv with hv
      injection hv with hv _ _
      exact ⟨cur, by rw [hv]; exact hh⟩
  obtain ⟨cur, hh⟩ := hh
  refine ⟨B, cap, rfl, ⟨hrf.r0, hrf.r1, hrf.rows, hrf.row, hrf.free, fun j => by simp [World.frozen?, hh], hrf.len, hrf.inj, hrf.neR, hrf.neB, by omega⟩, ?_⟩
  rintro b (rfl | rfl | ⟨i, hi, rfl⟩)
  · exact ha
  · omega
  · have := h.lo i hi; omega
/-- What New of the document gives. -/
def GaveOw (W : World) (st : List MSt) (e : Ending) (w : World) : Prop := ∃ O S, e = .returned (ptrV O) ∧ RD w S O st ∧ Below W.heap.size W w ∧ ∀ b, S b → W.heap.size ≤ b
def NwR (W wr : World) (O : Nat) (ds : List Df) (k : Nat) : Prop := ∃ v l Ss, Nw W wr O v l Ss ∧ l.length = k ∧ ∀ m, m < k → (l.getD m dpD).1 = ds.getD m dfD
/-- The box of a map under way. -/
structure Bx (wr wx : World) (d : Df) (p : P3) : Prop where
  b : Below wr.heap.size wr wx
  c : ∀ j u, (dcells d p)[j]? = some u → wx.cell? ⟨wr.heap.size + 1, j, none⟩ = some u
  f : ∀ j, wx.frozen? ⟨wr.heap.size + 1, j, none⟩ = false
  z : wr.heap.size + 2 ≤ wx.heap.size
def nil3 : P3 := (.pointer none, .pointer none, .pointer none)
theorem bx_start (wr : World) (d : Df) : Bx wr ((wr.alloc (.cells #[.int .i64 d.k, .int .i64 d.y, .int .i64 d.v, .int .i64 d.x] 47)).alloc (.cells #[.int .i64 d.k, .int .i64 d.y, .int .i64 d.v, .int .i64 d.x, .pointer none, .pointer none, .pointer none] 65)) d nil3 := by
  have hh : ((wr.alloc (.cells #[.int .i64 d.k, .int .i64 d.y, .int .i64 d.v, .int .i64 d.x] 47)).alloc (.cells #[.int .i64 d.k, .int .i64 d.y, .int .i64 d.v, .int .i64 d.x, .pointer none, .pointer none, .pointer none] 65)).heap[wr.heap.size + 1]? = some (.cells #[.int .i64 d.k, .int .i64 d.y, .int .i64 d.v, .int .i64 d.x, .pointer none, .pointer none, .pointer none] 65 (0, 0)) := by
    have := heap_alloc_new (wr.alloc (.cells #[.int .i64 d.k, .int .i64 d.y, .int .i64 d.v, .int .i64 d.x] 47)) (.cells #[.int .i64 d.k, .int .i64 d.y, .int .i64 d.v, .int .i64 d.x, .pointer none, .pointer none, .pointer none] 65)
    simpa using this
  refine ⟨((Below.refl _ _).alloc (Nat.le_refl _) _).alloc (by simp) _, fun j u hu => ?_, fun j => by simp only [World.frozen?, hh]; simp, by simp⟩
  simp only [World.cell?, hh]
  simpa [dcells, nil3] using hu
theorem Bx.stay {wr wx wy : World} {d : Df} {p : P3} (h : Bx wr wx d p) (hb : Below wx.heap.size wx wy) : Bx wr wy d p := by
  have hz := h.z
  exact ⟨h.b.trans (hb.mono h.b.size), fun j u hu => (hb.cell (p := ⟨wr.heap.size + 1, j, none⟩) (by show wr.heap.size + 1 < _; omega)).trans (h.c j u hu), fun j => (hb.frozen (p := ⟨wr.heap.size + 1, j, none⟩) (by show wr.heap.size + 1 < _; omega)).trans (h.f j), Nat.le_trans hz hb.size⟩
/-- A pointer put into it. -/
theorem Bx.put {wr wx : World} {d : Df} {p q : P3} {i : Nat} {v : Value} (h : Bx wr wx d p) (hq : dcells d q = (dcells d p).set i v) (hi : i < 7) : Bx wr (wx.setCell ⟨wr.heap.size + 1, i, none⟩ v) d q := by
  refine ⟨h.b.setCell (by show wr.heap.size ≤ wr.heap.size + 1; omega) _, fun j u hu => ?_, fun j => by rw [World.frozen?_setCell]; exact h.f j, by simp [World.setCell]; exact h.z⟩
  rw [hq, List.getElem?_set] at hu
  have hl : (dcells d p).length = 7 := rfl
  by_cases e : i = j
  · subst e
    rw [if_pos rfl, if_pos (by omega)] at hu
    injection hu with hu
    subst hu
    obtain ⟨u0, hu0⟩ : ∃ u0, (dcells d p)[i]? = some u0 := ⟨_, List.getElem?_eq_getElem (by omega)⟩
    exact World.cell?_setCell_same _ _ _ (h.c i u0 hu0)
  · rw [if_neg e] at hu
    rw [World.cell?_setCell_other _ _ _ _ (by intro e2; injection e2 with _ e2 _; exact e e2)]
    exact h.c j u hu
/-- What stands ahead of the append. -/
structure Ready (W wr w5 : World) (O : Nat) (v : Value) (l : List (Df × P3)) (Ss : Nat → Nat → Prop) (d : Df) (p : P3) (a2 : Option Addr) (c2 : Nat) (W3 : World) : Prop where
  run : (appendV #[58, 58] 58 #[v, .slice (some ⟨w5.heap.size, 0, none⟩) 1 1]).run Try.prog (w5.alloc (.cells #[.int .i64 d.k, .int .i64 d.y, .int .i64 d.v, .int .i64 d.x, p.1, p.2.1, p.2.2] 65)).drew = .ok (.slice a2 (l.length + 1) c2) W3
  cO : w5.cell? ⟨O, 0, none⟩ = some v
  cA : (w5.alloc (.cells #[.int .i64 d.k, .int .i64 d.y, .int .i64 d.v, .int .i64 d.x, p.1, p.2.1, p.2.2] 65)).cell? ⟨O, 0, none⟩ = some v
  c3 : W3.cell? ⟨O, 0, none⟩ = some v
  f3 : W3.frozen? ⟨O, 0, none⟩ = false
  nw : ∃ S5 : Nat → Prop, Nw W (W3.setCell ⟨O, 0, none⟩ (.slice a2 (l.length + 1) c2)) O (.slice a2 (l.length + 1) c2) (l ++ [(d, p)]) (fun m => if m = l.length then S5 else Ss m)
theorem ready {W wr w5 : World} {O : Nat} {v : Value} {l : List (Df × P3)} {Ss : Nat → Nat → Prop} {S5 : Nat → Prop} {d : Df} {p : P3} (h : Nw W wr O v l Ss) (hl : l.length ≤ 15) (hx : Bx wr w5 d p) (hd : DM w5 S5 p.1 p.2.1 p.2.2 (newM d)) (hS : ∀ b, S5 b → wr.heap.size ≤ b) : ∃ a2 c2 W3, Ready W wr w5 O v l Ss d p a2 c2 W3 := by
  have h1 : ∀ u ∈ dcells d p, u.oneCell' = true := by
    intro u hu
    generalize newM d = y at hd
    have hp : p.1.oneCell' = true ∧ p.2.1.oneCell' = true ∧ p.2.2.oneCell' = true := by
      obtain ⟨p1, p2, p3⟩ := p
      simp only at hd ⊢
      cases hd <;> exact ⟨rfl, rfl, rfl⟩
    simp only [dcells, List.mem_cons, List.not_mem_nil, or_false] at hu
    rcases hu with rfl | rfl | rfl | rfl | rfl | rfl | rfl
    · rfl
    · rfl
    · rfl
    · rfl
    · exact hp.1
    · exact hp.2.1
    · exact hp.2.2
  obtain ⟨a2, c2, W3, hrun, h3, f3, hn⟩ := nw_push h hl hx.b hd hS h1
  have hOl := cell_block_lt h.c0
  have hc := (hx.b.cell (p := ⟨O, 0, none⟩) hOl).trans h.c0
  exact ⟨a2, c2, W3, hrun, hc, by rw [World.cell?_alloc_lt _ _ _ (cell_block_lt hc)]; exact hc, h3, f3, S5, hn⟩
theorem nwr_next {W w3 : World} {O k : Nat} {v : Value} {l : List (Df × P3)} {Ss : Nat → Nat → Prop} {ds : List Df} {d : Df} {p : P3} (h : Nw W w3 O v (l ++ [(d, p)]) Ss) (hl : l.length = k) (hd : ds.getD k dfD = d) (hle : ∀ m, m < k → (l.getD m dpD).1 = ds.getD m dfD) : NwR W w3 O ds (k + 1) := by
  refine ⟨v, _, Ss, h, by simp [hl], fun m hm => ?_⟩
  rw [getD_snocP (by omega)]
  by_cases e : m = l.length
  · rw [if_pos e, e, hl, hd]
  · rw [if_neg e]; exact hle m (by omega)
theorem newM_is {d : Df} (h : mayD d = true) : ((newM d).kind : Int) = d.k ∧ ((newM d).key : Int) = d.y ∧ ((newM d).val : Int) = d.v ∧ ((newM d).max : Int) = d.x := by
  obtain ⟨k, y, v, x⟩ := d
  unfold mayD at h
  simp only at h
  by_cases e1 : k = 1
  · subst e1
    simp [sizedB] at h
    simp only [newM, if_true, MSt.kind, MSt.key, MSt.val, MSt.max]
    omega
  · by_cases e2 : k = 2
    · subst e2
      simp [sizedB] at h
      simp only [newM, if_true, if_neg e1, MSt.kind, MSt.key, MSt.val, MSt.max]
      omega
    · by_cases e3 : k = 3 ∨ k = 4
      · rw [if_neg e1, if_neg e2, if_pos e3] at h
        simp [sizedB] at h
        simp only [newM, if_neg e1, if_neg e2, if_pos e3, MSt.kind, MSt.key, MSt.val, MSt.max]
        omega
      · by_cases e5 : k = 5
        · rw [if_neg e1, if_neg e2, if_neg e3, if_pos e5] at h
          simp at h
          simp only [newM, if_neg e1, if_neg e2, if_neg e3, MSt.kind, MSt.key, MSt.val, MSt.max]
          omega
        · simp [e1, e2, e3, e5] at h
theorem Nw.done {W wr : World} {O n : Nat} {v : Value} {l : List (Df × P3)} {Ss : Nat → Nat → Prop} {ds : List Df} (h : Nw W wr O v l Ss) (hl : l.length = n) (hn : ds.length = n) (hle : ∀ m, m < n → (l.getD m dpD).1 = ds.getD m dfD) (hm : ∀ j, j < n → mayD (ds.getD j dfD) = true) : ∃ S, RD wr S O (ds.map newM) ∧ ∀ b, S b → W.heap.size ≤ b := by
  have hst : ∀ m, m < n → (ds.map newM).getD m .ring = newM (ds.getD m dfD) := fun m hmn => by
    rw [List.getD_eq_getElem?_getD, List.getD_eq_getElem?_getD, List.getElem?_map, List.getElem?_eq_getElem (by omega)]
    rfl
  have hsl : (ds.map newM).length = n := by rw [List.length_map, hn]
  have hown := h.own
  obtain ⟨a, c, rfl, hrow⟩ : ∃ a c, v = .slice a n c ∧ (0 < n → ∃ g, a = some ⟨g, 0, none⟩ ∧ ∀ m, m < n → ∀ i u, i < 7 → (dcells (l.getD m dpD).1 (l.getD m dpD).2)[i]? = some u → wr.cell? ⟨g, m * 7 + i, none⟩ = some u) := by
    rcases hown.2 with ⟨rfl, h0⟩ | ⟨g, cap, cur, hv, -, hh, -⟩
    · exact ⟨none, 0, by rw [← hl, h0], fun hp => by omega⟩
    · refine ⟨_, cap, by rw [hv, hl], fun _ => ⟨g, rfl, fun m hmn i u hi hu => ?_⟩⟩
      rw [hv] at hown
      have h1 := hown.cells (g := g) rfl (m * 7 + i) u (by rw [flatD_get (by omega) i hi]; exact hu)
      rw [add_lit, Nat.zero_add] at h1
      exact h1
  have hS : ∀ b, OwS O a Ss (ds.map newM).length b → W.heap.size ≤ b := by
    rw [hsl]
    rintro b (rfl | ⟨h0, rfl⟩ | ⟨m, hmn, hb⟩)
    · exact h.nO
    · exact h.nv b rfl
    · exact h.nS m b (by omega) hb
  refine ⟨OwS O a Ss (ds.map newM).length, ⟨a, c, fun m => (l.getD m dpD).2, Ss, ⟨by rw [hsl]; exact h.c0, fun m hmn => ?_, fun m hmn => ?_, fun m hmn => h.OS m (by omega), fun m g hmn e => h.gS m g (by omega) (by rw [e]; rfl), fun i j b hi hj hne => h.dis i j b (by omega) (by omega) hne⟩, fun b => Iff.rfl⟩, hS⟩
  · rw [hsl] at hmn
    obtain ⟨g, rfl, hc⟩ := hrow (by omega)
    rw [hst m hmn]
    obtain ⟨e1, e2, e3, e4⟩ := newM_is (hm m hmn)
    have hd := hle m hmn
    refine ⟨g, rfl, ?_, ?_, ?_, ?_, ?_, ?_, ?_⟩
    · rw [e1, ← hd]; exact hc m hmn 0 _ (by omega) rfl
    · rw [e2, ← hd]; exact hc m hmn 1 _ (by omega) rfl
    · rw [e3, ← hd]; exact hc m hmn 2 _ (by omega) rfl
    · rw [e4, ← hd]; exact hc m hmn 3 _ (by omega) rfl
    · exact hc m hmn 4 _ (by omega) rfl
    · exact hc m hmn 5 _ (by omega) rfl
    · exact hc m hmn 6 _ (by omega) rfl
  · rw [hsl] at hmn
    rw [hst m hmn, ← hle m hmn]
    exact h.dm m (by omega)
set_option maxHeartbeats 4000000 in
theorem ow_new (ds : List Df) (a : Option Addr) (c : Nat) (w : World) (h : DfsIn w a ds) (hm : mayL ds = true) : Calls Try.prog 8 #[.slice a ds.length c] w (GaveOw w (ds.map newM)) := by
  obtain ⟨n, hn⟩ : ∃ n, ds.length = n := ⟨_, rfl⟩
  have hl4 : n ≤ 4 := by
    unfold mayL at hm
    simp at hm
    omega
  have hall : ∀ j, j < n → mayD (ds.getD j dfD) = true := fun j hj => by
    unfold mayL at hm
    simp only [Bool.and_eq_true, List.all_eq_true] at hm
    have := hm.2 _ (List.getElem_mem (by rw [hn]; exact hj : j < ds.length))
    rw [List.getD_eq_getElem?_getD, List.getElem?_eq_getElem (by rw [hn]; exact hj)]
    exact this
  have HN := Lib.hid hn
  have HH := Lib.hid h
  have HALL := Lib.hid hall
  have h0 : Nw w (w.alloc (.cells #[.slice none 0 0] 60)) w.heap.size (.slice none 0 0) [] (fun _ _ => False) :=
    ⟨by simp [go_sem], by simp [go_sem], World.ownsRow_nil _ _ _ _, (fun e => by cases e), (fun m hm => by simp at hm), (fun m hm => by simp at hm), (fun m b hm => by simp at hm), (fun i j b hi => by simp at hi), box_below w _, Nat.le_refl _, (fun m b hm => by simp at hm), (fun b e => by cases e)⟩
  have HH0 := Lib.hid h0
  rw [hn]
  clear h hm hn hall h0
  go_enter Try.func8, Try.ntmps8
  go_wp2
  go_loopw [4] (fun i wr => ∃ k : Nat, k ≤ n ∧ i = .int .i64 k ∧ NwR w wr w.heap.size ds k) (fun i _ => n - (intOf i).toNat)
  case atStart => exact ⟨0, by omega, rfl, _, _, _, HH0.out, rfl, fun m hm => by omega⟩
  case round =>
    obtain ⟨k, hk, rfl, v, l, Ss, hnw, hlk, hle⟩ := hrel
    have HNW := Lib.hid hnw
    have HLK := Lib.hid hlk
    have HLE := Lib.hid hle
    clear HH0
    by_cases hlt : k < n
    · obtain ⟨g, o, rfl, hg, c0, c1, c2, c3⟩ := HH.out k (by rw [HN.out]; exact hlt)
      have hbW := hnw.b
      have c0 := (hbW.cell (p := ⟨g, _, none⟩) hg).trans c0
      have c1 := (hbW.cell (p := ⟨g, _, none⟩) hg).trans c1
      have c2 := (hbW.cell (p := ⟨g, _, none⟩) hg).trans c2
      have c3 := (hbW.cell (p := ⟨g, _, none⟩) hg).trans c3
      have hmd := HALL.out k hlt
      obtain ⟨d, hd⟩ : ∃ d, ds.getD k dfD = d := ⟨_, rfl⟩
      rw [hd] at c0 c1 c2 c3 hmd
      have HD := Lib.hid hd
      obtain ⟨kd, y, z, x⟩ := d
      simp only at c0 c1 c2 c3
      clear hd hnw hlk hle
      have hk5 : kd = 1 ∨ kd = 2 ∨ (kd = 3 ∨ kd = 4) ∨ kd = 5 := by
        unfold mayD at hmd
        by_cases e1 : kd = 1
        · exact .inl e1
        · by_cases e2 : kd = 2
          · exact .inr (.inl e2)
          · by_cases e3 : kd = 3 ∨ kd = 4
            · exact .inr (.inr (.inl e3))
            · by_cases e5 : kd = 5
              · exact .inr (.inr (.inr e5))
              · simp [e1, e2, e3, e5] at hmd
      rcases hk5 with rfl | rfl | hk34 | rfl
      · obtain ⟨s, rfl⟩ := Int.eq_ofNat_of_zero_le (show 0 ≤ z by unfold mayD at hmd; simp [sizedB] at hmd; omega)
        obtain ⟨nn, rfl⟩ := Int.eq_ofNat_of_zero_le (show 0 ≤ x by unfold mayD at hmd; simp [sizedB] at hmd; omega)
        have hdim : Dim s nn (s * nn) := by unfold mayD at hmd; simp [sizedB] at hmd; exact ⟨by omega, by omega, by omega, by omega, rfl⟩
        have HDM := Lib.hid hdim
        have hy : y = 4 := by unfold mayD at hmd; simp [sizedB] at hmd; omega
        subst hy
        have hb0 := bx_start wr ⟨1, 4, s, nn⟩
        simp only at hb0
        have HB0 := Lib.hid hb0
        clear hb0 hmd hdim
        go_wp2_with (go_at_call 19; refine (ref_new s nn _ HDM.out.s1 HDM.out.n1).mono ?_; rintro e w4 ⟨R, v4, gs, rfl, hn4⟩; have HN4 := Lib.hid hn4; have HB4 := Lib.hid (HB0.out.stay (hn4.below.mono hn4.at_)); have y4 := HB4.out.c 4 _ rfl; have f4 := HB4.out.f 4; clear hn4)
        have hx5 := HB4.out.put (q := (.pointer (some ⟨R, 0, none⟩), .pointer none, .pointer none)) (i := 4) (v := .pointer (some ⟨R, 0, none⟩)) rfl (by omega)
        have hz0 := HB0.out.z
        obtain ⟨w5, hw5⟩ : ∃ w5, w4.setCell ⟨wr.heap.size + 1, 4, none⟩ (.pointer (some ⟨R, 0, none⟩)) = w5 := ⟨_, rfl⟩
        have hk5 : ∀ b, wr.heap.size + 2 ≤ b → w5.heap[b]? = w4.heap[b]? := fun b hb => by rw [← hw5]; exact Below.heap_setCell _ _ _ _ (by show b ≠ wr.heap.size + 1; omega)
        rw [hw5] at hx5 ⊢
        clear hw5 y4 f4
        obtain ⟨B, cap, rfl, hra, hnb⟩ := ra_of_new HN4.out HDM.out
        have hS5 : ∀ b, RaS R B nn gs b → wr.heap.size ≤ b := fun b hb => by have := hnb b hb; omega
        have hdm : DM w5 (RaS R B nn gs) (Value.pointer (some ⟨R, 0, none⟩)) (.pointer none) (.pointer none) (newM ⟨1, 4, s, nn⟩) := by
          rw [show newM ⟨1, 4, s, nn⟩ = .arr s nn (zeros (s * nn)) by simp [newM]]
          exact .arr HDM.out (hra.kept fun b hb => hk5 b (by have := hnb b hb; omega)) fun b => Iff.rfl
        clear hra hnb hk5 hz0
        obtain ⟨a2, c2, W3, hrd⟩ := ready HNW.out (by rw [HLK.out]; omega) hx5 hdm hS5
        have r0 := hrd.run
        have r1 := hrd.cO
        have r2 := hrd.cA
        have r3 := hrd.c3
        have r4 := hrd.f3
        have x0 := hx5.c 0 _ rfl
        have x1 := hx5.c 1 _ rfl
        have x2 := hx5.c 2 _ rfl
        have x3 := hx5.c 3 _ rfl
        have x4 := hx5.c 4 _ rfl
        have x5 := hx5.c 5 _ rfl
        have x6 := hx5.c 6 _ rfl
        rw [HLK.out] at r0
        simp only at r0 r2 x4 x5 x6
        have HNX := Lib.hid hrd.nw
        rw [HLK.out] at HNX
        clear hrd hx5 hdm hS5
        go_region
        go_wp2
        go_roundw
        case rel =>
          obtain ⟨S6, hn6⟩ := HNX.out
          exact ⟨k + 1, by omega, by go_num, nwr_next hn6 HLK.out HD.out HLE.out⟩
        case measure => simp [intOf]; omega
      · obtain ⟨s, rfl⟩ := Int.eq_ofNat_of_zero_le (show 0 ≤ z by unfold mayD at hmd; simp [sizedB] at hmd; omega)
        obtain ⟨nn, rfl⟩ := Int.eq_ofNat_of_zero_le (show 0 ≤ x by unfold mayD at hmd; simp [sizedB] at hmd; omega)
        have hdim : Dim s nn (s * nn) := by unfold mayD at hmd; simp [sizedB] at hmd; exact ⟨by omega, by omega, by omega, by omega, rfl⟩
        have HDM := Lib.hid hdim
        obtain ⟨ky, rfl⟩ := Int.eq_ofNat_of_zero_le (show 0 ≤ y by unfold mayD at hmd; simp [sizedB] at hmd; omega)
        have hky : 1 ≤ ky ∧ ky ≤ 8 := by unfold mayD at hmd; simp [sizedB] at hmd; omega
        have HKY := Lib.hid hky
        have hb0 := bx_start wr ⟨2, ky, s, nn⟩
        simp only at hb0
        have HB0 := Lib.hid hb0
        clear hb0 hmd hdim hky
        go_wp2_with (go_at_call 20; refine (ref_newH ky s nn (s * nn) _ HDM.out).mono ?_; rintro e w4 ⟨H, K, R, B, cap, gs, rfl, hf4, hb4, n1, n2, n3, n4, n5⟩; have HN4 := Lib.hid (And.intro hf4 (And.intro n1 (And.intro n2 (And.intro n3 (And.intro n4 n5))))); have HB4 := Lib.hid (HB0.out.stay hb4); have y4 := HB4.out.c 5 _ rfl; have f4 := HB4.out.f 5; clear hf4 hb4 n1 n2 n3 n4 n5)
        have hx5 := HB4.out.put (q := (.pointer none, .pointer (some ⟨H, 0, none⟩), .pointer none)) (i := 5) (v := .pointer (some ⟨H, 0, none⟩)) rfl (by omega)
        have hz0 := HB0.out.z
        obtain ⟨w5, hw5⟩ : ∃ w5, w4.setCell ⟨wr.heap.size + 1, 5, none⟩ (.pointer (some ⟨H, 0, none⟩)) = w5 := ⟨_, rfl⟩
        have hk5 : ∀ b, wr.heap.size + 2 ≤ b → w5.heap[b]? = w4.heap[b]? := fun b hb => by rw [← hw5]; exact Below.heap_setCell _ _ _ _ (by show b ≠ wr.heap.size + 1; omega)
        rw [hw5] at hx5 ⊢
        clear hw5 y4 f4
        obtain ⟨hf, n1, n2, n3, n4, n5⟩ := HN4.out
        have hnb : ∀ b, RefS H K R B nn gs b → wr.heap.size + 2 ≤ b := by
          rintro b (rfl | rfl | rfl | rfl | ⟨i, hi, rfl⟩)
          · omega
          · omega
          · omega
          · omega
          · have := n5 i hi; omega
        have hS5 : ∀ b, RefS H K R B nn gs b → wr.heap.size ≤ b := fun b hb => by have := hnb b hb; omega
        have hdm : DM w5 (RefS H K R B nn gs) (.pointer none) (Value.pointer (some ⟨H, 0, none⟩)) (.pointer none) (newM ⟨2, ky, s, nn⟩) := by
          rw [show newM ⟨2, ky, s, nn⟩ = .hash ky s nn (noKeys nn) (zeros (s * nn)) by simp [newM]]
          exact .hash HDM.out HKY.out.1 HKY.out.2 (hf.keptS fun b hb => hk5 b (hnb b hb)) fun b => Iff.rfl
        clear hf n1 n2 n3 n4 n5 hnb hk5 hz0
        obtain ⟨a2, c2, W3, hrd⟩ := ready HNW.out (by rw [HLK.out]; omega) hx5 hdm hS5
        have r0 := hrd.run
        have r1 := hrd.cO
        have r2 := hrd.cA
        have r3 := hrd.c3
        have r4 := hrd.f3
        have x0 := hx5.c 0 _ rfl
        have x1 := hx5.c 1 _ rfl
        have x2 := hx5.c 2 _ rfl
        have x3 := hx5.c 3 _ rfl
        have x4 := hx5.c 4 _ rfl
        have x5 := hx5.c 5 _ rfl
        have x6 := hx5.c 6 _ rfl
        rw [HLK.out] at r0
        simp only at r0 r2 x4 x5 x6
        have HNX := Lib.hid hrd.nw
        rw [HLK.out] at HNX
        clear hrd hx5 hdm hS5
        go_region
        go_wp2
        go_roundw
        case rel =>
          obtain ⟨S6, hn6⟩ := HNX.out
          exact ⟨k + 1, by omega, by go_num, nwr_next hn6 HLK.out HD.out HLE.out⟩
        case measure => simp [intOf]; omega
      · rcases hk34 with rfl | rfl
        · obtain ⟨s, rfl⟩ := Int.eq_ofNat_of_zero_le (show 0 ≤ z by unfold mayD at hmd; simp [sizedB] at hmd; omega)
          obtain ⟨nn, rfl⟩ := Int.eq_ofNat_of_zero_le (show 0 ≤ x by unfold mayD at hmd; simp [sizedB] at hmd; omega)
          have hdim : Dim s nn (s * nn) := by unfold mayD at hmd; simp [sizedB] at hmd; exact ⟨by omega, by omega, by omega, by omega, rfl⟩
          have HDM := Lib.hid hdim
          have hy : y = 0 := by unfold mayD at hmd; simp [sizedB] at hmd; omega
          subst hy
          have hb0 := bx_start wr ⟨3, 0, s, nn⟩
          simp only at hb0
          have HB0 := Lib.hid hb0
          clear hb0 hmd hdim
          go_wp2_with (go_at_call 21; refine (lo_new s nn (s * nn) _ HDM.out).mono ?_; rintro e w4 ⟨H, rfl, S4, hp4, hb4, hn4⟩; have HN4 := Lib.hid (And.intro hp4 hn4); have HB4 := Lib.hid (HB0.out.stay hb4); have y4 := HB4.out.c 6 _ rfl; have f4 := HB4.out.f 6; clear hp4 hb4 hn4)
          have hx5 := HB4.out.put (q := (.pointer none, .pointer none, .pointer (some ⟨H, 0, none⟩))) (i := 6) (v := .pointer (some ⟨H, 0, none⟩)) rfl (by omega)
          have hz0 := HB0.out.z
          obtain ⟨w5, hw5⟩ : ∃ w5, w4.setCell ⟨wr.heap.size + 1, 6, none⟩ (.pointer (some ⟨H, 0, none⟩)) = w5 := ⟨_, rfl⟩
          have hk5 : ∀ b, wr.heap.size + 2 ≤ b → w5.heap[b]? = w4.heap[b]? := fun b hb => by rw [← hw5]; exact Below.heap_setCell _ _ _ _ (by show b ≠ wr.heap.size + 1; omega)
          rw [hw5] at hx5 ⊢
          clear hw5 y4 f4
          obtain ⟨⟨R, B, cap, kv, gs, lf, hSL⟩, hn4⟩ := HN4.out
          have hnb : ∀ b, S4 b → wr.heap.size + 2 ≤ b := fun b hb => by have := hn4 b hb; omega
          have hS5 : ∀ b, S4 b → wr.heap.size ≤ b := fun b hb => by have := hnb b hb; omega
          have hdm : DM w5 S4 (.pointer none) (.pointer none) (Value.pointer (some ⟨H, 0, none⟩)) (newM ⟨3, 0, s, nn⟩) := by
            rw [show newM ⟨3, 0, s, nn⟩ = .loc 3 s nn [] (zeros (s * nn)) by simp [newM]]
            exact .loc HDM.out (by omega) (lf.kept fun b hb => hk5 b (hnb b ((hSL b).2 hb))) hSL
          clear lf hSL hn4 hnb hk5 hz0
          obtain ⟨a2, c2, W3, hrd⟩ := ready HNW.out (by rw [HLK.out]; omega) hx5 hdm hS5
          have r0 := hrd.run
          have r1 := hrd.cO
          have r2 := hrd.cA
          have r3 := hrd.c3
          have r4 := hrd.f3
          have x0 := hx5.c 0 _ rfl
          have x1 := hx5.c 1 _ rfl
          have x2 := hx5.c 2 _ rfl
          have x3 := hx5.c 3 _ rfl
          have x4 := hx5.c 4 _ rfl
          have x5 := hx5.c 5 _ rfl
          have x6 := hx5.c 6 _ rfl
          rw [HLK.out] at r0
          simp only at r0 r2 x4 x5 x6
          have HNX := Lib.hid hrd.nw
          rw [HLK.out] at HNX
          clear hrd hx5 hdm hS5
          go_region
          go_wp2
          go_roundw
          case rel =>
            obtain ⟨S6, hn6⟩ := HNX.out
            exact ⟨k + 1, by omega, by go_num, nwr_next hn6 HLK.out HD.out HLE.out⟩
          case measure => simp [intOf]; omega
        · obtain ⟨s, rfl⟩ := Int.eq_ofNat_of_zero_le (show 0 ≤ z by unfold mayD at hmd; simp [sizedB] at hmd; omega)
          obtain ⟨nn, rfl⟩ := Int.eq_ofNat_of_zero_le (show 0 ≤ x by unfold mayD at hmd; simp [sizedB] at hmd; omega)
          have hdim : Dim s nn (s * nn) := by unfold mayD at hmd; simp [sizedB] at hmd; exact ⟨by omega, by omega, by omega, by omega, rfl⟩
          have HDM := Lib.hid hdim
          have hy : y = 0 := by unfold mayD at hmd; simp [sizedB] at hmd; omega
          subst hy
          have hb0 := bx_start wr ⟨4, 0, s, nn⟩
          simp only at hb0
          have HB0 := Lib.hid hb0
          clear hb0 hmd hdim
          go_wp2_with (go_at_call 21; refine (lo_new s nn (s * nn) _ HDM.out).mono ?_; rintro e w4 ⟨H, rfl, S4, hp4, hb4, hn4⟩; have HN4 := Lib.hid (And.intro hp4 hn4); have HB4 := Lib.hid (HB0.out.stay hb4); have y4 := HB4.out.c 6 _ rfl; have f4 := HB4.out.f 6; clear hp4 hb4 hn4)
          have hx5 := HB4.out.put (q := (.pointer none, .pointer none, .pointer (some ⟨H, 0, none⟩))) (i := 6) (v := .pointer (some ⟨H, 0, none⟩)) rfl (by omega)
          have hz0 := HB0.out.z
          obtain ⟨w5, hw5⟩ : ∃ w5, w4.setCell ⟨wr.heap.size + 1, 6, none⟩ (.pointer (some ⟨H, 0, none⟩)) = w5 := ⟨_, rfl⟩
          have hk5 : ∀ b, wr.heap.size + 2 ≤ b → w5.heap[b]? = w4.heap[b]? := fun b hb => by rw [← hw5]; exact Below.heap_setCell _ _ _ _ (by show b ≠ wr.heap.size + 1; omega)
          rw [hw5] at hx5 ⊢
          clear hw5 y4 f4
          obtain ⟨⟨R, B, cap, kv, gs, lf, hSL⟩, hn4⟩ := HN4.out
          have hnb : ∀ b, S4 b → wr.heap.size + 2 ≤ b := fun b hb => by have := hn4 b hb; omega
          have hS5 : ∀ b, S4 b → wr.heap.size ≤ b := fun b hb => by have := hnb b hb; omega
          have hdm : DM w5 S4 (.pointer none) (.pointer none) (Value.pointer (some ⟨H, 0, none⟩)) (newM ⟨4, 0, s, nn⟩) := by
            rw [show newM ⟨4, 0, s, nn⟩ = .loc 4 s nn [] (zeros (s * nn)) by simp [newM]]
            exact .loc HDM.out (by omega) (lf.kept fun b hb => hk5 b (hnb b ((hSL b).2 hb))) hSL
          clear lf hSL hn4 hnb hk5 hz0
          obtain ⟨a2, c2, W3, hrd⟩ := ready HNW.out (by rw [HLK.out]; omega) hx5 hdm hS5
          have r0 := hrd.run
          have r1 := hrd.cO
          have r2 := hrd.cA
          have r3 := hrd.c3
          have r4 := hrd.f3
          have x0 := hx5.c 0 _ rfl
          have x1 := hx5.c 1 _ rfl
          have x2 := hx5.c 2 _ rfl
          have x3 := hx5.c 3 _ rfl
          have x4 := hx5.c 4 _ rfl
          have x5 := hx5.c 5 _ rfl
          have x6 := hx5.c 6 _ rfl
          rw [HLK.out] at r0
          simp only at r0 r2 x4 x5 x6
          have HNX := Lib.hid hrd.nw
          rw [HLK.out] at HNX
          clear hrd hx5 hdm hS5
          go_region
          go_wp2
          go_roundw
          case rel =>
            obtain ⟨S6, hn6⟩ := HNX.out
            exact ⟨k + 1, by omega, by go_num, nwr_next hn6 HLK.out HD.out HLE.out⟩
          case measure => simp [intOf]; omega
      · go_wp2
        have hx5 := bx_start wr ⟨5, y, z, x⟩
        simp only at hx5
        obtain ⟨w5, hw5⟩ : ∃ w5, (wr.alloc (.cells #[.int .i64 5, .int .i64 y, .int .i64 z, .int .i64 x] 47)).alloc (.cells #[.int .i64 5, .int .i64 y, .int .i64 z, .int .i64 x, .pointer none, .pointer none, .pointer none] 65) = w5 := ⟨_, rfl⟩
        rw [hw5] at hx5 ⊢
        clear hw5
        have hdm : DM w5 (fun _ => False) nil3.1 nil3.2.1 nil3.2.2 (newM ⟨5, y, z, x⟩) := .ring fun b hb => hb
        have hS5 : ∀ b, (fun _ : Nat => False) b → wr.heap.size ≤ b := fun b hb => hb.elim
        obtain ⟨a2, c2, W3, hrd⟩ := ready HNW.out (by rw [HLK.out]; omega) hx5 hdm hS5
        have r0 := hrd.run
        have r1 := hrd.cO
        have r2 := hrd.cA
        have r3 := hrd.c3
        have r4 := hrd.f3
        have x0 := hx5.c 0 _ rfl
        have x1 := hx5.c 1 _ rfl
        have x2 := hx5.c 2 _ rfl
        have x3 := hx5.c 3 _ rfl
        have x4 := hx5.c 4 _ rfl
        have x5 := hx5.c 5 _ rfl
        have x6 := hx5.c 6 _ rfl
        rw [HLK.out] at r0
        simp only [nil3, ptrV] at r0 r2 x4 x5 x6
        have HNX := Lib.hid hrd.nw
        rw [HLK.out] at HNX
        clear hrd hx5 hdm hS5
        go_region
        go_wp2
        go_roundw
        case rel =>
          obtain ⟨S6, hn6⟩ := HNX.out
          exact ⟨k + 1, by omega, by go_num, nwr_next hn6 HLK.out HD.out HLE.out⟩
        case measure => simp [intOf]; omega
    · obtain rfl : k = n := by omega
      clear hnw hlk hle
      go_wp2
      go_ret
      have hnw := HNW.out
      have hlk := HLK.out
      obtain ⟨S, hrd, hS⟩ := hnw.done hlk HN.out HLE.out HALL.out
      exact ⟨w.heap.size, S, rfl, hrd, hnw.b, hS⟩
end Go.Proofs.Ytenjdgoammaiiaa
