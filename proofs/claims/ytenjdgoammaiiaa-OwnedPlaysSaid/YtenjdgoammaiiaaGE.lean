/-
  Proved here: Drop of the document's storages, walked. Conditions: as each says.
-/
import Derived.Test.YtenjdgoammaiiaaGD
namespace Go.Proofs.Ytenjdgoammaiiaa
open Go.RowKit
set_option maxRecDepth 100000

theorem own_keep {w w' : World} {base base' e e' size size' n n' : Nat} {v v' : Value} {xs xs' : List Value} (h : w.ownsRow base e size v n xs) (h' : w.ownsRow base' e' size' v' n' xs') (hg : w.grownBy w' v'.ownBlock) (hne : e ≠ e') : w'.ownsRow base e size v n xs := by
  refine ⟨h.1, ?_⟩
  rcases h.2 with h2 | ⟨g, cap, cur, rfl, hb, hh, r⟩
  · exact .inl h2
  · refine .inr ⟨g, cap, cur, rfl, hb, ?_, r⟩
    rw [hg.block g (Array.getElem?_eq_some_iff.1 hh).1 (fun eq => ?_)]
    · exact hh
    · rcases h'.2 with ⟨rfl, -⟩ | ⟨g', cap', cur', rfl, hb', hh', r'⟩
      · cases eq
      · injection eq with eq
        subst eq
        rw [hh] at hh'
        injection hh' with hh'
        injection hh' with _ h9 _
        exact hne h9
theorem obj_keep {w w' : World} {base' e' size' n' i t : Nat} {v' : Value} {xs' : List Value} {c : Array Value} (hi : w.heap[i]? = some (.cells c t (0, 0))) (h' : w.ownsRow base' e' size' v' n' xs') (hg : w.grownBy w' v'.ownBlock) (hne : t ≠ e') : w'.heap[i]? = some (.cells c t (0, 0)) := by
  rw [hg.block i (Array.getElem?_eq_some_iff.1 hi).1 (fun eq => ?_)]
  · exact hi
  · rcases h'.2 with ⟨rfl, -⟩ | ⟨g', cap', cur', rfl, hb', hh', r'⟩
    · cases eq
    · injection eq with eq
      subst eq
      rw [hi] at hh'
      injection hh' with hh'
      injection hh' with _ h9 _
      exact hne h9
theorem alloc_heap {w : World} {i : Nat} {o o' : Obj} (h : w.heap[i]? = some o) : (w.alloc o').heap[i]? = some o := by
  rw [Below.heap_alloc _ _ _ (Array.getElem?_eq_some_iff.1 h).1]
  exact h
/-- How far Drop has come: the objects and the slots' blocks kept so far; a row of zeros, once it is made. -/
structure Dm (W wr : World) (s : Nat) (ko : List Ob) (l : List Nat) (C : Prop) (Z : Nat) (kv sv : Value) : Prop where
  ks : wr.ownsRow W.heap.size 34 2 kv ko.length (flatO ko)
  ss : wr.ownsRow W.heap.size 32 1 sv l.length (slV s l)
  z : C → wr.heap[Z]? = some (.cells (u8s (zeros s)).toArray 5 (0, 0)) ∧ W.heap.size ≤ Z
  b : Below W.heap.size W wr
section
variable {W wr w1 : World} {s Z : Nat} {ko : List Ob} {l : List Nat} {C : Prop} {kv sv v1 : Value}
/-- An object is kept. -/
theorem Dm.key (h : Dm W wr s ko l C Z kv sv) (x y : Int) (hown : w1.ownsRow W.heap.size 34 2 v1 (ko.length + 1) (flatO ko ++ [.int .i64 x, .int .i64 y])) (hgr : (wr.alloc (.cells #[.int .i64 x, .int .i64 y] 34)).grownBy w1 kv.ownBlock) : Dm W w1 s (ko ++ [(x, y)]) l C Z v1 sv := by
  refine ⟨?_, own_keep (h.ss.alloc _) (h.ks.alloc _) hgr (by decide), fun hm => ⟨obj_keep (alloc_heap (h.z hm).1) (h.ks.alloc _) hgr (by decide), (h.z hm).2⟩, (h.b.alloc h.b.size _).grown hgr (Nat.le_trans h.b.size (by simp)) (fun b hb => (h.ks.lt b hb).1)⟩
  rw [flatO_snoc, List.length_append]
  exact hown
/-- A slot is kept. -/
theorem Dm.slot (h : Dm W wr s ko l C Z kv sv) (g : Nat) (hown : w1.ownsRow W.heap.size 32 1 v1 (l.length + 1) (slV s l ++ [.slice (some ⟨g, 0, none⟩) s s])) (hgr : (wr.alloc (.cells #[.slice (some ⟨g, 0, none⟩) s s] 32)).grownBy w1 sv.ownBlock) : Dm W w1 s ko (l ++ [g]) C Z kv v1 := by
  refine ⟨own_keep (h.ks.alloc _) (h.ss.alloc _) hgr (by decide), ?_, fun hm => ⟨obj_keep (alloc_heap (h.z hm).1) (h.ss.alloc _) hgr (by decide), (h.z hm).2⟩, (h.b.alloc h.b.size _).grown hgr (Nat.le_trans h.b.size (by simp)) (fun b hb => (h.ss.lt b hb).1)⟩
  rw [slV_snoc, List.length_append]
  exact hown
/-- A slot of zeros is laid. -/
theorem Dm.zero (h : Dm W wr s ko l C Z kv sv) (hown : w1.ownsRow W.heap.size 32 1 v1 (l.length + 1) (slV s l ++ [.slice (some ⟨wr.heap.size, 0, none⟩) s s])) (hgr : ((wr.alloc (.cells (u8s (zeros s)).toArray 5)).alloc (.cells #[.slice (some ⟨wr.heap.size, 0, none⟩) s s] 32)).grownBy w1 sv.ownBlock) : Dm W w1 s ko (l ++ [wr.heap.size]) True wr.heap.size kv v1 := by
  refine ⟨own_keep ((h.ks.alloc _).alloc _) ((h.ss.alloc _).alloc _) hgr (by decide), ?_, fun _ => ⟨obj_keep (alloc_heap (heap_alloc_new wr _)) ((h.ss.alloc _).alloc _) hgr (by decide), h.b.size⟩, (((h.b.alloc h.b.size _)).alloc (Nat.le_trans h.b.size (by simp)) _).grown hgr (Nat.le_trans h.b.size (by simp; omega)) (fun b hb => (h.ss.lt b hb).1)⟩
  rw [slV_snoc, List.length_append]
  exact hown
end
theorem two_new (w : World) (x y : Int) : ∀ (j : Nat) (u : Value), [Value.int .i64 x, Value.int .i64 y][j]? = some u → (w.alloc (.cells #[.int .i64 x, .int .i64 y] 34)).cell? ((⟨w.heap.size, 0, none⟩ : Addr).add j) = some u := by
  intro j u hu
  have hn : (w.alloc (.cells #[.int .i64 x, .int .i64 y] 34)).heap[w.heap.size]? = some (.cells #[.int .i64 x, .int .i64 y] 34 (0, 0)) := heap_alloc_new w _
  rw [add_lit, Nat.zero_add]
  unfold World.cell?
  simp only [hn]
  simpa using hu
theorem two_one (x y : Int) : ∀ u ∈ [Value.int .i64 x, Value.int .i64 y], u.oneCell' = true := by
  intro u hu
  simp at hu
  rcases hu with rfl | rfl <;> rfl
theorem one_two (w : World) (a : Array Value) (v : Value) : ∀ (j : Nat) (u : Value), [v][j]? = some u → ((w.alloc (.cells a 5)).alloc (.cells #[v] 32)).cell? ((⟨w.heap.size + 1, 0, none⟩ : Addr).add j) = some u := by
  intro j u hu
  have h := cell_one_new (w.alloc (.cells a 5)) v 32 j u hu
  rwa [show (w.alloc (.cells a 5)).heap.size = w.heap.size + 1 by simp] at h
theorem own_block {w : World} {base e size n : Nat} {v : Value} {xs : List Value} (h : w.ownsRow base e size v n xs) : ∀ b, some b = v.ownBlock → base ≤ b ∧ ∃ c, w.heap[b]? = some (.cells c e (0, 0)) := by
  intro b hb
  rcases h.2 with ⟨rfl, -⟩ | ⟨g, cap, cur, rfl, hg, hh, -⟩
  · cases hb
  · injection hb with hb
    subst hb
    exact ⟨hg, cur, hh⟩
section
variable {H R B cap s n L : Nat} {kv : Value} {gs : Nat → Nat} {os : List Ob} {zs : List Int}
/-- An object is dropped. -/
theorem Lf.dropped {W wr : World} {k Z : Nat} {kv2 sv2 : Value} (h : Lf W H R B cap s n L kv gs os zs) (hd : Dim s n L) (hk : k < os.length) (hdm : Dm W wr s (os.eraseIdx k) (slF gs k os.length Z n) True Z kv2 sv2) :
    ∃ B2 cap2, sv2 = .slice (some ⟨B2, 0, none⟩) n cap2 ∧ W.heap.size ≤ B2 ∧ W.heap.size ≤ Z ∧ (∀ b, some b = kv2.ownBlock → W.heap.size ≤ b) ∧ Lf ((wr.setCell ⟨H, 0, none⟩ kv2).setCell ⟨R, 1, none⟩ (.slice (some ⟨B2, 0, none⟩) n cap2)) H R B2 cap2 s n L kv2 (gsD gs k os.length Z) (os.eraseIdx k) (dropS zs s k os.length) := by
  have hle := h.le
  obtain ⟨m, hm⟩ : ∃ m, os.length = m := ⟨_, rfl⟩
  have hel : (os.eraseIdx k).length ≤ n := by rw [List.length_eraseIdx]; split <;> omega
  rw [hm] at hk hle hdm ⊢
  obtain ⟨hsl, hsg⟩ := slF_spec (gs := gs) (Z := Z) hk hle
  obtain ⟨hzr, hzl⟩ := hdm.z trivial
  have hlt := h.lt hd
  have hn0 := hd.n0
  have hss := hdm.ss
  rw [hsl] at hss
  obtain ⟨B2, cap2, rfl⟩ : ∃ B2 cap2, sv2 = .slice (some ⟨B2, 0, none⟩) n cap2 := by
    rcases hss.2 with ⟨_, h0⟩ | ⟨g, cap2, cur, hv, -⟩
    · omega
    · exact ⟨g, cap2, hv⟩
  obtain ⟨hB2, cB2, hB2h⟩ := own_block hss B2 rfl
  have hkb := own_block hdm.ks
  refine ⟨B2, cap2, rfl, hB2, hzl, fun b hb => (hkb b hb).1, ?_⟩
  have hL := h.stay hd hdm.b
  have hHl := hlt H (.inl rfl)
  have hRl := hlt R (.inr (.inl rfl))
  have hgl : ∀ j, j < n → gs j < W.heap.size := fun j hj => hlt (gs j) (.inr (.inr (.inr (.inr ⟨j, hj, rfl⟩))))
  have eb : ∀ b, b ≠ H → b ≠ R → ((wr.setCell ⟨H, 0, none⟩ kv2).setCell ⟨R, 1, none⟩ (.slice (some ⟨B2, 0, none⟩) n cap2)).heap[b]? = wr.heap[b]? := fun b h1 h2 => (Below.heap_setCell _ _ _ _ h2).trans (Below.heap_setCell _ _ _ _ h1)
  have hgs : ∀ j, j < n → gsD gs k m Z j = Z ∨ ∃ i, i < n ∧ gsD gs k m Z j = gs i ∧ i = (if j < k then j else if j + 1 < m then j + 1 else j) ∧ ¬ (k ≤ j ∧ j + 1 = m) := by
    intro j hj
    unfold gsD
    by_cases a1 : j < k
    · rw [if_pos a1]; exact .inr ⟨j, hj, rfl, by rw [if_pos a1], by omega⟩
    · rw [if_neg a1]
      by_cases a2 : j + 1 < m
      · rw [if_pos a2]; exact .inr ⟨j + 1, by omega, rfl, by rw [if_neg a1, if_pos a2], by omega⟩
      · rw [if_neg a2]
        by_cases a3 : j + 1 = m
        · rw [if_pos a3]; exact .inl rfl
        · rw [if_neg a3]; exact .inr ⟨j, hj, rfl, by rw [if_neg a1, if_neg a2], by omega⟩
  have hgZ : ∀ j, j < n → gsD gs k m Z j = Z → k ≤ j ∧ j + 1 = m := by
    intro j hj e
    rcases hgs j hj with h1 | ⟨i, hi, h1, -, -⟩
    · unfold gsD at h1
      by_cases a1 : j < k
      · rw [if_pos a1] at h1; have := hgl j hj; omega
      · rw [if_neg a1] at h1
        by_cases a2 : j + 1 < m
        · rw [if_pos a2] at h1; have := hgl (j + 1) (by omega); omega
        · rw [if_neg a2] at h1
          by_cases a3 : j + 1 = m
          · exact ⟨by omega, a3⟩
          · rw [if_neg a3] at h1; have := hgl j hj; omega
    · have := hgl i hi; omega
  have hgH : ∀ j, j < n → gsD gs k m Z j ≠ H ∧ gsD gs k m Z j ≠ R ∧ gsD gs k m Z j ≠ B2 ∧ some (gsD gs k m Z j) ≠ kv2.ownBlock := by
    intro j hj
    rcases hgs j hj with h1 | ⟨i, hi, h1, -, -⟩
    · rw [h1]
      refine ⟨by omega, by omega, fun e => ?_, fun e => ?_⟩
      · rw [e, hB2h] at hzr
        injection hzr with hzr
        injection hzr with _ h9 _
        cases h9
      · obtain ⟨-, c9, h9⟩ := hkb _ e
        rw [h9] at hzr
        injection hzr with hzr
        injection hzr with _ h9 _
        cases h9
    · rw [h1]
      have := hgl i hi
      refine ⟨h.Hg i hi, h.rf.neR i hi, by omega, fun e => ?_⟩
      have := (hkb _ e).1
      omega
  have hHk : some H ≠ kv2.ownBlock := fun e => by have := (hkb _ e).1; omega
  have hRk : some R ≠ kv2.ownBlock := fun e => by have := (hkb _ e).1; omega
  have hBk : some B2 ≠ kv2.ownBlock := fun e => by
    obtain ⟨-, c9, h9⟩ := hkb _ e
    rw [h9] at hB2h
    injection hB2h with h8
    injection h8 with _ h9 _
    cases h9
  have eB2 := eb B2 (by omega) (by omega)
  have eg := fun j (hj : j < n) => eb (gsD gs k m Z j) (hgH j hj).1 (hgH j hj).2.1
  have cR : ∀ o, o ≠ 1 → ((wr.setCell ⟨H, 0, none⟩ kv2).setCell ⟨R, 1, none⟩ (.slice (some ⟨B2, 0, none⟩) n cap2)).cell? ⟨R, o, none⟩ = wr.cell? ⟨R, o, none⟩ := fun o ho => by
    rw [World.cell?_setCell_other _ _ _ _ (by intro e; injection e with _ e _; exact ho e.symm), World.cell?_setCell_other _ _ _ _ (by intro e; injection e with e _ _; exact h.HR e)]
  have cH : ∀ o, ((wr.setCell ⟨H, 0, none⟩ kv2).setCell ⟨R, 1, none⟩ (.slice (some ⟨B2, 0, none⟩) n cap2)).cell? ⟨H, o, none⟩ = (wr.setCell ⟨H, 0, none⟩ kv2).cell? ⟨H, o, none⟩ := fun o => World.cell?_setCell_other _ _ _ _ (by intro e; injection e with e _ _; exact h.HR e.symm)
  refine ⟨(cH 0).trans (World.cell?_setCell_same _ _ _ hL.h0), ?_, fun j => ?_, ObSl.kept (w := wr) ⟨hdm.ks.1, ?_⟩ (fun b hb => eb b (fun e => hHk (by rw [← e]; exact hb)) (fun e => hRk (by rw [← e]; exact hb))), hHk, hRk, hBk, fun j hj => (hgH j hj).2.2.2, ?_,
    ⟨(cR 0 (by omega)).trans hL.rf.r0, ?_, fun j hj => ?_, fun i j hi hj => ?_, fun i j hi => ?_, by rw [dropS_length]; exact h.rf.len, fun i j hi hj e => ?_, fun j hj => (hgH j hj).2.1, fun j hj => (hgH j hj).2.2.1⟩, h.HR, by omega, fun j hj => (hgH j hj).1, by omega, fun j => ?_, fun j => ?_⟩
  · rw [cH 1, World.cell?_setCell_other _ _ _ _ (by intro e; injection e with _ e _; cases e)]
    exact hL.h1
  · rw [World.frozen?_setCell, World.frozen?_setCell]; exact hL.fH j
  · rcases hdm.ks.2 with h2 | ⟨g, cap, cur, hv, hg, r⟩
    · exact .inl h2
    · exact .inr ⟨g, cap, cur, hv, Nat.zero_le _, r⟩
  · exact hel
  · exact World.cell?_setCell_same _ _ _ (by rw [World.cell?_setCell_other _ _ _ _ (by intro e; injection e with e _ _; exact h.HR e)]; exact hL.rf.r1)
  · have h5 := hss.cells (g := B2) rfl j _ (slV_get (s := s) (by rw [hsl]; exact hj))
    rw [add_lit, Nat.zero_add, hsg j hj] at h5
    exact (World.cell?_of_block (w := wr) (a := ⟨B2, j, none⟩) eB2).trans h5
  · rw [World.cell?_of_block (w := wr) (a := ⟨gsD gs k m Z i, j, none⟩) (eg i hi), dropS_get hd h.rf.len hi hj]
    unfold gsD
    by_cases a1 : i < k
    · rw [if_pos a1, if_pos a1]; exact hL.rf.row i j hi hj
    · rw [if_neg a1, if_neg a1]
      by_cases a2 : i + 1 < m
      · rw [if_pos a2, if_pos a2]; exact hL.rf.row (i + 1) j (by omega) hj
      · rw [if_neg a2, if_neg a2]
        by_cases a3 : i + 1 = m
        · rw [if_pos a3, if_pos a3]
          unfold World.cell?
          simp only [hzr]
          simp [u8s, zeros, hj]
        · rw [if_neg a3, if_neg a3]; exact hL.rf.row i j hi hj
  · rw [World.frozen?_of_block (w := wr) (a := ⟨gsD gs k m Z i, j, none⟩) (eg i hi)]
    rcases hgs i hi with h1 | ⟨i', hi', h1, -, -⟩
    · rw [h1]
      unfold World.frozen?
      simp only [hzr]
      simp
    · rw [h1]; exact hL.rf.free i' j hi'
  · rcases hgs i hi with h1 | ⟨i', hi', h1, h2, h3⟩
    · rcases hgs j hj with h4 | ⟨j', hj', h4, h5, h6⟩
      · have := (hgZ i hi h1).2
        have := (hgZ j hj h4).2
        omega
      · have := hgl j' hj'; omega
    · rcases hgs j hj with h4 | ⟨j', hj', h4, h5, h6⟩
      · have := hgl i' hi'; omega
      · have h7 : i' = j' := h.rf.inj _ _ hi' hj' (by rw [← h1, ← h4]; exact e)
        rw [h2, h5] at h7
        by_cases a1 : i < k
        · rw [if_pos a1] at h7
          by_cases b1 : j < k
          · rw [if_pos b1] at h7; exact h7
          · rw [if_neg b1] at h7
            by_cases b2 : j + 1 < m
            · rw [if_pos b2] at h7; omega
            · rw [if_neg b2] at h7; omega
        · rw [if_neg a1] at h7
          by_cases a2 : i + 1 < m
          · rw [if_pos a2] at h7
            by_cases b1 : j < k
            · rw [if_pos b1] at h7; omega
            · rw [if_neg b1] at h7
              by_cases b2 : j + 1 < m
              · rw [if_pos b2] at h7; omega
              · rw [if_neg b2] at h7; omega
          · rw [if_neg a2] at h7
            by_cases b1 : j < k
            · rw [if_pos b1] at h7; omega
            · rw [if_neg b1] at h7
              by_cases b2 : j + 1 < m
              · rw [if_pos b2] at h7; omega
              · rw [if_neg b2] at h7; exact h7
  · rw [World.frozen?_setCell, World.frozen?_setCell]; exact hL.fR j
  · rw [World.frozen?_setCell, World.frozen?_setCell]
    unfold World.frozen?
    simp only [hB2h]
    simp
end
theorem own_sl {w : World} {base e size n : Nat} {v : Value} {xs : List Value} (h : w.ownsRow base e size v n xs) : ∃ a c, v = .slice a n c := by
  rcases h.2 with ⟨rfl, h0⟩ | ⟨g, cap, cur, rfl, -⟩
  · exact ⟨none, 0, by rw [h0]⟩
  · exact ⟨_, cap, rfl⟩
theorem Lf.two {w : World} {H R B cap s n L : Nat} {kv : Value} {gs : Nat → Nat} {os : List Ob} {zs : List Int} (h : Lf w H R B cap s n L kv gs os zs) (v : Value) : (w.setCell ⟨H, 0, none⟩ v).cell? ⟨H, 1, none⟩ = some (.pointer (some ⟨R, 0, none⟩)) ∧ (w.setCell ⟨H, 0, none⟩ v).cell? ⟨R, 1, none⟩ = some (.slice (some ⟨B, 0, none⟩) n cap) ∧ (w.setCell ⟨H, 0, none⟩ v).frozen? ⟨R, 1, none⟩ = false := by
  refine ⟨?_, ?_, ?_⟩
  · rw [World.cell?_setCell_other _ _ _ _ (by intro e; injection e with _ e _; cases e)]; exact h.h1
  · rw [World.cell?_setCell_other _ _ _ _ (by intro e; injection e with e _ _; exact h.HR e)]; exact h.rf.r1
  · rw [World.frozen?_setCell]; exact h.fR 1
/-- How the loop stands behind i rounds. -/
def Di (W wr : World) (s k m : Nat) (gs : Nat → Nat) (os : List Ob) (i : Nat) (kv sv : Value) : Prop := ∃ Z, Dm W wr s (osD os k i) (slD gs k m Z i) (m < i) Z kv sv
theorem sl_len (gs : Nat → Nat) (k m Z : Nat) : ∀ i, (slD gs k m Z i).length ≤ 2 * i
  | 0 => Nat.le_refl _
  | i + 1 => by
    have := sl_len gs k m Z i
    show (slD gs k m Z i ++ _ ++ _).length ≤ _
    rw [List.length_append, List.length_append]
    split <;> split <;> simp <;> omega
section
variable {H R B cap s n L : Nat} {kv : Value} {gs : Nat → Nat} {os : List Ob} {zs : List Int}
set_option maxHeartbeats 4000000 in
set_option maxRecDepth 100000 in
theorem lo_drop_had {w : World} {x y : Int} {k : Nat} {S : Nat → Prop} (h : Lf w H R B cap s n L kv gs os zs) (hd : Dim s n L) (hS : ∀ b, S b ↔ LoS H R B n kv gs b) (hf : findO os (x, y) = some k) :
    Calls Try.prog 58 #[.pointer (some ⟨H, 0, none⟩), .agg #[.int .i64 x, .int .i64 y]] w (DropO (PD s n L) S H (0, os.eraseIdx k, dropS zs s k os.length) w) := by
  obtain ⟨a, c, rfl, hrow⟩ := h.ks.shape
  have h1 := Lib.hid (h.stay hd (box_below w (.cells #[.int .i64 x, .int .i64 y] 34)))
  have HB := Lib.hid (box_below w (.cells #[.int .i64 x, .int .i64 y] 34))
  have hn1 := hd.n1
  have hs1 := hd.s1
  have HF := Lib.hid (findV_some hf)
  have HD := Lib.hid hd
  have hkl := (findO_some hf).1
  have hle := h.le
  obtain ⟨m, hm⟩ : ∃ m, os.length = m := ⟨_, rfl⟩
  have HM := Lib.hid hm
  have HSS := Lib.hid hS
  have HLT := Lib.hid (h.lt hd)
  have HROW := Lib.hid hrow
  have hmk := make_any s (by omega)
  obtain ⟨i0, hi0, hz0, hz1, hz2⟩ := info_parts key_info
  obtain ⟨j0, hj0, hy0, hy1, hy2⟩ := info_parts sl_info
  have HI := Lib.hid (And.intro hi0 (And.intro hz0 (And.intro hz1 hz2)))
  have HJ := Lib.hid (And.intro hj0 (And.intro hy0 (And.intro hy1 hy2)))
  have hk0 : ((k : Int) < 0) = False := by simp
  rw [hm] at h1 hkl hle ⊢
  clear h hf hd hm hS hrow hi0 hz0 hz1 hz2 hj0 hy0 hy1 hy2
  unfold DropO
  go_enter Try.func58, Try.ntmps58
  go_wp2_with (go_at_call 79; refine (lo_find h1.out (by omega) x y).mono ?_; rintro e w1 ⟨he, hb1⟩; rw [HF.out] at he; subst he; have HB1 := Lib.hid hb1; have H1 := Lib.hid (h1.out.stay HD.out hb1); have c0 := H1.out.h0; have c1 := H1.out.h1; have r1 := H1.out.rf.r1; clear hb1)
  have hst : Di w1 w1 s k m gs os 0 (.slice none 0 0) (.slice none 0 0) := ⟨0, World.ownsRow_nil _ _ _ _, World.ownsRow_nil _ _ _ _, fun h => by omega, Below.refl _ _⟩
  have HST := Lib.hid hst
  clear hst c0 c1 r1
  go_loopw [7, 8, 9] (fun kv sv v wr => ∃ i : Nat, i ≤ n ∧ v = .int .i64 i ∧ Di w1 wr s k m gs os i kv sv) (fun _ _ v _ => 17 - (intOf v).toNat)
  case atStart => exact ⟨0, by omega, rfl, HST.out⟩
  case round =>
    obtain ⟨i, hi, rfl, Z, hdm⟩ := hrel
    clear HST
    have HDM := Lib.hid hdm
    have HL := Lib.hid (H1.out.stay HD.out (by exact hdm.b))
    have hol := osD_len os k i
    have hsl := sl_len gs k m Z i
    have c0 := HL.out.h0
    have c1 := HL.out.h1
    have r0 := HL.out.rf.r0
    have r1 := HL.out.rf.r1
    clear hdm
    by_cases hlt : i < n
    · have rb := HL.out.rf.rows i hlt
      by_cases hik : i = k
      · subst hik
        have e1 : osD os i (i + 1) = osD os i i := osD_no (by omega)
        have e2 : slD gs i m Z (i + 1) = slD gs i m Z i := slD_k (by omega)
        have him : ((i : Int) == (m : Int)) = false := by simp; omega
        go_wp2
        go_roundw
        case rel => exact ⟨i + 1, by omega, by go_num, Z, by rw [e1, e2]; exact ⟨HDM.out.ks, HDM.out.ss, fun h => by omega, HDM.out.b⟩⟩
        case measure => simp [intOf]; omega
      · have hikb : ((i : Int) == (k : Int)) = false := by simp; omega
        obtain ⟨g, hg⟩ : ∃ g, gs i = g := ⟨_, rfl⟩
        rw [hg] at rb
        have HG := Lib.hid hg
        clear hg
        by_cases him : i < m
        · obtain ⟨gk, rfl, hgk, hobs⟩ := HROW.out (by have := HM.out; omega)
          obtain ⟨d1, d2⟩ := hobs i (by have := HM.out; omega)
          have hbw : Below w.heap.size w wr := (HB.out.trans (HB1.out.mono HB.out.size)).trans (HDM.out.b.mono (HB.out.trans (HB1.out.mono HB.out.size)).size)
          have d1 := (hbw.cell (p := ⟨gk, i * 2, none⟩) hgk).trans d1
          have d2 := (hbw.cell (p := ⟨gk, i * 2 + 1, none⟩) hgk).trans d2
          obtain ⟨o, ho⟩ : ∃ o, os.getD i (0, 0) = o := ⟨_, rfl⟩
          obtain ⟨p, q⟩ := o
          rw [ho] at d1 d2
          have himb : ((i : Int) == (m : Int)) = false := by simp; omega
          have e1 : osD os k (i + 1) = osD os k i ++ [(p, q)] := by rw [osD_yes (by have := HM.out; omega) hik, ho]
          have e2 : slD gs k m Z (i + 1) = slD gs k m Z i ++ [g] := by rw [slD_at (by omega) hik, HG.out]
          have HE1 := Lib.hid e1
          have HE2 := Lib.hid e2
          clear hobs hbw ho e1 e2
          go_wp2_with (first
            | (at_builtin; refine wpList_append_own_at _ rfl _ _ 83 rfl w1.heap.size 34 i0 _ 2 16 Try.underlying83 HI.out.1 HI.out.2.1 HI.out.2.2.1 HI.out.2.2.2 rfl (by omega) _ _ _ rfl (HDM.out.ks.alloc _) ⟨wr.heap.size, 0, none⟩ 1 1 [.int .i64 p, .int .i64 q] rfl rfl (two_new _ _ _) (two_one _ _) (by unfold maxLen; omega) (by omega) (Nat.le_trans HDM.out.b.size (by simp)) ?_; intro v1 w2 hown hgr _ _; have HD1 := Lib.hid (HDM.out.key p q hown hgr); have HL1 := Lib.hid (H1.out.stay HD.out HD1.out.b); have c0 := HL1.out.h0; have c1 := HL1.out.h1; have r0 := HL1.out.rf.r0; have r1 := HL1.out.rf.r1; have rb := HL1.out.rf.rows i hlt; rw [HG.out] at rb; clear hown hgr)
            | (at_builtin; refine wpList_append_own_at _ rfl _ _ 86 rfl w1.heap.size 32 j0 _ 1 24 Try.underlying86 HJ.out.1 HJ.out.2.1 HJ.out.2.2.1 HJ.out.2.2.2 rfl (by omega) _ _ _ rfl (HD1.out.ss.alloc _) ⟨w2.heap.size, 0, none⟩ 1 1 [.slice (some ⟨g, 0, none⟩) s s] rfl rfl (cell_one_new _ _ _) (fun u hu => by simp at hu; subst hu; rfl) (by unfold maxLen; omega) (by omega) (Nat.le_trans HD1.out.b.size (by simp)) ?_; intro v9 w9 hown hgr _ _; have HD9 := Lib.hid (HD1.out.slot g hown hgr); clear hown hgr))
          go_roundw
          case rel => exact ⟨i + 1, by omega, by go_num, Z, by rw [HE1.out, HE2.out]; exact ⟨HD9.out.ks, HD9.out.ss, fun h => by omega, HD9.out.b⟩⟩
          case measure => simp [intOf]; omega
        · by_cases hem : i = m
          · subst hem
            have e1 : osD os k (i + 1) = osD os k i := osD_no (by have := HM.out; omega)
            have e2 : slD gs k i wr.heap.size (i + 1) = (slD gs k i Z i ++ [wr.heap.size]) ++ [g] := by rw [slD_m hik, HG.out, slD_indep (Z' := Z) i (Nat.le_refl _)]
            have HE1 := Lib.hid e1
            have HE2 := Lib.hid e2
            have HZZ := Lib.hid trivial
            clear e1 e2
            go_wp2_with (first
              | (at_builtin; have hzz := HZZ.out; refine wpList_append_own_at _ rfl _ _ 86 rfl w1.heap.size 32 j0 _ 1 24 Try.underlying86 HJ.out.1 HJ.out.2.1 HJ.out.2.2.1 HJ.out.2.2.2 rfl (by omega) _ _ _ rfl ((HDM.out.ss.alloc _).alloc _) ⟨wr.heap.size + 1, 0, none⟩ 1 1 [.slice (some ⟨wr.heap.size, 0, none⟩) s s] rfl rfl (one_two _ _ _) (fun u hu => by simp at hu; subst hu; rfl) (by unfold maxLen; omega) (by omega) (Nat.le_trans HDM.out.b.size (by simp; omega)) ?_; intro v1 w2 hown hgr _ _; have HD1 := Lib.hid (HDM.out.zero hown hgr); have HL1 := Lib.hid (H1.out.stay HD.out HD1.out.b); have c0 := HL1.out.h0; have c1 := HL1.out.h1; have r0 := HL1.out.rf.r0; have r1 := HL1.out.rf.r1; have rb := HL1.out.rf.rows i hlt; rw [HG.out] at rb; have hsl2 : (slD gs k i Z i ++ [wr.heap.size]).length ≤ 40 := (by rw [List.length_append, List.length_singleton]; omega); clear hown hgr HZZ hzz)
              | (at_builtin; refine wpList_append_own_at _ rfl _ _ 86 rfl w1.heap.size 32 j0 _ 1 24 Try.underlying86 HJ.out.1 HJ.out.2.1 HJ.out.2.2.1 HJ.out.2.2.2 rfl (by omega) _ _ _ rfl (HD1.out.ss.alloc _) ⟨w2.heap.size, 0, none⟩ 1 1 [.slice (some ⟨g, 0, none⟩) s s] rfl rfl (cell_one_new _ _ _) (fun u hu => by simp at hu; subst hu; rfl) (by unfold maxLen; omega) (by omega) (Nat.le_trans HD1.out.b.size (by simp)) ?_; intro v9 w9 hown hgr _ _; have HD9 := Lib.hid (HD1.out.slot g hown hgr); clear hown hgr))
            go_roundw
            case rel => exact ⟨i + 1, by omega, by go_num, wr.heap.size, by rw [HE1.out, HE2.out]; exact ⟨HD9.out.ks, HD9.out.ss, fun _ => HD9.out.z trivial, HD9.out.b⟩⟩
            case measure => simp [intOf]; omega
          · have hemb : ((i : Int) == (m : Int)) = false := by simp; omega
            have e1 : osD os k (i + 1) = osD os k i := osD_no (by have := HM.out; omega)
            have e2 : slD gs k m Z (i + 1) = slD gs k m Z i ++ [g] := by rw [slD_at hem hik, HG.out]
            have HE1 := Lib.hid e1
            have HE2 := Lib.hid e2
            clear e1 e2
            go_wp2_with (at_builtin; refine wpList_append_own_at _ rfl _ _ 86 rfl w1.heap.size 32 j0 _ 1 24 Try.underlying86 HJ.out.1 HJ.out.2.1 HJ.out.2.2.1 HJ.out.2.2.2 rfl (by omega) _ _ _ rfl (HDM.out.ss.alloc _) ⟨wr.heap.size, 0, none⟩ 1 1 [.slice (some ⟨g, 0, none⟩) s s] rfl rfl (cell_one_new _ _ _) (fun u hu => by simp at hu; subst hu; rfl) (by unfold maxLen; omega) (by omega) (Nat.le_trans HDM.out.b.size (by simp)) ?_; intro v9 w9 hown hgr _ _; have HD9 := Lib.hid (HDM.out.slot g hown hgr); clear hown hgr)
            go_roundw
            case rel => exact ⟨i + 1, by omega, by go_num, Z, by rw [HE1.out, HE2.out]; exact ⟨HD9.out.ks, HD9.out.ss, fun _ => HD9.out.z (by omega), HD9.out.b⟩⟩
            case measure => simp [intOf]; omega
    · obtain rfl : i = n := by omega
      obtain ⟨ka, kc, rfl⟩ := own_sl HDM.out.ks
      have hkl2 : k < os.length := by have := HM.out; omega
      have HKL := Lib.hid hkl2
      by_cases hmi : m = i
      · have hmb : ((m : Int) == (i : Int)) = true := by simp; omega
        have hmk2 : ∀ (W : World) (v : Value), Dm w1 W s (osD os k i) (slD gs k m Z i ++ [wr.heap.size]) True wr.heap.size (.slice ka (osD os k i).length kc) v → Dm w1 W s (os.eraseIdx k) (slF gs k os.length wr.heap.size i) True wr.heap.size (.slice ka (osD os k i).length kc) v := by
          intro W v h
          rw [osD_all hkl2 (by have := HM.out; omega)] at h ⊢
          unfold slF
          rw [HM.out, if_pos hmi, slD_indep (Z' := Z) i (by omega)]
          exact h
        have HMK := Lib.hid hmk2
        subst hmi
        clear hmk2
        go_wp2_with (at_builtin; refine wpList_append_own_at _ rfl _ _ 86 rfl w1.heap.size 32 j0 _ 1 24 Try.underlying86 HJ.out.1 HJ.out.2.1 HJ.out.2.2.1 HJ.out.2.2.2 rfl (by omega) _ _ _ rfl ((HDM.out.ss.alloc _).alloc _) ⟨wr.heap.size + 1, 0, none⟩ 1 1 [.slice (some ⟨wr.heap.size, 0, none⟩) s s] rfl rfl (one_two _ _ _) (fun u hu => by simp at hu; subst hu; rfl) (by unfold maxLen; omega) (by omega) (Nat.le_trans HDM.out.b.size (by simp; omega)) ?_; intro v1 w2 hown hgr _ _; have hd1 := HDM.out.zero hown hgr; have HL1 := Lib.hid (H1.out.stay HD.out hd1.b); have hd2 : Dm w1 w2 s (os.eraseIdx k) (slF gs k os.length wr.heap.size m) True wr.heap.size _ v1 := HMK.out _ _ hd1; have hb9 := hd1.b; obtain ⟨B2, cap2, rfl, hB2, hZl, hkb, hfin⟩ := H1.out.dropped HD.out HKL.out hd2; have HX := Lib.hid (And.intro hfin (And.intro hB2 (And.intro hZl (And.intro hkb hb9)))); have g0 := HL1.out.h0; have gf := HL1.out.fH 0; obtain ⟨g1, g2, g3⟩ := HL1.out.two (.slice ka (osD os k m).length kc); clear hown hgr hd1 hd2 hfin hB2 hZl hkb hb9)
        go_ret
        obtain ⟨hfin, hB2, hZl, hkb, hb9⟩ := HX.out
        rw [HM.out] at hfin
        have hbw := (HB.out.trans (HB1.out.mono HB.out.size))
        refine ⟨LoS H R B2 m (.slice ka (osD os k m).length kc) (gsD gs k m wr.heap.size), rfl, ⟨R, B2, cap2, _, _, hfin, fun b => Iff.rfl⟩, ?_, ?_⟩
        · exact ((Turned.of (hbw.trans (hb9.mono hbw.size))).setN (a := ⟨H, 0, none⟩) (.inl ((HSS.out H).2 (.inl rfl))) _).setN (a := ⟨R, 1, none⟩) (.inl ((HSS.out R).2 (.inr (.inl rfl)))) _
        · have hws := hbw.size
          rintro b (h1 | h1 | h1 | h1 | ⟨j, hj, h1⟩)
          · exact .inl ((HSS.out b).2 (.inl h1))
          · exact .inl ((HSS.out b).2 (.inr (.inl h1)))
          · exact .inr (by omega)
          · exact .inr (Nat.le_trans hws (hkb b h1))
          · unfold gsD at h1
            by_cases a1 : j < k
            · rw [if_pos a1] at h1; exact .inl ((HSS.out b).2 (.inr (.inr (.inr (.inr ⟨j, hj, h1⟩)))))
            · rw [if_neg a1] at h1
              by_cases a2 : j + 1 < m
              · rw [if_pos a2] at h1; exact .inl ((HSS.out b).2 (.inr (.inr (.inr (.inr ⟨j + 1, by omega, h1⟩)))))
              · rw [if_neg a2] at h1
                by_cases a3 : j + 1 = m
                · rw [if_pos a3] at h1; exact .inr (by omega)
                · rw [if_neg a3] at h1; exact .inl ((HSS.out b).2 (.inr (.inr (.inr (.inr ⟨j, hj, h1⟩)))))
      · have hmb : ((m : Int) == (i : Int)) = false := by simp; omega
        have hkey : ∀ v : Value, Dm w1 wr s (osD os k i) (slD gs k m Z i) (m < i) Z (.slice ka (osD os k i).length kc) v → Dm w1 wr s (os.eraseIdx k) (slF gs k os.length Z i) True Z (.slice ka (osD os k i).length kc) v := by
          intro v h
          rw [osD_all hkl2 (by have := HM.out; omega)] at h ⊢
          unfold slF
          rw [HM.out, if_neg hmi, List.append_nil]
          exact ⟨h.ks, h.ss, fun _ => h.z (by omega), h.b⟩
        have hd2 := hkey _ HDM.out
        have hb9 := HDM.out.b
        obtain ⟨B2, cap2, rfl, hB2, hZl, hkb, hfin⟩ := H1.out.dropped HD.out hkl2 hd2
        have HX := Lib.hid (And.intro hfin (And.intro hB2 (And.intro hZl (And.intro hkb hb9))))
        obtain ⟨g1, g2, g3⟩ := HL.out.two (.slice ka (osD os k i).length kc)
        have gf := HL.out.fH 0
        clear hd2 hfin hB2 hZl hkb hb9 hkey
        go_wp2
        go_ret
        obtain ⟨hfin, hB2, hZl, hkb, hb9⟩ := HX.out
        rw [HM.out] at hfin
        have hbw := (HB.out.trans (HB1.out.mono HB.out.size))
        refine ⟨LoS H R B2 i (.slice ka (osD os k i).length kc) (gsD gs k m Z), rfl, ⟨R, B2, cap2, _, _, hfin, fun b => Iff.rfl⟩, ?_, ?_⟩
        · exact ((Turned.of (hbw.trans (hb9.mono hbw.size))).setN (a := ⟨H, 0, none⟩) (.inl ((HSS.out H).2 (.inl rfl))) _).setN (a := ⟨R, 1, none⟩) (.inl ((HSS.out R).2 (.inr (.inl rfl)))) _
        · have hws := hbw.size
          rintro b (h1 | h1 | h1 | h1 | ⟨j, hj, h1⟩)
          · exact .inl ((HSS.out b).2 (.inl h1))
          · exact .inl ((HSS.out b).2 (.inr (.inl h1)))
          · exact .inr (by omega)
          · exact .inr (Nat.le_trans hws (hkb b h1))
          · unfold gsD at h1
            by_cases a1 : j < k
            · rw [if_pos a1] at h1; exact .inl ((HSS.out b).2 (.inr (.inr (.inr (.inr ⟨j, hj, h1⟩)))))
            · rw [if_neg a1] at h1
              by_cases a2 : j + 1 < m
              · rw [if_pos a2] at h1; exact .inl ((HSS.out b).2 (.inr (.inr (.inr (.inr ⟨j + 1, by omega, h1⟩)))))
              · rw [if_neg a2] at h1
                by_cases a3 : j + 1 = m
                · rw [if_pos a3] at h1; exact .inr (by omega)
                · rw [if_neg a3] at h1; exact .inl ((HSS.out b).2 (.inr (.inr (.inr (.inr ⟨j, hj, h1⟩)))))
end
end Go.Proofs.Ytenjdgoammaiiaa

/-
  Proved here: New, Drop in one, Write and Keyed of the document's storages. Conditions: as each says.
-/
namespace Go.Proofs.Ytenjdgoammaiiaa
open Go.RowKit
set_option maxRecDepth 100000

section
variable {H R B cap s n L : Nat} {kv : Value} {gs : Nat → Nat} {os : List Ob} {zs : List Int}
theorem lo_drop_not {w : World} {x y : Int} (h : Lf w H R B cap s n L kv gs os zs) (hd : Dim s n L) (hf : findO os (x, y) = none) :
    Calls Try.prog 58 #[.pointer (some ⟨H, 0, none⟩), .agg #[.int .i64 x, .int .i64 y]] w (fun e w' => e = .returned (.int .i64 2) ∧ Below w.heap.size w w') := by
  have h1 := Lib.hid (h.stay hd (box_below w (.cells #[.int .i64 x, .int .i64 y] 34)))
  have HB := Lib.hid (box_below w (.cells #[.int .i64 x, .int .i64 y] 34))
  have hn1 := hd.n1
  have HF := Lib.hid (findV_no hf)
  clear h hf
  go_enter Try.func58, Try.ntmps58
  go_wp2_with (go_at_call 79; refine (lo_find h1.out (by omega) x y).mono ?_; rintro e w1 ⟨he, hb1⟩; rw [HF.out] at he; subst he; have HB1 := Lib.hid hb1; clear hb1)
  go_ret
  exact ⟨rfl, HB.out.trans (HB1.out.mono HB.out.size)⟩
theorem lo_drop {w : World} {S : Nat → Prop} {o : Ob} (h : PD s n L w S H os zs) (hd : Dim s n L) :
    Calls Try.prog 58 #[.pointer (some ⟨H, 0, none⟩), obV o] w (DropO (PD s n L) S H (dropR os zs s o) w) := by
  obtain ⟨R, B, cap, kv, gs, h, hS⟩ := h
  obtain ⟨x, y⟩ := o
  unfold dropR
  cases hf : findO os (x, y) with
  | some k => exact lo_drop_had h hd hS hf
  | none => exact (lo_drop_not h hd hf).mono fun e w' ⟨he, hb⟩ => ⟨S, he, ⟨R, B, cap, kv, gs, h.stay hd hb, hS⟩, Turned.of hb, fun _ hb => .inl hb⟩
/-- The bytes behind a write. -/
def putO (zs : List Int) (s n : Nat) (K T C : Int) : List Int := if 0 ≤ K ∧ K < n ∧ 0 ≤ T ∧ T < s then zs.set (K.toNat * s + T.toNat) C else zs
theorem putO_yes {zs : List Int} {s n q t : Nat} {C : Int} (hq : q < n) (ht : t < s) : putO zs s n q t C = zs.set (q * s + t) C := by
  unfold putO
  rw [if_pos (by omega)]
  rfl
theorem putO_no {zs : List Int} {s n : Nat} {K T C : Int} (h : ¬ (0 ≤ K ∧ K < n ∧ 0 ≤ T ∧ T < s)) : putO zs s n K T C = zs := if_neg h
theorem Lf.put {w : World} {k t : Nat} {c : Int} (h : Lf w H R B cap s n L kv gs os zs) (hd : Dim s n L) (hk : k < n) (ht : t < s) : Lf (w.setCell ⟨gs k, t, none⟩ (.int .u8 c)) H R B cap s n L kv gs os (zs.set (k * s + t) c) := by
  have eb : ∀ b, b ≠ gs k → (w.setCell ⟨gs k, t, none⟩ (.int .u8 c)).heap[b]? = w.heap[b]? := fun b hb => Below.heap_setCell w ⟨gs k, t, none⟩ _ b hb
  have eH := eb H (fun e => h.Hg k hk e.symm)
  have eR := eb R (fun e => h.rf.neR k hk e.symm)
  have eB := eb B (fun e => h.rf.neB k hk e.symm)
  exact ⟨(World.cell?_of_block (w := w) (a := ⟨H, 0, none⟩) eH).trans h.h0, (World.cell?_of_block (w := w) (a := ⟨H, 1, none⟩) eH).trans h.h1, fun j => (World.frozen?_of_block (w := w) (a := ⟨H, j, none⟩) eH).trans (h.fH j), h.ks.kept (fun b hb => eb b (fun e => h.kg k hk (by rw [← e]; exact hb))), h.hk, h.kR, h.kB, h.kg, h.le,
    h.rf.put hk ht (hd.at hk), h.HR, h.HB, h.Hg, h.RB, fun j => (World.frozen?_of_block (w := w) (a := ⟨R, j, none⟩) eR).trans (h.fR j), fun j => (World.frozen?_of_block (w := w) (a := ⟨B, j, none⟩) eB).trans (h.fB j)⟩
def WriteP (PS : World → (Nat → Prop) → Nat → List Ob → List Int → Prop) (D : Nat → Prop) (h : Nat) (os : List Ob) (zs : List Int) (W : World) (e : Ending) (w : World) : Prop := e = .returned (.tuple #[]) ∧ PS w D h os zs ∧ Turned D W w
/-- The document's storage, its array known. -/
def PDr (s n L : Nat) (R : Nat) (w : World) (S : Nat → Prop) (H : Nat) (os : List Ob) (zs : List Int) : Prop := ∃ B cap kv gs, Lf w H R B cap s n L kv gs os zs ∧ ∀ b, S b ↔ LoS H R B n kv gs b
theorem PDr.pd {R : Nat} {w : World} {S : Nat → Prop} {H : Nat} {os : List Ob} {zs : List Int} (h : PDr s n L R w S H os zs) : PD s n L w S H os zs := by
  obtain ⟨B, cap, kv, gs, h, hS⟩ := h
  exact ⟨R, B, cap, kv, gs, h, hS⟩
theorem PDr.h1 {R : Nat} {w : World} {S : Nat → Prop} {H : Nat} {os : List Ob} {zs : List Int} (h : PDr s n L R w S H os zs) : w.cell? ⟨H, 1, none⟩ = some (.pointer (some ⟨R, 0, none⟩)) := by
  obtain ⟨B, cap, kv, gs, h, hS⟩ := h
  exact h.h1
theorem PD.pdr {w : World} {S : Nat → Prop} {H : Nat} {os : List Ob} {zs : List Int} (h : PD s n L w S H os zs) : ∃ R, PDr s n L R w S H os zs := by
  obtain ⟨R, B, cap, kv, gs, h, hS⟩ := h
  exact ⟨R, B, cap, kv, gs, h, hS⟩
end
/-! ### New -/
theorem lf_of_new {W w : World} {R s n L : Nat} {v : Value} {gs : Nat → Nat} (h : NewAt W w R s n v gs) (hd : Dim s n L) :
    ∃ B cap, R < B ∧ Lf (w.alloc (.cells #[.slice none 0 0, .pointer (some ⟨R, 0, none⟩)] 85)) w.heap.size R B cap s n L (.slice none 0 0) gs [] (zeros L) := by
  have hn := hd.n0
  have hown := h.own
  obtain ⟨m, rfl⟩ : ∃ m, n = m + 1 := ⟨n - 1, by omega⟩
  obtain ⟨B, cap, rfl⟩ := own_shape h.own
  have hBl := h.own.lt B rfl
  obtain ⟨-, cur, hh⟩ := own_block h.own B rfl
  have hrf : Rf w R B cap s (m + 1) L gs (zeros L) := by
    refine ⟨h.c0, h.c1, fun k hk => ?_, fun k j hk hj => ?_, fun k j hk => ?_, zeros_length L, fun i j hi hj e => ?_, fun k hk => ?_, fun k hk => ?_⟩
    · have := h.own.cells (g := B) rfl k (.slice (some ⟨gs k, 0, none⟩) s s) (by simp [rowsOf, hk])
      rwa [add_lit, Nat.zero_add] at this
    · rw [zeros_get]
      simp [World.cell?, h.rows k hk, u8s, zeros, hj]
    · simp [World.frozen?, h.rows k hk]
    · rcases Nat.lt_trichotomy i j with hl | hl | hl
      · have := h.inc i j hl hj; omega
      · exact hl
      · have := h.inc j i hl hi; omega
    · have := h.lo k hk; omega
    · intro e
      have := h.rows k hk
      rw [e, hh] at this
      injection this with this
      injection this with _ h2 _
      cases h2
  have hb := box_below w (.cells #[.slice none 0 0, .pointer (some ⟨R, 0, none⟩)] 85)
  have hnew : (w.alloc (.cells #[.slice none 0 0, .pointer (some ⟨R, 0, none⟩)] 85)).heap[w.heap.size]? = some (.cells #[.slice none 0 0, .pointer (some ⟨R, 0, none⟩)] 85 (0, 0)) := heap_alloc_new w _
  have hRl := hrf.ltR
  have eR := (hb.block R hRl).trans h.box
  have eB := (hb.block B (by omega)).trans hh
  refine ⟨B, cap, by omega, by simp [go_sem], by simp [go_sem], fun j => ?_, World.ownsRow_nil _ _ _ _, by simp [Value.ownBlock], by simp [Value.ownBlock], by simp [Value.ownBlock], fun k _ => by simp [Value.ownBlock], Nat.zero_le _, hrf.stay hd.s0 hd.n0 hb, by omega, by omega, fun k hk => by have := hrf.ltG hd.s0 hk; omega, by omega, fun j => ?_, fun j => ?_⟩
  · unfold World.frozen?; simp only [hnew]; simp
  · unfold World.frozen?; simp only [eR]; simp
  · unfold World.frozen?; simp only [eB]; simp
def NewO (PS : World → (Nat → Prop) → Nat → List Ob → List Int → Prop) (L : Nat) (W : World) (h : Nat) (w : World) : Prop := ∃ D, PS w D h [] (zeros L) ∧ Below W.heap.size W w ∧ ∀ b, D b → W.heap.size ≤ b
theorem lo_new (s n L : Nat) (w : World) (hd : Dim s n L) : Calls Try.prog 21 #[.int .i64 s, .int .i64 n] w (fun e w' => ∃ H, e = .returned (.pointer (some ⟨H, 0, none⟩)) ∧ NewO (PD s n L) L w H w') := by
  have s1 := hd.s1
  have n1 := hd.n1
  have HD := Lib.hid hd
  clear hd
  unfold NewO
  go_enter Try.func21, Try.ntmps21
  go_wp2_with (go_at_call 19; refine (ref_new _ _ _ s1 n1).mono ?_; rintro e w3 ⟨R, v, gs, rfl, hn3⟩; have HN3 := Lib.hid hn3; clear hn3)
  go_ret
  obtain ⟨B, cap, hRB, hlf⟩ := lf_of_new HN3.out HD.out
  have hn := HN3.out
  have ha := hn.at_
  have hb := hn.below
  have hz := hb.size
  refine ⟨w3.heap.size, rfl, LoS w3.heap.size R B n (.slice none 0 0) gs, ⟨R, B, cap, _, gs, hlf, fun b => Iff.rfl⟩, (hb.mono ha).alloc (by have := hn.ltR; omega) _, ?_⟩
  rintro b (h1 | h1 | h1 | h1 | ⟨i, hi, h1⟩)
  · have := hn.ltR; omega
  · omega
  · omega
  · cases h1
  · have := hn.lo i hi; omega
/-! ### Keyed -/
def keyEq (a b : Ob) : Bool := decide (a = b)
theorem neq_key (a b : Ob) (w : World) : (binOp .neq 34 (.agg #[.int .i64 a.1, .int .i64 a.2]) (.agg #[.int .i64 b.1, .int .i64 b.2])).run Try.prog w = .ok (.bool (!keyEq a b)) w := by
  obtain ⟨p, q⟩ := a
  obtain ⟨x, y⟩ := b
  unfold keyEq
  by_cases h1 : p = x <;> by_cases h2 : q = y <;> simp [go_sem, h1, h2]
/-- A slice of objects to be looked at. -/
def ObsIn (w : World) (a : Option Addr) (os : List Ob) : Prop := 0 < os.length → ∃ g, a = some ⟨g, 0, none⟩ ∧ g < w.heap.size ∧ ObsAt w g os
theorem ObsIn.stay {w w' : World} {a : Option Addr} {os : List Ob} (h : ObsIn w a os) (hb : Below w.heap.size w w') : ObsIn w' a os := fun h0 => by
  obtain ⟨g, e, hg, ho⟩ := h h0
  exact ⟨g, e, Nat.lt_of_lt_of_le hg hb.size, fun i hi => ⟨(hb.cell (p := ⟨g, i * 2, none⟩) hg).trans (ho i hi).1, (hb.cell (p := ⟨g, i * 2 + 1, none⟩) hg).trans (ho i hi).2⟩⟩
attribute [local go_sem ↓] neq_key
end Go.Proofs.Ytenjdgoammaiiaa
