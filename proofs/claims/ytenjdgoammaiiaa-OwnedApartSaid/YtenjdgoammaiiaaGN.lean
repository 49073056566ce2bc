/-
  Proved here: slices.Clone of descriptions; May and New of the program's maps. Conditions: as each lemma says.
-/
import Derived.Test.YtenjdgoammaiiaaHPwN
import Derived.Lib.SliceRun
import Derived.LoopTactic
import Derived.RegionTactic
import Derived.BigRegion
namespace Go.Proofs.Ytenjdgoammaiiaa
open Go.RowKit
set_option maxRecDepth 100000

theorem def_info : (Try.prog.info? 47).map (fun i => (i.zero, i.size, i.bytes)) = some (some (.agg #[.int .i64 0, .int .i64 0, .int .i64 0, .int .i64 0]), 4, 32) := by kernel_rfl
def flat4 (ds : List Df) : List Value := ds.flatMap fun d => [.int .i64 d.k, .int .i64 d.y, .int .i64 d.v, .int .i64 d.x]
theorem flat4_length (ds : List Df) : (flat4 ds).length = ds.length * 4 := by
  induction ds with
  | nil => rfl
  | cons a r ih => rw [flat4, List.flatMap_cons, List.length_append, ← flat4, ih]; simp; omega
theorem flat4_get {ds : List Df} : ∀ {m : Nat}, m < ds.length → ∀ i, i < 4 → (flat4 ds)[m * 4 + i]? = [Value.int .i64 (ds.getD m dfD).k, .int .i64 (ds.getD m dfD).y, .int .i64 (ds.getD m dfD).v, .int .i64 (ds.getD m dfD).x][i]? := by
  induction ds with
  | nil => intro m hm; simp at hm
  | cons a r ih =>
    intro m hm i hi
    rw [flat4, List.flatMap_cons, ← flat4]
    cases m with
    | zero => rw [List.getElem?_append_left (by simp; omega)]; simp
    | succ m =>
      rw [List.getElem?_append_right (by simp; omega)]
      have := ih (m := m) (by simpa using hm) i hi
      simp only [List.getD_cons_succ]
      rw [← this]
      congr 1
      simp
      omega
theorem flat4_one (ds : List Df) : ∀ u ∈ flat4 ds, u.oneCell' = true := by
  intro u hu
  obtain ⟨o, -, ho⟩ := List.mem_flatMap.1 hu
  simp at ho
  rcases ho with rfl | rfl | rfl | rfl <;> rfl
theorem flat4_cells {w : World} {g o : Nat} {ds : List Df} (h : DfsIn w (some ⟨g, o, none⟩) ds) : ∀ j u, (flat4 ds)[j]? = some u → w.cell? ⟨g, o + j, none⟩ = some u := by
  intro j u hu
  have hj : j < ds.length * 4 := by
    have := (List.getElem?_eq_some_iff.1 hu).1
    rwa [flat4_length] at this
  obtain ⟨g', o', e, -, b0, b1, b2, b3⟩ := h (j / 4) (by omega)
  injection e with e
  injection e with e1 e2 _
  subst e1 e2
  have hg := flat4_get (ds := ds) (m := j / 4) (by omega) (j % 4) (by omega)
  rw [show j / 4 * 4 + j % 4 = j by omega, hu] at hg
  rcases (show j % 4 = 0 ∨ j % 4 = 1 ∨ j % 4 = 2 ∨ j % 4 = 3 by omega) with e | e | e | e
  · rw [e] at hg
    rw [show o + j = o + j / 4 * 4 by omega, b0]
    simpa using hg.symm
  · rw [e] at hg
    rw [show o + j = o + j / 4 * 4 + 1 by omega, b1]
    simpa using hg.symm
  · rw [e] at hg
    rw [show o + j = o + j / 4 * 4 + 2 by omega, b2]
    simpa using hg.symm
  · rw [e] at hg
    rw [show o + j = o + j / 4 * 4 + 3 by omega, b3]
    simpa using hg.symm
theorem own_emptyD (W : World) : (W.alloc (.cells #[] 47)).ownsRow W.heap.size 47 4 (.slice (some ⟨W.heap.size, 0, none⟩) 0 0) 0 [] :=
  ⟨rfl, .inr ⟨W.heap.size, 0, #[], rfl, Nat.le_refl _, heap_alloc_new W _, Nat.le_refl _, Nat.zero_le _, rfl, rfl⟩⟩
/-- A row of descriptions of the call's own. -/
def ClonedD (ds : List Df) (W : World) (e : Ending) (w : World) : Prop := ∃ a c, e = .returned (.slice a ds.length c) ∧ Below W.heap.size W w ∧ (0 < ds.length → ∃ g, a = some ⟨g, 0, none⟩ ∧ W.heap.size ≤ g ∧ g < w.heap.size ∧ ∀ j u, (flat4 ds)[j]? = some u → w.cell? ⟨g, j, none⟩ = some u)
theorem own_cells {w : World} {B e m n g c : Nat} {xs : List Value} (h : w.ownsRow B e m (.slice (some ⟨g, 0, none⟩) n c) n xs) : ∀ j u, xs[j]? = some u → w.cell? ⟨g, j, none⟩ = some u := fun j u hu => by
  have := h.cells rfl j u hu
  rw [add_lit, Nat.zero_add] at this
  exact this
theorem own_shapeD {w : World} {B e m n : Nat} {v : Value} {xs : List Value} (h : w.ownsRow B e m v n xs) : ∃ a c, v = .slice a n c := by
  rcases h.2 with ⟨rfl, h0⟩ | ⟨g, cap, cur, hv, -⟩
  · exact ⟨none, 0, by rw [h0]⟩
  · exact ⟨_, cap, hv⟩
theorem clone_defs {w : World} {a : Option Addr} {c : Nat} {ds : List Df} (h : DfsIn w a ds) (hl : ds.length ≤ 4) : Calls Try.prog 17 #[.slice a ds.length c] w (ClonedD ds w) := by
  have q := fun (w : World) (a : Option Addr) (n c n' c' : Nat) => Lib.run_eql_slice_nil (P := Try.prog) w 22 47 a n c n' c' Try.underlying22
  obtain ⟨i0, hi0, hz0, hz1, hz2⟩ := info_parts def_info
  have HI := Lib.hid (And.intro hi0 (And.intro hz0 (And.intro hz1 hz2)))
  obtain ⟨n, hn⟩ : ∃ n, ds.length = n := ⟨_, rfl⟩
  have HN := Lib.hid hn
  have HH := Lib.hid h
  have HL := Lib.hid hl
  have hn4 : n ≤ 4 := by omega
  rw [hn]
  clear h hi0 hz0 hz1 hz2 hl hn
  cases a with
  | none =>
    have hn0 : n = 0 := by
      rcases Nat.eq_zero_or_pos n with h0 | h0
      · exact h0
      · obtain ⟨g, o, e, -⟩ := HH.out 0 (by rw [HN.out]; exact h0)
        cases e
    subst hn0
    go_enter Try.func17, Try.ntmps17
    go_wp2
    go_ret
    exact ⟨none, 0, by rw [HN.out]; rfl, Below.refl _ _, fun h => by rw [HN.out] at h; exact absurd h (Nat.lt_irrefl _)⟩
  | some p =>
    rcases Nat.eq_zero_or_pos n with h0 | h0
    · subst h0
      have hd0 : ds = [] := List.eq_nil_of_length_eq_zero HN.out
      have HZ := Lib.hid hd0
      clear hd0
      go_enter Try.func17, Try.ntmps17
      go_wp2_with (at_builtin; refine wpList_append_own_at _ rfl _ _ 22 rfl w.heap.size 47 i0 _ 4 32 Try.underlying22 HI.out.1 HI.out.2.1 HI.out.2.2.1 HI.out.2.2.2 rfl (by omega) (.slice (some ⟨w.heap.size, 0, none⟩) 0 0) 0 [] rfl (own_emptyD w) p 0 c [] rfl rfl (fun j u hu => by simp at hu) (fun u hu => by simp at hu) (by unfold maxLen; omega) (by omega) (by simp) ?_; intro v1 w1 hown hgr _ _; rw [Nat.zero_add, List.nil_append] at hown; have hb : Below w.heap.size w w1 := ((Below.refl _ _).alloc (Nat.le_refl _) _).grown hgr (by simp) (fun k hk => by
        first | (have h9 : some w.heap.size = some k := hk; injection h9 with h9; omega) | (have h9 : some k = some w.heap.size := hk; injection h9 with h9; omega)); have HO := Lib.hid hown; have HB := Lib.hid hb; clear hown hgr hb)
      go_ret
      obtain ⟨a1, c1, rfl⟩ := own_shapeD HO.out
      exact ⟨a1, c1, by rw [HN.out]; rfl, HB.out, fun h => by rw [HN.out] at h; exact absurd h (Nat.lt_irrefl _)⟩
    · obtain ⟨b, o, ep⟩ : ∃ b o, p = ⟨b, o, none⟩ := by
        obtain ⟨g, o, e, -⟩ := HH.out 0 (by rw [HN.out]; exact h0)
        injection e with e
        exact ⟨g, o, e⟩
      subst ep
      have hbl : b < w.heap.size := by
        obtain ⟨g, o, e, hg, -⟩ := HH.out 0 (by rw [HN.out]; exact h0)
        injection e with e
        injection e with e
        omega
      go_enter Try.func17, Try.ntmps17
      go_wp2_with ((at_builtin; refine wpList_append_own_at _ rfl _ _ 22 rfl w.heap.size 47 i0 _ 4 32 Try.underlying22 HI.out.1 HI.out.2.1 HI.out.2.2.1 HI.out.2.2.2 rfl (by omega) (.slice (some ⟨w.heap.size, 0, none⟩) 0 0) 0 [] rfl (own_emptyD w) ⟨b, o, none⟩ n c (flat4 ds) rfl (by rw [flat4_length, HN.out]) (fun j u hu => by rw [add_lit, World.cell?_alloc_lt _ _ _ hbl]; exact flat4_cells HH.out j u hu) (flat4_one ds) (by unfold maxLen; omega) (by omega) (by simp) ?_; intro v1 w1 hown hgr _ _; rw [Nat.zero_add, List.nil_append] at hown; have hb : Below w.heap.size w w1 := ((Below.refl _ _).alloc (Nat.le_refl _) _).grown hgr (by simp) (fun k hk => by
        first | (have h9 : some w.heap.size = some k := hk; injection h9 with h9; omega) | (have h9 : some k = some w.heap.size := hk; injection h9 with h9; omega)); have HO := Lib.hid hown; have HB := Lib.hid hb; clear hown hgr hb))
      go_ret
      rcases HO.out.2 with ⟨_, hz⟩ | ⟨g, cap, cur, hv, hg, hh, -⟩
      · omega
      · subst hv
        exact ⟨_, cap, by rw [HN.out]; rfl, HB.out, fun _ => ⟨g, rfl, hg, (Array.getElem?_eq_some_iff.1 hh).1, own_cells HO.out⟩⟩
end Go.Proofs.Ytenjdgoammaiiaa

/-
  Proved here: what New and Copy of the program's maps have built so far, and one map more. No Go text is walked. Conditions: as each lemma says.
-/
namespace Go.Proofs.Ytenjdgoammaiiaa
open Go.RowKit
set_option maxRecDepth 100000

theorem slots_info : (Try.prog.info? 56).map (fun i => (i.zero, i.size, i.bytes)) = some (some .nilIface, 1, 16) := by kernel_rfl
theorem own_keptG {w w' : World} {B e m n : Nat} {v : Value} {xs : List Value} (h : w.ownsRow B e m v n xs) (k : ∀ b, some b = v.ownBlock → w'.heap[b]? = w.heap[b]?) : w'.ownsRow B e m v n xs := by
  refine ⟨h.1, ?_⟩
  rcases h.2 with h2 | ⟨g, cap, cur, rfl, hg, hh, r⟩
  · exact .inl h2
  · exact .inr ⟨g, cap, cur, rfl, hg, by rw [k g rfl]; exact hh, r⟩
theorem own_ltG {w : World} {B e m n : Nat} {v : Value} {xs : List Value} (h : w.ownsRow B e m v n xs) : ∀ b, some b = v.ownBlock → B ≤ b ∧ b < w.heap.size := by
  intro b hb
  rcases h.2 with ⟨rfl, -⟩ | ⟨g, cap, cur, rfl, hg, hh, -⟩
  · cases hb
  · injection hb with hb
    subst hb
    exact ⟨hg, (Array.getElem?_eq_some_iff.1 hh).1⟩
/-- What has been built so far: the struct in block h, descriptions ds, maps l. -/
structure Bd (W wr : World) (h : Nat) (dv mv : Value) (ds : List Df) (st : List MSt) (l : List Value) (Ss : Nat → Nat → Prop) : Prop where
  c0 : wr.cell? ⟨h, 0, none⟩ = some dv
  c1 : wr.cell? ⟨h, 1, none⟩ = some mv
  fr : ∀ j, wr.frozen? ⟨h, j, none⟩ = false
  own : wr.ownsRow W.heap.size 56 1 mv l.length l
  pd : ∀ m, m < l.length → PdM wr (Ss m) (l.getD m .nilIface) (st.getD m .ring)
  new : ∀ m b, m < l.length → Ss m b → W.heap.size ≤ b
  hS : ∀ m, m < l.length → ¬ Ss m h
  vS : ∀ m b, m < l.length → some b = mv.ownBlock → ¬ Ss m b
  hv : some h ≠ mv.ownBlock
  dis : ∀ i j b, i < l.length → j < l.length → i ≠ j → Ss i b → ¬ Ss j b
  dr : ∃ a c, dv = .slice a ds.length c ∧ (0 < ds.length → ∃ g, a = some ⟨g, 0, none⟩ ∧ W.heap.size ≤ g ∧ g < wr.heap.size ∧ g ≠ h ∧ (∀ m, m < l.length → ¬ Ss m g) ∧ some g ≠ mv.ownBlock ∧ ∀ j u, (flat4 ds)[j]? = some u → wr.cell? ⟨g, j, none⟩ = some u)
  hW : W.heap.size ≤ h
  b : Below W.heap.size W wr
section
variable {W wr w1 : World} {h : Nat} {dv mv : Value} {ds : List Df} {st : List MSt} {l : List Value} {Ss : Nat → Nat → Prop}
theorem Bd.hlt (H : Bd W wr h dv mv ds st l Ss) : h < wr.heap.size := cell_block_lt H.c0
theorem Bd.stay (H : Bd W wr h dv mv ds st l Ss) (hb : Below wr.heap.size wr w1) : Bd W w1 h dv mv ds st l Ss := by
  have eh := hb.block h H.hlt
  refine ⟨(World.cell?_of_block (w := wr) eh).trans H.c0, (World.cell?_of_block (w := wr) eh).trans H.c1, fun j => (World.frozen?_of_block (w := wr) (a := ⟨h, j, none⟩) eh).trans (H.fr j), own_keptG H.own (fun b hb2 => hb.block b (own_ltG H.own b hb2).2), fun m hm => (H.pd m hm).kept fun b hb2 => hb.block b ((H.pd m hm).lt b hb2), H.new, H.hS, H.vS, H.hv, H.dis, ?_, H.hW, H.b.trans (hb.mono H.b.size)⟩
  obtain ⟨a, c, e, hg⟩ := H.dr
  refine ⟨a, c, e, fun h0 => ?_⟩
  obtain ⟨g, e1, g1, g2, g3, g4, g5, g6⟩ := hg h0
  exact ⟨g, e1, g1, Nat.lt_of_lt_of_le g2 hb.size, g3, g4, g5, fun j u hu => (hb.cell (p := ⟨g, j, none⟩) g2).trans (g6 j u hu)⟩
theorem one_newV (W : World) (v : Value) (e : TypeId) : ∀ j u, [v][j]? = some u → (W.alloc (.cells #[v] e)).cell? ((⟨W.heap.size, 0, none⟩ : Addr).add j) = some u := by
  intro j u hu
  have hn : (W.alloc (.cells #[v] e)).heap[W.heap.size]? = some (.cells #[v] e) := heap_alloc_new W _
  rw [add_lit, Nat.zero_add]
  unfold World.cell?
  simp only [hn]
  simpa using hu
/-- One map more. -/
theorem bd_push {S : Nat → Prop} {v : Value} (H : Bd W wr h dv mv ds st l Ss) (hl : l.length ≤ 15) (hb : Below wr.heap.size wr w1) (hp : PdM w1 S v (st.getD l.length .ring)) (hS : ∀ b, S b → wr.heap.size ≤ b) (hv1 : v.oneCell' = true) :
    ∃ a2 c2 W3, (appendV #[52, 52] 52 #[mv, .slice (some ⟨w1.heap.size, 0, none⟩) 1 1]).run Try.prog (w1.alloc (.cells #[v] 56)) = .ok (.slice a2 (l.length + 1) c2) W3 ∧ W3.cell? ⟨h, 1, none⟩ = some mv ∧ W3.frozen? ⟨h, 1, none⟩ = false ∧ (∀ b, b < w1.heap.size → some b ≠ mv.ownBlock → W3.heap[b]? = w1.heap[b]?) ∧
      Bd W (W3.setCell ⟨h, 1, none⟩ (.slice a2 (l.length + 1) c2)) h dv (.slice a2 (l.length + 1) c2) ds st (l ++ [v]) (fun m => if m = l.length then S else Ss m) := by
  obtain ⟨i0, hi0, hz0, hz1, hz2⟩ := info_parts slots_info
  have hwr := H.hlt
  have hown := own_ltG H.own
  have hSold : ∀ m b, m < l.length → Ss m b → b < wr.heap.size := fun m b hm hb2 => (H.pd m hm).lt b hb2
  have hszr := hb.size
  have H1 := H.stay hb
  have hSlt := hp.lt
  have hsz : (w1.alloc (.cells #[v] 56)).heap.size = w1.heap.size + 1 := by simp
  have hold : ∀ i, i < w1.heap.size → (w1.alloc (.cells #[v] 56)).heap[i]? = w1.heap[i]? := fun i hi => Below.heap_alloc _ _ _ hi
  have hown2 : (w1.alloc (.cells #[v] 56)).ownsRow W.heap.size 56 1 mv l.length l := H1.own.alloc _
  obtain ⟨v', W3, hrun, hown3, hgr, -, hat⟩ := run_append_own_at (P := Try.prog) (w1.alloc (.cells #[v] 56)) W.heap.size 52 52 56 i0 _ 1 16 Try.underlying52 hi0 hz0 hz1 hz2 rfl (by omega) mv l.length l hown2
    ⟨w1.heap.size, 0, none⟩ 1 1 [v] rfl (one_newV w1 v _) (fun u hu => by simp at hu; subst hu; exact hv1) (by unfold maxLen; omega) (by omega) (by have := H1.b.size; omega)
  obtain ⟨a2, c2, rfl⟩ : ∃ a2 c2, v' = .slice a2 (l.length + 1) c2 := by
    rcases hown3.2 with ⟨_, h0⟩ | ⟨g, cap, cur, hv, -⟩
    · omega
    · exact ⟨_, cap, hv⟩
  have hnb : ∀ b, some b = (Value.slice a2 (l.length + 1) c2).ownBlock → some b = mv.ownBlock ∨ w1.heap.size < b := fun b hb => by
    rcases hat with h9 | h9
    · exact .inl (by rw [← h9]; exact hb)
    · rw [h9] at hb
      injection hb with hb
      exact .inr (by omega)
  have hk3 : ∀ b, b < w1.heap.size → some b ≠ mv.ownBlock → W3.heap[b]? = w1.heap[b]? := fun b hb hn => (hgr.block b (by omega) hn).trans (hold b hb)
  have hs3 : ∀ b, b ≠ h → (W3.setCell ⟨h, 1, none⟩ (.slice a2 (l.length + 1) c2)).heap[b]? = W3.heap[b]? := fun b hb => Below.heap_setCell W3 ⟨h, 1, none⟩ _ b hb
  have hk4 : ∀ b, b < w1.heap.size → b ≠ h → some b ≠ mv.ownBlock → (W3.setCell ⟨h, 1, none⟩ (.slice a2 (l.length + 1) c2)).heap[b]? = w1.heap[b]? := fun b h1 h2 h3 => (hs3 b h2).trans (hk3 b h1 h3)
  have eH := hk3 h (by omega) H.hv
  have hcH : W3.cell? ⟨h, 1, none⟩ = some mv := (World.cell?_of_block (w := w1) (a := ⟨h, 1, none⟩) eH).trans H1.c1
  have hfH : ∀ j, W3.frozen? ⟨h, j, none⟩ = false := fun j => (World.frozen?_of_block (w := w1) (a := ⟨h, j, none⟩) eH).trans (H1.fr j)
  have hHo : some h ≠ (Value.slice a2 (l.length + 1) c2).ownBlock := fun e => by
    rcases hnb h e with e2 | e2
    · exact H.hv e2
    · omega
  have hSm : ∀ m, m < (l ++ [v]).length → ∀ b, (fun m => if m = l.length then S else Ss m) m b → (m = l.length ∧ S b) ∨ (m < l.length ∧ Ss m b) := by
    intro m hm b hb2
    rw [List.length_append, List.length_singleton] at hm
    by_cases e : m = l.length
    · simp only [if_pos e] at hb2
      exact .inl ⟨e, hb2⟩
    · simp only [if_neg e] at hb2
      exact .inr ⟨by omega, hb2⟩
  refine ⟨a2, c2, W3, hrun, hcH, hfH 1, hk3, ⟨?_, World.cell?_setCell_same _ _ _ hcH, fun j => by rw [World.frozen?_setCell]; exact hfH j, ?_, fun m hm => ?_, fun m b hm hb2 => ?_, fun m hm hb2 => ?_, fun m b hm hb1 hb2 => ?_, hHo, fun i j b hi hj hne hb1 hb2 => ?_, ?_, H.hW, ?_⟩⟩
  · rw [World.cell?_setCell_other _ _ _ _ (by simp)]
    exact (World.cell?_of_block (w := w1) (a := ⟨h, 0, none⟩) eH).trans H1.c0
  · rw [List.length_append, List.length_singleton]
    exact own_keptG hown3 (fun b hb2 => hs3 b (fun e => hHo (by rw [← e]; exact hb2)))
  · have hm2 := hm
    rw [List.length_append, List.length_singleton] at hm2
    by_cases e : m = l.length
    · subst e
      simp only [if_true]
      rw [List.getD_eq_getElem?_getD, List.getElem?_append_right (Nat.le_refl _)]
      simp only [Nat.sub_self, List.getElem?_cons_zero, Option.getD_some]
      exact hp.kept fun b hb2 => hk4 b (hSlt b hb2) (by have := hS b hb2; omega) (fun e => by have := hS b hb2; have := (hown b e).2; omega)
    · simp only [if_neg e]
      rw [List.getD_eq_getElem?_getD, List.getElem?_append_left (by omega), ← List.getD_eq_getElem?_getD]
      have hm3 : m < l.length := by omega
      exact (H1.pd m hm3).kept fun b hb2 => hk4 b (by have := hSold m b hm3 hb2; omega) (fun e => H.hS m hm3 (by rw [← e]; exact hb2)) (fun e => H.vS m b hm3 e hb2)
  · rcases hSm m hm b hb2 with ⟨-, h1⟩ | ⟨h1, h2⟩
    · have := hS b h1; have := H.b.size; omega
    · exact H.new m b h1 h2
  · rcases hSm m hm h hb2 with ⟨-, h1⟩ | ⟨h1, h2⟩
    · have := hS h h1; omega
    · exact H.hS m h1 h2
  · rcases hnb b hb1 with e2 | e2
    · rcases hSm m hm b hb2 with ⟨-, h1⟩ | ⟨h1, h2⟩
      · have := hS b h1; have := (hown b e2).2; omega
      · exact H.vS m b h1 e2 h2
    · rcases hSm m hm b hb2 with ⟨-, h1⟩ | ⟨h1, h2⟩
      · have := hSlt b h1; omega
      · have := hSold m b h1 h2; omega
  · rcases hSm i hi b hb1 with ⟨e1, h1⟩ | ⟨e1, h1⟩
    · rcases hSm j hj b hb2 with ⟨e2, h2⟩ | ⟨e2, h2⟩
      · omega
      · have := hS b h1; have := hSold j b e2 h2; omega
    · rcases hSm j hj b hb2 with ⟨e2, h2⟩ | ⟨e2, h2⟩
      · have := hS b h2; have := hSold i b e1 h1; omega
      · exact H.dis i j b e1 e2 hne h1 h2
  · obtain ⟨a, c, e, hg⟩ := H1.dr
    refine ⟨a, c, e, fun h0 => ?_⟩
    obtain ⟨g, e1, g1, g2, g3, g4, g5, g6⟩ := hg h0
    have eg := hk4 g g2 g3 g5
    obtain ⟨a', c', e', hg'⟩ := H.dr
    have hgw : g < wr.heap.size := by
      rw [e] at e'
      injection e' with e' _ _
      obtain ⟨g', e1', -, g2', -⟩ := hg' h0
      rw [e1] at e'
      rw [e1'] at e'
      injection e' with e'
      injection e' with e' _ _
      omega
    refine ⟨g, e1, g1, block_lt_of_eq g2 eg, g3, fun m hm hb2 => ?_, fun e2 => ?_, fun j u hu => (World.cell?_of_block (w := w1) (a := ⟨g, j, none⟩) eg).trans (g6 j u hu)⟩
    · rcases hSm m hm g hb2 with ⟨-, h1⟩ | ⟨h1, h2⟩
      · have := hS g h1; omega
      · exact g4 m h1 h2
    · rcases hnb g e2 with e3 | e3
      · exact g5 e3
      · omega
  · have hb1 : Below W.heap.size W w1 := H1.b
    have hb2 : Below W.heap.size W (w1.alloc (.cells #[v] 56)) := hb1.alloc hb1.size _
    refine (hb2.grown hgr hb2.size (fun k hk => (hown k hk.symm).1)).setCell (p := ⟨h, 1, none⟩) H.hW _
/-- All is built. -/
theorem bd_done (H : Bd W wr h dv mv ds st l Ss) (hl : l.length = st.length) (hd : ds.length = st.length) (h4 : st.length ≤ 4) (hds : ∀ m, m < st.length → ds.getD m dfD = ⟨(st.getD m .ring).kind, (st.getD m .ring).key, (st.getD m .ring).val, (st.getD m .ring).max⟩) : ∃ D, PwM wr D h st ∧ ∀ b, D b → W.heap.size ≤ b := by
  obtain ⟨a1, c1, rfl, hg⟩ := H.dr
  obtain ⟨a2, c2, rfl⟩ := own_shapeD H.own
  have hown := H.own
  have hrow : ∀ m, m < l.length → ∃ g2, a2 = some ⟨g2, 0, none⟩ ∧ W.heap.size ≤ g2 ∧ wr.cell? ⟨g2, m, none⟩ = some (l.getD m .nilIface) := by
    intro m hm
    rcases hown.2 with ⟨_, h0⟩ | ⟨g, cap, cur, hv, hg2, -⟩
    · omega
    · injection hv with hv1 hv2 hv3
      subst hv1 hv3
      refine ⟨g, rfl, hg2, own_cells hown m _ ?_⟩
      rw [List.getD_eq_getElem?_getD, List.getElem?_eq_getElem hm]
      rfl
  refine ⟨PwS h a1 a2 Ss st.length, ⟨a1, a2, c1, c2, fun m => l.getD m .nilIface, Ss, ⟨?_, ?_, fun m hm => ?_, fun m hm => H.pd m (by omega), h4, fun m hm => H.hS m (by omega), fun m g hm e hb => ?_, fun m g hm e hb => ?_, fun i j b hi hj => H.dis i j b (by omega) (by omega)⟩, fun b => Iff.rfl⟩, ?_⟩
  · rw [← hd]; exact H.c0
  · rw [← hl]; exact H.c1
  · obtain ⟨g1, e1, -, -, -, -, -, g6⟩ := hg (by omega)
    obtain ⟨g2, e2, -, k4⟩ := hrow m (by omega)
    have hx := hds m hm
    have f : ∀ i, i < 4 → ∀ u, [Value.int .i64 (ds.getD m dfD).k, .int .i64 (ds.getD m dfD).y, .int .i64 (ds.getD m dfD).v, .int .i64 (ds.getD m dfD).x][i]? = some u → wr.cell? ⟨g1, m * 4 + i, none⟩ = some u := fun i hi u hu => g6 _ _ ((flat4_get (by omega) i hi).trans hu)
    rw [hx] at f
    exact ⟨g1, g2, e1, e2, f 0 (by omega) _ rfl, f 1 (by omega) _ rfl, f 2 (by omega) _ rfl, f 3 (by omega) _ rfl, k4⟩
  · obtain ⟨g1, e1, -, -, -, g4, -, -⟩ := hg (by omega)
    rw [e] at e1
    injection e1 with e1
    injection e1 with e1 _ _
    subst e1
    exact g4 m (by omega) hb
  · exact H.vS m g (by omega) (by rw [e]; rfl) hb
  · rintro b (rfl | ⟨h0, e⟩ | ⟨h0, e⟩ | ⟨m, hm, hb⟩)
    · exact H.hW
    · obtain ⟨g1, e1, g1', -⟩ := hg (by omega)
      rw [e] at e1
      injection e1 with e1
      injection e1 with e1 _ _
      omega
    · obtain ⟨g2, e2, g2', -⟩ := hrow 0 (by omega)
      rw [e] at e2
      injection e2 with e2
      injection e2 with e2 _ _
      omega
    · exact H.new m b (by omega) hb
end
end Go.Proofs.Ytenjdgoammaiiaa
