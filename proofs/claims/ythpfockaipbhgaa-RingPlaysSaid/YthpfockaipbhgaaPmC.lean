/-
  Proved here: slices.Clone of records; Copy of the program's rings. Conditions: as each lemma says.
-/
import Derived.Test.YthpfockaipbhgaaPmQ
import Derived.Lib.SliceRun
import Derived.Deep.RegionHeld
import Derived.Deep.RegionWith
namespace Go.Proofs.Ythpfockaipbhgaa
open Go.RowKit

theorem own_empty62 (W : World) : (W.alloc (.cells #[] 62)).ownsRow W.heap.size 62 3 (.slice (some ⟨W.heap.size, 0, none⟩) 0 0) 0 [] :=
  ⟨rfl, .inr ⟨W.heap.size, 0, #[], rfl, Nat.le_refl _, heap_alloc_new W _, Nat.le_refl _, Nat.zero_le _, rfl, rfl⟩⟩
/-- A row of records of the call's own. -/
def Cloned (n : Nat) (xs : List Value) (W : World) (e : Ending) (w : World) : Prop := ∃ v, e = .returned v ∧ w.ownsRow W.heap.size 62 3 v n xs ∧ Below W.heap.size W w
set_option maxRecDepth 100000 in
theorem clone_recs {w : World} {kv : Value} {n : Nat} {xs : List Value} (h : w.ownsRow 0 62 3 kv n xs) (hv : ∀ u ∈ xs, u.oneCell' = true) (hn : n ≤ 1000) : Calls Try.prog 24 #[kv] w (Cloned n xs w) := by
  have q := fun (w : World) (a : Option Addr) (n c n' c' : Nat) => Lib.run_eql_slice_nil (P := Try.prog) w 56 62 a n c n' c' Try.underlying56
  obtain ⟨i0, hi0, hz0, hz1, hz2⟩ := info_parts lrec_info
  have HI := Lib.hid (And.intro hi0 (And.intro hz0 (And.intro hz1 hz2)))
  rcases h.2 with ⟨rfl, h0⟩ | ⟨b, cap, cur, rfl, _, hh, hnc, -⟩
  · subst h0
    have hx : xs = [] := List.eq_nil_of_length_eq_zero h.1
    subst hx
    clear h hv hi0 hz0 hz1 hz2
    go_enter Try.func24, Try.ntmps24
    go_wp2
    go_ret
    exact ⟨_, rfl, World.ownsRow_nil _ _ _ _, Below.refl _ _⟩
  · have HH := Lib.hid (And.intro h hv)
    have hbl : b < w.heap.size := (Array.getElem?_eq_some_iff.1 hh).1
    clear h hv hh hi0 hz0 hz1 hz2
    go_enter Try.func24, Try.ntmps24
    go_wp2_with (at_builtin; refine wpList_append_own_at _ rfl _ _ 56 rfl w.heap.size 62 i0 _ 3 40 Try.underlying56 HI.out.1 HI.out.2.1 HI.out.2.2.1 HI.out.2.2.2 rfl (by omega) (.slice (some ⟨w.heap.size, 0, none⟩) 0 0) 0 [] rfl (own_empty62 w) ⟨b, 0, none⟩ n cap xs rfl HH.out.1.1 (fun j u hu => by rw [World.cell?_alloc_lt _ _ _ (by simp only [add_lit]; exact hbl)]; exact HH.out.1.cells rfl j u hu) HH.out.2 (by unfold maxLen; omega) (by omega) (by simp) ?_; intro v1 w1 hown hgr _ _; rw [Nat.zero_add, List.nil_append] at hown; have hb : Below w.heap.size w w1 := ((Below.refl _ _).alloc (Nat.le_refl _) _).grown hgr (by simp) (fun k hk => by simp [Value.ownBlock] at hk; omega); have HO := Lib.hid (And.intro hown hb); clear hown hgr hb)
    go_ret
    exact ⟨_, rfl, HO.out⟩
section
variable {w w1 : World} {h g : Nat} {room drops : Int} {kv v : Value} {ds : Nat → Nat} {ls : List Rc} {xs : List Value}
/-- A copy of the struct and of the records' row: the bytes' rows are still the old ones. -/
theorem Pr.half (H : Pr w h room drops g kv ds ls) (hx : LvCells xs ds ls) (ho : w1.ownsRow w.heap.size 62 3 v ls.length xs) (hb : Below w.heap.size w w1) :
    Pr (w1.alloc (.cells #[.int .i64 room, .int .i64 drops, .int .i64 (g : Int), v] 58)) w1.heap.size room drops g v ds ls := by
  have hb2 : Below w.heap.size w (w1.alloc (.cells #[.int .i64 room, .int .i64 drops, .int .i64 (g : Int), v] 58)) := hb.alloc hb.size _
  have hs := hb.size
  have hdl : ∀ i, i < ls.length → ds i < w.heap.size := fun i hi => H.lt _ (.inr (.inr ⟨i, hi, rfl⟩))
  have H2 := H.stay hb2
  have ho2 := ho.alloc (.cells #[.int .i64 room, .int .i64 drops, .int .i64 (g : Int), v] 58)
  refine ⟨by simp [go_sem], by simp [go_sem], by simp [go_sem], by simp [go_sem], fun j => by simp [go_sem], ⟨xs, ⟨ho2.1, ho2.2.imp id fun ⟨g, cap, cur, hv, _, r⟩ => ⟨g, cap, cur, hv, Nat.zero_le _, r⟩⟩, hx⟩, fun e => by have := (ho.lt _ e.symm).2; omega, fun i hi e => by have := (ho.lt _ e.symm).1; have := hdl i hi; omega, fun i hi e => by have := hdl i hi; omega, H.gi, H2.data, H2.free, H.len, H.st, H.le⟩
theorem own_shape {w : World} {B e m n : Nat} {v : Value} {xs : List Value} (h : w.ownsRow B e m v n xs) : ∃ a c, v = .slice a n c := by
  rcases h.2 with ⟨rfl, h0⟩ | ⟨g, cap, cur, hv, -⟩
  · exact ⟨none, 0, by rw [h0]⟩
  · exact ⟨_, cap, hv⟩
def S4 (h : Nat) (room drops : Int) (g : Nat) (kv : Value) (W : World) : Prop := W.cell? ⟨h, 0, none⟩ = some (.int .i64 room) ∧ W.cell? ⟨h, 1, none⟩ = some (.int .i64 drops) ∧ W.cell? ⟨h, 2, none⟩ = some (.int .i64 (g : Int)) ∧ W.cell? ⟨h, 3, none⟩ = some kv
theorem s4_stay {h : Nat} {room drops : Int} {g : Nat} {kv : Value} {W W' : World} (k : S4 h room drops g kv W) (hb : Below W.heap.size W W') : S4 h room drops g kv W' :=
  ⟨(hb.cell (p := ⟨h, 0, none⟩) (cell_block_lt k.1)).trans k.1, (hb.cell (p := ⟨h, 1, none⟩) (cell_block_lt k.2.1)).trans k.2.1, (hb.cell (p := ⟨h, 2, none⟩) (cell_block_lt k.2.2.1)).trans k.2.2.1, (hb.cell (p := ⟨h, 3, none⟩) (cell_block_lt k.2.2.2)).trans k.2.2.2⟩
/-- What Copy makes, the first k with bytes of their own. -/
structure Cq (W wr : World) (C : Nat) (room drops : Int) (g : Nat) (v : Value) (es : Nat → Nat) (ls : List Rc) (k : Nat) : Prop where
  pr : Pr wr C room drops g v es ls
  new : ∀ j, j < k → W.heap.size ≤ es j
  b : Below W.heap.size W wr
  atC : W.heap.size ≤ C
  atV : ∀ b, some b = v.ownBlock → W.heap.size ≤ b
theorem Cq.step {W wr w3 : World} {C b c k G2 : Nat} {es : Nat → Nat} (q : Cq W wr C room drops g (.slice (some ⟨b, 0, none⟩) ls.length c) es ls k) (hk : k < ls.length) (hf : Fresh wr.drew w3 G2 (rget ls k).b.length (rget ls k).b) :
    Cq W (w3.setCell ⟨b, k * 3 + 2, none⟩ (.slice (some ⟨G2, 0, none⟩) (rget ls k).b.length (rget ls k).b.length)) C room drops g (.slice (some ⟨b, 0, none⟩) ls.length c) (fun j => if j = k then G2 else es j) ls (k + 1) := by
  have hb : Below wr.heap.size wr w3 := (Below.refl _ _).drew.trans hf.below
  have hs := q.b.size
  have hat : wr.heap.size ≤ G2 := hf.at_
  have hP := q.pr.stay hb
  refine ⟨hP.bytes hk hf.row hf.free (fun hS => by have := q.pr.lt _ hS; omega), fun j hj => ?_, (q.b.trans (hb.mono hs)).setCell (q.atV b rfl) _, q.atC, q.atV⟩
  split
  · omega
  · exact q.new j (by omega)
set_option linter.unusedSimpArgs false in
set_option maxRecDepth 100000 in
set_option maxHeartbeats 4000000 in
theorem pr_copy (H : Pr w h room drops g kv ds ls) : Calls Try.prog 9 #[.pointer (some ⟨h, 0, none⟩)] w (fun e w' => ∃ C v es, e = .returned (.pointer (some ⟨C, 0, none⟩)) ∧ Cq w w' C room drops g v es ls ls.length) := by
  obtain ⟨xs, hx, hc⟩ := H.row
  have HX := Lib.hid (And.intro hx (And.intro hc (lv_one hc hx.1)))
  have hxd : w.drew.ownsRow 0 62 3 kv ls.length xs := own_kept hx (fun b hb => rfl)
  have HXD := Lib.hid hxd
  clear hxd
  have HP := Lib.hid H
  have hle := H.le
  have c0 := H.h0
  have c1 := H.h1
  have c2 := H.h2
  have c3 := H.h3
  have Q0 : Hid (w.drew.cell? ⟨h, 0, none⟩ = some (.int .i64 room) ∧ w.drew.cell? ⟨h, 1, none⟩ = some (.int .i64 drops) ∧ w.drew.cell? ⟨h, 2, none⟩ = some (.int .i64 (g : Int)) ∧ w.drew.cell? ⟨h, 3, none⟩ = some kv) := Lib.hid ⟨c0, c1, c2, c3⟩
  clear H hx hc c0 c1 c2 c3
  go_enter Try.func9, Try.ntmps9
  go_upto_region 3 with fail
  go_cut [3] (fun p wx => ∃ C v, p = .pointer (some ⟨C, 0, none⟩) ∧ Cq w wx C room drops g v ds ls 0)
  case first =>
    as_aux_lemma =>
    refine wp_region_held_drew (S := (fun W => W.cell? ⟨h, 0, none⟩ = some (.int .i64 room) ∧ W.cell? ⟨h, 1, none⟩ = some (.int .i64 drops) ∧ W.cell? ⟨h, 2, none⟩ = some (.int .i64 (g : Int)) ∧ W.cell? ⟨h, 3, none⟩ = some kv)) (by kernel_rfl) Q0.out (fun hHeld => ?_)
    refine wpAnyH_take (i := 0) (v := .pointer (some ⟨h, 0, none⟩)) rfl (by kernel_rfl) (by kernel_rfl) (by kernel_rfl) (fun _ _ _ h => h) (Or.inl ⟨by rfl, ?_⟩) (by assumption) ?_
    · intro W hSw
      go_simp
    simp only [Act.put, List.getElem_toArray, List.getElem_cons_zero, List.getElem_cons_succ, List.setIfInBounds_toArray, List.set_cons_zero, List.set_cons_succ]
    refine wpAnyH_take (i := 1) (v := .pointer (some ⟨h, 0, none⟩)) rfl (by kernel_rfl) (by kernel_rfl) (by kernel_rfl) (fun _ _ _ h => h) (Or.inl ⟨by rfl, ?_⟩) (by assumption) ?_
    · intro W hSw
      go_simp
    simp only [Act.put, List.getElem_toArray, List.getElem_cons_zero, List.getElem_cons_succ, List.setIfInBounds_toArray, List.set_cons_zero, List.set_cons_succ]
    refine wpAnyH_take (i := 2) (v := .pointer (some ⟨h, 0, none⟩)) rfl (by kernel_rfl) (by kernel_rfl) (by kernel_rfl) (fun _ _ _ h => h) (Or.inl ⟨by rfl, ?_⟩) (by assumption) ?_
    · intro W hSw
      go_simp
    simp only [Act.put, List.getElem_toArray, List.getElem_cons_zero, List.getElem_cons_succ, List.setIfInBounds_toArray, List.set_cons_zero, List.set_cons_succ]
    refine wpAnyH_take (i := 3) (v := .int .i64 room) rfl (by kernel_rfl) (by kernel_rfl) (by kernel_rfl) (fun _ _ _ h => h) (Or.inl ⟨by rfl, ?_⟩) (by assumption) ?_
    · intro W hSw
      go_simp
    simp only [Act.put, List.getElem_toArray, List.getElem_cons_zero, List.getElem_cons_succ, List.setIfInBounds_toArray, List.set_cons_zero, List.set_cons_succ]
    refine wpAnyH_take (i := 4) (v := .pointer (some ⟨h, 0, none⟩)) rfl (by kernel_rfl) (by kernel_rfl) (by kernel_rfl) (fun _ _ _ h => h) (Or.inl ⟨by rfl, ?_⟩) (by assumption) ?_
    · intro W hSw
      go_simp
    simp only [Act.put, List.getElem_toArray, List.getElem_cons_zero, List.getElem_cons_succ, List.setIfInBounds_toArray, List.set_cons_zero, List.set_cons_succ]
    refine wpAnyH_take (i := 5) (v := .pointer (some ⟨h, 0, none⟩)) rfl (by kernel_rfl) (by kernel_rfl) (by kernel_rfl) (fun _ _ _ h => h) (Or.inl ⟨by rfl, ?_⟩) (by assumption) ?_
    · intro W hSw
      go_simp
    simp only [Act.put, List.getElem_toArray, List.getElem_cons_zero, List.getElem_cons_succ, List.setIfInBounds_toArray, List.set_cons_zero, List.set_cons_succ]
    refine wpAnyH_take (i := 6) (v := .pointer (some ⟨h, 1, none⟩)) rfl (by kernel_rfl) (by kernel_rfl) (by kernel_rfl) (fun _ _ _ h => h) (Or.inl ⟨by rfl, ?_⟩) (by assumption) ?_
    · intro W hSw
      go_simp
    simp only [Act.put, List.getElem_toArray, List.getElem_cons_zero, List.getElem_cons_succ, List.setIfInBounds_toArray, List.set_cons_zero, List.set_cons_succ]
    refine wpAnyH_take (i := 7) (v := .int .i64 drops) rfl (by kernel_rfl) (by kernel_rfl) (by kernel_rfl) (fun _ _ _ h => h) (Or.inl ⟨by rfl, ?_⟩) (by assumption) ?_
    · intro W hSw
      go_simp
    simp only [Act.put, List.getElem_toArray, List.getElem_cons_zero, List.getElem_cons_succ, List.setIfInBounds_toArray, List.set_cons_zero, List.set_cons_succ]
    refine wpAnyH_take (i := 8) (v := .pointer (some ⟨h, 0, none⟩)) rfl (by kernel_rfl) (by kernel_rfl) (by kernel_rfl) (fun _ _ _ h => h) (Or.inl ⟨by rfl, ?_⟩) (by assumption) ?_
    · intro W hSw
      go_simp
    simp only [Act.put, List.getElem_toArray, List.getElem_cons_zero, List.getElem_cons_succ, List.setIfInBounds_toArray, List.set_cons_zero, List.set_cons_succ]
    refine wpAnyH_take (i := 9) (v := .pointer (some ⟨h, 0, none⟩)) rfl (by kernel_rfl) (by kernel_rfl) (by kernel_rfl) (fun _ _ _ h => h) (Or.inl ⟨by rfl, ?_⟩) (by assumption) ?_
    · intro W hSw
      go_simp
    simp only [Act.put, List.getElem_toArray, List.getElem_cons_zero, List.getElem_cons_succ, List.setIfInBounds_toArray, List.set_cons_zero, List.set_cons_succ]
    refine wpAnyH_take (i := 10) (v := .pointer (some ⟨h, 2, none⟩)) rfl (by kernel_rfl) (by kernel_rfl) (by kernel_rfl) (fun _ _ _ h => h) (Or.inl ⟨by rfl, ?_⟩) (by assumption) ?_
    · intro W hSw
      go_simp
    simp only [Act.put, List.getElem_toArray, List.getElem_cons_zero, List.getElem_cons_succ, List.setIfInBounds_toArray, List.set_cons_zero, List.set_cons_succ]
    refine wpAnyH_take (i := 11) (v := .int .i64 (g : Int)) rfl (by kernel_rfl) (by kernel_rfl) (by kernel_rfl) (fun _ _ _ h => h) (Or.inl ⟨by rfl, ?_⟩) (by assumption) ?_
    · intro W hSw
      go_simp
    simp only [Act.put, List.getElem_toArray, List.getElem_cons_zero, List.getElem_cons_succ, List.setIfInBounds_toArray, List.set_cons_zero, List.set_cons_succ]
    refine wpAnyH_take (i := 12) (v := .pointer (some ⟨h, 0, none⟩)) rfl (by kernel_rfl) (by kernel_rfl) (by kernel_rfl) (fun _ _ _ h => h) (Or.inl ⟨by rfl, ?_⟩) (by assumption) ?_
    · intro W hSw
      go_simp
    simp only [Act.put, List.getElem_toArray, List.getElem_cons_zero, List.getElem_cons_succ, List.setIfInBounds_toArray, List.set_cons_zero, List.set_cons_succ]
    refine wpAnyH_take (i := 13) (v := .pointer (some ⟨h, 0, none⟩)) rfl (by kernel_rfl) (by kernel_rfl) (by kernel_rfl) (fun _ _ _ h => h) (Or.inl ⟨by rfl, ?_⟩) (by assumption) ?_
    · intro W hSw
      go_simp
    simp only [Act.put, List.getElem_toArray, List.getElem_cons_zero, List.getElem_cons_succ, List.setIfInBounds_toArray, List.set_cons_zero, List.set_cons_succ]
    refine wpAnyH_take (i := 14) (v := .pointer (some ⟨h, 3, none⟩)) rfl (by kernel_rfl) (by kernel_rfl) (by kernel_rfl) (fun _ _ _ h => h) (Or.inl ⟨by rfl, ?_⟩) (by assumption) ?_
    · intro W hSw
      go_simp
    simp only [Act.put, List.getElem_toArray, List.getElem_cons_zero, List.getElem_cons_succ, List.setIfInBounds_toArray, List.set_cons_zero, List.set_cons_succ]
    refine wpAnyH_take (i := 15) (v := kv) rfl (by kernel_rfl) (by kernel_rfl) (by kernel_rfl) (fun _ _ _ h => h) (Or.inl ⟨by rfl, ?_⟩) (by assumption) ?_
    · intro W hSw
      go_simp
    simp only [Act.put, List.getElem_toArray, List.getElem_cons_zero, List.getElem_cons_succ, List.setIfInBounds_toArray, List.set_cons_zero, List.set_cons_succ]
    refine wpAnyH_ready (rs := [16]) (by kernel_rfl) (by simp) ?_
    refine AllReadyH.cons rfl (fun K hK => ?_) AllReadyH.nil
    go_simp
    go_wp2_with (go_at_call 24; refine (clone_recs HXD.out HX.out.2.2 (by omega)).mono ?_; rintro e w1 ⟨v, rfl, ho, hb⟩; obtain ⟨a2, c2, rfl⟩ := own_shape ho; have hb2 := (Below.refl w.heap.size w).drew.trans hb; have Q1 := Lib.hid (And.intro (HP.out.stay hb2).h0 (And.intro (HP.out.stay hb2).h1 (And.intro (HP.out.stay hb2).h2 (HP.out.stay hb2).h3))); have HO := Lib.hid (And.intro ho hb2); clear ho hb hb2)
    refine hK.out _ _ Q1.out (fun hHeld2 => ?_)
    clear hK K hHeld
    refine wpAnyH_take (i := 17) (v := .agg #[.int .i64 room, .int .i64 drops, .int .i64 (g : Int), .slice a2 ls.length c2]) rfl (by kernel_rfl) (by kernel_rfl) (by kernel_rfl) (fun _ _ _ h => h) (Or.inl ⟨by rfl, ?_⟩) (by assumption) ?_
    · intro W hSw
      go_simp
    simp only [Act.put, List.getElem_toArray, List.getElem_cons_zero, List.getElem_cons_succ, List.setIfInBounds_toArray, List.set_cons_zero, List.set_cons_succ]
    refine wpAnyH_ready (rs := [18]) (by kernel_rfl) (by simp) ?_
    refine AllReadyH.cons rfl (fun K hK => ?_) AllReadyH.nil
    go_simp
    have Q2 : Hid (S4 h room drops g kv (w1.alloc (.cells #[.int .i64 room, .int .i64 drops, .int .i64 (g : Int), .slice a2 ls.length c2] 58))) := Lib.hid (s4_stay Q1.out ((Below.refl _ _).alloc (Nat.le_refl _) _))
    refine hK.out _ _ Q2.out (fun hHeld3 => ?_)
    clear hK K hHeld2
    refine wpAnyH_take (i := 19) (v := .pointer (some ⟨w1.heap.size, 0, none⟩)) rfl (by kernel_rfl) (by kernel_rfl) (by kernel_rfl) (fun _ _ _ h => h) (Or.inl ⟨by rfl, ?_⟩) (by assumption) ?_
    · intro W hSw
      go_simp
    simp only [Act.put, List.getElem_toArray, List.getElem_cons_zero, List.getElem_cons_succ, List.setIfInBounds_toArray, List.set_cons_zero, List.set_cons_succ]
    refine wpAnyH_done (by kernel_rfl) ?_ _
    go_wp2_with fail
    go_meet
    case rel => exact ⟨_, _, rfl, (HP.out.half HX.out.2.1 HO.out.1 HO.out.2), fun j hj => by omega, HO.out.2.alloc HO.out.2.size _, HO.out.2.size, fun b hb => (HO.out.1.lt b hb.symm).1⟩
  case rest =>
    obtain ⟨C, v, rfl, hq⟩ := hcut
    obtain ⟨a, c, rfl, -, -⟩ := hq.pr.shape
    have c3 := hq.pr.h3
    have HQ0 := Lib.hid hq
    obtain ⟨m, hm⟩ : ∃ m, ls.length = m := ⟨_, rfl⟩
    rw [hm] at c3 hle
    have HM := Lib.hid hm
    clear hq hm Q0 HX HXD HP
    go_wp2
    go_loopw [31] (fun i wr => ∃ k : Nat, k ≤ m ∧ i = .int .i64 k ∧ ∃ es, Cq w wr C room drops g (.slice a ls.length c) es ls k) (fun i _ => 1001 - (intOf i).toNat)
    case atStart => exact ⟨0, by omega, rfl, ds, HQ0.out⟩
    case round =>
      obtain ⟨k, hk, rfl, es, hq⟩ := hrel
      have HQ := Lib.hid hq
      have c3 := hq.pr.h3
      rw [HM.out] at c3
      clear hq HQ0
      by_cases hlt : k < m
      · go_upto_region 7 with fail
        have hdat := HQ.out.pr.data k (by rw [HM.out]; exact hlt)
        have hln := HQ.out.pr.len k (by rw [HM.out]; exact hlt)
        obtain ⟨b, rfl, -, hfz, hcs⟩ := HQ.out.pr.lv.at_ (by rw [HM.out]; omega)
        obtain ⟨-, -, d2⟩ := hcs k (by rw [HM.out]; exact hlt)
        have f2 := hfz (k * 3 + 2)
        have hstep := fun (w3 : World) (G2 : Nat) (hf : Fresh wr.drew w3 G2 (rget ls k).b.length (rget ls k).b) => HQ.out.step (by rw [HM.out]; exact hlt) hf
        obtain ⟨zs, hzs⟩ : ∃ zs, (rget ls k).b = zs := ⟨_, rfl⟩
        rw [hzs] at hdat hln d2 hstep
        obtain ⟨n, hn⟩ : ∃ n, zs.length = n := ⟨_, rfl⟩
        rw [hn] at hdat hln d2 hstep
        have HSTEP := Lib.hid hstep
        have HN := Lib.hid hn
        have HD := Lib.hid (And.intro (show RowAt wr.drew (es k) 0 n zs from hdat) (show es k < wr.drew.heap.size from cell_block_lt (hdat 0 (by omega))))
        have q2 : wr.drew.cell? ⟨b, k * 3 + 2, none⟩ = some (.slice (some ⟨es k, 0, none⟩) n n) := d2
        have g2 : wr.drew.frozen? ⟨b, k * 3 + 2, none⟩ = false := f2
        have hCb : C ≠ b := fun e => HQ.out.pr.hk (by rw [e]; rfl)
        have Q0 : Hid (wr.drew.cell? ⟨C, 3, none⟩ = some (.slice (some ⟨b, 0, none⟩) m c)) := Lib.hid c3
        clear hcs hfz hdat hn hzs hstep d2 f2 c3
        refine wp_region_held_drew (S := (fun W => W.cell? ⟨C, 3, none⟩ = some (.slice (some ⟨b, 0, none⟩) m c))) (by kernel_rfl) Q0.out (fun hHeld => ?_)
        refine wpAnyH_take (i := 0) (v := .pointer (some ⟨C, 0, none⟩)) rfl (by kernel_rfl) (by kernel_rfl) (by kernel_rfl) (fun _ _ _ h => h) (Or.inl ⟨by rfl, ?_⟩) (by assumption) ?_
        · intro W hSw
          go_simp
        simp only [Act.put, List.getElem_toArray, List.getElem_cons_zero, List.getElem_cons_succ, List.setIfInBounds_toArray, List.set_cons_zero, List.set_cons_succ]
        refine wpAnyH_take (i := 1) (v := .pointer (some ⟨C, 0, none⟩)) rfl (by kernel_rfl) (by kernel_rfl) (by kernel_rfl) (fun _ _ _ h => h) (Or.inl ⟨by rfl, ?_⟩) (by assumption) ?_
        · intro W hSw
          go_simp
        simp only [Act.put, List.getElem_toArray, List.getElem_cons_zero, List.getElem_cons_succ, List.setIfInBounds_toArray, List.set_cons_zero, List.set_cons_succ]
        refine wpAnyH_take (i := 2) (v := .pointer (some ⟨C, 3, none⟩)) rfl (by kernel_rfl) (by kernel_rfl) (by kernel_rfl) (fun _ _ _ h => h) (Or.inl ⟨by rfl, ?_⟩) (by assumption) ?_
        · intro W hSw
          go_simp
        simp only [Act.put, List.getElem_toArray, List.getElem_cons_zero, List.getElem_cons_succ, List.setIfInBounds_toArray, List.set_cons_zero, List.set_cons_succ]
        refine wpAnyH_take (i := 3) (v := .slice (some ⟨b, 0, none⟩) m c) rfl (by kernel_rfl) (by kernel_rfl) (by kernel_rfl) (fun _ _ _ h => h) (Or.inl ⟨by rfl, ?_⟩) (by assumption) ?_
        · intro W hSw
          go_simp
        simp only [Act.put, List.getElem_toArray, List.getElem_cons_zero, List.getElem_cons_succ, List.setIfInBounds_toArray, List.set_cons_zero, List.set_cons_succ]
        refine wpAnyH_take (i := 4) (v := .int .i64 (k : Int)) rfl (by kernel_rfl) (by kernel_rfl) (by kernel_rfl) (fun _ _ _ h => h) (Or.inl ⟨by rfl, ?_⟩) (by assumption) ?_
        · intro W hSw
          go_simp
        simp only [Act.put, List.getElem_toArray, List.getElem_cons_zero, List.getElem_cons_succ, List.setIfInBounds_toArray, List.set_cons_zero, List.set_cons_succ]
        refine wpAnyH_take (i := 5) (v := .pointer (some ⟨C, 0, none⟩)) rfl (by kernel_rfl) (by kernel_rfl) (by kernel_rfl) (fun _ _ _ h => h) (Or.inl ⟨by rfl, ?_⟩) (by assumption) ?_
        · intro W hSw
          go_simp
        simp only [Act.put, List.getElem_toArray, List.getElem_cons_zero, List.getElem_cons_succ, List.setIfInBounds_toArray, List.set_cons_zero, List.set_cons_succ]
        refine wpAnyH_take (i := 6) (v := .pointer (some ⟨C, 0, none⟩)) rfl (by kernel_rfl) (by kernel_rfl) (by kernel_rfl) (fun _ _ _ h => h) (Or.inl ⟨by rfl, ?_⟩) (by assumption) ?_
        · intro W hSw
          go_simp
        simp only [Act.put, List.getElem_toArray, List.getElem_cons_zero, List.getElem_cons_succ, List.setIfInBounds_toArray, List.set_cons_zero, List.set_cons_succ]
        refine wpAnyH_take (i := 7) (v := .pointer (some ⟨C, 3, none⟩)) rfl (by kernel_rfl) (by kernel_rfl) (by kernel_rfl) (fun _ _ _ h => h) (Or.inl ⟨by rfl, ?_⟩) (by assumption) ?_
        · intro W hSw
          go_simp
        simp only [Act.put, List.getElem_toArray, List.getElem_cons_zero, List.getElem_cons_succ, List.setIfInBounds_toArray, List.set_cons_zero, List.set_cons_succ]
        refine wpAnyH_take (i := 8) (v := .slice (some ⟨b, 0, none⟩) m c) rfl (by kernel_rfl) (by kernel_rfl) (by kernel_rfl) (fun _ _ _ h => h) (Or.inl ⟨by rfl, ?_⟩) (by assumption) ?_
        · intro W hSw
          go_simp
        simp only [Act.put, List.getElem_toArray, List.getElem_cons_zero, List.getElem_cons_succ, List.setIfInBounds_toArray, List.set_cons_zero, List.set_cons_succ]
        refine wpAnyH_take (i := 9) (v := .int .i64 (k : Int)) rfl (by kernel_rfl) (by kernel_rfl) (by kernel_rfl) (fun _ _ _ h => h) (Or.inl ⟨by rfl, ?_⟩) (by assumption) ?_
        · intro W hSw
          go_simp
        simp only [Act.put, List.getElem_toArray, List.getElem_cons_zero, List.getElem_cons_succ, List.setIfInBounds_toArray, List.set_cons_zero, List.set_cons_succ]
        refine wpAnyH_take (i := 10) (v := .pointer (some ⟨b, k * 3, none⟩)) rfl (by kernel_rfl) (by kernel_rfl) (by kernel_rfl) (fun _ _ _ h => h) (Or.inl ⟨by rfl, ?_⟩) (by assumption) ?_
        · intro W hSw
          go_simp
        simp only [Act.put, List.getElem_toArray, List.getElem_cons_zero, List.getElem_cons_succ, List.setIfInBounds_toArray, List.set_cons_zero, List.set_cons_succ]
        refine wpAnyH_take (i := 11) (v := .pointer (some ⟨b, k * 3 + 2, none⟩)) rfl (by kernel_rfl) (by kernel_rfl) (by kernel_rfl) (fun _ _ _ h => h) (Or.inl ⟨by rfl, ?_⟩) (by assumption) ?_
        · intro W hSw
          go_simp
        simp only [Act.put, List.getElem_toArray, List.getElem_cons_zero, List.getElem_cons_succ, List.setIfInBounds_toArray, List.set_cons_zero, List.set_cons_succ]
        refine wpAnyH_ready (rs := [12]) (by kernel_rfl) (by simp) ?_
        refine AllReadyH.cons rfl (fun K hK => ?_) AllReadyH.nil
        go_simp
        refine hK.out _ _ Q0.out (fun hHeld2 => ?_)
        clear hK K hHeld
        refine wpAnyH_ready (rs := [13]) (by kernel_rfl) (by simp) ?_
        refine AllReadyH.cons rfl (fun K hK => ?_) AllReadyH.nil
        go_simp
        go_wp2_with (go_at_call 25; refine (copied_call (by omega) HN.out HD.out.1 HD.out.2).mono ?_; rintro e w3 ⟨G2, rfl, hf⟩; have Q1 := Lib.hid ((hf.below.cell (p := ⟨C, 3, none⟩) (cell_block_lt Q0.out)).trans Q0.out); have d3 := (hf.below.cell (p := ⟨b, k * 3 + 2, none⟩) (cell_block_lt q2)).trans q2; have f3 := (World.frozen?_of_block (w := wr.drew) (a := ⟨b, k * 3 + 2, none⟩) (hf.below.block b (cell_block_lt q2))).trans g2; have HF := Lib.hid (HSTEP.out w3 G2 hf); clear hf)
        refine hK.out _ _ Q1.out (fun hHeld3 => ?_)
        clear hK K hHeld2
        refine wpAnyH_take (i := 14) (v := .pointer (some ⟨b, k * 3, none⟩)) rfl (by kernel_rfl) (by kernel_rfl) (by kernel_rfl) (fun _ _ _ h => h) (Or.inl ⟨by rfl, ?_⟩) (by assumption) ?_
        · intro W hSw
          go_simp
        simp only [Act.put, List.getElem_toArray, List.getElem_cons_zero, List.getElem_cons_succ, List.setIfInBounds_toArray, List.set_cons_zero, List.set_cons_succ]
        refine wpAnyH_take (i := 15) (v := .pointer (some ⟨b, k * 3 + 2, none⟩)) rfl (by kernel_rfl) (by kernel_rfl) (by kernel_rfl) (fun _ _ _ h => h) (Or.inl ⟨by rfl, ?_⟩) (by assumption) ?_
        · intro W hSw
          go_simp
        simp only [Act.put, List.getElem_toArray, List.getElem_cons_zero, List.getElem_cons_succ, List.setIfInBounds_toArray, List.set_cons_zero, List.set_cons_succ]
        refine wpAnyH_ready (rs := [16]) (by kernel_rfl) (by simp) ?_
        refine AllReadyH.cons rfl (fun K hK => ?_) AllReadyH.nil
        go_simp
        refine hK.out _ _ ((World.cell?_setCell_other _ _ _ _ (by intro e; injection e with e _ _; exact hCb e.symm)).trans Q1.out) (fun hHeld4 => ?_)
        clear hK K hHeld3 hHeld4
        refine wpAnyH_done (by kernel_rfl) ?_ _
        go_wp2
        go_roundw
        case rel => exact ⟨k + 1, by omega, by go_num, _, HF.out⟩
        case measure => simp [intOf]; omega
      · obtain rfl : k = m := by omega
        go_wp2
        go_ret
        exact ⟨C, _, es, rfl, by rw [HM.out]; rw [HM.out] at HQ; exact HQ.out⟩
end
end Go.Proofs.Ythpfockaipbhgaa
