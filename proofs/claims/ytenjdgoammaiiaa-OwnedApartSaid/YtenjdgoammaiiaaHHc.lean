/-
  Proved here: what Copy of the program's map gives. Conditions: as each lemma says.
-/
import Derived.Test.YtenjdgoammaiiaaGG
import Derived.Shelf.SlMaps.Clone
import Derived.Laws.Externs
import Derived.Deep.RegionHeld
namespace Go.Proofs.Ytenjdgoammaiiaa
open Go.RowKit
set_option maxRecDepth 100000

set_option maxHeartbeats 2000000 in
theorem map_clone (M : Nat) (Dm : DataW Unit) (w : World) (h : w.ownsMap Try.prog 9 (plainElem Try.prog 3) M 16 Dm) :
    Calls Try.prog 71 #[.map (some M)] w (fun e w' => ∃ M2, e = .returned (.map (some M2)) ∧ w'.ownsMap Try.prog 9 (plainElem Try.prog 3) M2 16 Dm ∧ Below w.heap.size w w' ∧ w.heap.size ≤ M2) := by
  have hlt := h.lt
  obtain ⟨es, clock, hb, F, hs, hD⟩ := h
  have hq := fun w => run_eql_map_nil_sl (P := Try.prog) w 122 _ _ (some M) Try.underlying122
  have HB : Hid (Below w.heap.size w (w.alloc (.map es clock))) := (Below.refl _ w).alloc (Nat.le_refl _) _
  have HO : Hid ((w.alloc (.map es clock)).ownsMap Try.prog 9 (plainElem Try.prog 3) w.heap.size 16 Dm) := ⟨es, clock, (MapKept.heap_alloc w _).1, F, hs, hD⟩
  have hcl : (callFunc 84 #[.iface 122 (.map (some M))]).run Try.prog w = .ok (.value (.iface 122 (.map (some w.heap.size)))) (w.alloc (.map es clock)) := by
    rw [run_callFunc_extern Try.func84 (by kernel_rfl) (by kernel_rfl) (by kernel_rfl) (e := Extern.MapsClone.clone) (by kernel_rfl), run_maps_clone_sl w 122 hb]
    rfl
  have hta := fun (W : World) (v : Value) => run_typeAssert_map_sl (P := Try.prog) W 122 20 9 3 v Try.underlying122
  clear hb F hs hD
  go_enter Try.func71, Try.ntmps71
  go_wp2
  go_ret
  exact ⟨w.heap.size, rfl, HO.out, HB.out, Nat.le_refl _⟩
theorem own_emptyI (W : World) : (W.alloc (.cells #[] 3)).ownsRow W.heap.size 3 1 (.slice (some ⟨W.heap.size, 0, none⟩) 0 0) 0 [] :=
  ⟨rfl, .inr ⟨W.heap.size, 0, #[], rfl, Nat.le_refl _, heap_alloc_new W _, Nat.le_refl _, Nat.zero_le _, rfl, rfl⟩⟩
theorem ints_one {l : List Int} : ∀ u ∈ ints l, u.oneCell' = true := by
  intro u hu
  simp only [ints, List.mem_map] at hu
  obtain ⟨n, _, rfl⟩ := hu
  rfl
theorem free_clone (v : Value) (len : Nat) (l : List Int) (w : World) (h : w.ownsRow 0 3 1 v len (ints l)) (hl : len ≤ 1000) :
    Calls Try.prog 72 #[v] w (fun e w' => ∃ a2 k2, e = .returned (.slice a2 len k2) ∧ w'.ownsRow w.heap.size 3 1 (.slice a2 len k2) len (ints l) ∧ Below w.heap.size w w') := by
  have q := fun (w : World) (a : Option Addr) (n c n' c' : Nat) => Lib.run_eql_slice_nil (P := Try.prog) w 124 3 a n c n' c' Try.underlying124
  obtain ⟨i0, hi0, hz0, hz1, hz2⟩ := info_parts int_info
  rcases h.2 with ⟨rfl, h0⟩ | ⟨F, cap, cur, rfl, -, hh, hc1, hc2, -, -⟩
  · subst h0
    have h1 := h.1
    have hn : ints l = [] := List.eq_nil_of_length_eq_zero (by omega)
    have HN := Lib.hid hn
    clear h h1 hn
    go_enter Try.func72, Try.ntmps72
    go_wp2
    go_ret
    refine ⟨none, 0, rfl, ?_, Below.refl _ _⟩
    rw [HN.out]
    exact World.ownsRow_nil _ _ _ _
  · have hF : F < w.heap.size := (Array.getElem?_eq_some_iff.1 hh).1
    have hil : (ints l).length = len := by have := h.1; omega
    have hcells : ∀ j u, (ints l)[j]? = some u → w.cell? ⟨F, j, none⟩ = some u := fun j u hu => by
      have := h.cells (g := F) rfl j u hu
      rwa [add_lit, Nat.zero_add] at this
    have HC := Lib.hid hcells
    have HI := Lib.hid hil
    clear h hh hcells hil
    go_enter Try.func72, Try.ntmps72
    go_wp2_with (at_builtin; refine wpList_append_own_at _ rfl _ _ 124 rfl w.heap.size 3 i0 _ 1 8 Try.underlying124 hi0 hz0 hz1 hz2 rfl (by omega) _ 0 [] rfl (own_emptyI w) ⟨F, 0, none⟩ len cap (ints l) rfl (by rw [HI.out]; omega) (fun j u hu => by rw [add_lit, Nat.zero_add, World.cell?_alloc_lt _ _ _ hF]; exact HC.out j u hu) ints_one (by unfold maxLen; omega) (by omega) (by simp) ?_; intro v1 w1 hown hgr _ hat; have HO := Lib.hid hown; have HG := Lib.hid hgr; clear hown hgr hat)
    go_ret
    have hown := HO.out
    have hb : Below w.heap.size w w1 := ((Below.refl _ _).alloc (Nat.le_refl _) _).grown HG.out (by simp) (fun k hk => by
      first | (have h9 : some w.heap.size = some k := hk; injection h9 with h9; omega) | (have h9 : some k = some w.heap.size := hk; injection h9 with h9; omega))
    rw [Nat.zero_add, List.nil_append] at hown
    obtain ⟨a2, k2, rfl⟩ : ∃ a2 k2, v1 = .slice a2 len k2 := by
      rcases hown.2 with ⟨rfl, h0⟩ | ⟨g, k2, cur, rfl, -⟩
      · exact ⟨none, 0, by rw [h0]⟩
      · exact ⟨_, k2, rfl⟩
    exact ⟨a2, k2, rfl, hown, hb⟩
section
variable {h A G C M : Nat} {v : Value} {len : Nat} {l : List Int} {Dm : DataW Unit} {key s n L : Nat} {ks : List ByteArray} {zs : List Int}
set_option maxHeartbeats 4000000 in
theorem hm_copy {w : World} (H : Hm w h A G C M v len l Dm key s n L ks zs) (hd : Dim s n L) : Calls Try.prog 46 #[.pointer (some ⟨h, 0, none⟩)] w (CopyP (PM key s n L) ks zs w) := by
  obtain ⟨av, cv, rfl⟩ := H.fr.shape
  have h16 := H.size hd
  have hle := hd.le
  have HD := Lib.hid hd
  have H0 := Lib.hid (H.stay (Below.refl _ _).drew)
  have q0 : w.drew.cell? ⟨h, 0, none⟩ = some (.int .i64 key) ∧ w.drew.cell? ⟨h, 1, none⟩ = some (.pointer (some ⟨A, 0, none⟩)) ∧ w.drew.cell? ⟨h, 2, none⟩ = some (.map (some M)) ∧ w.drew.cell? ⟨h, 3, none⟩ = some (.slice av len cv) := ⟨H0.out.h0, H0.out.h1, H0.out.h2, H0.out.fr.c⟩
  have Q0 := Lib.hid q0
  clear H hd q0
  unfold CopyP
  go_enter Try.func46, Try.ntmps46
  go_wp2
  go_region_held (fun W => W.cell? ⟨h, 0, none⟩ = some (.int .i64 key) ∧ W.cell? ⟨h, 1, none⟩ = some (.pointer (some ⟨A, 0, none⟩)) ∧ W.cell? ⟨h, 2, none⟩ = some (.map (some M)) ∧ W.cell? ⟨h, 3, none⟩ = some (.slice av len cv)) (first | with_reducible exact Q3.out | with_reducible exact Q2.out | with_reducible exact Q1.out | with_reducible exact Q0.out | exact ⟨(H3.out.stay ((Below.refl _ _).alloc (Nat.le_refl _) _)).h0, (H3.out.stay ((Below.refl _ _).alloc (Nat.le_refl _) _)).h1, (H3.out.stay ((Below.refl _ _).alloc (Nat.le_refl _) _)).h2, (H3.out.stay ((Below.refl _ _).alloc (Nat.le_refl _) _)).fr.c⟩) (first
    | (go_at_call 45; refine (arrC_copy _ _ _ _ _ _ zs _ HD.out.pos (by omega) H0.out.ar).mono ?_; rintro e w1 ⟨A2, G2, C2, rfl, hb1, hA2, hG2, har2, hC2, hC3⟩; have H1 := Lib.hid (H0.out.stay hb1); have Q1 := Lib.hid (And.intro H1.out.h0 (And.intro H1.out.h1 (And.intro H1.out.h2 H1.out.fr.c))); have HB1 := Lib.hid hb1; have HA2 := Lib.hid hA2; have HG2 := Lib.hid hG2; have HAR := Lib.hid har2; have HC2 := Lib.hid hC2; have HC3 := Lib.hid hC3; clear hb1 hA2 hG2 har2 hC2 hC3)
    | (go_at_call 71; refine (map_clone _ _ _ H1.out.ow).mono ?_; rintro e w2 ⟨M2, rfl, how2, hb2, hM2⟩; have H2 := Lib.hid (H1.out.stay hb2); have Q2 := Lib.hid (And.intro H2.out.h0 (And.intro H2.out.h1 (And.intro H2.out.h2 H2.out.fr.c))); have HB2 := Lib.hid hb2; have HM2 := Lib.hid hM2; have HOW := Lib.hid how2; clear hb2 hM2 how2)
    | (go_at_call 72; refine (free_clone _ _ _ _ H2.out.fr.own (by omega)).mono ?_; rintro e w3 ⟨a2, k2, rfl, hov, hb3⟩; have H3 := Lib.hid (H2.out.stay hb3); have Q3 := Lib.hid (And.intro H3.out.h0 (And.intro H3.out.h1 (And.intro H3.out.h2 H3.out.fr.c))); have HB3 := Lib.hid hb3; have HOV := Lib.hid hov; clear hb3 hov))
  all_goals
    rename_i hHeld
    clear hHeld
    go_wp2
    go_ret
    have hb1 := HB1.out
    have hb2 := HB2.out
    have hb3 := HB3.out
    have hs1 : w.heap.size ≤ w1.heap.size := hb1.size
    have hs2 := hb2.size
    have hs3 := hb3.size
    have hA2 : w.heap.size ≤ A2 := HA2.out
    have hG2 : w.heap.size ≤ G2 := HG2.out
    have hM2 := HM2.out
    have hov := HOV.out
    have hAl := HAR.out.ltA
    have hGl := HAR.out.lt
    have hMl := HOW.out.lt
    have hvb : ∀ b, some b = (Value.slice a2 len k2).ownBlock → w2.heap.size ≤ b ∧ b < w3.heap.size := by
      intro b hb
      rcases hov.2 with ⟨hv, -⟩ | ⟨g, cap, cur, hv, hg, hh, -⟩
      · rw [hv] at hb; cases hb
      · rw [hv] at hb
        injection hb with hb
        subst hb
        exact ⟨hg, (Array.getElem?_eq_some_iff.1 hh).1⟩
    obtain ⟨box, hbox⟩ : ∃ box, (#[.int .i64 (key : Int), .pointer (some ⟨A2, 0, none⟩), .map (some M2), .slice a2 len k2] : Array Value) = box := ⟨_, rfl⟩
    have hb4 : Below w3.heap.size w3 (w3.alloc (.cells box 126)) := (Below.refl _ _).alloc (Nat.le_refl _) _
    have hnb : (w3.alloc (.cells box 126)).heap[w3.heap.size]? = some (.cells box 126 (0, 0)) := heap_alloc_new w3 _
    have h13 : Below w1.heap.size w1 w3 := hb2.trans (hb3.mono hs2)
    have h14 : Below w1.heap.size w1 (w3.alloc (.cells box 126)) := h13.trans (hb4.mono h13.size)
    have h04 : Below w.heap.size w (w3.alloc (.cells box 126)) := ((Below.refl _ _).drew.trans hb1).trans (h14.mono hs1)
    refine ⟨w3.heap.size, HmS w3.heap.size A2 G2 M2 (.slice a2 len k2), rfl, ⟨A2, G2, C2, M2, .slice a2 len k2, len, l, Dm, ?_, fun b => Iff.rfl⟩, by rw [hbox]; exact h04, ?_⟩
    · rw [hbox]
      refine ⟨?_, ?_, ?_, ⟨?_, ⟨hov.1, ?_⟩, fun e => ?_⟩, ?_, H3.out.hp, H3.out.pm, HAR.out.stay h14, HC2.out, HC3.out, ownsMap_kept HOW.out ((hb4.block M2 (by omega)).trans (hb3.block M2 hMl)), H3.out.ag, H3.out.un, H3.out.kl, H3.out.kz, fun e => ?_, fun e => ?_⟩
      · unfold World.cell?; simp only [hnb]; rw [← hbox]; rfl
      · unfold World.cell?; simp only [hnb]; rw [← hbox]; rfl
      · unfold World.cell?; simp only [hnb]; rw [← hbox]; rfl
      · unfold World.cell?; simp only [hnb]; rw [← hbox]; rfl
      · rcases hov.2 with h1 | ⟨g, cap, cur, hv, hg, hh, r⟩
        · exact .inl h1
        · exact .inr ⟨g, cap, cur, hv, Nat.zero_le _, (hb4.block g (Array.getElem?_eq_some_iff.1 hh).1).trans hh, r⟩
      · have := hvb _ e; simp only at this; omega
      · unfold World.frozen?; simp only [hnb]; simp
      · have := hvb _ e; omega
      · have := hvb _ e; omega
    · rintro b (h1 | h1 | h1 | h1 | h1)
      · omega
      · omega
      · omega
      · omega
      · have := hvb _ h1; omega
end
end Go.Proofs.Ytenjdgoammaiiaa
