/-
  Proved here: what Update of the document's maps does. Conditions: as each lemma says.
-/
import Derived.Test.YtenjdgoammaiiaaHOwM
import Derived.RegionTactic
import Derived.BigRegion
namespace Go.Proofs.Ytenjdgoammaiiaa
open Go.RowKit
set_option maxRecDepth 100000

attribute [local go_sem ↓] append_veil
theorem putN_length (zs : List Int) (p : Nat) (vz : List Int) : ∀ i, (putN zs p vz i).length = zs.length
  | 0 => rfl
  | i + 1 => by
    show ((putN zs p vz i).set _ _).length = _
    rw [List.length_set, putN_length zs p vz i]
theorem putN_get (zs : List Int) (p : Nat) (vz : List Int) (j : Nat) : ∀ i, p + i ≤ zs.length → (putN zs p vz i).getD j 0 = if p ≤ j ∧ j < p + i then vz.getD (j - p) 0 else zs.getD j 0
  | 0, _ => by rw [if_neg (by omega)]; rfl
  | i + 1, h => by
    show ((putN zs p vz i).set (p + i) (vz.getD i 0)).getD j 0 = _
    rw [set_get (by rw [putN_length]; omega), putN_get zs p vz j i (by omega)]
    by_cases e : p + i = j
    · rw [if_pos e, if_pos (by omega), ← e, Nat.add_sub_cancel_left]
    · rw [if_neg e]
      by_cases e2 : p ≤ j ∧ j < p + i
      · rw [if_pos e2, if_pos (by omega)]
      · rw [if_neg e2, if_neg (by omega)]
/-- What updating an array's slot answers, and makes. -/
def updA (ix : Int) (s n : Nat) (zs vz : List Int) (fl : Int) : Int × MSt := if ix < 0 ∨ vz.length ≠ s ∨ 2 < fl then (22, .arr s n zs) else if fl = 1 then (17, .arr s n zs) else (0, .arr s n (putN zs (ix.toNat * s) vz s))
/-- What updating a map answers, and makes. -/
def updM (kz vz : List Int) (fl : Int) : MSt → Int × MSt
  | .arr s n zs => updA (idxA n kz) s n zs vz fl
  | .hash key s n ks zs => ((putR ks zs key s kz vz fl).2.1, .hash key s n (putR ks zs key s kz vz fl).2.2.1 (putR ks zs key s kz vz fl).2.2.2)
  | x => (22, x)
theorem idxA_lt (n : Nat) (kz : List Int) : idxA n kz < n := by
  unfold idxA
  split
  · omega
  · omega
section
variable {w w' : World} {O : Nat} {a : Option Addr} {c : Nat} {pv : Nat → Value × Value × Value} {Ss : Nat → Nat → Prop} {st : List MSt} {S : Nat → Prop}
/-- A slot's bytes are a new row. -/
theorem Ra.fresh {W W3 : World} {R B cap s n k g c1 : Nat} {gs cs : Nat → Nat} {zs vz : List Int} (h : Ra W R B cap s n gs cs zs) (hd : Dim s n (s * n)) (hk : k < n) (hf : Fresh W W3 g s vz) :
    Ra (W3.setCell ⟨B, k, none⟩ (.slice (some ⟨g, 0, none⟩) s c1)) R B cap s n (fun j => if j = k then g else gs j) (fun j => if j = k then c1 else cs j) (putN zs (k * s) vz s) := by
  have hlt := h.lt hd
  have hg := hf.at_
  have h3 : Ra W3 R B cap s n gs cs zs := h.kept fun b hb => hf.below.block b (hlt b hb)
  have hBl := hlt B (.inr (.inl rfl))
  have eb : ∀ b, b ≠ B → (W3.setCell ⟨B, k, none⟩ (.slice (some ⟨g, 0, none⟩) s c1)).heap[b]? = W3.heap[b]? := fun b hb => Below.heap_setCell _ _ _ _ hb
  have eR := eb R h.RB
  have eg := eb g (by omega)
  have hat := hd.at hk
  have hgl : ∀ j, j < n → gs j < W.heap.size := fun j hj => hlt _ (.inr (.inr ⟨j, hj, rfl⟩))
  refine ⟨(World.cell?_of_block (w := W3) eR).trans h3.r0, (World.cell?_of_block (w := W3) eR).trans h3.r1, fun j hj => ?_, fun i j hi hj => ?_, fun i j hi => ?_, fun j => by rw [World.frozen?_setCell]; exact h3.fB j, by rw [putN_length]; exact h.len, fun i j hi hj e => ?_, fun j hj => ?_, fun j hj => ?_, h.RB⟩
  · rw [cell_set (h3.rows j hj)]
    by_cases e : k = j
    · subst e; simp
    · rw [if_neg e, if_neg (fun e2 => e e2.symm), if_neg (fun e2 => e e2.symm)]
  · rw [putN_get _ _ _ _ _ (by rw [h.len]; exact hat)]
    by_cases e : i = k
    · subst e
      simp only [if_true]
      rw [if_pos (by omega), Nat.add_sub_cancel_left]
      have := hf.row j hj
      rw [Nat.zero_add] at this
      exact (World.cell?_of_block (w := W3) (a := ⟨g, j, none⟩) eg).trans this
    · simp only [if_neg e]
      rw [if_neg]
      · exact (World.cell?_of_block (w := W3) (a := ⟨gs i, j, none⟩) (eb _ (h.neB i hi))).trans (h3.row i j hi hj)
      · rintro ⟨h1, h2⟩
        have h4 : (i * s + j) / s = i := place_div hj
        have h5 : (i * s + j) / s = k := by
          obtain ⟨t, ht⟩ : ∃ t, i * s + j = k * s + t := ⟨i * s + j - k * s, by omega⟩
          rw [ht]
          exact place_div (by omega)
        omega
  · by_cases e : i = k
    · simp only [if_pos e]
      exact (World.frozen?_of_block (w := W3) (a := ⟨g, j, none⟩) eg).trans (hf.free j)
    · simp only [if_neg e]
      exact (World.frozen?_of_block (w := W3) (a := ⟨gs i, j, none⟩) (eb _ (h.neB i hi))).trans (h3.free i j hi)
  · by_cases e1 : i = k <;> by_cases e2 : j = k
    · omega
    · simp only [if_pos e1, if_neg e2] at e
      have := hgl j hj; omega
    · simp only [if_neg e1, if_pos e2] at e
      have := hgl i hi; omega
    · simp only [if_neg e1, if_neg e2] at e
      exact h.inj i j hi hj e
  · by_cases e : j = k
    · simp only [if_pos e]
      have := hlt R (.inl rfl); omega
    · simp only [if_neg e]; exact h.neR j hj
  · by_cases e : j = k
    · simp only [if_pos e]; omega
    · simp only [if_neg e]; exact h.neB j hj
/-- A copy of bytes: a new row. -/
theorem copy_row {W : World} {g off len cap : Nat} {zs : List Int} (hz : zs.length = len) (h0 : 0 < len) (hl : len ≤ 1000) (hr : RowAt W g off len zs) (hg : g < W.heap.size) :
    ∃ g1 c1 W3, (appendV #[32, 32] 32 #[.slice (some ⟨W.heap.size, 0, none⟩) 0 0, .slice (some ⟨g, off, none⟩) len cap]).run Try.prog (W.alloc (.cells #[] 5)).drew = .ok (.slice (some ⟨g1, 0, none⟩) len c1) W3 ∧ Fresh W W3 g1 len zs := by
  obtain ⟨i0, hi0, hz0, hz1, hz2⟩ := info_parts u8_info
  have hown : (W.alloc (.cells #[] 5)).drew.ownsRow W.heap.size 5 1 (.slice (some ⟨W.heap.size, 0, none⟩) 0 0) 0 [] := own_empty W
  obtain ⟨v1, W3, hrun, hown3, hgr, -, -⟩ := run_append_own_at (P := Try.prog) (W.alloc (.cells #[] 5)).drew W.heap.size 32 32 5 i0 _ 1 1 Try.underlying32 hi0 hz0 hz1 hz2 rfl (by omega) _ 0 [] hown ⟨g, off, none⟩ len cap (u8s zs)
    (by rw [u8s_length, hz]; omega) (fun j u hu => by
      rw [add_lit]
      show (W.alloc (.cells #[] 5)).cell? _ = _
      rw [World.cell?_alloc_lt _ _ _ hg]
      exact u8s_cells hz hr j u hu) u8s_one (by unfold maxLen; omega) (by omega) (by show W.heap.size ≤ (W.alloc _).heap.size; simp)
  have hb : Below W.heap.size W W3 := (((Below.refl _ _).alloc (Nat.le_refl _) _).drew).grown hgr (by show W.heap.size ≤ (W.alloc _).heap.size; simp) (fun k hk => by
    first | (have h9 : some W.heap.size = some k := hk; injection h9 with h9; omega) | (have h9 : some k = some W.heap.size := hk; injection h9 with h9; omega))
  rw [Nat.zero_add, List.nil_append] at hown3
  obtain ⟨g1, c1, rfl, hf⟩ := fresh_of_own hz h0 hown3 hb
  exact ⟨g1, c1, W3, hrun, hf⟩
theorem ow_update_no (h : Ow w O a c pv Ss st) {m : Int} (hk : kindV st m ≠ 1 ∧ kindV st m ≠ 2) (v1 v2 : Value) (fl : Int) : Calls Try.prog 24 #[ptrV O, .int .i64 m, v1, v2, .int .u64 fl] w (fun e w' => e = .returned (.int .i64 22) ∧ Below w.heap.size w w') := by
  have HK := Lib.hid (ow_kind h m)
  generalize kindV st m = kI at HK hk
  have hne : (kI == 1) = false := by simpa using hk.1
  have hne2 : (kI == 2) = false := by simpa using hk.2
  clear h hk
  unfold Ret ptrV at *
  go_enter Try.func24, Try.ntmps24
  go_wp2_with (go_at_call 50; refine HK.out.mono ?_; rintro e w1 ⟨rfl, rfl⟩)
  go_ret
  exact ⟨rfl, Below.refl _ _⟩
theorem ow_update_hash (h : Ow w O a c pv Ss st) (hS : ∀ b, S b ↔ OwS O a Ss st.length b) {q key s n : Nat} {ks : List ByteArray} {zs : List Int} (hq : q < st.length) (hx : st.getD q .ring = .hash key s n ks zs) {v1 v2 : Value} {kz vz : List Int} {fl : Int} (hv1 : KeyAt w v1 kz) (hv2 : KeyAt w v2 vz)
    (hsep : ∀ a len c, v2 = .slice (some a) len c → 0 < len → ¬ S a.block) :
    Calls Try.prog 24 #[ptrV O, .int .i64 (q : Int), v1, v2, .int .u64 fl] w (DocQ S O (.int .i64 (putR ks zs key s kz vz fl).2.1) (st.set q (.hash key s n (putR ks zs key s kz vz fl).2.2.1 (putR ks zs key s kz vz fl).2.2.2)) w) := by
  have HK := Lib.hid (ow_kind h q)
  rw [kindV_in hq, hx, show ((MSt.hash key s n ks zs).kind : Int) = 2 from rfl] at HK
  have c0 := h.c0
  obtain ⟨g, rfl, -, -, -, -, -, k5, -⟩ := h.row q hq
  have hdm := h.dm q hq
  rw [hx] at hdm
  generalize hpv : pv q = p at hdm k5
  obtain ⟨av, hv', lv⟩ := p
  simp only at hdm k5
  have HH := Lib.hid h
  have HX := Lib.hid hx
  have HP := Lib.hid hpv
  have HSS := Lib.hid hS
  cases hdm with
  | @hash H K R B cap _ _ _ gs _ _ hd hk hk8 hf hS2 =>
    have hsub : ∀ b, PutS K n gs b → Ss q b := fun b hb => (hS2 b).2 (putS_ref b hb)
    have HI := Lib.hid (put_ref H K R B cap key s n (s * n) gs ks zs v1 v2 kz vz fl w hd hf hk hv1 hv2 (fun a len c e h0 hb => hsep a len c e h0 ((hS _).2 (.inr (.inr ⟨q, hq, hsub _ hb⟩)))))
    have HD := Lib.hid (And.intro hd (And.intro hk (And.intro hk8 (And.intro hS2 hsub))))
    clear h hx hS hpv hd hk hk8 hf hS2 hsub hsep hv1 hv2
    generalize putR ks zs key s kz vz fl = r at HI ⊢
    obtain ⟨r0, r1, ks2, zs2⟩ := r
    unfold Ret ptrV PutR at *
    simp only at HI ⊢
    go_enter Try.func24, Try.ntmps24
    go_wp2_with (first
      | (go_at_call 50; refine HK.out.mono ?_; rintro e w1 ⟨rfl, rfl⟩)
      | (go_at_call 52; refine HI.out.mono ?_; rintro e w1 ⟨rfl, hf1, ht1⟩; have HF1 := Lib.hid hf1; have HT1 := Lib.hid ht1; clear hf1 ht1))
    go_ret
    obtain ⟨hd, hk, hk8, hS2, hsub⟩ := HD.out
    exact HH.out.docq HSS.out hq (S2 := Ss q) (by rw [HP.out]; exact .hash hd hk hk8 HF1.out hS2) (by rw [HX.out]; rfl) (by rw [HX.out]; rfl) (by rw [HX.out]; rfl) (by rw [HX.out]; rfl) rfl (HT1.out.more hsub) fun b hb => .inl hb
set_option maxHeartbeats 2000000 in
theorem ow_update_arr (h : Ow w O a c pv Ss st) (hS : ∀ b, S b ↔ OwS O a Ss st.length b) {q s n : Nat} {zs : List Int} (hq : q < st.length) (hx : st.getD q .ring = .arr s n zs) {v1 v2 : Value} {kz vz : List Int} {fl : Int} (hv1 : KeyAt w v1 kz) (hb : IsBytes kz) (hv2 : KeyAt w v2 vz) :
    Calls Try.prog 24 #[ptrV O, .int .i64 (q : Int), v1, v2, .int .u64 fl] w (DocQ S O (.int .i64 (updM kz vz fl (.arr s n zs)).1) (st.set q (updM kz vz fl (.arr s n zs)).2) w) := by
  have hRD : RD w S O st := ⟨a, c, pv, Ss, h, hS⟩
  have HK := Lib.hid (ow_kind h q)
  rw [kindV_in hq, hx, show ((MSt.arr s n zs).kind : Int) = 1 from rfl] at HK
  have HI := Lib.hid (ow_index h hq hx hv1 hb)
  have hlt := idxA_lt n kz
  have HH := Lib.hid h
  have HX := Lib.hid hx
  have HSS := Lib.hid hS
  have HQ := Lib.hid hq
  have HRD := Lib.hid hRD
  have c0 := h.c0
  obtain ⟨g, rfl, -, -, k2, -, k4, -, -⟩ := h.row q hq
  have hdm := h.dm q hq
  rw [hx] at hdm k2
  generalize hpv : pv q = p at hdm k4
  obtain ⟨av, hv', lv⟩ := p
  simp only at hdm k4
  have HP := Lib.hid hpv
  obtain ⟨a2, c2, rfl⟩ := keyLen hv2
  have HV2 := Lib.hid hv2
  have hself : st.set q (.arr s n zs) = st := by rw [← hx]; exact set_selfM hq
  have HSELF := Lib.hid hself
  cases hdm with
  | @arr R B cap _ _ gs cs _ hd ra hS2 =>
    have HD := Lib.hid (And.intro hd hS2)
    have HRA := Lib.hid ra
    have hn16 := hd.n1
    have hs1 := hd.s0
    have hs32 := hd.s1
    rw [show updM kz vz fl (.arr s n zs) = updA (idxA n kz) s n zs vz fl from rfl]
    generalize idxA n kz = ix at HI hlt ⊢
    unfold updA
    clear h hx hS hRD hpv hv1 hb hv2 hself hd ra hS2
    unfold MSt.val at k2
    simp only at k2
    unfold Ret ptrV at *
    by_cases h1 : ix < 0
    · rw [if_pos (.inl h1)]
      simp only
      rw [HSELF.out]
      go_enter Try.func24, Try.ntmps24
      go_wp2_with (first
        | (go_at_call 50; refine HK.out.mono ?_; rintro e w1 ⟨rfl, rfl⟩)
        | (go_at_call 51; refine HI.out.mono ?_; rintro e w1 ⟨rfl, hb1⟩; have HB1 := Lib.hid hb1; have H1 := Lib.hid (HH.out.stay hb1); have d0 := H1.out.c0; obtain ⟨g', eg', -, -, d2, -, d4, -, -⟩ := H1.out.row q HQ.out; injection eg' with eg'; injection eg' with eg' _ _; subst eg'; rw [HX.out] at d2; rw [HP.out] at d4; replace d2 : w1.cell? ⟨g, q * 7 + 2, none⟩ = some (.int .i64 (s : Int)) := d2; clear hb1))
      go_ret
      exact HRD.out.same HB1.out rfl
    · have h1' : (0 : Int) ≤ ix := by omega
      by_cases h2 : vz.length = s
      · by_cases h3 : 2 < fl
        · rw [if_pos (.inr (.inr h3))]
          simp only
          rw [HSELF.out]
          have h2' : ((vz.length : Int) != (s : Int)) = false := by simp; omega
          go_enter Try.func24, Try.ntmps24
          go_wp2_with (first
            | (go_at_call 50; refine HK.out.mono ?_; rintro e w1 ⟨rfl, rfl⟩)
            | (go_at_call 51; refine HI.out.mono ?_; rintro e w1 ⟨rfl, hb1⟩; have HB1 := Lib.hid hb1; have H1 := Lib.hid (HH.out.stay hb1); have d0 := H1.out.c0; obtain ⟨g', eg', -, -, d2, -, d4, -, -⟩ := H1.out.row q HQ.out; injection eg' with eg'; injection eg' with eg' _ _; subst eg'; rw [HX.out] at d2; rw [HP.out] at d4; replace d2 : w1.cell? ⟨g, q * 7 + 2, none⟩ = some (.int .i64 (s : Int)) := d2; clear hb1))
          go_ret
          exact HRD.out.same HB1.out rfl
        · have h3' : ¬ (ix < 0 ∨ vz.length ≠ s ∨ 2 < fl) := by omega
          have h2' : ((vz.length : Int) != (s : Int)) = false := by simp; omega
          have h3'' : fl ≤ 2 := by omega
          rw [if_neg h3']
          by_cases h4 : fl = 1
          · subst h4
            rw [if_pos rfl]
            simp only
            rw [HSELF.out]
            go_enter Try.func24, Try.ntmps24
            go_wp2_with (first
              | (go_at_call 50; refine HK.out.mono ?_; rintro e w1 ⟨rfl, rfl⟩)
              | (go_at_call 51; refine HI.out.mono ?_; rintro e w1 ⟨rfl, hb1⟩; have HB1 := Lib.hid hb1; have H1 := Lib.hid (HH.out.stay hb1); have d0 := H1.out.c0; obtain ⟨g', eg', -, -, d2, -, d4, -, -⟩ := H1.out.row q HQ.out; injection eg' with eg'; injection eg' with eg' _ _; subst eg'; rw [HX.out] at d2; rw [HP.out] at d4; replace d2 : w1.cell? ⟨g, q * 7 + 2, none⟩ = some (.int .i64 (s : Int)) := d2; clear hb1))
            go_ret
            exact HRD.out.same HB1.out rfl
          · rw [if_neg h4]
            simp only
            have h4' : (fl == 1) = false := by simpa using h4
            obtain ⟨i, rfl⟩ := Int.eq_ofNat_of_zero_le h1'
            have hin : i < n := by omega
            obtain ⟨gv, ov, rfl, hrv, hgv⟩ : ∃ gv ov, a2 = some ⟨gv, ov, none⟩ ∧ RowAt w gv ov s vz ∧ gv < w.heap.size := by
              have hv := HV2.out
              generalize hL : vz.length = l at hv
              cases hv with
              | empty a' c' => omega
              | row g' o' l' c' kz' hl' hr' hg' => exact ⟨g', o', rfl, by rw [← h2, hL]; exact hr', hg' (by omega)⟩
            have HRV := Lib.hid hrv
            have HGV := Lib.hid hgv
            clear hgv hrv
            rw [Int.toNat_natCast]
            go_enter Try.func24, Try.ntmps24
            go_wp2_with (first
              | (go_at_call 50; refine HK.out.mono ?_; rintro e w1 ⟨rfl, rfl⟩)
              | (go_at_call 51; refine HI.out.mono ?_; rintro e w1 ⟨rfl, hb1⟩; have HB1 := Lib.hid hb1; have H1 := Lib.hid (HH.out.stay hb1); have d0 := H1.out.c0; obtain ⟨g', eg', -, -, d2, -, d4, -, -⟩ := H1.out.row q HQ.out; injection eg' with eg'; injection eg' with eg' _ _; subst eg'; rw [HX.out] at d2; rw [HP.out] at d4; replace d2 : w1.cell? ⟨g, q * 7 + 2, none⟩ = some (.int .i64 (s : Int)) := d2; clear hb1))
            obtain ⟨hd, hS2⟩ := HD.out
            have hbb := HB1.out
            have hra : Ra w1 R B cap s n gs cs zs := HRA.out.kept fun b hb => hbb.block b (HRA.out.lt hd b hb)
            obtain ⟨g1, c1, W3, hrun, hf⟩ := copy_row (W := w1) (cap := c2) h2 hs1 (by omega) (fun j hj => (hbb.cell (p := ⟨gv, ov + j, none⟩) HGV.out).trans (HRV.out j hj)) (Nat.lt_of_lt_of_le HGV.out hbb.size)
            have hOl := cell_block_lt d0
            have hgl := cell_block_lt d4
            have hRl := cell_block_lt hra.r1
            have hBl := cell_block_lt (hra.rows i hin)
            have r1 := hra.r1
            have hb3 := hf.below
            have e0 : (w1.alloc (.cells #[] 5)).cell? ⟨O, 0, none⟩ = some (.slice (some ⟨g, 0, none⟩) st.length c) := by rw [World.cell?_alloc_lt _ _ _ hOl]; exact d0
            have e4 : (w1.alloc (.cells #[] 5)).cell? ⟨g, q * 7 + 4, none⟩ = some (.pointer (some ⟨R, 0, none⟩)) := by rw [World.cell?_alloc_lt _ _ _ hgl]; exact d4
            have e1 : (w1.alloc (.cells #[] 5)).cell? ⟨R, 1, none⟩ = some (.slice (some ⟨B, 0, none⟩) n cap) := by rw [World.cell?_alloc_lt _ _ _ hRl]; exact r1
            have f0 := (hb3.cell (p := ⟨O, 0, none⟩) hOl).trans d0
            have f4 := (hb3.cell (p := ⟨g, q * 7 + 4, none⟩) hgl).trans d4
            have f1 := (hb3.cell (p := ⟨R, 1, none⟩) hRl).trans r1
            have fB := (hb3.cell (p := ⟨B, i, none⟩) hBl).trans (hra.rows i hin)
            have fF : W3.frozen? ⟨B, i, none⟩ = false := (hb3.frozen (p := ⟨B, i, none⟩) hBl).trans (hra.fB i)
            have hfin := hra.fresh hd hin hf (c1 := c1)
            have hDQ : DocQ S O (.int .i64 0) (st.set q (.arr s n (putN zs (i * s) vz s))) w1 (.returned (.int .i64 0)) (W3.setCell ⟨B, i, none⟩ (.slice (some ⟨g1, 0, none⟩) s c1)) := by
              refine H1.out.docq HSS.out HQ.out (S2 := RaS R B n (fun j => if j = i then g1 else gs j)) (by rw [HP.out]; exact DM.arr hd hfin fun b => Iff.rfl) (by rw [HX.out]; rfl) (by rw [HX.out]; rfl) (by rw [HX.out]; rfl) (by rw [HX.out]; rfl) rfl ?_ ?_
              · exact (Turned.of hb3).set (a := ⟨B, i, none⟩) ((hS2 B).2 (.inr (.inl rfl))) _
              · rintro b (h1 | h1 | ⟨j, hj, h1⟩)
                · exact .inl ((hS2 b).2 (.inl h1))
                · exact .inl ((hS2 b).2 (.inr (.inl h1)))
                · by_cases e : j = i
                  · simp only [if_pos e] at h1
                    exact .inr (by rw [h1]; exact hf.at_)
                  · simp only [if_neg e] at h1
                    exact .inl ((hS2 b).2 (.inr (.inr ⟨j, hj, h1⟩)))
            have HDQ := Lib.hid (hDQ.ahead hbb)
            clear hDQ hfin hf hb3 hra hbb hd hS2
            go_region
            go_wp2
            go_ret
            exact HDQ.out
      · have h2' : ((vz.length : Int) != (s : Int)) = true := by simp; omega
        rw [if_pos (.inr (.inl h2))]
        simp only
        rw [HSELF.out]
        go_enter Try.func24, Try.ntmps24
        go_wp2_with (first
          | (go_at_call 50; refine HK.out.mono ?_; rintro e w1 ⟨rfl, rfl⟩)
          | (go_at_call 51; refine HI.out.mono ?_; rintro e w1 ⟨rfl, hb1⟩; have HB1 := Lib.hid hb1; have H1 := Lib.hid (HH.out.stay hb1); have d0 := H1.out.c0; obtain ⟨g', eg', -, -, d2, -, d4, -, -⟩ := H1.out.row q HQ.out; injection eg' with eg'; injection eg' with eg' _ _; subst eg'; rw [HX.out] at d2; rw [HP.out] at d4; replace d2 : w1.cell? ⟨g, q * 7 + 2, none⟩ = some (.int .i64 (s : Int)) := d2; clear hb1))
        go_ret
        exact HRD.out.same HB1.out rfl
/-- Update, in one. -/
theorem ow_update (h : RD w S O st) (m : Int) {v1 v2 : Value} {kz vz : List Int} {fl : Int} (hv1 : KeyAt w v1 kz) (hb : IsBytes kz) (hv2 : KeyAt w v2 vz) (hsep : ∀ a len c, v2 = .slice (some a) len c → 0 < len → ¬ S a.block) :
    Calls Try.prog 24 #[ptrV O, .int .i64 m, v1, v2, .int .u64 fl] w (DocQ S O (.int .i64 (opR 22 (updM kz vz fl) st m).1) (opR 22 (updM kz vz fl) st m).2 w) := by
  have hRD := h
  obtain ⟨a, c, pv, Ss, h, hS⟩ := h
  by_cases hm : 0 ≤ m ∧ m < st.length
  · obtain ⟨q, rfl⟩ := Int.eq_ofNat_of_zero_le hm.1
    have hq : q < st.length := by omega
    obtain ⟨x, hx⟩ : ∃ x, st.getD q .ring = x := ⟨_, rfl⟩
    have hdm := h.dm q hq
    rw [opR_in hq hx]
    rw [hx] at hdm
    have no : x.kind ≠ 1 → x.kind ≠ 2 → (updM kz vz fl x = (22, x)) → Calls Try.prog 24 #[ptrV O, .int .i64 (q : Int), v1, v2, .int .u64 fl] w (DocQ S O (.int .i64 (updM kz vz fl x).1) (st.set q (updM kz vz fl x).2) w) := fun k1 k2 e => by
      rw [e, ← hx]
      simp only
      rw [set_selfM hq]
      exact (ow_update_no h (by rw [kindV_in hq, hx]; omega) v1 v2 fl).mono fun e w' ⟨he, hb⟩ => hRD.same hb he
    cases x with
    | arr s n zs => exact ow_update_arr h hS hq hx hv1 hb hv2
    | hash key s n ks zs => exact ow_update_hash h hS hq hx hv1 hv2 hsep
    | loc kd s n os zs =>
      have hk : kd = 3 ∨ kd = 4 := by
        generalize pv q = p at hdm
        obtain ⟨av, hv', lv⟩ := p
        cases hdm with
        | loc hd hk h hS => exact hk
      exact no (by show kd ≠ 1; omega) (by show kd ≠ 2; omega) rfl
    | ring => exact no (by decide) (by decide) rfl
  · rw [opR_out hm]
    exact (ow_update_no h (by rw [kindV_out hm]; decide) v1 v2 fl).mono fun e w' ⟨he, hb⟩ => hRD.same hb he
end
end Go.Proofs.Ytenjdgoammaiiaa
