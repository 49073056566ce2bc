/-
  Proved here: what Delete, Get and Drop of the document's maps do. Conditions: as each lemma says.
-/
import Derived.Test.YtenjdgoammaiiaaHOwL
import Derived.Deep.RegionWith
namespace Go.Proofs.Ytenjdgoammaiiaa
open Go.RowKit
set_option maxRecDepth 100000

theorem set_selfM {st : List MSt} {q : Nat} (hq : q < st.length) : st.set q (st.getD q .ring) = st := by
  rw [List.getD_eq_getElem?_getD, List.getElem?_eq_getElem hq]
  simp
/-- What is done to one map, and what it answers. -/
def opR {α : Type} (no : α) (f : MSt → α × MSt) (st : List MSt) (m : Int) : α × List MSt := if 0 ≤ m ∧ m < st.length then ((f (st.getD m.toNat .ring)).1, st.set m.toNat (f (st.getD m.toNat .ring)).2) else (no, st)
theorem opR_in {α : Type} {no : α} {f : MSt → α × MSt} {st : List MSt} {q : Nat} {x : MSt} (hq : q < st.length) (hx : st.getD q .ring = x) : opR no f st q = ((f x).1, st.set q (f x).2) := by
  unfold opR
  rw [if_pos (by omega), Int.toNat_natCast, hx]
theorem opR_out {α : Type} {no : α} {f : MSt → α × MSt} {st : List MSt} {m : Int} (h : ¬ (0 ≤ m ∧ m < st.length)) : opR no f st m = (no, st) := if_neg h
def delM (kz : List Int) : MSt → Int × MSt
  | .hash key s n ks zs => (dropE ks key kz, .hash key s n (dropK ks key kz) zs)
  | x => (22, x)
def getM (o : Ob) (c : Bool) : MSt → (Int × Int) × MSt
  | .loc kd s n os zs => (((getR os zs s n o c).1, (getR os zs s n o c).2.1), .loc kd s n (getR os zs s n o c).2.2.1 (getR os zs s n o c).2.2.2)
  | x => ((0, 22), x)
def dropM (o : Ob) : MSt → Int × MSt
  | .loc kd s n os zs => ((dropR os zs s o).1, .loc kd s n (dropR os zs s o).2.1 (dropR os zs s o).2.2)
  | x => (22, x)
section
variable {w w' : World} {O : Nat} {a : Option Addr} {c : Nat} {pv : Nat → Value × Value × Value} {Ss : Nat → Nat → Prop} {st : List MSt} {S : Nat → Prop}
/-- Of a map of another kind. -/
theorem ow_delete_no (h : Ow w O a c pv Ss st) {m : Int} (hk : kindV st m ≠ 2) (v : Value) : Calls Try.prog 26 #[ptrV O, .int .i64 m, v] w (fun e w' => e = .returned (.int .i64 22) ∧ Below w.heap.size w w') := by
  have HK := Lib.hid (ow_kind h m)
  generalize kindV st m = kI at HK hk
  have hne : (kI != 2) = true := by simpa using hk
  clear h hk
  unfold Ret ptrV at *
  go_enter Try.func26, Try.ntmps26
  go_wp2_with (go_at_call 50; refine HK.out.mono ?_; rintro e w1 ⟨rfl, rfl⟩)
  go_ret
  exact ⟨rfl, Below.refl _ _⟩
theorem ow_delete (h : RD w S O st) (m : Int) {v : Value} {kz : List Int} (hv : KeyAt w v kz) : Calls Try.prog 26 #[ptrV O, .int .i64 m, v] w (DocQ S O (.int .i64 (opR 22 (delM kz) st m).1) (opR 22 (delM kz) st m).2 w) := by
  have hRD := h
  obtain ⟨a, c, pv, Ss, h, hS⟩ := h
  by_cases hm : 0 ≤ m ∧ m < st.length
  · obtain ⟨q, rfl⟩ := Int.eq_ofNat_of_zero_le hm.1
    have hq : q < st.length := by omega
    obtain ⟨x, hx⟩ : ∃ x, st.getD q .ring = x := ⟨_, rfl⟩
    rw [opR_in hq hx]
    have hdm := h.dm q hq
    rw [hx] at hdm
    cases x with
    | hash key s n ks zs =>
      unfold delM
      simp only
      have c0 := h.c0
      obtain ⟨g, rfl, -, -, -, -, -, k5, -⟩ := h.row q hq
      have HK := Lib.hid (ow_kind h q)
      rw [kindV_in hq, hx, show ((MSt.hash key s n ks zs).kind : Int) = 2 from rfl] at HK
      have hdm0 := hdm
      obtain ⟨ak, ck, rfl⟩ := keyLen hv
      generalize hpv : pv q = p at hdm k5
      obtain ⟨av, hv', lv⟩ := p
      simp only at hdm k5
      cases hdm with
      | @hash H K R B cap _ _ _ gs _ _ hd hk hk8 hf hS2 =>
        have HI := Lib.hid (drop_ref H K R B cap key s n (s * n) gs ks zs ak kz.length ck kz w hf hd.n1 hd.n0 hd.s0 hk rfl hv)
        have HH := Lib.hid h
        have HX := Lib.hid hx
        clear hRD h hx hf hdm0
        unfold Ret ptrV DropPost at *
        go_enter Try.func26, Try.ntmps26
        go_wp2_with (first
          | (go_at_call 50; refine HK.out.mono ?_; rintro e w1 ⟨rfl, rfl⟩)
          | (go_at_call 54; refine HI.out.mono ?_; rintro e w1 ⟨rfl, hf1, ht1⟩; have HF1 := Lib.hid hf1; have HT1 := Lib.hid ht1; clear hf1 ht1))
        go_ret
        refine HH.out.docq hS hq (S2 := Ss q) (by rw [hpv]; exact .hash hd hk hk8 HF1.out hS2) (by rw [HX.out]; rfl) (by rw [HX.out]; rfl) (by rw [HX.out]; rfl) (by rw [HX.out]; rfl) rfl (HT1.out.more fun b hb => (hS2 b).2 (.inr (.inl hb))) fun b hb => .inl hb
    | arr s n zs =>
      have hk : kindV st q ≠ 2 := by rw [kindV_in hq, hx]; show ((1 : Nat) : Int) ≠ 2; decide
      unfold delM
      simp only
      rw [← hx, set_selfM hq]
      exact (ow_delete_no h hk v).mono fun e w' ⟨he, hb⟩ => hRD.same hb he
    | loc kd s n os zs =>
      have hk : kindV st q ≠ 2 := by
        rw [kindV_in hq, hx]
        generalize pv q = p at hdm
        obtain ⟨av, hv', lv⟩ := p
        cases hdm with
        | loc hd hk h hS => show ((kd : Nat) : Int) ≠ 2; omega
      unfold delM
      simp only
      rw [← hx, set_selfM hq]
      exact (ow_delete_no h hk v).mono fun e w' ⟨he, hb⟩ => hRD.same hb he
    | ring =>
      have hk : kindV st q ≠ 2 := by rw [kindV_in hq, hx]; decide
      unfold delM
      simp only
      rw [← hx, set_selfM hq]
      exact (ow_delete_no h hk v).mono fun e w' ⟨he, hb⟩ => hRD.same hb he
  · rw [opR_out hm]
    exact (ow_delete_no h (by rw [kindV_out hm]; decide) v).mono fun e w' ⟨he, hb⟩ => hRD.same hb he
theorem DocQ.ahead {W : World} {v : Value} {e : Ending} (h : DocQ S O v st w e w') (hb : Below W.heap.size W w) : DocQ S O v st W e w' := by
  obtain ⟨S', he, hr, ht, hS⟩ := h
  exact ⟨S', he, hr, (Turned.of hb).trans ht, fun b hb2 => (hS b hb2).imp id fun h1 => Nat.le_trans hb.size h1⟩
theorem Ow.locq {q kd s n : Nat} {os os2 : List Ob} {zs zs2 : List Int} {H : Nat} {S2 : Nat → Prop} {v : Value} {e : Ending} (h : Ow w O a c pv Ss st) (hS : ∀ b, S b ↔ OwS O a Ss st.length b) (hq : q < st.length) (hx : st.getD q .ring = .loc kd s n os zs) (hpv : pv q = (.pointer none, .pointer none, .pointer (some ⟨H, 0, none⟩)))
    (hd : Dim s n (s * n)) (hk : kd = 3 ∨ kd = 4) (he : e = .returned v) (hp : PD s n (s * n) w' S2 H os2 zs2) (ht : Turned (Ss q) w w') (hS2 : ∀ b, S2 b → Ss q b ∨ w.heap.size ≤ b) : DocQ S O v (st.set q (.loc kd s n os2 zs2)) w e w' := by
  obtain ⟨R, B, cap, kv, gs, lf, hSL⟩ := hp
  exact h.docq hS hq (by rw [hpv]; exact DM.loc hd hk lf hSL) (by rw [hx]; rfl) (by rw [hx]; rfl) (by rw [hx]; rfl) (by rw [hx]; rfl) he ht hS2
/-- Of a map that is no storage. -/
theorem ow_get_no (h : Ow w O a c pv Ss st) {m : Int} (hk : kindV st m ≠ 3 ∧ kindV st m ≠ 4) (o : Ob) (cr : Bool) : Calls Try.prog 28 #[ptrV O, .int .i64 m, obV o, .bool cr] w (fun e w' => e = .returned (.tuple #[.int .i64 0, .int .i64 22]) ∧ Below w.heap.size w w') := by
  obtain ⟨x, y⟩ := o
  have hb : Below w.heap.size w (w.alloc (.cells #[.int .i64 x, .int .i64 y] 34)) := box_below w _
  have HB := Lib.hid hb
  have HK := Lib.hid (ow_kind (h.stay hb) m)
  generalize kindV st m = kI at HK hk
  have hne : (kI != 3) = true := by simpa using hk.1
  have hne2 : (kI != 4) = true := by simpa using hk.2
  clear h hk hb
  unfold Ret ptrV obV at *
  go_enter Try.func28, Try.ntmps28
  go_wp2_with (go_at_call 50; refine HK.out.mono ?_; rintro e w1 ⟨rfl, rfl⟩)
  go_ret2
  exact ⟨rfl, HB.out⟩
theorem ow_drop_no (h : Ow w O a c pv Ss st) {m : Int} (hk : kindV st m ≠ 3 ∧ kindV st m ≠ 4) (o : Ob) : Calls Try.prog 30 #[ptrV O, .int .i64 m, obV o] w (fun e w' => e = .returned (.int .i64 22) ∧ Below w.heap.size w w') := by
  obtain ⟨x, y⟩ := o
  have hb : Below w.heap.size w (w.alloc (.cells #[.int .i64 x, .int .i64 y] 34)) := box_below w _
  have HB := Lib.hid hb
  have HK := Lib.hid (ow_kind (h.stay hb) m)
  generalize kindV st m = kI at HK hk
  have hne : (kI != 3) = true := by simpa using hk.1
  have hne2 : (kI != 4) = true := by simpa using hk.2
  clear h hk hb
  unfold Ret ptrV obV at *
  go_enter Try.func30, Try.ntmps30
  go_wp2_with (go_at_call 50; refine HK.out.mono ?_; rintro e w1 ⟨rfl, rfl⟩)
  go_ret
  exact ⟨rfl, HB.out⟩
set_option maxHeartbeats 2000000 in
theorem ow_get_loc (h : Ow w O a c pv Ss st) (hS : ∀ b, S b ↔ OwS O a Ss st.length b) {q kd s n : Nat} {os : List Ob} {zs : List Int} (hq : q < st.length) (hx : st.getD q .ring = .loc kd s n os zs) (o : Ob) (cr : Bool) :
    Calls Try.prog 28 #[ptrV O, .int .i64 (q : Int), obV o, .bool cr] w (DocQ S O (.tuple #[.int .i64 (getR os zs s n o cr).1, .int .i64 (getR os zs s n o cr).2.1]) (st.set q (.loc kd s n (getR os zs s n o cr).2.2.1 (getR os zs s n o cr).2.2.2)) w) := by
  obtain ⟨x, y⟩ := o
  have hb : Below w.heap.size w (w.alloc (.cells #[.int .i64 x, .int .i64 y] 34)) := box_below w _
  have HB := Lib.hid hb
  have h1 := h.stay hb
  have HK := Lib.hid (ow_kind h1 q)
  rw [kindV_in hq, hx, show ((MSt.loc kd s n os zs).kind : Int) = (kd : Int) from rfl] at HK
  have h2 := h1.stay ((Below.refl _ _).drew)
  have c0 := h1.c0
  have d0 := h2.c0
  obtain ⟨g, rfl, -, -, -, -, -, -, k6⟩ := h1.row q hq
  obtain ⟨g', eg, -, -, -, -, -, -, d6⟩ := h2.row q hq
  injection eg with eg
  injection eg with eg _ _
  subst eg
  have hdm := h2.dm q hq
  rw [hx] at hdm
  have hx0 : (w.alloc (.cells #[.int .i64 x, .int .i64 y] 34)).cell? ⟨w.heap.size, 0, none⟩ = some (.int .i64 x) := by simp [go_sem]
  have hy0 : (w.alloc (.cells #[.int .i64 x, .int .i64 y] 34)).cell? ⟨w.heap.size, 1, none⟩ = some (.int .i64 y) := by simp [go_sem]
  generalize hpv : pv q = p at hdm k6 d6
  obtain ⟨av, hv', lv⟩ := p
  simp only at hdm k6 d6
  have HH := Lib.hid h2
  have HX := Lib.hid hx
  have HP := Lib.hid hpv
  have HSS := Lib.hid hS
  have hk' : (kd : Int) = 3 ∨ (kd : Int) = 4 := by
    cases hdm with
    | loc hd hk h hS => omega
  cases hdm with
  | @loc H R B cap _ _ _ kv gs _ _ hd hk lf hS2 =>
    have HI := Lib.hid (lo_get (S := Ss q) (o := (x, y)) (c := cr) ⟨R, B, cap, kv, gs, lf, hS2⟩ hd)
    have HD := Lib.hid (And.intro hd hk)
    clear h h1 h2 hx hS hb hpv hd hk lf hS2
    generalize getR os zs s n (x, y) cr = r at HI ⊢
    obtain ⟨r1, r2, os2, zs2⟩ := r
    unfold Ret ptrV obV GetP at *
    simp only at HI ⊢
    generalize (kd : Int) = kI at HK hk'
    have e34 : (kI != 3) = false ∨ ((kI != 3) = true ∧ (kI != 4) = false) := by
      rcases hk' with rfl | rfl
      · exact .inl rfl
      · exact .inr ⟨rfl, rfl⟩
    clear hk'
    rcases e34 with e3 | ⟨e3, e4⟩
    · go_enter Try.func28, Try.ntmps28
      go_wp2_with (go_at_call 50; refine HK.out.mono ?_; rintro e w1 ⟨rfl, rfl⟩)
      go_region_with (go_at_call 56; refine HI.out.mono ?_; rintro e w1 ⟨S2, rfl, hp1, ht1, hS1⟩; have HP1 := Lib.hid hp1; have HT1 := Lib.hid ht1; have HS1 := Lib.hid hS1; clear hp1 ht1 hS1)
      all_goals
        go_wp2
        go_ret2
        exact (HH.out.locq HSS.out hq HX.out HP.out HD.out.1 HD.out.2 rfl HP1.out HT1.out HS1.out).ahead HB.out.drew
    · go_enter Try.func28, Try.ntmps28
      go_wp2_with (go_at_call 50; refine HK.out.mono ?_; rintro e w1 ⟨rfl, rfl⟩)
      go_region_with (go_at_call 56; refine HI.out.mono ?_; rintro e w1 ⟨S2, rfl, hp1, ht1, hS1⟩; have HP1 := Lib.hid hp1; have HT1 := Lib.hid ht1; have HS1 := Lib.hid hS1; clear hp1 ht1 hS1)
      all_goals
        go_wp2
        go_ret2
        exact (HH.out.locq HSS.out hq HX.out HP.out HD.out.1 HD.out.2 rfl HP1.out HT1.out HS1.out).ahead HB.out.drew
set_option maxHeartbeats 2000000 in
theorem ow_drop_loc (h : Ow w O a c pv Ss st) (hS : ∀ b, S b ↔ OwS O a Ss st.length b) {q kd s n : Nat} {os : List Ob} {zs : List Int} (hq : q < st.length) (hx : st.getD q .ring = .loc kd s n os zs) (o : Ob) :
    Calls Try.prog 30 #[ptrV O, .int .i64 (q : Int), obV o] w (DocQ S O (.int .i64 (dropR os zs s o).1) (st.set q (.loc kd s n (dropR os zs s o).2.1 (dropR os zs s o).2.2)) w) := by
  obtain ⟨x, y⟩ := o
  have hb : Below w.heap.size w (w.alloc (.cells #[.int .i64 x, .int .i64 y] 34)) := box_below w _
  have HB := Lib.hid hb
  have h1 := h.stay hb
  have HK := Lib.hid (ow_kind h1 q)
  rw [kindV_in hq, hx, show ((MSt.loc kd s n os zs).kind : Int) = (kd : Int) from rfl] at HK
  have h2 := h1.stay ((Below.refl _ _).drew)
  have c0 := h1.c0
  have d0 := h2.c0
  obtain ⟨g, rfl, -, -, -, -, -, -, k6⟩ := h1.row q hq
  obtain ⟨g', eg, -, -, -, -, -, -, d6⟩ := h2.row q hq
  injection eg with eg
  injection eg with eg _ _
  subst eg
  have hdm := h2.dm q hq
  rw [hx] at hdm
  have hx0 : (w.alloc (.cells #[.int .i64 x, .int .i64 y] 34)).cell? ⟨w.heap.size, 0, none⟩ = some (.int .i64 x) := by simp [go_sem]
  have hy0 : (w.alloc (.cells #[.int .i64 x, .int .i64 y] 34)).cell? ⟨w.heap.size, 1, none⟩ = some (.int .i64 y) := by simp [go_sem]
  generalize hpv : pv q = p at hdm k6 d6
  obtain ⟨av, hv', lv⟩ := p
  simp only at hdm k6 d6
  have HH := Lib.hid h2
  have HX := Lib.hid hx
  have HP := Lib.hid hpv
  have HSS := Lib.hid hS
  have hk' : (kd : Int) = 3 ∨ (kd : Int) = 4 := by
    cases hdm with
    | loc hd hk h hS => omega
  cases hdm with
  | @loc H R B cap _ _ _ kv gs _ _ hd hk lf hS2 =>
    have HI := Lib.hid (lo_drop (S := Ss q) (o := (x, y)) ⟨R, B, cap, kv, gs, lf, hS2⟩ hd)
    have HD := Lib.hid (And.intro hd hk)
    clear h h1 h2 hx hS hb hpv hd hk lf hS2
    generalize dropR os zs s (x, y) = r at HI ⊢
    obtain ⟨r1, os2, zs2⟩ := r
    unfold Ret ptrV obV DropO at *
    simp only at HI ⊢
    generalize (kd : Int) = kI at HK hk'
    have e34 : (kI != 3) = false ∨ ((kI != 3) = true ∧ (kI != 4) = false) := by
      rcases hk' with rfl | rfl
      · exact .inl rfl
      · exact .inr ⟨rfl, rfl⟩
    clear hk'
    rcases e34 with e3 | ⟨e3, e4⟩
    · go_enter Try.func30, Try.ntmps30
      go_wp2_with (go_at_call 50; refine HK.out.mono ?_; rintro e w1 ⟨rfl, rfl⟩)
      go_region_with (go_at_call 58; refine HI.out.mono ?_; rintro e w1 ⟨S2, rfl, hp1, ht1, hS1⟩; have HP1 := Lib.hid hp1; have HT1 := Lib.hid ht1; have HS1 := Lib.hid hS1; clear hp1 ht1 hS1)
      all_goals
        go_wp2
        go_ret
        exact (HH.out.locq HSS.out hq HX.out HP.out HD.out.1 HD.out.2 rfl HP1.out HT1.out HS1.out).ahead HB.out.drew
    · go_enter Try.func30, Try.ntmps30
      go_wp2_with (go_at_call 50; refine HK.out.mono ?_; rintro e w1 ⟨rfl, rfl⟩)
      go_region_with (go_at_call 58; refine HI.out.mono ?_; rintro e w1 ⟨S2, rfl, hp1, ht1, hS1⟩; have HP1 := Lib.hid hp1; have HT1 := Lib.hid ht1; have HS1 := Lib.hid hS1; clear hp1 ht1 hS1)
      all_goals
        go_wp2
        go_ret
        exact (HH.out.locq HSS.out hq HX.out HP.out HD.out.1 HD.out.2 rfl HP1.out HT1.out HS1.out).ahead HB.out.drew
theorem DM.notloc {av hv lv : Value} {x : MSt} {Sm : Nat → Prop} (h : DM w Sm av hv lv x) (hx : ∀ kd s n os zs, x ≠ .loc kd s n os zs) : x.kind ≠ 3 ∧ x.kind ≠ 4 := by
  cases h with
  | arr => exact ⟨by show (1 : Nat) ≠ 3; decide, by show (1 : Nat) ≠ 4; decide⟩
  | hash => exact ⟨by show (2 : Nat) ≠ 3; decide, by show (2 : Nat) ≠ 4; decide⟩
  | loc => exact absurd rfl (hx _ _ _ _ _)
  | ring => exact ⟨by decide, by decide⟩
theorem ow_get (h : RD w S O st) (m : Int) (o : Ob) (cr : Bool) : Calls Try.prog 28 #[ptrV O, .int .i64 m, obV o, .bool cr] w (DocQ S O (.tuple #[.int .i64 (opR (0, 22) (getM o cr) st m).1.1, .int .i64 (opR (0, 22) (getM o cr) st m).1.2]) (opR (0, 22) (getM o cr) st m).2 w) := by
  have hRD := h
  obtain ⟨a, c, pv, Ss, h, hS⟩ := h
  by_cases hm : 0 ≤ m ∧ m < st.length
  · obtain ⟨q, rfl⟩ := Int.eq_ofNat_of_zero_le hm.1
    have hq : q < st.length := by omega
    obtain ⟨x, hx⟩ : ∃ x, st.getD q .ring = x := ⟨_, rfl⟩
    have hdm := h.dm q hq
    rw [opR_in hq hx]
    rw [hx] at hdm
    by_cases hl : ∃ kd s n os zs, x = .loc kd s n os zs
    · obtain ⟨kd, s, n, os, zs, rfl⟩ := hl
      exact ow_get_loc h hS hq hx o cr
    · obtain ⟨k3, k4⟩ := hdm.notloc (fun kd s n os zs e => hl ⟨kd, s, n, os, zs, e⟩)
      have hk : kindV st q ≠ 3 ∧ kindV st q ≠ 4 := by rw [kindV_in hq, hx]; omega
      have e : getM o cr x = ((0, 22), x) := by
        cases x with
        | loc kd s n os zs => exact absurd ⟨kd, s, n, os, zs, rfl⟩ hl
        | _ => rfl
      rw [e, ← hx]
      simp only
      rw [set_selfM hq]
      exact (ow_get_no h hk o cr).mono fun e w' ⟨he, hb⟩ => hRD.same hb he
  · rw [opR_out hm]
    exact (ow_get_no h (by rw [kindV_out hm]; decide) o cr).mono fun e w' ⟨he, hb⟩ => hRD.same hb he
theorem ow_drop (h : RD w S O st) (m : Int) (o : Ob) : Calls Try.prog 30 #[ptrV O, .int .i64 m, obV o] w (DocQ S O (.int .i64 (opR 22 (dropM o) st m).1) (opR 22 (dropM o) st m).2 w) := by
  have hRD := h
  obtain ⟨a, c, pv, Ss, h, hS⟩ := h
  by_cases hm : 0 ≤ m ∧ m < st.length
  · obtain ⟨q, rfl⟩ := Int.eq_ofNat_of_zero_le hm.1
    have hq : q < st.length := by omega
    obtain ⟨x, hx⟩ : ∃ x, st.getD q .ring = x := ⟨_, rfl⟩
    have hdm := h.dm q hq
    rw [opR_in hq hx]
    rw [hx] at hdm
    by_cases hl : ∃ kd s n os zs, x = .loc kd s n os zs
    · obtain ⟨kd, s, n, os, zs, rfl⟩ := hl
      exact ow_drop_loc h hS hq hx o
    · obtain ⟨k3, k4⟩ := hdm.notloc (fun kd s n os zs e => hl ⟨kd, s, n, os, zs, e⟩)
      have hk : kindV st q ≠ 3 ∧ kindV st q ≠ 4 := by rw [kindV_in hq, hx]; omega
      have e : dropM o x = (22, x) := by
        cases x with
        | loc kd s n os zs => exact absurd ⟨kd, s, n, os, zs, rfl⟩ hl
        | _ => rfl
      rw [e, ← hx]
      simp only
      rw [set_selfM hq]
      exact (ow_drop_no h hk o).mono fun e w' ⟨he, hb⟩ => hRD.same hb he
  · rw [opR_out hm]
    exact (ow_drop_no h (by rw [kindV_out hm]; decide) o).mono fun e w' ⟨he, hb⟩ => hRD.same hb he
end
end Go.Proofs.Ytenjdgoammaiiaa
