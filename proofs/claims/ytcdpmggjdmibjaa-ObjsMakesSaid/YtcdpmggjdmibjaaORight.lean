/-
  Proved here: what Right of the document's contexts gives. Conditions: a context that reads as one.
-/
import Derived.Test.YtcdpmggjdmibjaaOPath
namespace Go.Proofs.Ytcdpmggjdmibjaa
open Go.RowKit

/-- A context. -/
structure Cx where
  hook : Int
  words : List Int
  objs : List Kob
  now : Int
instance : Inhabited Kob := ⟨⟨0, 0, 0, [], ⟨#[]⟩, []⟩⟩
/-- A row of objects. -/
def ObRow (w : World) (a : Option Addr) (l : List Kob) : Prop := 0 < l.length → ∃ p off, a = some ⟨p, off, none⟩ ∧ p < w.heap.size ∧ ∀ i, i < l.length → ∃ X, ObX w X (l.getD i default) ∧ ∀ j, j < 13 → w.cell? ⟨p, off + (i * 13 + j), none⟩ = X[j]?
theorem ObRow.stay {w w' : World} {a : Option Addr} {l : List Kob} (h : ObRow w a l) (hb : Below w.heap.size w w') : ObRow w' a l := by
  intro hn
  obtain ⟨p, off, ha, hp, hc⟩ := h hn
  refine ⟨p, off, ha, Nat.lt_of_lt_of_le hp hb.size, fun i hi => ?_⟩
  obtain ⟨X, h1, h2⟩ := hc i hi
  exact ⟨X, h1.stay hb, fun j hj => (hb.cell (p := ⟨p, off + (i * 13 + j), none⟩) hp).trans (h2 j hj)⟩
/-- The eleven cells of a context. -/
structure CxX (w : World) (C : Array Value) (c : Cx) : Prop where
  size : C.size = 11
  c0 : C[0]? = some (.int .i64 c.hook)
  cw : ∀ i, i < 8 → C[1 + i]? = some (.int .u64 (c.words.getD i 0))
  c9 : ∃ a k, C[9]? = some (.slice a c.objs.length k) ∧ ObRow w a c.objs
  c10 : C[10]? = some (.int .u64 c.now)
  bw : ∀ i, 0 ≤ c.words.getD i 0 ∧ c.words.getD i 0 ≤ 18446744073709551615
  bo : c.objs.length ≤ maxLen
theorem CxX.stay {w w' : World} {C : Array Value} {c : Cx} (h : CxX w C c) (hb : Below w.heap.size w w') : CxX w' C c :=
  ⟨h.size, h.c0, h.cw, by obtain ⟨a, k, h1, h2⟩ := h.c9; exact ⟨a, k, h1, h2.stay hb⟩, h.c10, h.bw, h.bo⟩
/-- The letters of a hook's words. -/
def lettH (hook : Int) : ByteArray := if 1 ≤ hook ∧ hook ≤ 16 then lettB hook.toNat else ⟨#[]⟩
def typeB (o : Kob) : Bool := o.typ == 1 || o.typ == 2
/-- Is a word of a hook's letters right? -/
def wordB (objs : List Kob) (l : ByteArray) (x : Int) (i : Nat) : Bool :=
  if h : i < l.size then
    if ((l[i].toNat : Int) == 110) = true then true
    else if (x == 0) = true then (l[i].toNat : Int) == 109
    else decide (x ≤ objs.length) && (((objs.getD (x.toNat - 1) default).typ == 1) == ((l[i].toNat : Int) == 116))
  else x == 0
def rightB (c : Cx) : Bool := decide (0 < (lettH c.hook).size) && decide (c.objs.length ≤ 8) && c.objs.all typeB && (List.range 8).all fun i => wordB c.objs (lettH c.hook) (c.words.getD i 0) i
theorem lettB_pos (k : Nat) (h1 : 1 ≤ k) (h2 : k ≤ 16) : 2 ≤ (lettB k).size ∧ (lettB k).size ≤ 5 := by
  have h : ∀ i : Fin 17, 1 ≤ i.val → 2 ≤ (lettB i.val).size ∧ (lettB i.val).size ≤ 5 := by decide +kernel
  exact h ⟨k, by omega⟩ h1
theorem ba_pos {s : ByteArray} (h : 0 < s.size) : s.toList.isEmpty = false := by
  rw [ByteArray.toList_eq]
  cases hs : s.data.toList with
  | nil => have e : s.size = s.data.toList.length := by simp
           rw [hs] at e
           simp only [List.length_nil] at e
           omega
  | cons x xs => rfl
theorem all_take {α : Type} [Inhabited α] (p : α → Bool) (l : List α) (i : Nat) (hi : i < l.length) : (l.take (i + 1)).all p = ((l.take i).all p && p (l.getD i default)) := by
  rw [List.take_succ_eq_append_getElem hi, List.all_append, List.getD_eq_getElem?_getD, List.getElem?_eq_getElem hi]
  simp
theorem all_of_take {α : Type} [Inhabited α] {p : α → Bool} {l : List α} {i : Nat} (hi : i < l.length) (h : p (l.getD i default) = false) : l.all p = false := by
  rw [List.all_eq_false]
  refine ⟨l.getD i default, ?_, by intro hh; rw [h] at hh; cases hh⟩
  rw [List.getD_eq_getElem?_getD, List.getElem?_eq_getElem hi]
  exact List.getElem_mem hi
theorem right_no (C : Array Value) (c : Cx) (w : World) (hx : CxX w C c) (h : ¬ (1 ≤ c.hook ∧ c.hook ≤ 16)) : Calls Try.prog 9 #[.agg C] w (Tells (.bool false) w) := by
  have hc0 := (box_cells w C 26 0).trans hx.c0
  obtain ⟨a, k, h9, -⟩ := hx.c9
  have hc9 := (box_cells w C 26 9).trans h9
  generalize c.hook = hook at h hc0
  have HH := Lib.hid h
  clear h hx h9
  go_enter Try.func9, Try.ntmps9
  go_wp2_with (go_at_call 11; refine (row_no hook _ HH.out).mono ?_; rintro e w1 ⟨rfl, hb1⟩; have hb := below_box hb1; have hc9' := (hb1.cell (p := ⟨w.heap.size, 9, none⟩) (by simp)).trans hc9; have HB := Lib.hid hb; clear hb hb1)
  go_ret
  exact ⟨rfl, HB.out⟩
/-- What is known in the loops: the box and the objects. -/
structure InC (w W : World) (C : Array Value) (c : Cx) (a : Option Addr) (k : Nat) : Prop where
  below : Below w.heap.size w W
  c9 : W.cell? ⟨w.heap.size, 9, none⟩ = some (.slice a c.objs.length k)
  cw : ∀ i, i < 8 → W.cell? ⟨w.heap.size, 1 + i, none⟩ = some (.int .u64 (c.words.getD i 0))
  row : ObRow W a c.objs
theorem InC.stay {w W W' : World} {C : Array Value} {c : Cx} {a : Option Addr} {k : Nat} (h : InC w W C c a k) (hb : Below W.heap.size W W') : InC w W' C c a k :=
  ⟨h.below.trans (hb.mono h.below.size), (hb.cell (p := ⟨w.heap.size, 9, none⟩) (World.block_lt_of_cell? W _ h.c9)).trans h.c9, fun i hi => (hb.cell (p := ⟨w.heap.size, 1 + i, none⟩) (World.block_lt_of_cell? W _ (h.cw i hi))).trans (h.cw i hi), h.row.stay hb⟩
theorem right_all {c : Cx} (h0 : 0 < (lettH c.hook).size) (h8 : c.objs.length ≤ 8) (ho : c.objs.all typeB = true) (hw : ∀ i, i < 8 → wordB c.objs (lettH c.hook) (c.words.getD i 0) i = true) : rightB c = true := by
  unfold rightB
  rw [decide_eq_true h0, decide_eq_true h8, ho]
  simp only [Bool.true_and, List.all_eq_true, List.mem_range]
  exact hw
theorem right_len {c : Cx} (h8 : ¬ c.objs.length ≤ 8) : rightB c = false := by
  unfold rightB
  rw [decide_eq_false h8]
  simp
theorem right_obj {c : Cx} {i : Nat} (hi : i < c.objs.length) (h : typeB (c.objs.getD i default) = false) : rightB c = false := by
  unfold rightB
  rw [all_of_take hi h]
  simp
theorem right_word {c : Cx} {i : Nat} (hi : i < 8) (h : wordB c.objs (lettH c.hook) (c.words.getD i 0) i = false) : rightB c = false := by
  unfold rightB
  have e : ((List.range 8).all fun i => wordB c.objs (lettH c.hook) (c.words.getD i 0) i) = false := by
    rw [List.all_eq_false]
    exact ⟨i, by simpa using hi, by rw [h]; simp⟩
  rw [e]
  simp
theorem word_out {objs : List Kob} {l : ByteArray} {x : Int} {i : Nat} (h : ¬ i < l.size) : wordB objs l x i = (x == 0) := by
  unfold wordB
  rw [dif_neg h]
theorem word_num {objs : List Kob} {l : ByteArray} {x : Int} {i : Nat} (h : i < l.size) (hz : ((l[i].toNat : Int) == 110) = true) : wordB objs l x i = true := by
  unfold wordB
  rw [dif_pos h, if_pos hz]
theorem word_null {objs : List Kob} {l : ByteArray} {x : Int} {i : Nat} (h : i < l.size) (hz : ((l[i].toNat : Int) == 110) = false) (hx : (x == 0) = true) : wordB objs l x i = ((l[i].toNat : Int) == 109) := by
  unfold wordB
  rw [dif_pos h, if_neg (by rw [hz]; simp), if_pos hx]
theorem word_far {objs : List Kob} {l : ByteArray} {x : Int} {i : Nat} (h : i < l.size) (hz : ((l[i].toNat : Int) == 110) = false) (hx : (x == 0) = false) (hf : ¬ x ≤ objs.length) : wordB objs l x i = false := by
  unfold wordB
  rw [dif_pos h, if_neg (by rw [hz]; simp), if_neg (by rw [hx]; simp), decide_eq_false hf]
  rfl
theorem word_obj {objs : List Kob} {l : ByteArray} {m i : Nat} (h : i < l.size) (hz : ((l[i].toNat : Int) == 110) = false) (hf : m < objs.length) : wordB objs l ((m + 1 : Nat) : Int) i = (((objs.getD m default).typ == 1) == ((l[i].toNat : Int) == 116)) := by
  unfold wordB
  have hx : (((m + 1 : Nat) : Int) == 0) = false := by simp; omega
  rw [dif_pos h, if_neg (by rw [hz]; simp), if_neg (by rw [hx]; simp), decide_eq_true (by omega), Int.toNat_natCast, Nat.add_sub_cancel]
  rfl
theorem words_more {P : Nat → Bool} {j : Nat} (h : ∀ m, m < j → P m = true) (hj : P j = true) : ∀ m, m < j + 1 → P m = true := by
  intro m hm
  by_cases e : m = j
  · rw [e]; exact hj
  · exact h m (by omega)
set_option maxHeartbeats 2000000 in
set_option maxRecDepth 100000 in
theorem right_yes (C : Array Value) (c : Cx) (kk : Nat) (w : World) (hx : CxX w C c) (h1 : 1 ≤ kk) (h2 : kk ≤ 16) (hk : c.hook = kk) : Calls Try.prog 9 #[.agg C] w (Tells (.bool (rightB c)) w) := by
  have hc0 := (box_cells w C 26 0).trans hx.c0
  rw [hk] at hc0
  obtain ⟨a, k, h9, hrow⟩ := hx.c9
  have hbw := hx.bw
  have hbo := hx.bo
  unfold maxLen at hbo
  have hl : lettH c.hook = lettB kk := by unfold lettH; rw [hk, if_pos (by omega)]; rfl
  obtain ⟨l, hll⟩ : ∃ l, lettB kk = l := ⟨_, rfl⟩
  have hl5 := lettB_pos kk h1 h2
  rw [hll] at hl hl5
  have hfull := ba_pos (s := l) (by omega)
  obtain ⟨n, hn⟩ : ∃ n, c.objs.length = n := ⟨_, rfl⟩
  obtain ⟨R, hR⟩ : ∃ R, rightB c = R := ⟨_, rfl⟩
  have hb0 : Below w.heap.size w (w.alloc (.cells C 26)) := (Below.refl _ _).alloc (Nat.le_refl _) _
  have hin : InC w (w.alloc (.cells C 26)) C c a k := ⟨hb0, (box_cells w C 26 9).trans h9, fun i hi => (box_cells w C 26 (1 + i)).trans (hx.cw i hi), hrow.stay hb0⟩
  rw [hR]
  rw [hn] at hbo
  have HR := Lib.hid hR
  have HL := Lib.hid hl
  have HLL := Lib.hid hll
  have HN := Lib.hid hn
  have HW := Lib.hid hbw
  have HI := Lib.hid hin
  clear hR hl hll hn hbw hin hk hx h9 hrow hb0
  go_enter Try.func9, Try.ntmps9
  go_upto_region 2 with (go_at_call 11; refine (row_yes kk _ h1 h2).mono ?_; rintro e w1 ⟨rfl, hb1⟩; rw [HLL.out]; have HI1 := Lib.hid (HI.out.stay hb1); clear hb1 HI hc0)
  have hc9 := HI1.out.c9
  rw [HN.out] at hc9
  by_cases h8 : n ≤ 8
  · go_wp2
    go_loop [6] (fun x => ∃ i : Nat, i ≤ n ∧ x = .int .i64 i ∧ (c.objs.take i).all typeB = true) (fun x => n - (intOf x).toNat)
    case atStart => exact ⟨0, by omega, rfl, by simp⟩
    case round =>
      obtain ⟨i, hi, rfl, hall⟩ := hrel
      have HA := Lib.hid hall
      clear hall
      by_cases hlt : i < n
      · obtain ⟨p, off, rfl, -, hr⟩ := HI1.out.row (by rw [HN.out]; omega)
        obtain ⟨X, hX, hcs⟩ := hr i (by rw [HN.out]; exact hlt)
        have hcell := (hcs 0 (by omega)).trans hX.x0
        rw [Nat.add_zero] at hcell
        have hst := all_take typeB c.objs i (by rw [HN.out]; exact hlt)
        have hbad := right_obj (c := c) (i := i) (by rw [HN.out]; exact hlt)
        obtain ⟨t, ht⟩ : ∃ t, (c.objs.getD i default).typ = t := ⟨_, rfl⟩
        have htb : typeB (c.objs.getD i default) = (t == 1 || t == 2) := by unfold typeB; rw [ht]
        rw [ht] at hcell
        rw [htb] at hst hbad
        have HST := Lib.hid hst
        have HBAD := Lib.hid hbad
        clear hcs hX hr hst hbad ht htb
        cases t1 : t == 1
        · have t1n : (t != 1) = true := by unfold bne; rw [t1]; rfl
          cases t2 : t == 2
          · have t2n : (t != 2) = true := by unfold bne; rw [t2]; rfl
            have hf : R = false := HR.out.symm.trans (HBAD.out (by rw [t1, t2]; rfl))
            have HF := Lib.hid hf
            clear hf
            go_wp2
            go_ret
            exact ⟨by rw [HF.out]; rfl, HI1.out.below⟩
          · have t2n : (t != 2) = false := by unfold bne; rw [t2]; rfl
            have HT := Lib.hid t2
            go_wp2
            go_round
            case rel => exact ⟨i + 1, by omega, by go_num, by rw [HST.out, HA.out, HT.out]; simp⟩
            case measure => simp [intOf]; omega
        · have t1n : (t != 1) = false := by unfold bne; rw [t1]; rfl
          have HT := Lib.hid t1
          go_wp2
          go_round
          case rel => exact ⟨i + 1, by omega, by go_num, by rw [HST.out, HA.out, HT.out]; simp⟩
          case measure => simp [intOf]; omega
      · obtain rfl : i = n := by omega
        have hobj : c.objs.all typeB = true := by have h := HA.out; rwa [← HN.out, List.take_length] at h
        have HO := Lib.hid hobj
        clear hobj HA
        go_wp2
        go_loopw [7] (fun x W => ∃ j : Nat, j ≤ 8 ∧ x = .int .i64 j ∧ (∀ m, m < j → wordB c.objs (lettH c.hook) (c.words.getD m 0) m = true) ∧ InC w W C c a k) (fun x _ => 8 - (intOf x).toNat)
        case atStart => exact ⟨0, by omega, rfl, fun m hm => absurd hm (Nat.not_lt_zero _), HI1.out⟩
        case round =>
          obtain ⟨j, hj, rfl, hno, hin⟩ := hrel
          have HN2 := Lib.hid hno
          have HI2 := Lib.hid hin
          have hc9b := hin.c9
          rw [HN.out] at hc9b
          clear hno hc9
          by_cases hjt : j < 8
          · have hcw := hin.cw j hjt
            have hxb := HW.out j
            obtain ⟨x, hx⟩ : ∃ x, c.words.getD j 0 = x := ⟨_, rfl⟩
            rw [hx] at hcw hxb
            have HX := Lib.hid hx
            clear hx hin
            by_cases hjl : j < l.size
            · obtain ⟨z, hz⟩ : ∃ z, ((l[j]'hjl).toNat : Int) = z := ⟨_, rfl⟩
              cases z110 : z == 110
              · have hz110 : (((l[j]'hjl).toNat : Int) == 110) = false := by rw [hz]; exact z110
                have HZ := Lib.hid hz110
                clear hz110
                cases x0 : x == 0
                · have HX0 := Lib.hid x0
                  have hxne : x ≠ 0 := by intro e; rw [e] at x0; cases x0
                  obtain ⟨m, hm⟩ : ∃ m : Nat, x = ((m + 1 : Nat) : Int) := ⟨x.toNat - 1, by omega⟩
                  by_cases hfar : x ≤ (i : Int)
                  · subst hm
                    obtain ⟨p, off, rfl, -, hr⟩ := HI2.out.row (by rw [HN.out]; omega)
                    obtain ⟨X, hX, hcs⟩ := hr m (by rw [HN.out]; omega)
                    have hcell := (hcs 0 (by omega)).trans hX.x0
                    rw [Nat.add_zero] at hcell
                    have hwo := word_obj (objs := c.objs) (l := l) (m := m) (i := j) hjl HZ.out (by rw [HN.out]; omega)
                    rw [hz] at hwo
                    generalize (c.objs.getD m default).typ = t at hcell hwo
                    have HWO := Lib.hid hwo
                    clear hcs hX hr hwo hxne
                    have e1 : IntKind.u64.wrap (((m + 1 : Nat) : Int) - 1) = (m : Int) := by rw [IntWalk.u64_in _ (by omega)]; omega
                    have e2 : decide ((i : Int) < ((m + 1 : Nat) : Int)) = false := by simp; omega
                    have e3 : (((m : Int) + 1) - 1) = (m : Int) := by omega
                    have e4 : ¬ (i : Int) < (m : Int) + 1 := by omega
                    have hmi : m < i := by omega
                    have e0 : IntKind.u64.wrap (i : Int) = (i : Int) := IntWalk.u64_in _ (by omega)
                    have e5 : IntKind.u64.wrap (m : Int) = (m : Int) := IntWalk.u64_in _ (by omega)
                    have e6 : IntKind.u64.wrap ((m : Int) + 1 - 1) = (m : Int) := by rw [e3]; exact e5
                    have e7 : decide ((i : Int) < (m : Int) + 1) = false := by simpa using e4
                    cases b1 : t == 1 <;> cases b2 : z == 116
                    · have hB1 := Lib.hid b1
                      have hB2 := Lib.hid b2
                      have hg : wordB c.objs (lettH c.hook) (c.words.getD j 0) j = true := by rw [HL.out, HX.out]; exact (by rw [HWO.out, hB1.out, hB2.out]; rfl)
                      have HG := Lib.hid hg
                      clear hg
                      go_wp2
                      go_quiet (fail)
                      go_wp2
                      go_roundw
                      case rel => exact ⟨j + 1, by omega, by go_num, words_more HN2.out HG.out, HI2.out.stay (below_drewN _ _)⟩
                      case measure => simp [intOf]; omega
                    · have hB1 := Lib.hid b1
                      have hB2 := Lib.hid b2
                      have hf : R = false := HR.out.symm.trans (right_word hjt (by rw [HL.out, HX.out]; exact (by rw [HWO.out, hB1.out, hB2.out]; rfl)))
                      have HF := Lib.hid hf
                      clear hf
                      go_wp2
                      go_quiet (fail)
                      go_wp2
                      go_ret
                      exact ⟨by rw [HF.out]; rfl, HI2.out.below.trans ((below_drewN _ _).mono HI2.out.below.size)⟩
                    · have hB1 := Lib.hid b1
                      have hB2 := Lib.hid b2
                      have hf : R = false := HR.out.symm.trans (right_word hjt (by rw [HL.out, HX.out]; exact (by rw [HWO.out, hB1.out, hB2.out]; rfl)))
                      have HF := Lib.hid hf
                      clear hf
                      go_wp2
                      go_quiet (fail)
                      go_wp2
                      go_ret
                      exact ⟨by rw [HF.out]; rfl, HI2.out.below.trans ((below_drewN _ _).mono HI2.out.below.size)⟩
                    · have hB1 := Lib.hid b1
                      have hB2 := Lib.hid b2
                      have hg : wordB c.objs (lettH c.hook) (c.words.getD j 0) j = true := by rw [HL.out, HX.out]; exact (by rw [HWO.out, hB1.out, hB2.out]; rfl)
                      have HG := Lib.hid hg
                      clear hg
                      go_wp2
                      go_quiet (fail)
                      go_wp2
                      go_roundw
                      case rel => exact ⟨j + 1, by omega, by go_num, words_more HN2.out HG.out, HI2.out.stay (below_drewN _ _)⟩
                      case measure => simp [intOf]; omega
                  · clear hm
                    have hgt : decide ((i : Int) < x) = true := by simp; omega
                    have e0 : IntKind.u64.wrap (i : Int) = (i : Int) := IntWalk.u64_in _ (by omega)
                    have hf : R = false := HR.out.symm.trans (right_word hjt (by rw [HL.out, HX.out]; exact (word_far hjl HZ.out HX0.out (by rw [HN.out]; omega))))
                    have HF := Lib.hid hf
                    clear hf
                    go_wp2
                    go_quiet (fail)
                    go_wp2
                    go_ret
                    exact ⟨by rw [HF.out]; rfl, HI2.out.below.trans ((below_drewN _ _).mono HI2.out.below.size)⟩
                · have HX0 := Lib.hid x0
                  cases z109 : z == 109
                  · have z109n : (z != 109) = true := by unfold bne; rw [z109]; rfl
                    have hf : R = false := HR.out.symm.trans (right_word hjt (by rw [HL.out, HX.out]; exact (by rw [word_null hjl HZ.out HX0.out, hz, z109])))
                    have HF := Lib.hid hf
                    clear hf
                    go_wp2
                    go_ret
                    exact ⟨by rw [HF.out]; rfl, HI2.out.below⟩
                  · have z109n : (z != 109) = false := by unfold bne; rw [z109]; rfl
                    have hg : wordB c.objs (lettH c.hook) (c.words.getD j 0) j = true := by rw [HL.out, HX.out]; exact (by rw [word_null hjl HZ.out HX0.out, hz, z109])
                    have HG := Lib.hid hg
                    clear hg
                    go_wp2
                    go_roundw
                    case rel => exact ⟨j + 1, by omega, by go_num, words_more HN2.out HG.out, HI2.out⟩
                    case measure => simp [intOf]; omega
              · have hz110 : (((l[j]'hjl).toNat : Int) == 110) = true := by rw [hz]; exact z110
                have hg : wordB c.objs (lettH c.hook) (c.words.getD j 0) j = true := by rw [HL.out, HX.out]; exact (word_num hjl hz110)
                have HG := Lib.hid hg
                clear hg
                clear hz110
                go_wp2
                go_roundw
                case rel => exact ⟨j + 1, by omega, by go_num, words_more HN2.out HG.out, HI2.out⟩
                case measure => simp [intOf]; omega
            · have hjge : l.size ≤ j := by omega
              cases x0 : x == 0
              · have x0n : (x != 0) = true := by unfold bne; rw [x0]; rfl
                have hf : R = false := HR.out.symm.trans (right_word hjt (by rw [HL.out, HX.out]; exact (by rw [word_out hjl, x0])))
                have HF := Lib.hid hf
                clear hf
                go_wp2
                go_ret
                exact ⟨by rw [HF.out]; rfl, HI2.out.below⟩
              · have x0n : (x != 0) = false := by unfold bne; rw [x0]; rfl
                have hg : wordB c.objs (lettH c.hook) (c.words.getD j 0) j = true := by rw [HL.out, HX.out]; exact (by rw [word_out hjl, x0])
                have HG := Lib.hid hg
                clear hg
                go_wp2
                go_roundw
                case rel => exact ⟨j + 1, by omega, by go_num, words_more HN2.out HG.out, HI2.out⟩
                case measure => simp [intOf]; omega
          · have hf : R = true := HR.out.symm.trans (right_all (by rw [HL.out]; omega) (by rw [HN.out]; omega) HO.out (fun m hm => HN2.out m (by omega)))
            have HF := Lib.hid hf
            clear hf hin
            go_wp2
            go_ret
            exact ⟨by rw [HF.out]; rfl, HI2.out.below⟩
  · have hf : R = false := HR.out.symm.trans (right_len (by rw [HN.out]; exact h8))
    have HF := Lib.hid hf
    clear hf
    go_wp2
    go_ret
    exact ⟨by rw [HF.out]; rfl, HI1.out.below⟩
end Go.Proofs.Ytcdpmggjdmibjaa
