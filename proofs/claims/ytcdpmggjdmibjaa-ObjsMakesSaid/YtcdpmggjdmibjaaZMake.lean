/-
  Proved here: what Make of package objs gives. Conditions: parts that read as such, at most twenty, of objects of at most fifty they come of.
-/
import Derived.Test.YtcdpmggjdmibjaaZPure
namespace Go.Proofs.Ytcdpmggjdmibjaa
open Go.RowKit

/-- What Make gives. -/
def MadeQ (hook now : Int) (l : List Pt) (w : World) (e : Ending) (w' : World) : Prop := (mayB hook l = true ∧ GaveCx hook now l w e w') ∨ (mayB hook l = false ∧ Tells (.tuple #[.agg zeroC, .bool false]) w e w')
theorem ctx_one (hook now : Int) (ws : Nat → Int) (a : Option Addr) (n c : Nat) : (ctxCells hook ws (.slice a n c) now).all (·.oneCell') = true := by
  simp [ctxCells, Value.oneCell']
/-- A store of a whole context, veiled. -/
def stoCxV (p v : Value) : Sem Unit := Instr.storeAt 26 p v
theorem stoCx_veil (p v : Value) : Instr.storeAt 26 p v = stoCxV p v := rfl
theorem run_stoCx (w : World) (g : Nat) (cur Y : Array Value) (t : TypeId) (hg : w.heap[g]? = some (.cells cur t (0, 0))) (hs : cur.size = 11) (hY : Y.size = 11) (h1 : Y.all (·.oneCell') = true) : (stoCxV (.pointer (some ⟨g, 0, none⟩)) (.agg Y)).run Try.prog w = .ok () (w.setRow g Y) := by
  unfold stoCxV
  simp only [Instr.storeAt, Instr.sureAddr, Sem.run_bind, Sem.run_pure, Result.andThen]
  exact run_storeVar_row w g t 26 cur Y hg (by rw [hY]; kernel_rfl) (by rw [hs, hY]) h1
theorem results_make (tmps : Array Value) (w : World) (R : Nat) (cs : Array Value) (b : Bool) (hp : tmps.getD 6 undef = .pointer (some ⟨R, 0, none⟩)) (h7 : tmps.getD 7 undef = .bool b) (hg : w.heap[R]? = some (.cells cs 26 (0, 0))) (hs : cs.size = 11) : (results Try.f19 tmps).run Try.prog w = .ok (.tuple #[.agg cs, .bool b]) w := by
  have hld := run_loadVar_row w R 26 26 cs (0, 0) _ hg Try.underlying26 rfl (by rw [hs]; kernel_rfl)
  have hp' : tmps[6]?.getD undef = .pointer (some ⟨R, 0, none⟩) := by simpa using hp
  have h7' : tmps[7]?.getD undef = .bool b := by simpa using h7
  simp [results, Try.results19, hp', h7', asAddr, hld]
attribute [local go_sem ↓] loadCx_veil loadPt_veil stoCx_veil
theorem make_none (hook now : Int) (l : List Pt) (a : Option Addr) (k : Nat) (w : World) (h : ¬ (1 ≤ hook ∧ hook ≤ 16)) : Calls Try.prog 19 #[.int .i64 hook, .int .u64 now, .slice a l.length k] w (MadeQ hook now l w) := by
  have HM := Lib.hid (may_not_hook (l := l) h)
  generalize l.length = n
  have HK := Lib.hid (of_no hook · h)
  clear h
  have hz0 := heap_alloc_new w (.cells zeroC 26)
  have hb0 : Below w.heap.size w (w.alloc (.cells zeroC 26)) := (Below.refl _ _).alloc (Nat.le_refl _) _
  obtain ⟨W1, hW1⟩ : ∃ W1, w.alloc (.cells zeroC 26) = W1 := ⟨_, rfl⟩
  rw [hW1] at hz0 hb0
  have hlt := (Array.getElem?_eq_some_iff.1 hz0).1
  have HW1 := Lib.hid hW1
  have HZ0 := Lib.hid hz0
  have HB0 := Lib.hid hb0
  clear hW1 hz0 hb0
  unfold zeroC at HW1
  go_enter Try.func19, Try.ntmps19
  go_upto_region 1 with fail
  rw [HW1.out]
  go_upto_region 3 with (go_at_call 21; refine (HK.out _).mono ?_; rintro e w1 ⟨rfl, hb1⟩; have HB1 := Lib.hid hb1; clear hb1)
  have hb2 : Below W1.heap.size W1 (w1.alloc (.cells #[.string { data := #[] }, .slice none 0 0, .int .u64 0] 55)) := HB1.out.alloc HB1.out.size _
  obtain ⟨W2, hW2⟩ : ∃ W2, w1.alloc (.cells #[.string { data := #[] }, .slice none 0 0, .int .u64 0] 55) = W2 := ⟨_, rfl⟩
  rw [hW2] at hb2 ⊢
  have hz2 := (hb2.block w.heap.size hlt).trans HZ0.out
  have hst := run_stoCx W2 w.heap.size zeroC zeroC 26 hz2 rfl rfl (by decide +kernel)
  have hz3 := setRow_heap W2 w.heap.size zeroC zeroC 26 (0, 0) hz2
  have hb3 : Below w.heap.size w (W2.setRow w.heap.size zeroC) := below_setRow (HB0.out.trans (hb2.mono HB0.out.size)) (Nat.le_refl _) _
  have HZ3 := Lib.hid hz3
  have HB3 := Lib.hid hb3
  clear hz2 hz3 hb2 hb3 hW2
  unfold zeroC at hst
  go_wp2
  refine bodyPost_ret (results_make _ _ w.heap.size zeroC false (by rfl) (by rfl) HZ3.out rfl) rfl (.inr ⟨HM.out, rfl, HB3.out⟩)
/-- What stays beside the context while Make goes on: its result's box, the hook's description, its kinds. -/
structure Bes (w : World) (R D p kk : Nat) : Prop where
  res : w.heap[R]? = some (.cells zeroC 26 (0, 0))
  des : w.heap[D]? = some (.cells #[.string (nameB kk), .slice (some ⟨p, 0, none⟩) (kindL kk).length (kindL kk).length, .int .u64 (mostI kk)] 55 (0, 0))
  kin : w.heap[p]? = some (.cells (u8s (kindL kk)).toArray 5 (0, 0))
theorem Bes.stay {w w' : World} {R D p kk : Nat} (h : Bes w R D p kk) (hb : Below w.heap.size w w') : Bes w' R D p kk :=
  ⟨(hb.block R (Array.getElem?_eq_some_iff.1 h.res).1).trans h.res, (hb.block D (Array.getElem?_eq_some_iff.1 h.des).1).trans h.des, (hb.block p (Array.getElem?_eq_some_iff.1 h.kin).1).trans h.kin⟩
theorem Bes.beside {w w' : World} {G R D p kk : Nat} (h : Bes w R D p kk) (hb : Beside G w w') (hR : R ≠ G) {C : Array Value} (hG : w.heap[G]? = some (.cells C 26 (0, 0))) : Bes w' R D p kk := by
  refine ⟨hb _ _ _ _ h.res hR (by decide), hb _ _ _ _ h.des (fun e => ?_) (by decide), hb _ _ _ _ h.kin (fun e => ?_) (by decide)⟩
  · rw [← e, h.des] at hG
    injection hG with hG
    injection hG with _ hG _
    cases hG
  · rw [← e, h.kin] at hG
    injection hG with hG
    injection hG with _ hG _
    cases hG
/-- A block of another context is written. -/
theorem Mk.other {W0 wr : World} {G R : Nat} {hook now : Int} {ws : Nat → Int} {v : Value} {os : List Kob} {cur C : Array Value} (H : Mk W0 wr G hook now ws v os) (hR : wr.heap[R]? = some (.cells cur 26 (0, 0))) (hne : R ≠ G) (hW : W0.heap.size ≤ R) : Mk W0 (wr.setRow R C) G hook now ws v os := by
  have hx := H.objs
  obtain ⟨xs, ho, -⟩ := hx
  refine ⟨(setRow_other _ _ _ _ (Ne.symm hne)).trans H.box, H.objs.keep (fun b e => ?_) (ints_setRow hR (by decide)), H.hG, below_setRow H.b hW _⟩
  obtain ⟨-, cs, hh⟩ := own_lt ho b e
  exact setRow_other _ _ _ _ (fun e2 => by rw [e2, hR] at hh; injection hh with hh; injection hh with _ hh _; cases hh)
theorem make_len (hook now : Int) (l : List Pt) (a : Option Addr) (k kk : Nat) (w : World) (h1 : 1 ≤ kk) (h2 : kk ≤ 16) (hk : hook = kk) (hl : l.length ≠ (kindL kk).length) : Calls Try.prog 19 #[.int .i64 hook, .int .u64 now, .slice a l.length k] w (MadeQ hook now l w) := by
  have hlh : lettH hook = lettB kk := by unfold lettH; rw [hk, if_pos (by omega)]; rfl
  have HM := Lib.hid (may_not_len (hook := hook) (l := l) (by rw [hlh, ← kind_len kk h1 h2]; exact fun e => hl e.symm))
  subst hk
  have HK := Lib.hid (of_yes kk · h1 h2)
  generalize hn : l.length = n at hl
  have hz0 := heap_alloc_new w (.cells zeroC 26)
  have hb0 : Below w.heap.size w (w.alloc (.cells zeroC 26)) := (Below.refl _ _).alloc (Nat.le_refl _) _
  obtain ⟨W1, hW1⟩ : ∃ W1, w.alloc (.cells zeroC 26) = W1 := ⟨_, rfl⟩
  rw [hW1] at hz0 hb0
  have hlt := (Array.getElem?_eq_some_iff.1 hz0).1
  have HW1 := Lib.hid hW1
  have HZ0 := Lib.hid hz0
  have HB0 := Lib.hid hb0
  obtain ⟨L, hL⟩ : ∃ L, (kindL kk).length = L := ⟨_, rfl⟩
  rw [hL] at hl
  have HL := Lib.hid hL
  have hneq : ((n : Int) != (L : Int)) = true := by rw [bne_iff_ne]; omega
  have hneq2 : ((n : Int) == (L : Int)) = false := by rw [beq_eq_false_iff_ne]; omega
  clear hW1 hz0 hb0 hn hlh hL hl
  unfold zeroC at HW1
  go_enter Try.func19, Try.ntmps19
  go_upto_region 1 with fail
  rw [HW1.out]
  go_upto_region 3 with (go_at_call 21; refine (HK.out _).mono ?_; rintro e w1 ⟨p, rfl, hp, hr, hb1⟩; rw [HL.out]; have HB1 := Lib.hid hb1; clear hb1 hr hp)
  have hb2 : Below W1.heap.size W1 (w1.alloc (.cells #[.string (nameB kk), .slice (some ⟨p, 0, none⟩) L L, .int .u64 (mostI kk)] 55)) := HB1.out.alloc HB1.out.size _
  obtain ⟨W2, hW2⟩ : ∃ W2, w1.alloc (.cells #[.string (nameB kk), .slice (some ⟨p, 0, none⟩) L L, .int .u64 (mostI kk)] 55) = W2 := ⟨_, rfl⟩
  rw [hW2] at hb2 ⊢
  have hz2 := (hb2.block w.heap.size hlt).trans HZ0.out
  have hst := run_stoCx W2 w.heap.size zeroC zeroC 26 hz2 rfl rfl (by decide +kernel)
  have hz3 := setRow_heap W2 w.heap.size zeroC zeroC 26 (0, 0) hz2
  have hb3 : Below w.heap.size w (W2.setRow w.heap.size zeroC) := below_setRow (HB0.out.trans (hb2.mono HB0.out.size)) (Nat.le_refl _) _
  have HZ3 := Lib.hid hz3
  have HB3 := Lib.hid hb3
  clear hz2 hz3 hb2 hb3 hW2
  unfold zeroC at hst
  go_wp2
  refine bodyPost_ret (results_make _ _ w.heap.size zeroC false (by rfl) (by rfl) HZ3.out rfl) rfl (.inr ⟨HM.out, rfl, HB3.out⟩)
end Go.Proofs.Ytcdpmggjdmibjaa
