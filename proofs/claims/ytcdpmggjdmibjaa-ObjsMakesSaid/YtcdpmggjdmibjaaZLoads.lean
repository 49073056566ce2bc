/-
  Proved here: what Path, Inside and Key of package objs give. Conditions: an object that reads as one.
-/
import Derived.Test.YtcdpmggjdmibjaaOLLaw
import Derived.Test.YtcdpmggjdmibjaaZClone
namespace Go.Proofs.Ytcdpmggjdmibjaa
open Go.RowKit

/-! ### Path -/
def zerosL (n : Nat) : List Int := List.replicate n 0
theorem zerosL_getD (n j : Nat) : (zerosL n).getD j 0 = 0 := by
  unfold zerosL
  rw [List.getD_eq_getElem?_getD, List.getElem?_replicate]
  split <;> rfl
theorem made_u8s (m : Nat) : madeCells (Value.int .u8 0).cells m = (u8s (zerosL m)).toArray := by
  apply Array.ext
  · simp [u8s_length, zerosL, size_madeCells]
  · intro i h1 h2
    simp [madeCells, Value.cells, u8s, zerosL, Nat.mod_one]
theorem u8s_zerosL (m : Nat) : u8s (zerosL m) = List.replicate m (Value.int .u8 0) := by simp [u8s, zerosL]
theorem make_row (w : World) (m : Nat) (h : m ≤ 32) : (Instr.makeSlice 41 (.int .i64 m) (.int .i64 m)).run Try.prog w = .ok (.slice (some ⟨w.heap.size, 0, none⟩) m m) (w.alloc (.cells (u8s (zerosL m)).toArray 5)) := by
  obtain ⟨i0, hi, hz0, hz1, hz2⟩ := info_parts info5
  have := run_make (P := Try.prog) w 41 5 i0 (.int .u8 0) Try.underlying41 hi hz0 .i64 .i64 m m (by omega) (by omega) (by rw [hz2]; omega) (by omega)
  rw [hz1, Int.toNat_natCast, Nat.mul_one, made_u8s] at this
  exact this
theorem fresh_row (W w : World) (m : Nat) (hb : Below W.heap.size W w) : Fresh W (w.alloc (.cells (u8s (zerosL m)).toArray 5)) w.heap.size m (zerosL m) := by
  refine ⟨hb.size, by simp, fun j hj => ?_, fun j => ?_, hb.alloc hb.size _⟩
  · rw [Nat.zero_add, box_cells, zerosL_getD]
    rw [u8s_zerosL]
    simp [hj]
  · exact (boxed (w := w) (cs := (u8s (zerosL m)).toArray) (T := 5) (Below.refl _ _)).2 j
theorem text_cells (s : ByteArray) (m : Nat) (h : m ≤ s.size) : (s.data.toList.map fun x => Value.int .u8 (x.toNat : Int)).take m = u8s (pathL s m) := by
  have hs : s.data.toList.length = s.size := by rw [Array.length_toList]; rfl
  apply List.ext_getElem
  · rw [List.length_take, List.length_map, hs, u8s_length, pathL_len]; omega
  · intro j h1 h2
    have hj : j < m := by rw [u8s_length, pathL_len] at h2; exact h2
    have hb : byteAt s j = (s[j].toNat : Int) := by unfold byteAt; rw [dif_pos (by omega)]
    simp only [List.getElem_take, List.getElem_map, u8s, pathL, List.getElem_range, hb]
    rfl
theorem copy_text (w : World) (g n cap : Nat) (s : ByteArray) (zs : List Int) (ty : TypeId) (hr : RowAt w g 0 n zs) (hf : ∀ j, w.frozen? ⟨g, j, none⟩ = false) :
    (Builtin.copy_ #[41, 9] ty #[.slice (some ⟨g, 0, none⟩) n cap, .string s]).run Try.prog w = .ok (.int .i64 ((min n s.size : Nat) : Int)) (w.setCells g (0 + 0) (u8s (pathL s (min n s.size)))) := by
  have hmin : Nat.min s.size n = min n s.size := Nat.min_comm _ _
  have hl : (u8s (pathL s (min n s.size))).length = min n s.size := by rw [u8s_length, pathL_len]
  have hst := run_storeCells_cells (P := Try.prog) g 0 (u8s (pathL s (min n s.size))) 0 w (by rw [hl]; intro j hj; simp only [Nat.zero_add, Nat.add_zero]; have := hr j (by omega); rw [Nat.zero_add] at this; rw [this]; rfl) (by intro j _; simpa using hf _) (by
    intro v hv
    obtain ⟨x, _, rfl⟩ := List.mem_map.1 hv
    rfl)
  have hz : ∀ w, (Go.sizeOf 5).run Try.prog w = .ok 1 w := fun w => by kernel_rfl
  simp [Builtin.copy_, run_underlying Try.underlying41, Builtin.lenOf, Builtin.firstCells, hz, hmin]
  rw [text_cells s _ (by omega), hst]
  rfl
theorem put_text (s : ByteArray) (n : Nat) : putL (zerosL n) 0 (pathL s (min n s.size)) = pathL s n := by
  unfold putL
  rw [List.take_zero, List.nil_append, pathL_len, Nat.zero_add]
  apply List.ext_getElem
  · rw [List.length_append, pathL_len, List.length_drop, pathL_len]; unfold zerosL; rw [List.length_replicate]; omega
  · intro j h1 h2
    rw [pathL_len] at h2
    rcases Nat.lt_or_ge j (min n s.size) with h | h
    · rw [List.getElem_append_left (by rw [pathL_len]; exact h)]
      simp [pathL]
    · rw [List.getElem_append_right (by rw [pathL_len]; exact h)]
      have hb : byteAt s j = 0 := by unfold byteAt; rw [dif_neg (by omega)]
      simp [pathL, zerosL, hb]
theorem zpath_no (X : Array Value) (n : Int) (w : World) (h : ¬ (1 ≤ n ∧ n ≤ 32)) : Calls Try.prog 14 #[.agg X, .int .i64 n] w (Tells (.tuple #[.slice none 0 0, .int .i64 0]) w) := by
  by_cases h1 : n < 1
  · go_enter Try.func14, Try.ntmps14
    go_wp2
    go_ret2
    exact ⟨rfl, (Below.refl _ _).alloc (Nat.le_refl _) _⟩
  · have h2 : 32 < n := by omega
    go_enter Try.func14, Try.ntmps14
    go_wp2
    go_ret2
    exact ⟨rfl, (Below.refl _ _).alloc (Nat.le_refl _) _⟩
theorem zpath_yes (X : Array Value) (o : Kob) (n : Nat) (w : World) (hx : ObX w X o) (h1 : 1 ≤ n) (h2 : n ≤ 32) : Calls Try.prog 14 #[.agg X, .int .i64 n] w (GaveP o.path n w) := by
  have hx11 := hx.x11
  have hsz := hx.bp
  obtain ⟨s, hs⟩ : ∃ s, o.path = s := ⟨_, rfl⟩
  rw [hs] at hx11 hsz ⊢
  unfold maxLen at hsz
  have hmk := make_row (w.alloc (.cells X 38)) n h2
  have hfr := fresh_row w (w.alloc (.cells X 38)) n ((Below.refl _ _).alloc (Nat.le_refl _) _)
  have hb1 : Below (w.alloc (.cells X 38)).heap.size (w.alloc (.cells X 38)) ((w.alloc (.cells X 38)).alloc (.cells (u8s (zerosL n)).toArray 5)) := (Below.refl _ _).alloc (Nat.le_refl _) _
  have hcell := (box_stay hb1 11).trans hx11
  obtain ⟨W1, hW1⟩ : ∃ W1, (w.alloc (.cells X 38)).alloc (.cells (u8s (zerosL n)).toArray 5) = W1 := ⟨_, rfl⟩
  rw [hW1] at hmk hfr hcell
  rw [World.size_alloc] at hmk hfr
  have hcp := fun ty => copy_text W1 (w.heap.size + 1) n n s (zerosL n) ty hfr.row hfr.free
  have hput := hfr.put (vs := pathL s (min n s.size)) (p := 0) (by unfold zerosL; simp) (by rw [pathL_len]; omega)
  rw [put_text] at hput
  obtain ⟨W2, hW2⟩ : ∃ W2, W1.setCells (w.heap.size + 1) (0 + 0) (u8s (pathL s (min n s.size))) = W2 := ⟨_, rfl⟩
  rw [hW2] at hput hcp
  have HP := Lib.hid hput
  clear hx hx11 hs hfr hb1 hput hW1 hW2
  go_enter Try.func14, Try.ntmps14
  go_wp2
  go_ret2
  exact ⟨some ⟨w.heap.size + 1, 0, none⟩, n, rfl, HP.out.below, w.heap.size + 1, rfl, by omega, HP.out.lt, HP.out.row⟩
/-! ### Key -/
/-- A store of a whole key, veiled. -/
def stoKey (p v : Value) : Sem Unit := Instr.storeAt 35 p v
theorem stoKey_veil (p v : Value) : Instr.storeAt 35 p v = stoKey p v := rfl
theorem run_stoKey (w : World) (g : Nat) (cur Y : Array Value) (t : TypeId) (hg : w.heap[g]? = some (.cells cur t (0, 0))) (hs : cur.size = 2) (hY : Y.size = 2) (h1 : Y.all (·.oneCell') = true) : (stoKey (.pointer (some ⟨g, 0, none⟩)) (.agg Y)).run Try.prog w = .ok () (w.setRow g Y) := by
  unfold stoKey
  simp only [Instr.storeAt, Instr.sureAddr, Sem.run_bind, Sem.run_pure, Result.andThen]
  exact run_storeVar_row w g t 35 cur Y hg (by rw [hY]; kernel_rfl) (by rw [hs, hY]) h1
attribute [local go_sem ↓] loadObj_veil stoKey_veil
set_option maxRecDepth 10000 in
theorem zkey (X : Array Value) (o : Kob) (w : World) (hx : ObX w X o) : Calls Try.prog 18 #[.agg X] w (Tells (.agg #[.int .i64 o.id, .int .i64 o.gen]) w) := by
  have hb1 : Below (w.alloc (.cells X 38)).heap.size (w.alloc (.cells X 38)) ((w.alloc (.cells X 38)).alloc (.cells #[.int .i64 0, .int .i64 0] 35)) := (Below.refl _ _).alloc (Nat.le_refl _) _
  have hb2 : Below w.heap.size w ((w.alloc (.cells X 38)).alloc (.cells #[.int .i64 0, .int .i64 0] 35)) := ((Below.refl _ _).alloc (Nat.le_refl _) _).alloc (by simp) _
  have h1 := (box_stay hb1 1).trans hx.x1
  have h2 := (box_stay hb1 2).trans hx.x2
  have g0 := heap_alloc_new (w.alloc (.cells X 38)) (.cells #[.int .i64 0, .int .i64 0] 35)
  rw [World.size_alloc] at g0
  obtain ⟨W1, hW1⟩ : ∃ W1, (w.alloc (.cells X 38)).alloc (.cells #[.int .i64 0, .int .i64 0] 35) = W1 := ⟨_, rfl⟩
  rw [hW1] at h1 h2 g0 hb2
  generalize o.id = a at h1 ⊢
  generalize o.gen = b at h2 ⊢
  have hst := run_stoKey W1 (w.heap.size + 1) _ #[.int .i64 a, .int .i64 b] 35 g0 rfl rfl (by simp [Value.oneCell'])
  have hg1 := setRow_heap W1 (w.heap.size + 1) _ #[.int .i64 a, .int .i64 b] 35 (0, 0) g0
  have HB2 := Lib.hid hb2
  have HG1 := Lib.hid hg1
  clear hx hb1 g0 hb2 hg1
  go_enter Try.func18, Try.ntmps18
  go_upto_region 1 with fail
  clear hW1
  go_wp2
  refine bodyPost_ret (results_cell_row (p := 2) Try.results18 _ _ (w.heap.size + 1) 35 #[.int .i64 a, .int .i64 b] (0, 0) _ (by kernel_rfl) HG1.out Try.underlying35 rfl (by kernel_rfl)) rfl ⟨rfl, below_setRow HB2.out (by omega) _⟩
/-! ### Inside -/
def insP (pid z : Int) : Bool := decide (0 ≤ z) && z == pid
theorem inside_clos (z pid : Int) (h : Nat) (w : World) (hp : w.cell? ⟨h, 0, none⟩ = some (.int .u64 pid)) (hz : -9223372036854775808 ≤ z ∧ z ≤ 9223372036854775807) :
    Calls Try.prog 34 #[.int .i64 z, .pointer (some ⟨h, 0, none⟩)] w (Tells (.bool (insP pid z)) w) := by
  unfold insP
  by_cases h0 : 0 ≤ z
  · rw [decide_eq_true h0, Bool.true_and]
    cases he : z == pid
    · go_enter Try.func34, Try.ntmps34
      go_wp2
      go_ret
      exact ⟨rfl, Below.refl _ _⟩
    · go_enter Try.func34, Try.ntmps34
      go_wp2
      go_ret
      exact ⟨rfl, Below.refl _ _⟩
  · rw [decide_eq_false h0, Bool.false_and]
    go_enter Try.func34, Try.ntmps34
    go_wp2
    go_ret
    exact ⟨rfl, Below.refl _ _⟩
theorem any_step (p : Int → Bool) (up : List Int) (i : Nat) (hi : i < up.length) : (up.take (i + 1)).any p = ((up.take i).any p || p (up.getD i 0)) := by
  rw [List.take_succ_eq_append_getElem hi, List.any_append, List.getD_eq_getElem?_getD, List.getElem?_eq_getElem hi]
  simp
def GaveIx (up : List Int) (pid : Int) (w : World) (e : Ending) (w' : World) : Prop := ∃ i : Int, e = .returned (.int .i64 i) ∧ decide (0 ≤ i) = insideB up pid ∧ Below w.heap.size w w'
theorem indexUp_call (up : List Int) (pid : Int) (a : Option Addr) (k h : Nat) (w : World) (hr : RowI w .i64 a up) (hl : up.length ≤ maxLen) (hz : ∀ j, -9223372036854775808 ≤ up.getD j 0 ∧ up.getD j 0 ≤ 9223372036854775807) (hp : w.cell? ⟨h, 0, none⟩ = some (.int .u64 pid)) :
    Calls Try.prog 42 #[.slice a up.length k, .func (.func 34) #[] #[.pointer (some ⟨h, 0, none⟩)]] w (GaveIx up pid w) := by
  have hlt := World.block_lt_of_cell? w _ hp
  unfold maxLen at hl
  obtain ⟨n, hn⟩ : ∃ n, up.length = n := ⟨_, rfl⟩
  rw [hn] at hl ⊢
  unfold GaveIx
  obtain ⟨A, hA⟩ : ∃ A, insideB up pid = A := ⟨_, rfl⟩
  rw [hA]
  have HN := Lib.hid hn
  have HR := Lib.hid hr
  have HA := Lib.hid hA
  have HZ := Lib.hid hz
  have HP := Lib.hid hp
  have HLT := Lib.hid hlt
  clear hn hr hA hz hp hlt
  go_enter Try.func42, Try.ntmps42
  go_wp2
  go_loopw [8] (fun x W => ∃ i : Nat, i ≤ n ∧ x = .int .i64 i ∧ (up.take i).any (insP pid) = false ∧ Below w.heap.size w W) (fun x _ => n - (intOf x).toNat)
  case atStart => exact ⟨0, by omega, rfl, by simp, Below.refl _ _⟩
  case round =>
    obtain ⟨i, hi, rfl, hall, hb⟩ := hrel
    have HALL := Lib.hid hall
    have HB := Lib.hid hb
    clear hall hb
    by_cases hlt : i < n
    · obtain ⟨p, off, rfl, -, hr⟩ := (HR.out.stay HB.out) (by rw [HN.out]; omega)
      have hz := hr i (by rw [HN.out]; exact hlt)
      have hst := any_step (insP pid) up i (by rw [HN.out]; exact hlt)
      have hcl := inside_clos (up.getD i 0) pid h wr ((HB.out.cell (p := ⟨h, 0, none⟩) HLT.out).trans HP.out) (HZ.out i)
      rw [HALL.out, Bool.false_or] at hst
      generalize up.getD i 0 = z at hz hst hcl
      clear hr
      cases hy : insP pid z
      · rw [hy] at hst hcl
        have HST := Lib.hid hst
        have HC := Lib.hid hcl
        clear hst hcl hy
        go_wp2_with (go_at_call 34; refine HC.out.mono ?_; rintro e w' ⟨rfl, hb'⟩; have HB' := Lib.hid hb'; clear hb')
        go_roundw
        case rel => exact ⟨i + 1, by omega, by go_num, HST.out, HB.out.trans (HB'.out.mono HB.out.size)⟩
        case measure => simp [intOf]; omega
      · rw [hy] at hst hcl
        have hyes : A = true := by
          rw [← HA.out]
          unfold insideB
          rw [List.any_eq_true]
          obtain ⟨x, hx, hxx⟩ := List.any_eq_true.1 hst
          exact ⟨x, List.mem_of_mem_take hx, hxx⟩
        have HY := Lib.hid hyes
        have HC := Lib.hid hcl
        clear hst hcl hy hyes
        go_wp2_with (go_at_call 34; refine HC.out.mono ?_; rintro e w' ⟨rfl, hb'⟩; have HB' := Lib.hid hb'; clear hb')
        go_ret
        exact ⟨_, rfl, by rw [HY.out]; simp, HB.out.trans (HB'.out.mono HB.out.size)⟩
    · obtain rfl : i = n := by omega
      have hno : A = false := by
        rw [← HA.out]
        have h := HALL.out
        rw [← HN.out, List.take_length] at h
        exact h
      have HF := Lib.hid hno
      clear hno
      go_wp2
      go_ret
      exact ⟨_, rfl, by rw [HF.out]; rfl, HB.out⟩
theorem containsUp_call (up : List Int) (pid : Int) (a : Option Addr) (k h : Nat) (w : World) (hr : RowI w .i64 a up) (hl : up.length ≤ maxLen) (hz : ∀ j, -9223372036854775808 ≤ up.getD j 0 ∧ up.getD j 0 ≤ 9223372036854775807) (hp : w.cell? ⟨h, 0, none⟩ = some (.int .u64 pid)) :
    Calls Try.prog 33 #[.slice a up.length k, .func (.func 34) #[] #[.pointer (some ⟨h, 0, none⟩)]] w (Tells (.bool (insideB up pid)) w) := by
  have HC := Lib.hid (indexUp_call up pid a k h w hr hl hz hp)
  clear hr hl hz hp
  generalize up.length = n at HC ⊢
  go_enter Try.func33, Try.ntmps33
  go_wp2_with (go_at_call 42; refine HC.out.mono ?_; rintro e w' ⟨i, rfl, hi, hb⟩; have HI := Lib.hid hi; have HB := Lib.hid hb; clear hi hb)
  go_ret
  exact ⟨by rw [← HI.out]; rfl, HB.out⟩
theorem zinside (X : Array Value) (o : Kob) (pid : Int) (w : World) (hx : ObX w X o) : Calls Try.prog 16 #[.agg X, .int .u64 pid] w (Tells (.bool (insideB o.up pid)) w) := by
  obtain ⟨a, c, hx12, hrow⟩ := hx.x12
  have hbu := hx.bu
  have hbz := hx.bz
  obtain ⟨up, hup⟩ : ∃ up, o.up = up := ⟨_, rfl⟩
  rw [hup] at hx12 hrow hbu hbz ⊢
  have hb1 : Below (w.alloc (.cells X 38)).heap.size (w.alloc (.cells X 38)) ((w.alloc (.cells X 38)).alloc (.cells #[.int .u64 pid] 22)) := (Below.refl _ _).alloc (Nat.le_refl _) _
  have hb2 : Below w.heap.size w ((w.alloc (.cells X 38)).alloc (.cells #[.int .u64 pid] 22)) := ((Below.refl _ _).alloc (Nat.le_refl _) _).alloc (by simp) _
  have hcell := (box_stay hb1 12).trans hx12
  have hpid : ((w.alloc (.cells X 38)).alloc (.cells #[.int .u64 pid] 22)).cell? ⟨w.heap.size + 1, 0, none⟩ = some (.int .u64 pid) := by
    have := box_cells (w.alloc (.cells X 38)) #[.int .u64 pid] 22 0
    rw [World.size_alloc] at this
    exact this
  have HC := Lib.hid fun k => containsUp_call up pid a k (w.heap.size + 1) _ (hrow.stay hb2) hbu hbz hpid
  have HB2 := Lib.hid hb2
  generalize up.length = n at HC hcell hbu
  generalize insideB up pid = B at HC ⊢
  clear hx hx12 hrow hbu hbz hb1 hb2 hup hpid
  go_enter Try.func16, Try.ntmps16
  go_wp2_with (go_at_call 33; refine (HC.out _).mono ?_; rintro e w' ⟨rfl, hb⟩; have HB := Lib.hid hb; clear hb)
  go_ret
  exact ⟨rfl, HB2.out.trans (HB.out.mono HB2.out.size)⟩
theorem acts17L : Acts17L := ⟨fun X _ n w _ h => zpath_no X n w h, zpath_yes, fun X o pid w hx _ => zinside X o pid w hx, zkey⟩
end Go.Proofs.Ytcdpmggjdmibjaa
