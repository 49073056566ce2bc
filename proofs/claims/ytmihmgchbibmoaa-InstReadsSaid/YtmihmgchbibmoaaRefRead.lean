/-
  Proved here: Read of package inst refuses what is no code's bytes, and Read of the document's answers tells the instructions of a code's bytes, or false. Conditions: the bytes fit.
-/
import Derived.Test.YtmihmgchbibmoaaRead
import Derived.Deep.RegionHeld3
namespace Go.Proofs.Ytmihmgchbibmoaa
open Go.RowKit

/-- A code's length. -/
def codeB (len : Nat) : Bool := decide (len % 8 = 0) && decide (1 ≤ len / 8) && decide (len / 8 ≤ 64)
theorem codeB_true {len : Nat} (h : codeB len = true) : len % 8 = 0 ∧ 1 ≤ len / 8 ∧ len / 8 ≤ 64 := by
  simpa [codeB, and_assoc] using h
theorem codeB_false {len : Nat} (h : codeB len = false) : len % 8 ≠ 0 ∨ len / 8 < 1 ∨ 64 < len / 8 := by
  simp only [codeB, Bool.and_eq_false_iff, decide_eq_false_iff_not] at h
  omega

theorem read_bad (A : Option Addr) (len cap : Nat) (w : World) (h : codeB len = false) (hm : len ≤ maxLen) :
    Calls Try.prog 10 #[.slice A len cap] w (Ret (.tuple #[.slice none 0 0, .int .i64 22]) w) := by
  unfold maxLen at hm
  unfold Ret
  rcases codeB_false h with h1 | h1
  · have d : ((len : Int) % 8 != 0) = true := by rw [bne_iff_ne]; omega
    clear h h1
    go_enter Try.func10, Try.ntmps10
    go_wp2
    go_ret2
    exact ⟨rfl, rfl⟩
  · by_cases h2 : len % 8 = 0
    · have d : ((len : Int) % 8 != 0) = false := by rw [bne_eq_false_iff_eq]; omega
      rcases h1 with h1 | h1
      · have d1 : decide ((len : Int) / 8 < 1) = true := decide_eq_true (by omega)
        clear h h1 h2
        go_enter Try.func10, Try.ntmps10
        go_wp2
        go_ret2
        exact ⟨rfl, rfl⟩
      · have d1 : decide ((len : Int) / 8 < 1) = false := decide_eq_false (by omega)
        have d2 : decide (64 < (len : Int) / 8) = true := decide_eq_true (by omega)
        clear h h1 h2
        go_enter Try.func10, Try.ntmps10
        go_wp2
        go_ret2
        exact ⟨rfl, rfl⟩
    · have d : ((len : Int) % 8 != 0) = true := by rw [bne_iff_ne]; omega
      clear h h1 h2
      go_enter Try.func10, Try.ntmps10
      go_wp2
      go_ret2
      exact ⟨rfl, rfl⟩
theorem ref_bad (A : Option Addr) (len cap : Nat) (w : World) (h : codeB len = false) (hm : len ≤ maxLen) :
    Calls Try.prog 11 #[.slice A len cap] w (Ret (.tuple #[.slice none 0 0, .bool false]) w) := by
  unfold maxLen at hm
  unfold Ret
  have h1 := codeB_false h
  by_cases h8 : len < 8
  · have d : decide ((len : Int) < 8) = true := decide_eq_true (by omega)
    clear h h1
    go_enter Try.func11, Try.ntmps11
    go_wp2
    go_ret2
    exact ⟨rfl, rfl⟩
  · have d : decide ((len : Int) < 8) = false := decide_eq_false (by omega)
    by_cases h5 : 512 < len
    · have d2 : decide (512 < (len : Int)) = true := decide_eq_true (by omega)
      clear h h1
      go_enter Try.func11, Try.ntmps11
      go_wp2
      go_ret2
      exact ⟨rfl, rfl⟩
    · have d2 : decide (512 < (len : Int)) = false := decide_eq_false (by omega)
      have d3 : decide (0 < (len : Int) % 8) = true := decide_eq_true (by omega)
      clear h h1
      go_enter Try.func11, Try.ntmps11
      go_wp2
      go_ret2
      exact ⟨rfl, rfl⟩

theorem ldF_drop (zs : List Int) (q : Nat) : ∀ k p, ldF (zs.drop q) p k = ldF zs (q + p) k
  | 0, _ => rfl
  | k + 1, p => by
    rw [ldF, ldF, ldF_drop zs q k (p + 1), List.getD_eq_getElem?_getD, List.getD_eq_getElem?_getD, List.getElem?_drop]
    rfl
theorem pieceOf_at (zs : List Int) (j : Nat) : pieceOf zs j = insOf zs (8 * j) := by
  have e : ∀ i, (zs.drop (8 * j)).getD i 0 = zs.getD (8 * j + i) 0 := fun i => by rw [List.getD_eq_getElem?_getD, List.getD_eq_getElem?_getD, List.getElem?_drop]
  simp only [pieceOf, insOf, Nat.zero_add, e, ldF_drop, Nat.add_zero]
theorem load_ref_at (g off len cap p n : Nat) (q : Int) (hq : q = p) (zs : List Int) (w : World) (v : Int) (hl : len ≤ maxLen) (hn : n ≤ 8) (hpn : p + n ≤ len) (hr : RowAt w g off len zs) (hz : BytesIn zs) (hv : ldF zs p n = v) :
    Calls Try.prog 20 #[.slice (some ⟨g, off, none⟩) len cap, .int .i64 q, .int .i64 n] w (Ret (.int .u64 v) w) := by
  subst hq hv
  exact load_ref g off len cap p n zs w hl hn hpn hr hz
theorem sext_ref_at (x n z : Int) (w : World) (h0 : 0 ≤ x) (h1 : x ≤ 18446744073709551615) (h : sx x n = z) : Calls Try.prog 19 #[.int .u64 x, .int .i64 n] w (Ret (.int .u64 z) w) := by
  subst h
  exact sext_ref x n w h0 h1
theorem i16_sx (x : Int) : IntKind.i16.wrap (sx x 2) = IntKind.i16.wrap x := by
  simp only [sx, IntKind.wrap, IntKind.bits, IntKind.signed]
  simp
  split <;> omega
theorem w32_sx (x : Int) : wrap32 (sx x 4) = wrap32 x := by
  simp only [sx, wrap32]
  simp
  split <;> omega

theorem cellsOf_at : ∀ (l : List Ins) (j i : Nat), j < l.length → (hi : i < 5) → (cellsOf l)[j * 5 + i]? = some ((l.getD j .zero).cells[i]'hi)
  | [], _, _, h, _ => absurd h (by simp)
  | x :: l, 0, i, _, hi => by
    simp only [cellsOf, List.flatMap_cons, Nat.zero_mul, Nat.zero_add]
    rw [List.getElem?_append_left hi, List.getElem?_eq_getElem hi]
    rfl
  | x :: l, j + 1, i, h, hi => by
    have ih := cellsOf_at l j i (by simpa using h) hi
    simp only [cellsOf, List.flatMap_cons] at ih ⊢
    rw [List.getElem?_append_right (by show 5 ≤ _; omega)]
    have e : (j + 1) * 5 + i - x.cells.length = j * 5 + i := by show (j + 1) * 5 + i - 5 = _; omega
    rw [e, ih]
    rfl
/-- Instructions in a row of the call's own. -/
theorem insRow_of_own {w : World} {n N : Nat} {v : Value} {l : List Ins} (hl : l.length = N) (h : w.ownsRow n 36 5 v N (cellsOf l)) : ∃ A cap, v = .slice A N cap ∧ InsAt w A l := by
  rcases h.2 with ⟨rfl, h0⟩ | ⟨g, cap, cur, rfl, hg, hh, hnc, hc, hcs, htk⟩
  · subst h0
    exact ⟨none, 0, rfl, .inl hl⟩
  · refine ⟨_, cap, rfl, .inr ⟨g, 0, rfl, (Array.getElem?_eq_some_iff.1 hh).1, fun j hj => ?_⟩⟩
    have hc := h.cells (g := g) rfl
    have k0 := hc (j * 5) _ (cellsOf_at l j 0 hj (by omega))
    have k1 := hc (j * 5 + 1) _ (cellsOf_at l j 1 hj (by omega))
    have k2 := hc (j * 5 + 2) _ (cellsOf_at l j 2 hj (by omega))
    have k3 := hc (j * 5 + 3) _ (cellsOf_at l j 3 hj (by omega))
    have k4 := hc (j * 5 + 4) _ (cellsOf_at l j 4 hj (by omega))
    rw [add_lit] at k0 k1 k2 k3 k4
    exact ⟨k0, k1, k2, k3, k4⟩

theorem ref_load2 (g off len cap p : Nat) (q : Int) (hq : q = p) (zs : List Int) (w : World) (v : Int) (hl : len ≤ maxLen) (hpn : p + 2 ≤ len) (hr : RowAt w g off len zs) (hz : BytesIn zs) (hv : ldF zs p 2 = v) :
    Calls Try.prog 20 #[.slice (some ⟨g, off, none⟩) len cap, .int .i64 q, .int .i64 2] w (Ret (.int .u64 v) w) := load_ref_at g off len cap p 2 q hq zs w v hl (by omega) hpn hr hz hv
theorem ref_load4 (g off len cap p : Nat) (q : Int) (hq : q = p) (zs : List Int) (w : World) (v : Int) (hl : len ≤ maxLen) (hpn : p + 4 ≤ len) (hr : RowAt w g off len zs) (hz : BytesIn zs) (hv : ldF zs p 4 = v) :
    Calls Try.prog 20 #[.slice (some ⟨g, off, none⟩) len cap, .int .i64 q, .int .i64 4] w (Ret (.int .u64 v) w) := load_ref_at g off len cap p 4 q hq zs w v hl (by omega) hpn hr hz hv
theorem append_slot {W : World} {n : Nat} {v : Value} {k : Nat} {xs : List Value} (x : Ins) (hrow : W.ownsRow n 36 5 v k xs) (hn : n ≤ W.heap.size) (hk : k ≤ 1000) :
    ∃ v' W3, (appendV #[22, 22] 22 #[v, .slice (some ⟨W.heap.size, 0, none⟩) 1 1]).run Try.prog (W.alloc (.cells #[.int .u8 x.op, .int .u8 x.dst, .int .u8 x.src, .int .i16 x.off, .int .i32 x.imm] 36)).drew = .ok v' W3 ∧
      W3.ownsRow n 36 5 v' (k + 1) (xs ++ x.cells) ∧ Below n W W3 := by
  obtain ⟨i0, hi0, hz0, hz1, hz2⟩ := info_parts ins_info
  obtain ⟨v', W3, hrun, hown, hgr, -, -⟩ := run_append_own_at (P := Try.prog) (W.alloc (.cells #[.int .u8 x.op, .int .u8 x.dst, .int .u8 x.src, .int .i16 x.off, .int .i32 x.imm] 36)).drew n 22 22 36 i0 _ 5 12
    Try.underlying22 hi0 hz0 hz1 hz2 rfl (by omega) v k xs (hrow.alloc _).drew ⟨W.heap.size, 0, none⟩ 1 1 x.cells rfl
    (fun j u hu => by
      have e : (W.alloc (.cells #[.int .u8 x.op, .int .u8 x.dst, .int .u8 x.src, .int .i16 x.off, .int .i32 x.imm] 36)).drew.heap[W.heap.size]? = some (.cells x.cells.toArray 36) := heap_alloc_new W _
      rw [add_lit]
      simp only [World.cell?, e]
      rw [Nat.zero_add]
      simpa using hu) x.cells_one (by unfold maxLen; omega) (by omega) (by simp; omega)
  exact ⟨v', W3, hrun, hown, ((Below.refl n W).alloc hn _).drew.grown hgr (by simp; omega) (own_ge hrow)⟩
theorem insList_succ (zs : List Int) (k : Nat) : insList zs (k + 1) = insList zs k ++ [pieceOf zs k] := by simp [insList, List.range_succ]

attribute [local go_sem ↓] append_veil
set_option maxHeartbeats 2000000 in
theorem ref_good (g off cap N : Nat) (zs : List Int) (w : World) (h1 : 1 ≤ N) (h64 : N ≤ 64) (hr : RowAt w g off (8 * N) zs) (hz : BytesIn zs) :
    Calls Try.prog 11 #[.slice (some ⟨g, off, none⟩) (8 * N) cap] w fun e w' => ∃ v, e = .returned (.tuple #[v, .bool true]) ∧ w'.ownsRow w.heap.size 36 5 v N (cellsOf (insList zs N)) ∧ Below w.heap.size w w' := by
  have hgw : g < w.heap.size := World.block_lt_of_cell? w _ (hr 0 (by omega))
  have d1 : decide (8 * (N : Int) < 8) = false := decide_eq_false (by omega)
  have d2 : decide (512 < 8 * (N : Int)) = false := decide_eq_false (by omega)
  have d3 : decide (0 < 8 * (N : Int) % 8) = false := decide_eq_false (by omega)
  have d4 : (8 * (N : Int)) % 8 = 0 := by omega
  go_enter Try.func11, Try.ntmps11
  go_wp2
  clear d1 d2 d3 d4
  go_loopw [4, 5] (fun v i wr => ∃ k : Nat, k ≤ N ∧ i = .int .i64 (8 * (k : Int)) ∧ wr.ownsRow w.heap.size 36 5 v k (cellsOf (insList zs k)) ∧ Below w.heap.size w wr) (fun _ i _ => 8 * N - (intOf i).toNat)
  case atStart => exact ⟨0, by omega, rfl, World.ownsRow_nil _ _ _ _, Below.refl _ _⟩
  case round =>
    obtain ⟨k, hk, rfl, hown, hbel⟩ := hrel
    by_cases hlt : k < N
    · have hrw : RowAt wr g off (8 * N) zs := fun j hj => (hbel.cell (p := ⟨g, off + j, none⟩) hgw).trans (hr j hj)
      have c0 := hrw (8 * k) (by omega)
      have c1 := hrw (8 * k + 1) (by omega)
      have z0 := hz (8 * k)
      have z1 := hz (8 * k + 1)
      have hfb := ldF_bd zs hz 2 (8 * k + 2)
      have hmb := ldF_bd zs hz 4 (8 * k + 4)
      have hp : pieceOf zs k = ⟨zs.getD (8 * k) 0, zs.getD (8 * k + 1) 0 % 16, zs.getD (8 * k + 1) 0 / 16, IntKind.i16.wrap (sx (ldF zs (8 * k + 2) 2) 2), wrap32 (sx (ldF zs (8 * k + 4) 4) 4)⟩ := by
        rw [pieceOf_at, insOf, i16_sx, w32_sx]
      obtain ⟨o, ho⟩ : ∃ o, zs.getD (8 * k) 0 = o := ⟨_, rfl⟩
      obtain ⟨b, hb⟩ : ∃ b, zs.getD (8 * k + 1) 0 = b := ⟨_, rfl⟩
      obtain ⟨f, hf⟩ : ∃ f, ldF zs (8 * k + 2) 2 = f := ⟨_, rfl⟩
      obtain ⟨m, hm⟩ : ∃ m, ldF zs (8 * k + 4) 4 = m := ⟨_, rfl⟩
      rw [ho] at c0 z0
      rw [hb] at c1 z1
      rw [hf] at hfb
      rw [hm] at hmb
      rw [ho, hb, hf, hm] at hp
      obtain ⟨sf, hsf⟩ : ∃ sf, sx f 2 = sf := ⟨_, rfl⟩
      obtain ⟨sm, hsm⟩ : ∃ sm, sx m 4 = sm := ⟨_, rfl⟩
      rw [hsf, hsm] at hp
      obtain ⟨fi, hfi⟩ : ∃ fi, IntKind.i16.wrap sf = fi := ⟨_, rfl⟩
      obtain ⟨mi, hmi⟩ : ∃ mi, wrap32 sm = mi := ⟨_, rfl⟩
      rw [hfi, hmi] at hp
      obtain ⟨v3, W3, hrun, hown3, hb3⟩ := append_slot ⟨o, b % 16, b / 16, fi, mi⟩ hown hbel.size (by omega)
      dsimp only at hrun
      have S3 : W3.cell? ⟨g, off + 8 * k, none⟩ = some (.int .u8 o) ∧ W3.cell? ⟨g, off + (8 * k + 1), none⟩ = some (.int .u8 b) :=
        ⟨(hb3.cell (p := ⟨g, _, none⟩) hgw).trans c0, (hb3.cell (p := ⟨g, _, none⟩) hgw).trans c1⟩
      have hm4 : 8 * N ≤ maxLen := by unfold maxLen; omega
      have f1 : f ≤ 18446744073709551615 := by omega
      have m1 : m ≤ 18446744073709551615 := by omega
      have f0 := hfb.1
      have m0 := hmb.1
      have HF := Lib.hid hf
      have HM := Lib.hid hm
      have HSF := Lib.hid hsf
      have HSM := Lib.hid hsm
      have HP := Lib.hid hp
      have HO := Lib.hid hown3
      have HB := Lib.hid (hbel.trans hb3)
      have HW := Lib.hid hrw
      clear hf hm hsf hsm hp hown3 hb3 hown hbel ho hb hfb hmb hrw hr
      have i0 : (0 : Int) ≤ 8 * (k : Int) := by omega
      have i1 : 8 * (k : Int) < 8 * (N : Int) := by omega
      have i2 : 8 * (k : Int) + 1 < 8 * (N : Int) := by omega
      have e0 : (8 * (k : Int)).toNat = 8 * k := by omega
      have e1 : IntKind.i64.wrap (8 * (k : Int) + 1) = 8 * (k : Int) + 1 := IntWalk.i64_in _ (by omega)
      have e2 : IntKind.i64.wrap (8 * (k : Int) + 2) = 8 * (k : Int) + 2 := IntWalk.i64_in _ (by omega)
      have e3 : IntKind.i64.wrap (8 * (k : Int) + 4) = 8 * (k : Int) + 4 := IntWalk.i64_in _ (by omega)
      have e4 : (8 * (k : Int) + 1).toNat = 8 * k + 1 := by omega
      have i3 : (0 : Int) ≤ 8 * (k : Int) + 1 := by omega
      have t1 : b.tmod 16 = b % 16 := Int.tmod_eq_emod_of_nonneg z1.1
      have t2 : IntKind.u8.wrap (b.tdiv 16) = b / 16 := by rw [Int.tdiv_eq_ediv_of_nonneg z1.1, IntKind.wrap_u8']; omega
      have t3 : IntKind.i32.wrap sm = mi := by rw [← hmi, IntKind.wrap_i32]; unfold wrap32; omega
      go_wp2
      go_region_held3 (fun W => W.cell? ⟨g, off + 8 * k, none⟩ = some (.int .u8 o) ∧ W.cell? ⟨g, off + (8 * k + 1), none⟩ = some (.int .u8 b)) (first | exact S3 | go_keep)
        (first
          | (go_at_call 20; refine (ref_load2 g off (8 * N) cap (8 * k + 2) _ (by omega) zs _ f hm4 (by omega) (by exact HW.out) hz HF.out).mono ?_; clear HF; rintro e w' ⟨rfl, rfl⟩)
          | (go_at_call 20; refine (ref_load4 g off (8 * N) cap (8 * k + 4) _ (by omega) zs _ m hm4 (by omega) (by exact HW.out) hz HM.out).mono ?_; clear HM; rintro e w' ⟨rfl, rfl⟩)
          | (go_at_call 19; refine (sext_ref_at f 2 sf _ f0 f1 HSF.out).mono ?_; clear HSF; rintro e w' ⟨rfl, rfl⟩)
          | (go_at_call 19; refine (sext_ref_at m 4 sm _ m0 m1 HSM.out).mono ?_; clear HSM; rintro e w' ⟨rfl, rfl⟩))
      go_wp2
      go_roundw
      case rel => exact ⟨k + 1, by omega, congrArg _ (by omega), by rw [insList_succ, cellsOf_snoc, HP.out]; exact HO.out, HB.out⟩
      case measure => simp [intOf]; omega
    · obtain rfl : k = N := by omega
      have HO := Lib.hid hown
      have HB := Lib.hid hbel
      clear hown hbel hr hz
      go_wp2
      go_ret2
      exact ⟨_, rfl, HO.out, HB.out⟩
end Go.Proofs.Ytmihmgchbibmoaa
