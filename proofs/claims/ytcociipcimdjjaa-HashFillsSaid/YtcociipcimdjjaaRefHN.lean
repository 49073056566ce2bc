/-
  Proved here: what New and May of the document's maps by keys give. Conditions: as each says.
-/
import Derived.Test.YtcociipcimdjjaaRefH
import Derived.Deep.RegionWith
namespace Go.Proofs.Ytcociipcimdjjaa
open Go.RowKit

/-- What New of the document's arrays gives is an array of zeros. -/
theorem rf_of_new {W w : World} {R s n L : Nat} {v : Value} {gs : Nat → Nat} (h : NewAt W w R s n v gs) (hd : Dim s n L) : ∃ B cap, v = .slice (some ⟨B, 0, none⟩) n cap ∧ R < B ∧ Rf w R B cap s n L gs (zeros L) := by
  have hn := hd.n0
  obtain ⟨m, rfl⟩ : ∃ m, n = m + 1 := ⟨n - 1, by omega⟩
  obtain ⟨B, cap, rfl⟩ := own_shape h.own
  have hB := h.own.lt B rfl
  have hh : ∃ cur, w.heap[B]? = some (.cells cur 31 (0, 0)) := by
    rcases h.own.2 with ⟨h0, _⟩ | ⟨g, cap', cur, hv, _, hh, _⟩
    · cases h0
    · injection hv with hv; injection hv with hv; injection hv with hv
      subst hv
      exact ⟨cur, hh⟩
  obtain ⟨cur, hh⟩ := hh
  refine ⟨B, cap, rfl, by omega, h.c0, h.c1, fun k hk => ?_, fun k j hk hj => ?_, fun k j hk => ?_, zeros_length L, fun i j hi hj e => ?_, fun k hk => ?_, fun k hk => ?_⟩
  · have := h.own.cells (g := B) rfl k (.slice (some ⟨gs k, 0, none⟩) s s) (by simp [rowsOf, hk])
    rwa [add_lit, Nat.zero_add] at this
  · rw [zeros_get]
    simp [World.cell?, h.rows k hk, u8s, zeros, hj]
  · simp [World.frozen?, h.rows k hk]
  · rcases Nat.lt_trichotomy i j with hl | hl | hl
    · have := h.inc i j hl hj; omega
    · exact hl
    · have := h.inc j i hl hi; omega
  · have := h.lo k hk; omega
  · intro e
    have := h.rows k hk
    rw [e, hh] at this
    injection this with this
    injection this with _ h2 _
    cases h2
def mayH (key s n : Int) : Bool := decide (1 ≤ key) && decide (key ≤ 8) && mayB s n
theorem ref_mayH (key s n : Int) (w : World) : Calls Try.prog 7 #[.int .i64 key, .int .i64 s, .int .i64 n] w (Ret (.bool (mayH key s n)) w) := by
  unfold Ret
  by_cases h1 : 1 ≤ key
  · by_cases h2 : key ≤ 8
    · go_enter Try.func7, Try.ntmps7
      go_wp2_with (go_at_call 23; refine (ref_may _ _ _).mono ?_; rintro e w2 ⟨rfl, rfl⟩)
      go_ret
      exact ⟨ret_bool (by simp [mayH, h1, h2]), rfl⟩
    · go_enter Try.func7, Try.ntmps7
      go_wp2
      go_ret
      exact ⟨ret_bool (by simp [mayH]; omega), rfl⟩
  · go_enter Try.func7, Try.ntmps7
    go_wp2
    go_ret
    exact ⟨ret_bool (by simp [mayH]; omega), rfl⟩
theorem str_info : (Try.prog.info? 9).map (fun i => (i.zero, i.size, i.bytes)) = some (some (.string ⟨#[]⟩), 1, 16) := by kernel_rfl
def noKeys (n : Nat) : List ByteArray := List.replicate n ⟨#[]⟩
theorem make_str (n : Nat) (h : n ≤ 1000) : ∀ w : World, (Instr.makeSlice 44 (.int .i64 n) (.int .i64 n)).run Try.prog w = .ok (.slice (some ⟨w.heap.size, 0, none⟩) n n) (w.alloc (.cells ((noKeys n).map Value.string).toArray 9)) := fun w => by
  obtain ⟨i0, hi0, hz0, hz1, hz2⟩ := info_parts str_info
  have hr := run_make (P := Try.prog) w 44 9 i0 _ Try.underlying44 hi0 hz0 .i64 .i64 n n (by omega) (by omega) (by rw [hz2]; omega) (by omega)
  rw [hz1, Int.toNat_natCast, Nat.mul_one] at hr
  have e : madeCells (Value.cells (.string ⟨#[]⟩)) n = ((noKeys n).map Value.string).toArray := by
    apply Array.ext
    · simp [noKeys, size_madeCells]
    · intro i h1 h2
      simp [madeCells, Value.cells, noKeys, Nat.mod_one]
  rw [e] at hr
  exact hr
/-- What New gives: a map whose slots are all free, in new memory. -/
def GaveH (W : World) (key s n L : Nat) (e : Ending) (w : World) : Prop :=
  ∃ H K R B cap gs, e = .returned (.pointer (some ⟨H, 0, none⟩)) ∧ Hf w H K R B cap key s n L gs (noKeys n) (zeros L) ∧ Below W.heap.size W w ∧ W.heap.size ≤ H ∧ W.heap.size ≤ K ∧ W.heap.size ≤ R ∧ W.heap.size ≤ B ∧ ∀ k, k < n → W.heap.size ≤ gs k
theorem hf_mk {w2 : World} {K R B cap key s n L : Nat} {gs : Nat → Nat} (hrf : Rf w2 R B cap s n L gs (zeros L)) (hd : Dim s n L) (hK : w2.heap[K]? = some (.cells ((noKeys n).map Value.string).toArray 9 (0, 0)))
    (hKR : K ≠ R) (hKB : K ≠ B) (hKg : ∀ k, k < n → gs k ≠ K) :
    Hf (w2.alloc (.cells #[.int .i64 key, .slice (some ⟨K, 0, none⟩) n n, .pointer (some ⟨R, 0, none⟩)] 47)) w2.heap.size K R B cap key s n L gs (noKeys n) (zeros L) := by
  have hb : Below w2.heap.size w2 (w2.alloc (.cells #[.int .i64 key, .slice (some ⟨K, 0, none⟩) n n, .pointer (some ⟨R, 0, none⟩)] 47)) := (Below.refl _ _).alloc (Nat.le_refl _) _
  have hKl := lt_of_heap hK
  have eK := hb.block K hKl
  rw [hK] at eK
  refine ⟨by simp [go_sem], by simp [go_sem], by simp [go_sem], fun k hk => ?_, fun j => by simp [World.frozen?, eK], by simp [noKeys], hrf.stay hd.s0 hd.n0 hb, by omega, hKR, hKB, hKg, fun k hk => by have := hrf.ltG hd.s0 hk; omega⟩
  simp [World.cell?, eK, noKeys, hk]
theorem ref_newH (key s n L : Nat) (w : World) (hd : Dim s n L) : Calls Try.prog 8 #[.int .i64 key, .int .i64 s, .int .i64 n] w (GaveH w key s n L) := by
  have hmk := make_str n (by have := hd.n1; omega)
  have s1 := hd.s1
  have n1 := hd.n1
  have HD := Lib.hid hd
  clear hd
  go_enter Try.func8, Try.ntmps8
  go_wp2
  go_region_with (go_at_call 24; refine (ref_new _ _ _ s1 n1).mono ?_; rintro e w3 ⟨R, v, gs, rfl, hn3⟩; have HN3 := Lib.hid hn3; clear hn3)
  · go_wp2
    go_ret
    have hn := HN3.out
    obtain ⟨B, cap, rfl, hRB, hrf⟩ := rf_of_new hn HD.out
    have hz := hn.below.size
    have ha := hn.at_
    simp at hz ha
    have hKb := hn.below.block w.heap.size (by omega)
    refine ⟨_, w.heap.size, R, B, cap, gs, rfl, hf_mk hrf HD.out (hKb.trans (heap_alloc_new w _)) (by omega) (by omega) (fun k hk => by have := hn.lo k hk; omega), ?_, by omega, by omega, by omega, by omega, fun k hk => by have := hn.lo k hk; omega⟩
    exact ((((Below.refl _ _).alloc (Nat.le_refl _) _).drew).trans (hn.below.mono (by omega))).alloc (by omega) _
  · go_wp2
    go_ret
    have hn := HN3.out
    obtain ⟨B, cap, rfl, hRB, hrf⟩ := rf_of_new hn HD.out
    have hz := hn.below.size
    have ha := hn.at_
    simp at hz ha
    have hb : Below w3.heap.size w3 (w3.alloc (.cells ((noKeys n).map Value.string).toArray 9)) := (Below.refl _ _).alloc (Nat.le_refl _) _
    have hrf2 := hrf.stay HD.out.s0 HD.out.n0 hb
    have hm := hf_mk (key := key) hrf2 HD.out (K := w3.heap.size) (heap_alloc_new w3 _) (by have := hrf.ltR; omega) (by have := hrf.ltB HD.out.n0; omega) (fun k hk => by have := hrf.ltG HD.out.s0 hk; omega)
    have e9 : (w3.alloc (.cells ((noKeys n).map Value.string).toArray 9)).heap.size = w3.heap.size + 1 := by simp
    rw [e9] at hm
    refine ⟨_, w3.heap.size, R, B, cap, gs, rfl, hm, ?_, by omega, by omega, by omega, by omega, fun k hk => by have := hn.lo k hk; omega⟩
    exact ((((Below.refl _ _).drew).trans (hn.below.mono (by omega))).trans (hb.mono (by omega))).alloc (by omega) _
end Go.Proofs.Ytcociipcimdjjaa
