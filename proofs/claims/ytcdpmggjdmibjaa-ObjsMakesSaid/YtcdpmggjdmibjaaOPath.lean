/-
  Proved here: what Path and Inside of the document's objects give. Conditions: an object that reads as one.
-/
import Derived.Test.YtcdpmggjdmibjaaOLoad
namespace Go.Proofs.Ytcdpmggjdmibjaa
open Go.RowKit

/-- The byte of a text at a place; 0 behind it. -/
def byteAt (s : ByteArray) (j : Nat) : Int := if h : j < s.size then (s[j].toNat : Int) else 0
/-- The first n bytes of a text, and zeros behind it. -/
def pathL (s : ByteArray) (n : Nat) : List Int := (List.range n).map (byteAt s)
theorem pathL_succ (s : ByteArray) (n : Nat) : pathL s (n + 1) = pathL s n ++ [byteAt s n] := by
  unfold pathL
  rw [List.range_succ, List.map_append]
  rfl
theorem pathL_len (s : ByteArray) (n : Nat) : (pathL s n).length = n := by simp [pathL]
/-- What Path gives: a new row of n bytes, how many of them are the path's. -/
def GaveP (s : ByteArray) (n : Nat) (W : World) (e : Ending) (w : World) : Prop := ∃ a c, e = .returned (.tuple #[.slice a n c, .int .i64 ((min n s.size : Nat) : Int)]) ∧ Below W.heap.size W w ∧ ∃ g, a = some ⟨g, 0, none⟩ ∧ W.heap.size ≤ g ∧ g < w.heap.size ∧ RowAt w g 0 n (pathL s n)
theorem path_no (X : Array Value) (n : Int) (w : World) (h : ¬ (1 ≤ n ∧ n ≤ 32)) : Calls Try.prog 15 #[.agg X, .int .i64 n] w (Tells (.tuple #[.slice none 0 0, .int .i64 0]) w) := by
  by_cases h1 : n < 1
  · go_enter Try.func15, Try.ntmps15
    go_wp2
    go_ret2
    exact ⟨rfl, (Below.refl _ _).alloc (Nat.le_refl _) _⟩
  · have h2 : 32 < n := by omega
    go_enter Try.func15, Try.ntmps15
    go_wp2
    go_ret2
    exact ⟨rfl, (Below.refl _ _).alloc (Nat.le_refl _) _⟩
theorem path_yes (X : Array Value) (o : Kob) (n : Nat) (w : World) (hx : ObX w X o) (h1 : 1 ≤ n) (h2 : n ≤ 32) : Calls Try.prog 15 #[.agg X, .int .i64 n] w (GaveP o.path n w) := by
  have hx11 := hx.x11
  have hsz := hx.bp
  obtain ⟨s, hs⟩ : ∃ s, o.path = s := ⟨_, rfl⟩
  rw [hs] at hx11 hsz ⊢
  unfold maxLen at hsz
  have HX := Lib.hid hx11
  clear hx11 hs hx
  go_enter Try.func15, Try.ntmps15
  go_wp2
  go_loopw [6, 7, 8] (fun v k i wr => ∃ m : Nat, m ≤ n ∧ i = .int .i64 m ∧ k = .int .i64 ((min m s.size : Nat) : Int) ∧ OwnB (w.alloc (.cells X 38)) wr v (pathL s m)) (fun _ _ i _ => n - (intOf i).toNat)
  case atStart => exact ⟨0, by omega, rfl, by simp, ownB_nil _⟩
  case round =>
    obtain ⟨m, hm, rfl, rfl, ho⟩ := hrel
    have HO := Lib.hid ho
    clear ho
    by_cases hlt : m < n
    · have hcell : wr.cell? ⟨w.heap.size, 11, none⟩ = some (.string s) := (box_stay HO.out.b _).trans HX.out
      by_cases hms : m < s.size
      · have hb : byteAt s m = (s[m].toNat : Int) := by unfold byteAt; rw [dif_pos hms]
        have hmin : min m s.size = m := by omega
        have hmin2 : min (m + 1) s.size = m + 1 := by omega
        rw [hmin]
        have HB := Lib.hid hb
        have HM := Lib.hid hmin2
        clear hb hmin hmin2
        go_wp2_with (at_builtin; refine wpList_byte rfl _ _ rfl HO.out rfl rfl (by rw [pathL_len]; omega) ?_; intro v1 w1 ho3)
        go_roundw
        case rel => exact ⟨m + 1, by omega, by go_num, by rw [HM.out]; go_num, by rw [pathL_succ, HB.out]; exact ho3⟩
        case measure => simp [intOf]; omega
      · have hb : byteAt s m = 0 := by unfold byteAt; rw [dif_neg hms]
        have hmin : min m s.size = s.size := by omega
        have hmin2 : min (m + 1) s.size = s.size := by omega
        rw [hmin]
        have HB := Lib.hid hb
        have HM := Lib.hid hmin2
        clear hb hmin hmin2
        go_wp2_with (at_builtin; refine wpList_byte rfl _ _ rfl HO.out rfl rfl (by rw [pathL_len]; omega) ?_; intro v1 w1 ho3)
        go_roundw
        case rel => exact ⟨m + 1, by omega, by go_num, by rw [HM.out], by rw [pathL_succ, HB.out]; exact ho3⟩
        case measure => simp [intOf]; omega
    · obtain rfl : m = n := by omega
      obtain ⟨a, c, rfl, hrow⟩ := HO.out.gave
      rw [pathL_len]
      go_wp2
      go_ret2
      refine ⟨a, c, rfl, below_box HO.out.b, ?_⟩
      obtain ⟨g, ha, hg, hgl, hr⟩ := hrow (by rw [pathL_len]; omega)
      rw [pathL_len] at hr
      exact ⟨g, ha, by simp at hg; omega, hgl, hr⟩

/-- Is a pid among those? -/
def insideB (up : List Int) (pid : Int) : Bool := up.any fun p => decide (0 ≤ p) && p == pid
theorem inside_step (up : List Int) (pid : Int) (i : Nat) (hi : i < up.length) : (up.take (i + 1)).any (fun p => decide (0 ≤ p) && p == pid) = ((up.take i).any (fun p => decide (0 ≤ p) && p == pid) || (decide (0 ≤ up.getD i 0) && up.getD i 0 == pid)) := by
  rw [List.take_succ_eq_append_getElem hi, List.any_append, List.getD_eq_getElem?_getD, List.getElem?_eq_getElem hi]
  simp
theorem inside_obj (X : Array Value) (o : Kob) (pid : Int) (w : World) (hx : ObX w X o) : Calls Try.prog 17 #[.agg X, .int .u64 pid] w (Tells (.bool (insideB o.up pid)) w) := by
  obtain ⟨a, c, hx12, hrow⟩ := hx.x12
  have hbu := hx.bu
  have hbz := hx.bz
  obtain ⟨up, hup⟩ : ∃ up, o.up = up := ⟨_, rfl⟩
  rw [hup] at hx12 hrow hbu hbz ⊢
  unfold maxLen at hbu
  obtain ⟨n, hn⟩ : ∃ n, up.length = n := ⟨_, rfl⟩
  rw [hn] at hx12 hbu
  have HN := Lib.hid hn
  have hcell : (w.alloc (.cells X 38)).cell? ⟨w.heap.size, 12, none⟩ = some (.slice a n c) := (box_cells w X 38 12).trans hx12
  have HR := Lib.hid (hrow.stay (((Below.refl _ _).alloc (Nat.le_refl _) _ : Below w.heap.size w (w.alloc (.cells X 38)))))
  have HZ := Lib.hid hbz
  clear hn hup hrow hx12 hbz hx
  go_enter Try.func17, Try.ntmps17
  go_wp2
  go_loop [5] (fun x => ∃ i : Nat, i ≤ n ∧ x = .int .i64 i ∧ (up.take i).any (fun p => decide (0 ≤ p) && p == pid) = false) (fun x => n - (intOf x).toNat)
  case atStart => exact ⟨0, by omega, rfl, by simp⟩
  case round =>
    obtain ⟨i, hi, rfl, hno⟩ := hrel
    have HNO := Lib.hid hno
    clear hno
    by_cases hlt : i < n
    · obtain ⟨p, off, rfl, -, hr⟩ := HR.out (by rw [HN.out]; omega)
      have hz := hr i (by rw [HN.out]; exact hlt)
      have hzb := HZ.out i
      have hst := inside_step up pid i (by rw [HN.out]; exact hlt)
      rw [HNO.out] at hst
      generalize up.getD i 0 = z at hz hzb hst
      have HST := Lib.hid hst
      clear hst hr HR
      by_cases h0 : 0 ≤ z
      · cases hp : z == pid
        · have HP := Lib.hid hp
          go_wp2
          go_round
          case rel => exact ⟨i + 1, by omega, by go_num, by rw [HST.out, HP.out]; simp⟩
          case measure => simp [intOf]; omega
        · have hyes : insideB up pid = true := by
            unfold insideB
            rw [List.any_eq_true]
            have h := HST.out
            rw [hp, decide_eq_true h0] at h
            simp only [Bool.false_or, Bool.and_self] at h
            obtain ⟨x, hx, hxx⟩ := List.any_eq_true.1 h
            exact ⟨x, List.mem_of_mem_take hx, hxx⟩
          rw [hyes]
          clear hyes
          go_wp2
          go_ret
          exact ⟨rfl, (Below.refl _ _).alloc (Nat.le_refl _) _⟩
      · have hd : decide (0 ≤ z) = false := by simpa using h0
        have HD := Lib.hid hd
        go_wp2
        go_round
        case rel => exact ⟨i + 1, by omega, by go_num, by rw [HST.out, HD.out]; simp⟩
        case measure => simp [intOf]; omega
    · obtain rfl : i = n := by omega
      have hyes : insideB up pid = false := by
        have h := HNO.out
        rw [← HN.out, List.take_length] at h
        exact h
      have HY := Lib.hid hyes
      clear hyes
      go_wp2
      go_ret
      exact ⟨by rw [HY.out]; rfl, (Below.refl _ _).alloc (Nat.le_refl _) _⟩
end Go.Proofs.Ytcdpmggjdmibjaa
