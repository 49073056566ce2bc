/-
  Proved here: Seconds of the document's answers makes a new row of bools: of each place whether a second one stands there. Conditions: at most 200 instructions whose fields fit.
-/
import Derived.Test.YtcngkbmffaojoaaAll
import Derived.Test.YtcngkbmffaojoaaRightR
import Derived.Laws.MakeOwn
namespace Go.Proofs.Ytcngkbmffaojoaa
open Go.RowKit

/-- The bools of the places below n, false behind. -/
def BoolRow (w : World) (g len : Nat) (f : Nat → Bool) : Prop := ∀ j, j < len → w.cell? ⟨g, j, none⟩ = some (.bool (f j))
theorem BoolRow.stays {w w1 : World} {g len : Nat} {f : Nat → Bool} (h : BoolRow w g len f) (hb : Below w.heap.size w w1) : BoolRow w1 g len f :=
  fun j hj => Ytcngkbmffaojoaa.stays hb (h j hj)
/-- What the document's answers say of a place, up to n. -/
def upToN (l : List Ins) (n j : Nat) : Bool := decide (j < n) && secN l j
/-- A second one needs none ahead of it: what the document's answers reckon. -/
theorem sec_step (l : List Ins) (k : Nat) (h1 : 1 ≤ k) (h2 : k < l.length) (hr : rightR (l.getD (k - 1) .zero) = rightI (l.getD (k - 1) .zero)) :
    (!secN l (k - 1) && ((l.getD (k - 1) .zero).op == 24) && rightR (l.getD (k - 1) .zero) && noneB (l.getD k .zero)) = secN l k := by
  have hop : secN l (k - 1) = true → (l.getD (k - 1) .zero).op = 0 := secN_op
  rw [hr]
  conv => rhs; unfold secN
  generalize l.getD (k - 1) .zero = x at hop ⊢
  generalize l.getD k .zero = y
  cases hs : secN l (k - 1)
  · simp [h1, h2, Bool.and_assoc]
  · have := hop hs
    simp [this]
theorem info_bool : (Try.prog.info? 4).map (fun i => (i.zero, i.size, i.bytes)) = some (some (.bool false), 1, 1) := by kernel_rfl
/-- n bools that are false. -/
def falseCells (n : Nat) : Array Value := madeCells #[.bool false] n
theorem falseCells_at (n j : Nat) (h : j < n) : (falseCells n)[j]? = some (.bool false) := by
  have e : (Array.range n)[j]? = some j := by simp [h]
  simp only [falseCells, madeCells, Array.getElem?_map, e, Option.map_some]
  simp [Nat.mod_one]
theorem run_falses (n : Nat) (h : n ≤ 100000) (w : World) :
    (Instr.makeSlice 29 (.int .i64 n) (.int .i64 n)).run Try.prog w = .ok (.slice (some ⟨w.heap.size, 0, none⟩) n n) (w.alloc (.cells (falseCells n) 4)) := by
  obtain ⟨i0, hi0, hz0, hz1, hz2⟩ := info_parts info_bool
  have hr := run_make (P := Try.prog) w 29 4 i0 _ Try.underlying29 hi0 hz0 .i64 .i64 n n (by omega) (by omega) (by rw [hz2]; omega) (by omega)
  simp only [Int.toNat_natCast, hz1, Nat.mul_one] at hr
  exact hr
/-- What holds of the new row when the places below k are told. -/
structure SecRel (w wr : World) (len : Nat) (l : List Ins) (k : Nat) : Prop where
  row : BoolRow wr w.heap.size len (upToN l k)
  free : ∀ j, wr.frozen? ⟨w.heap.size, j, none⟩ = false
  lt : w.heap.size < wr.heap.size
  below : Below w.heap.size w wr
theorem SecRel.stays {w wr w2 : World} {len k : Nat} {l : List Ins} (h : SecRel w wr len l k) (hb : Below wr.heap.size wr w2) : SecRel w w2 len l k :=
  ⟨h.row.stays hb, fun j => (hb.frozen (p := ⟨w.heap.size, j, none⟩) h.lt).trans (h.free j), Nat.lt_of_lt_of_le h.lt hb.size, h.below.trans (hb.mono (Nat.le_of_lt h.lt))⟩
theorem SecRel.put {w wr : World} {len k : Nat} {l : List Ins} (h : SecRel w wr len l k) (hk : k < len) {v : Bool} (hv : secN l k = v) : SecRel w (wr.setCell ⟨w.heap.size, k, none⟩ (.bool v)) len l (k + 1) := by
  refine ⟨fun j hj => ?_, fun j => by rw [World.frozen?_setCell]; exact h.free j, by simpa using h.lt, h.below.setCell (p := ⟨w.heap.size, k, none⟩) (Nat.le_refl _) _⟩
  by_cases e : j = k
  · subst e
    rw [World.cell?_setCell_same' _ _ _ (by rw [h.row j hj]; rfl)]
    simp [upToN, hv]
  · have hne : (⟨w.heap.size, k, none⟩ : Addr) ≠ ⟨w.heap.size, j, none⟩ := fun h => e (by injection h; omega)
    rw [World.cell?_setCell_other _ _ _ _ hne, h.row j hj]
    have : (j < k) ↔ (j < k + 1) := by omega
    simp [upToN, this]
theorem SecRel.start (w : World) (len : Nat) (l : List Ins) : SecRel w (w.alloc (.cells (falseCells len) 4)) len l 1 where
  row := fun j hj => by
    have h : (w.alloc (.cells (falseCells len) 4)).heap[w.heap.size]? = some (.cells (falseCells len) 4) := heap_alloc_new w _
    simp only [World.cell?, h]
    rw [falseCells_at len j hj]
    have : upToN l 1 j = false := by
      unfold upToN
      by_cases e : j < 1
      · obtain rfl : j = 0 := by omega
        simp [secN]
      · simp [e]
    rw [this]
    rfl
  free := fun j => by
    have h : (w.alloc (.cells (falseCells len) 4)).heap[w.heap.size]? = some (.cells (falseCells len) 4) := heap_alloc_new w _
    simp only [World.frozen?, h]
    simp
  lt := by simp
  below := below_box w _
/-- A row of bools that is the document's answer, and nothing that was there is turned. -/
def GaveSecs (W : World) (len : Nat) (l : List Ins) (e : Ending) (w : World) : Prop := ∃ g, e = .returned (.slice (some ⟨g, 0, none⟩) len len) ∧ g < w.heap.size ∧ BoolRow w g len (secN l) ∧ Below W.heap.size W w
theorem seconds_ref (w : World) (A : Option Addr) (len cap : Nat) (l : List Ins) (hl : l.length = len) (h200 : len ≤ 200) (hfit : ∀ x ∈ l, x.Fit) (hr : InsAt w A l) :
    Calls Try.prog 13 #[.slice A len cap] w (GaveSecs w len l) := by
  have hmk := run_falses len (by omega)
  have HL := Lib.hid hl
  clear hl
  go_enter Try.func13, Try.ntmps13
  go_wp2
  clear hmk
  go_loopw [4] (fun i wr => ∃ k : Nat, 1 ≤ k ∧ (k ≤ len ∨ k = 1) ∧ i = .int .i64 k ∧ SecRel w wr len l k) (fun i _ => len - (intOf i).toNat)
  case atStart => exact ⟨1, by omega, by omega, rfl, SecRel.start w len l⟩
  case round =>
    obtain ⟨k, hk1, hk, rfl, hs⟩ := hrel
    by_cases hlt : k < len
    · obtain ⟨g, off, rfl, hg, hx5⟩ := at5_of (k := k - 1) HL.out hr (by omega)
      obtain ⟨g', off', he, _, hy5⟩ := at5_of (k := k) HL.out hr hlt
      cases he
      have hfx := getD_fit hfit (k := k - 1) (by rw [HL.out]; omega)
      have hstep := sec_step l k hk1 (by rw [HL.out]; omega) (right_same _ hfx.op.1 hfx.op.2 hfx.dst.1 hfx.src.1).symm
      have hgr : g < wr.heap.size := Nat.lt_of_lt_of_le hg hs.below.size
      have hxr : At5 wr g (off + (k - 1) * 5) (l.getD (k - 1) .zero) := by
        obtain ⟨q0, q1, q2, q3, q4⟩ := hx5
        exact ⟨(hs.below.cell (p := ⟨g, _, none⟩) hg).trans q0, (hs.below.cell (p := ⟨g, _, none⟩) hg).trans q1, (hs.below.cell (p := ⟨g, _, none⟩) hg).trans q2, (hs.below.cell (p := ⟨g, _, none⟩) hg).trans q3, (hs.below.cell (p := ⟨g, _, none⟩) hg).trans q4⟩
      have hyr : At5 wr g (off + k * 5) (l.getD k .zero) := by
        obtain ⟨q0, q1, q2, q3, q4⟩ := hy5
        exact ⟨(hs.below.cell (p := ⟨g, _, none⟩) hg).trans q0, (hs.below.cell (p := ⟨g, _, none⟩) hg).trans q1, (hs.below.cell (p := ⟨g, _, none⟩) hg).trans q2, (hs.below.cell (p := ⟨g, _, none⟩) hg).trans q3, (hs.below.cell (p := ⟨g, _, none⟩) hg).trans q4⟩
      obtain ⟨⟨o, d, s, f, m⟩, hx⟩ : ∃ x, l.getD (k - 1) .zero = x := ⟨_, rfl⟩
      obtain ⟨⟨o', d', s', f', m'⟩, hy⟩ : ∃ y, l.getD k .zero = y := ⟨_, rfl⟩
      rw [hx] at hfx hstep hxr
      rw [hy] at hyr hstep
      have h0 := hfx.op
      dsimp only at h0 hstep
      obtain ⟨x0, x1, x2, x3, x4⟩ := id hxr
      obtain ⟨y0, y1, y2, y3, y4⟩ := id hyr
      have hp := hs.row (k - 1) (by omega)
      have hq := hs.row k hlt
      have hfz := hs.free k
      have hlt1 := hs.lt
      have ep : upToN l k (k - 1) = secN l (k - 1) := by unfold upToN; rw [decide_eq_true (by omega : k - 1 < k)]; rfl
      have eq : upToN l k k = false := by unfold upToN; rw [decide_eq_false (by omega : ¬ k < k)]; rfl
      rw [ep] at hp
      rw [eq] at hq
      have e1 : IntKind.i64.wrap ((k : Int) - 1) = (k : Int) - 1 := IntWalk.i64_in _ (by omega)
      have e2 : (0 : Int) ≤ (k : Int) - 1 := by omega
      have e3 : ((k : Int) - 1).toNat = k - 1 := by omega
      have e4 : (k : Int) - 1 < (len : Int) := by omega
      have i0 : (0 : Int) ≤ (k : Int) := by omega
      have i1 : (k : Int) < (len : Int) := by omega
      have HX := Lib.hid hx
      have HY := Lib.hid hy
      have HS := Lib.hid hs
      have HFX := Lib.hid hfx
      have h00 := h0.1
      have h01 := h0.2
      clear hx hy hs ep eq hxr hyr hx5 hy5 hfx h0 hg
      have hS1 := Lib.hid (HS.out.stays (below_box wr (.cells #[.int .u8 o', .int .u8 d', .int .u8 s', .int .i16 f', .int .i32 m'] 24)))
      cases hpp : secN l (k - 1)
      · rw [hpp] at hp hstep
        by_cases h24 : o = 24
        · subst h24
          cases hri : rightR ⟨24, d, s, f, m⟩
          · have hv : secN l k = false := by rw [← hstep, hri]; rfl
            have HV := Lib.hid hv
            have HRI := Lib.hid hri
            clear hv hpp hstep hri
            go_wp2_with (go_at_call 8; refine (right_ref 24 d s f m _ (by omega) (by omega)).mono ?_; rintro e w2 ⟨rfl, hb2⟩; rw [HRI.out]; have hs2 := hS1.out.stays hb2; have hq2 := hs2.row k hlt; have hf2 := hs2.free k; have HS2 := Lib.hid hs2; clear hs2 hb2)
            go_roundw
            case rel => exact ⟨k + 1, by omega, by omega, by go_num, HS2.out.put hlt HV.out⟩
            case measure => simp [intOf]; omega
          · rw [hri] at hstep
            have HV := Lib.hid hstep
            have HRI := Lib.hid hri
            clear hpp hstep hri
            go_wp2_with (go_at_call 8; refine (right_ref 24 d s f m _ (by omega) (by omega)).mono ?_; rintro e w2 ⟨rfl, hb2⟩; rw [HRI.out]; have hs2 := hS1.out.stays hb2; have hq2 := hs2.row k hlt; have hf2 := hs2.free k; obtain ⟨z0, z1, z2, z3, z4⟩ := box_stays (B := wr.heap.size) hb2 (MapKept.heap_alloc wr _).1; have HS2 := Lib.hid hs2; clear hs2 hb2)
            all_goals
              go_roundw
              case rel => exact ⟨k + 1, by omega, by omega, by go_num, HS2.out.put hlt (HV.out.symm.trans (by simp_all [noneB]))⟩
              case measure => simp [intOf]; omega
        · have hq24 : (o == 24) = false := by simpa using h24
          have hv : secN l k = false := by rw [← hstep, hq24]; rfl
          have HV := Lib.hid hv
          clear hv hpp hstep
          go_wp2
          go_roundw
          case rel => exact ⟨k + 1, by omega, by omega, by go_num, (HS.out.put hlt HV.out).stays (below_box _ _)⟩
          case measure => simp [intOf]; omega
      · rw [hpp] at hp hstep
        have hv : secN l k = false := by rw [← hstep]; rfl
        have HV := Lib.hid hv
        clear hv hpp hstep
        go_wp2
        go_roundw
        case rel => exact ⟨k + 1, by omega, by omega, by go_num, (HS.out.put hlt HV.out).stays (below_box _ _)⟩
        case measure => simp [intOf]; omega
    · have HS := Lib.hid hs
      have hbw : BoolRow wr w.heap.size len (secN l) := fun j hj => by
        rw [HS.out.row j hj]
        unfold upToN
        by_cases e : j < k
        · rw [decide_eq_true e]; rfl
        · have : j = 0 ∨ len = 0 := by omega
          rcases this with rfl | h0
          · omega
          · omega
      have HB := Lib.hid hbw
      clear hs hbw
      go_wp2
      go_ret
      exact ⟨_, rfl, HS.out.lt, HB.out, HS.out.below⟩
end Go.Proofs.Ytcngkbmffaojoaa
