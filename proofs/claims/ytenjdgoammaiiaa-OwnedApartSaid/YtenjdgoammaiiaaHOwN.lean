/-
  Proved here: which descriptions may be, by the document. Conditions: as each lemma says.
-/
import Derived.Test.YtenjdgoammaiiaaHOwU
import Derived.LoopTactic
import Derived.Deep.DeepCutAuto
namespace Go.Proofs.Ytenjdgoammaiiaa
open Go.RowKit
set_option maxRecDepth 100000
set_option linter.unusedSimpArgs false

/-- A description: kind, key, value, max. -/
structure Df where
  k : Int
  y : Int
  v : Int
  x : Int
def dfD : Df := ⟨0, 0, 0, 0⟩
def sizedB (d : Df) : Bool := decide (1 ≤ d.v) && decide (d.v ≤ 32) && decide (1 ≤ d.x) && decide (d.x ≤ 16)
def mayD (d : Df) : Bool := if d.k = 1 then decide (d.y = 4) && sizedB d else if d.k = 2 then decide (1 ≤ d.y) && decide (d.y ≤ 8) && sizedB d else if d.k = 3 ∨ d.k = 4 then decide (d.y = 0) && sizedB d else if d.k = 5 then decide (d.y = 0) && decide (d.v = 0) && decide (d.x = 0) else false
def mayL (ds : List Df) : Bool := decide (ds.length ≤ 4) && ds.all mayD
/-- Descriptions to be looked at. -/
def DfsIn (w : World) (a : Option Addr) (ds : List Df) : Prop := ∀ j, j < ds.length → ∃ g o, a = some ⟨g, o, none⟩ ∧ g < w.heap.size ∧ w.cell? ⟨g, o + j * 4, none⟩ = some (.int .i64 (ds.getD j dfD).k) ∧ w.cell? ⟨g, o + j * 4 + 1, none⟩ = some (.int .i64 (ds.getD j dfD).y) ∧ w.cell? ⟨g, o + j * 4 + 2, none⟩ = some (.int .i64 (ds.getD j dfD).v) ∧ w.cell? ⟨g, o + j * 4 + 3, none⟩ = some (.int .i64 (ds.getD j dfD).x)
theorem DfsIn.stay {w w' : World} {a : Option Addr} {ds : List Df} (h : DfsIn w a ds) (hb : Below w.heap.size w w') : DfsIn w' a ds := fun j hj => by
  obtain ⟨g, o, e, hg, c0, c1, c2, c3⟩ := h j hj
  exact ⟨g, o, e, Nat.lt_of_lt_of_le hg hb.size, (hb.cell (p := ⟨g, _, none⟩) hg).trans c0, (hb.cell (p := ⟨g, _, none⟩) hg).trans c1, (hb.cell (p := ⟨g, _, none⟩) hg).trans c2, (hb.cell (p := ⟨g, _, none⟩) hg).trans c3⟩
theorem all_may {ds : List Df} (h : ∀ j, j < ds.length → mayD (ds.getD j dfD) = true) : ds.all mayD = true := by
  rw [List.all_eq_true]
  intro d hd
  obtain ⟨j, hj, rfl⟩ := List.mem_iff_getElem.1 hd
  have := h j hj
  rw [List.getD_eq_getElem?_getD, List.getElem?_eq_getElem hj] at this
  exact this
theorem not_may {ds : List Df} {j : Nat} (hj : j < ds.length) (h : mayD (ds.getD j dfD) = false) : ds.all mayD = false := by
  cases e : ds.all mayD
  · rfl
  · rw [List.all_eq_true] at e
    have := e _ (List.getElem_mem hj)
    rw [List.getD_eq_getElem?_getD, List.getElem?_eq_getElem hj] at h
    simp only [Option.getD_some] at h
    rw [h] at this
    cases this
set_option maxHeartbeats 2000000 in
theorem ow_may (ds : List Df) (a : Option Addr) (c : Nat) (w : World) (h : DfsIn w a ds) (hm : ds.length ≤ 1000) : Calls Try.prog 6 #[.slice a ds.length c] w (fun e w' => e = .returned (.bool (mayL ds)) ∧ Below w.heap.size w w') := by
  unfold mayL
  obtain ⟨n, hn⟩ : ∃ n, ds.length = n := ⟨_, rfl⟩
  have HN := Lib.hid hn
  have HH := Lib.hid h
  clear h
  rw [hn] at hm ⊢
  clear hn
  by_cases h4 : n ≤ 4
  · go_enter Try.func6, Try.ntmps6
    go_wp2
    go_loopw [3] (fun v wr => ∃ k : Nat, k ≤ n ∧ v = .int .i64 k ∧ Below w.heap.size w wr ∧ ∀ j, j < k → mayD (ds.getD j dfD) = true) (fun v _ => n - (intOf v).toNat)
    case atStart => exact ⟨0, by omega, rfl, Below.refl _ _, fun j hj => by omega⟩
    case round =>
      obtain ⟨k, hk, rfl, hb, hmy⟩ := hrel
      have HB := Lib.hid hb
      have HM := Lib.hid hmy
      by_cases hlt : k < n
      · obtain ⟨g, o, rfl, hg, c0, c1, c2, c3⟩ := HH.out k (by rw [HN.out]; exact hlt)
        have c0 := (hb.cell (p := ⟨g, _, none⟩) hg).trans c0
        have c1 := (hb.cell (p := ⟨g, _, none⟩) hg).trans c1
        have c2 := (hb.cell (p := ⟨g, _, none⟩) hg).trans c2
        have c3 := (hb.cell (p := ⟨g, _, none⟩) hg).trans c3
        obtain ⟨d, hd⟩ : ∃ d, ds.getD k dfD = d := ⟨_, rfl⟩
        rw [hd] at c0 c1 c2 c3
        have HD := Lib.hid hd
        obtain ⟨kd, y, v, x⟩ := d
        simp only at c0 c1 c2 c3
        clear hd hb hmy
        go_upto_region 7 with fail
        have b0 : (wr.alloc (.cells #[.int .i64 kd, .int .i64 y, .int .i64 v, .int .i64 x] 47)).cell? ⟨wr.heap.size, 0, none⟩ = some (.int .i64 kd) := by simp [go_sem]
        have b1 : (wr.alloc (.cells #[.int .i64 kd, .int .i64 y, .int .i64 v, .int .i64 x] 47)).cell? ⟨wr.heap.size, 1, none⟩ = some (.int .i64 y) := by simp [go_sem]
        have b2 : (wr.alloc (.cells #[.int .i64 kd, .int .i64 y, .int .i64 v, .int .i64 x] 47)).cell? ⟨wr.heap.size, 2, none⟩ = some (.int .i64 v) := by simp [go_sem]
        have b3 : (wr.alloc (.cells #[.int .i64 kd, .int .i64 y, .int .i64 v, .int .i64 x] 47)).cell? ⟨wr.heap.size, 3, none⟩ = some (.int .i64 x) := by simp [go_sem]
        have HBX := Lib.hid (HB.out.trans ((box_below wr (.cells #[.int .i64 kd, .int .i64 y, .int .i64 v, .int .i64 x] 47)).mono HB.out.size))
        obtain ⟨Wb, hWb⟩ : ∃ Wb, wr.alloc (.cells #[.int .i64 kd, .int .i64 y, .int .i64 v, .int .i64 x] 47) = Wb := ⟨_, rfl⟩
        obtain ⟨bx, hbx⟩ : ∃ bx, wr.heap.size = bx := ⟨_, rfl⟩
        rw [hWb, hbx] at b0 b1 b2 b3
        rw [hWb] at HBX
        rw [hWb, hbx]
        clear hWb hbx c0 c1 c2 c3
        go_cut [5] (fun z wx => z = .bool (sizedB ⟨kd, y, v, x⟩) ∧ wx = Wb)
        case first =>
          have hs : (1 ≤ v ∧ v ≤ 32 ∧ 1 ≤ x ∧ x ≤ 16) ∨ v < 1 ∨ (1 ≤ v ∧ 32 < v) ∨ (1 ≤ v ∧ v ≤ 32 ∧ x < 1) ∨ (1 ≤ v ∧ v ≤ 32 ∧ 1 ≤ x ∧ 16 < x) := by omega
          rcases hs with ⟨p1, p2, p3, p4⟩ | p1 | ⟨p1, p2⟩ | ⟨p1, p2, p3⟩ | ⟨p1, p2, p3, p4⟩
          all_goals
            go_wp2_with fail
            go_meet
            case rel => exact ⟨by congr 1; unfold sizedB; simp; omega, rfl⟩
        case rest =>
          obtain ⟨rfl, rfl⟩ := hcut
          obtain ⟨sz, hsz⟩ : ∃ sz, sizedB ⟨kd, y, v, x⟩ = sz := ⟨_, rfl⟩
          rw [hsz]
          have HSZ := Lib.hid hsz
          clear hsz
          have hk6 : kd = 1 ∨ kd = 2 ∨ kd = 3 ∨ kd = 4 ∨ kd = 5 ∨ (kd ≠ 1 ∧ kd ≠ 2 ∧ kd ≠ 3 ∧ kd ≠ 4 ∧ kd ≠ 5) := by omega
          rcases hk6 with rfl | rfl | rfl | rfl | rfl | ⟨n1, n2, n3, n4, n5⟩
          · by_cases hy : y = 4
            · subst hy
              cases sz with
              | true =>
                have hm1 : mayD ⟨1, 4, v, x⟩ = true := by unfold mayD; simp [HSZ.out, *]
                go_wp2
                go_roundw
                case rel =>
                  refine ⟨k + 1, by omega, by go_num, HBX.out, fun j hj => ?_⟩
                  by_cases e : j = k
                  · rw [e, HD.out]; exact hm1
                  · exact HM.out j (by omega)
                case measure => simp [intOf]; omega
              | false =>
                have hm0 : mayD ⟨1, 4, v, x⟩ = false := by unfold mayD; simp [HSZ.out, *]
                have HALL := Lib.hid (not_may (ds := ds) (j := k) (by rw [HN.out]; exact hlt) (by rw [HD.out]; exact hm0))
                go_wp2
                go_ret
                exact ⟨by rw [HALL.out]; first | rfl | (rw [Bool.and_false]; rfl), HBX.out⟩
            · have q1 : (y != 4) = true := by simpa using hy
              have hm0 : mayD ⟨1, y, v, x⟩ = false := by unfold mayD; simp [HSZ.out, *]
              have HALL := Lib.hid (not_may (ds := ds) (j := k) (by rw [HN.out]; exact hlt) (by rw [HD.out]; exact hm0))
              go_wp2
              go_ret
              exact ⟨by rw [HALL.out]; first | rfl | (rw [Bool.and_false]; rfl), HBX.out⟩
          · by_cases h1 : y < 1
            · have h1b : ¬ 1 ≤ y := by omega
              have hm0 : mayD ⟨2, y, v, x⟩ = false := by unfold mayD; simp [HSZ.out, *]
              have HALL := Lib.hid (not_may (ds := ds) (j := k) (by rw [HN.out]; exact hlt) (by rw [HD.out]; exact hm0))
              go_wp2
              go_ret
              exact ⟨by rw [HALL.out]; first | rfl | (rw [Bool.and_false]; rfl), HBX.out⟩
            · have h1b : 1 ≤ y := by omega
              by_cases h8 : 8 < y
              · have h8b : ¬ y ≤ 8 := by omega
                have hm0 : mayD ⟨2, y, v, x⟩ = false := by unfold mayD; simp [HSZ.out, *]
                have HALL := Lib.hid (not_may (ds := ds) (j := k) (by rw [HN.out]; exact hlt) (by rw [HD.out]; exact hm0))
                go_wp2
                go_ret
                exact ⟨by rw [HALL.out]; first | rfl | (rw [Bool.and_false]; rfl), HBX.out⟩
              · have h8b : y ≤ 8 := by omega
                cases sz with
                | true =>
                  have hm1 : mayD ⟨2, y, v, x⟩ = true := by unfold mayD; simp [HSZ.out, *]
                  go_wp2
                  go_roundw
                  case rel =>
                    refine ⟨k + 1, by omega, by go_num, HBX.out, fun j hj => ?_⟩
                    by_cases e : j = k
                    · rw [e, HD.out]; exact hm1
                    · exact HM.out j (by omega)
                  case measure => simp [intOf]; omega
                | false =>
                  have hm0 : mayD ⟨2, y, v, x⟩ = false := by unfold mayD; simp [HSZ.out, *]
                  have HALL := Lib.hid (not_may (ds := ds) (j := k) (by rw [HN.out]; exact hlt) (by rw [HD.out]; exact hm0))
                  go_wp2
                  go_ret
                  exact ⟨by rw [HALL.out]; first | rfl | (rw [Bool.and_false]; rfl), HBX.out⟩
          · by_cases hy : y = 0
            · subst hy
              cases sz with
              | true =>
                have hm1 : mayD ⟨3, 0, v, x⟩ = true := by unfold mayD; simp [HSZ.out, *]
                go_wp2
                go_roundw
                case rel =>
                  refine ⟨k + 1, by omega, by go_num, HBX.out, fun j hj => ?_⟩
                  by_cases e : j = k
                  · rw [e, HD.out]; exact hm1
                  · exact HM.out j (by omega)
                case measure => simp [intOf]; omega
              | false =>
                have hm0 : mayD ⟨3, 0, v, x⟩ = false := by unfold mayD; simp [HSZ.out, *]
                have HALL := Lib.hid (not_may (ds := ds) (j := k) (by rw [HN.out]; exact hlt) (by rw [HD.out]; exact hm0))
                go_wp2
                go_ret
                exact ⟨by rw [HALL.out]; first | rfl | (rw [Bool.and_false]; rfl), HBX.out⟩
            · have q1 : (y != 0) = true := by simpa using hy
              have hm0 : mayD ⟨3, y, v, x⟩ = false := by unfold mayD; simp [HSZ.out, *]
              have HALL := Lib.hid (not_may (ds := ds) (j := k) (by rw [HN.out]; exact hlt) (by rw [HD.out]; exact hm0))
              go_wp2
              go_ret
              exact ⟨by rw [HALL.out]; first | rfl | (rw [Bool.and_false]; rfl), HBX.out⟩
          · by_cases hy : y = 0
            · subst hy
              cases sz with
              | true =>
                have hm1 : mayD ⟨4, 0, v, x⟩ = true := by unfold mayD; simp [HSZ.out, *]
                go_wp2
                go_roundw
                case rel =>
                  refine ⟨k + 1, by omega, by go_num, HBX.out, fun j hj => ?_⟩
                  by_cases e : j = k
                  · rw [e, HD.out]; exact hm1
                  · exact HM.out j (by omega)
                case measure => simp [intOf]; omega
              | false =>
                have hm0 : mayD ⟨4, 0, v, x⟩ = false := by unfold mayD; simp [HSZ.out, *]
                have HALL := Lib.hid (not_may (ds := ds) (j := k) (by rw [HN.out]; exact hlt) (by rw [HD.out]; exact hm0))
                go_wp2
                go_ret
                exact ⟨by rw [HALL.out]; first | rfl | (rw [Bool.and_false]; rfl), HBX.out⟩
            · have q1 : (y != 0) = true := by simpa using hy
              have hm0 : mayD ⟨4, y, v, x⟩ = false := by unfold mayD; simp [HSZ.out, *]
              have HALL := Lib.hid (not_may (ds := ds) (j := k) (by rw [HN.out]; exact hlt) (by rw [HD.out]; exact hm0))
              go_wp2
              go_ret
              exact ⟨by rw [HALL.out]; first | rfl | (rw [Bool.and_false]; rfl), HBX.out⟩
          · by_cases hy : y = 0
            · subst hy
              by_cases hv : v = 0
              · subst hv
                by_cases hx : x = 0
                · subst hx
                  have hm1 : mayD ⟨5, 0, 0, 0⟩ = true := by unfold mayD; simp [HSZ.out, *]
                  go_wp2
                  go_roundw
                  case rel =>
                    refine ⟨k + 1, by omega, by go_num, HBX.out, fun j hj => ?_⟩
                    by_cases e : j = k
                    · rw [e, HD.out]; exact hm1
                    · exact HM.out j (by omega)
                  case measure => simp [intOf]; omega
                · have q1 : (x != 0) = true := by simpa using hx
                  have hm0 : mayD ⟨5, 0, 0, x⟩ = false := by unfold mayD; simp [HSZ.out, *]
                  have HALL := Lib.hid (not_may (ds := ds) (j := k) (by rw [HN.out]; exact hlt) (by rw [HD.out]; exact hm0))
                  go_wp2
                  go_ret
                  exact ⟨by rw [HALL.out]; first | rfl | (rw [Bool.and_false]; rfl), HBX.out⟩
              · have q1 : (v != 0) = true := by simpa using hv
                have hm0 : mayD ⟨5, 0, v, x⟩ = false := by unfold mayD; simp [HSZ.out, *]
                have HALL := Lib.hid (not_may (ds := ds) (j := k) (by rw [HN.out]; exact hlt) (by rw [HD.out]; exact hm0))
                go_wp2
                go_ret
                exact ⟨by rw [HALL.out]; first | rfl | (rw [Bool.and_false]; rfl), HBX.out⟩
            · have q1 : (y != 0) = true := by simpa using hy
              have hm0 : mayD ⟨5, y, v, x⟩ = false := by unfold mayD; simp [HSZ.out, *]
              have HALL := Lib.hid (not_may (ds := ds) (j := k) (by rw [HN.out]; exact hlt) (by rw [HD.out]; exact hm0))
              go_wp2
              go_ret
              exact ⟨by rw [HALL.out]; first | rfl | (rw [Bool.and_false]; rfl), HBX.out⟩
          · have q1 : (kd == 1) = false := by simpa using n1
            have q2 : (kd == 2) = false := by simpa using n2
            have q3 : (kd == 3) = false := by simpa using n3
            have q4 : (kd == 4) = false := by simpa using n4
            have q5 : (kd == 5) = false := by simpa using n5
            have hm0 : mayD ⟨kd, y, v, x⟩ = false := by unfold mayD; simp [HSZ.out, *]
            have HALL := Lib.hid (not_may (ds := ds) (j := k) (by rw [HN.out]; exact hlt) (by rw [HD.out]; exact hm0))
            go_wp2
            go_ret
            exact ⟨by rw [HALL.out]; first | rfl | (rw [Bool.and_false]; rfl), HBX.out⟩
      · obtain rfl : k = n := by omega
        clear hb hmy
        go_wp2
        go_ret
        exact ⟨by rw [all_may (fun j hj => HM.out j (by rw [← HN.out]; exact hj))]; simp [h4], HB.out⟩
  · have h4' : 4 < n := by omega
    go_enter Try.func6, Try.ntmps6
    go_wp2
    go_ret
    exact ⟨by simp [h4], Below.refl _ _⟩
end Go.Proofs.Ytenjdgoammaiiaa
