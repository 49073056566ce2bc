import Derived.Test.YthmibmofdmlgaaaGreatDoorG03
/-
  Proved here: Right of the document's answers returns rightR for operations. Conditions: as each lemma says.
-/
namespace Go.Proofs.YthmibmofdmlgaaaGreatDoor
open Go.RowKit

set_option maxRecDepth 100000 in
theorem right_alu40 (o d s f m : Int) (w : World) (h0 : 0 ≤ o) (h1 : o ≤ 255) (h : o % 8 = 4) (hr : o / 8 % 2 = 0) :
    Calls Tryz.prog 12 #[insV o d s f m] w fun e w' => e = .returned (.bool (rightR ⟨o, d, s, f, m⟩)) ∧ Below w.heap.size w w' := by
  have h24 : o ≠ 24 := by omega
  unfold insV
  go_enter Tryz.func12, Tryz.ntmps12
  go_wp2
  all_goals
    go_ret
    exact ⟨ret_bool (by first | (simp_all [rightR]; done) | (unfold rightR; simp only []; grind)), below_box _ _⟩
set_option maxRecDepth 100000 in
theorem right_alu41 (o d s f m : Int) (w : World) (h0 : 0 ≤ o) (h1 : o ≤ 255) (h : o % 8 = 4) (hr : o / 8 % 2 = 1) :
    Calls Tryz.prog 12 #[insV o d s f m] w fun e w' => e = .returned (.bool (rightR ⟨o, d, s, f, m⟩)) ∧ Below w.heap.size w w' := by
  have h24 : o ≠ 24 := by omega
  unfold insV
  go_enter Tryz.func12, Tryz.ntmps12
  go_wp2
  all_goals
    go_ret
    exact ⟨ret_bool (by first | (simp_all [rightR]; done) | (unfold rightR; simp only []; grind)), below_box _ _⟩
set_option maxRecDepth 100000 in
theorem right_alu70 (o d s f m : Int) (w : World) (h0 : 0 ≤ o) (h1 : o ≤ 255) (h : o % 8 = 7) (hr : o / 8 % 2 = 0) :
    Calls Tryz.prog 12 #[insV o d s f m] w fun e w' => e = .returned (.bool (rightR ⟨o, d, s, f, m⟩)) ∧ Below w.heap.size w w' := by
  have h24 : o ≠ 24 := by omega
  unfold insV
  go_enter Tryz.func12, Tryz.ntmps12
  go_wp2
  all_goals
    go_ret
    exact ⟨ret_bool (by first | (simp_all [rightR]; done) | (unfold rightR; simp only []; grind)), below_box _ _⟩
set_option maxRecDepth 100000 in
theorem right_alu71 (o d s f m : Int) (w : World) (h0 : 0 ≤ o) (h1 : o ≤ 255) (h : o % 8 = 7) (hr : o / 8 % 2 = 1) :
    Calls Tryz.prog 12 #[insV o d s f m] w fun e w' => e = .returned (.bool (rightR ⟨o, d, s, f, m⟩)) ∧ Below w.heap.size w w' := by
  have h24 : o ≠ 24 := by omega
  unfold insV
  go_enter Tryz.func12, Tryz.ntmps12
  go_wp2
  all_goals
    go_ret
    exact ⟨ret_bool (by first | (simp_all [rightR]; done) | (unfold rightR; simp only []; grind)), below_box _ _⟩
theorem right_alu (o d s f m : Int) (w : World) (h0 : 0 ≤ o) (h1 : o ≤ 255) (h : o % 8 = 4 ∨ o % 8 = 7) :
    Calls Tryz.prog 12 #[insV o d s f m] w fun e w' => e = .returned (.bool (rightR ⟨o, d, s, f, m⟩)) ∧ Below w.heap.size w w' := by
  obtain hr | hr : o / 8 % 2 = 0 ∨ o / 8 % 2 = 1 := by omega
  · rcases h with h | h
    · exact right_alu40 o d s f m w h0 h1 h hr
    · exact right_alu70 o d s f m w h0 h1 h hr
  · rcases h with h | h
    · exact right_alu41 o d s f m w h0 h1 h hr
    · exact right_alu71 o d s f m w h0 h1 h hr
end Go.Proofs.YthmibmofdmlgaaaGreatDoor

/-
  Proved here: Right of the document's answers returns rightR for jumps and what is alone. Conditions: as each lemma says.
-/
namespace Go.Proofs.YthmibmofdmlgaaaGreatDoor
open Go.RowKit

set_option maxRecDepth 100000 in
theorem right_cond0 (o d s f m : Int) (w : World) (h0 : 0 ≤ o) (h1 : o ≤ 255) (hc : condB o = true) (hr : o / 8 % 2 = 0) :
    Calls Tryz.prog 12 #[insV o d s f m] w fun e w' => e = .returned (.bool (rightR ⟨o, d, s, f, m⟩)) ∧ Below w.heap.size w w' := by
  have hq : o % 8 = 5 ∨ o % 8 = 6 := by simp [condB] at hc; omega
  have h24 : o ≠ 24 := by omega
  have h4 : ¬ o % 8 = 4 := by omega
  have h7 : ¬ o % 8 = 7 := by omega
  have b4 : (o % 8 == 4) = false := by simpa using h4
  have b7 : (o % 8 == 7) = false := by simpa using h7
  clear hq
  unfold insV
  go_enter Tryz.func12, Tryz.ntmps12
  go_wp2_with (go_at_call 24; refine (cond_ref _ _ h0 h1).mono ?_; rintro e w' ⟨rfl, rfl⟩)
  all_goals
    go_ret
    exact ⟨ret_bool (by simp_all [rightR] <;> first | (intros; omega) | (rw [Bool.eq_iff_iff]; simp <;> omega)), below_box _ _⟩
set_option maxRecDepth 100000 in
theorem right_cond1 (o d s f m : Int) (w : World) (h0 : 0 ≤ o) (h1 : o ≤ 255) (hc : condB o = true) (hr : o / 8 % 2 = 1) :
    Calls Tryz.prog 12 #[insV o d s f m] w fun e w' => e = .returned (.bool (rightR ⟨o, d, s, f, m⟩)) ∧ Below w.heap.size w w' := by
  have hq : o % 8 = 5 ∨ o % 8 = 6 := by simp [condB] at hc; omega
  have h24 : o ≠ 24 := by omega
  have h4 : ¬ o % 8 = 4 := by omega
  have h7 : ¬ o % 8 = 7 := by omega
  have b4 : (o % 8 == 4) = false := by simpa using h4
  have b7 : (o % 8 == 7) = false := by simpa using h7
  clear hq
  unfold insV
  go_enter Tryz.func12, Tryz.ntmps12
  go_wp2_with (go_at_call 24; refine (cond_ref _ _ h0 h1).mono ?_; rintro e w' ⟨rfl, rfl⟩)
  all_goals
    go_ret
    exact ⟨ret_bool (by simp_all [rightR] <;> first | (intros; omega) | (rw [Bool.eq_iff_iff]; simp <;> omega)), below_box _ _⟩
set_option maxRecDepth 100000 in
theorem right_5 (d s f m : Int) (w : World) :
    Calls Tryz.prog 12 #[insV 5 d s f m] w fun e w' => e = .returned (.bool (rightR ⟨5, d, s, f, m⟩)) ∧ Below w.heap.size w w' := by
  have hc : condB 5 = false := by decide
  unfold insV
  go_enter Tryz.func12, Tryz.ntmps12
  go_wp2_with (go_at_call 24; refine (cond_ref _ _ (by omega) (by omega)).mono ?_; rintro e w' ⟨rfl, rfl⟩)
  all_goals
    go_ret
    exact ⟨ret_bool (by simp_all [rightR] <;> first | (intros; omega) | (rw [Bool.eq_iff_iff]; simp <;> omega)), below_box _ _⟩
set_option maxRecDepth 100000 in
theorem right_133 (d s f m : Int) (w : World) :
    Calls Tryz.prog 12 #[insV 133 d s f m] w fun e w' => e = .returned (.bool (rightR ⟨133, d, s, f, m⟩)) ∧ Below w.heap.size w w' := by
  have hc : condB 133 = false := by decide
  unfold insV
  go_enter Tryz.func12, Tryz.ntmps12
  go_wp2_with (go_at_call 24; refine (cond_ref _ _ (by omega) (by omega)).mono ?_; rintro e w' ⟨rfl, rfl⟩)
  all_goals
    go_ret
    exact ⟨ret_bool (by simp_all [rightR] <;> first | (intros; omega) | (rw [Bool.eq_iff_iff]; simp <;> omega)), below_box _ _⟩
set_option maxRecDepth 100000 in
theorem right_149 (d s f m : Int) (w : World) :
    Calls Tryz.prog 12 #[insV 149 d s f m] w fun e w' => e = .returned (.bool (rightR ⟨149, d, s, f, m⟩)) ∧ Below w.heap.size w w' := by
  have hc : condB 149 = false := by decide
  unfold insV
  go_enter Tryz.func12, Tryz.ntmps12
  go_wp2_with (go_at_call 24; refine (cond_ref _ _ (by omega) (by omega)).mono ?_; rintro e w' ⟨rfl, rfl⟩)
  all_goals
    go_ret
    exact ⟨ret_bool (by simp_all [rightR] <;> first | (intros; omega) | (rw [Bool.eq_iff_iff]; simp <;> omega)), below_box _ _⟩
end Go.Proofs.YthmibmofdmlgaaaGreatDoor

/-
  Proved here: Right of the document's answers returns rightR for what is of memory, or none. Conditions: as each lemma says.
-/
namespace Go.Proofs.YthmibmofdmlgaaaGreatDoor
open Go.RowKit

set_option maxRecDepth 100000 in
theorem right_mem1 (o d s f m : Int) (w : World) (h0 : 0 ≤ o) (h1 : o ≤ 255) (h24 : o ≠ 24) (h5 : o ≠ 5) (h133 : o ≠ 133) (h149 : o ≠ 149) (hc : condB o = false) (hz : szR o ≠ 0) (hq : o % 8 = 1) :
    Calls Tryz.prog 12 #[insV o d s f m] w fun e w' => e = .returned (.bool (rightR ⟨o, d, s, f, m⟩)) ∧ Below w.heap.size w w' := by
  have b24 : (o == 24) = false := by simpa using h24
  have b5 : (o == 5) = false := by simpa using h5
  have b133 : (o == 133) = false := by simpa using h133
  have b149 : (o == 149) = false := by simpa using h149
  unfold insV
  go_enter Tryz.func12, Tryz.ntmps12
  go_wp2_with (first | (go_at_call 24; refine (cond_ref _ _ h0 h1).mono ?_; rintro e w' ⟨rfl, rfl⟩) | (go_at_call 25; refine (size_ref3 _ _).mono ?_; rintro e w' ⟨rfl, rfl⟩))
  all_goals
    go_ret
    exact ⟨ret_bool (by simp_all [rightR] <;> first | (intros; omega) | (rw [Bool.eq_iff_iff]; simp <;> omega)), below_box _ _⟩
set_option maxRecDepth 100000 in
theorem right_mem2 (o d s f m : Int) (w : World) (h0 : 0 ≤ o) (h1 : o ≤ 255) (h24 : o ≠ 24) (h5 : o ≠ 5) (h133 : o ≠ 133) (h149 : o ≠ 149) (hc : condB o = false) (hz : szR o ≠ 0) (hq : o % 8 = 2) :
    Calls Tryz.prog 12 #[insV o d s f m] w fun e w' => e = .returned (.bool (rightR ⟨o, d, s, f, m⟩)) ∧ Below w.heap.size w w' := by
  have b24 : (o == 24) = false := by simpa using h24
  have b5 : (o == 5) = false := by simpa using h5
  have b133 : (o == 133) = false := by simpa using h133
  have b149 : (o == 149) = false := by simpa using h149
  unfold insV
  go_enter Tryz.func12, Tryz.ntmps12
  go_wp2_with (first | (go_at_call 24; refine (cond_ref _ _ h0 h1).mono ?_; rintro e w' ⟨rfl, rfl⟩) | (go_at_call 25; refine (size_ref3 _ _).mono ?_; rintro e w' ⟨rfl, rfl⟩))
  all_goals
    go_ret
    exact ⟨ret_bool (by simp_all [rightR] <;> first | (intros; omega) | (rw [Bool.eq_iff_iff]; simp <;> omega)), below_box _ _⟩
set_option maxRecDepth 100000 in
theorem right_mem3 (o d s f m : Int) (w : World) (h0 : 0 ≤ o) (h1 : o ≤ 255) (h24 : o ≠ 24) (h5 : o ≠ 5) (h133 : o ≠ 133) (h149 : o ≠ 149) (hc : condB o = false) (hz : szR o ≠ 0) (hq : o % 8 = 3) :
    Calls Tryz.prog 12 #[insV o d s f m] w fun e w' => e = .returned (.bool (rightR ⟨o, d, s, f, m⟩)) ∧ Below w.heap.size w w' := by
  have b24 : (o == 24) = false := by simpa using h24
  have b5 : (o == 5) = false := by simpa using h5
  have b133 : (o == 133) = false := by simpa using h133
  have b149 : (o == 149) = false := by simpa using h149
  unfold insV
  go_enter Tryz.func12, Tryz.ntmps12
  go_wp2_with (first | (go_at_call 24; refine (cond_ref _ _ h0 h1).mono ?_; rintro e w' ⟨rfl, rfl⟩) | (go_at_call 25; refine (size_ref3 _ _).mono ?_; rintro e w' ⟨rfl, rfl⟩))
  all_goals
    go_ret
    exact ⟨ret_bool (by simp_all [rightR] <;> first | (intros; omega) | (rw [Bool.eq_iff_iff]; simp <;> omega)), below_box _ _⟩
set_option maxRecDepth 100000 in
theorem right_none (o d s f m : Int) (w : World) (h0 : 0 ≤ o) (h1 : o ≤ 255) (h24 : o ≠ 24) (h5 : o ≠ 5) (h133 : o ≠ 133) (h149 : o ≠ 149) (hc : condB o = false) (hz : szR o = 0) (h4 : ¬ o % 8 = 4) (h7 : ¬ o % 8 = 7) :
    Calls Tryz.prog 12 #[insV o d s f m] w fun e w' => e = .returned (.bool (rightR ⟨o, d, s, f, m⟩)) ∧ Below w.heap.size w w' := by
  have b4 : (o % 8 == 4) = false := by simpa using h4
  have b7 : (o % 8 == 7) = false := by simpa using h7
  have b24 : (o == 24) = false := by simpa using h24
  have b5 : (o == 5) = false := by simpa using h5
  have b133 : (o == 133) = false := by simpa using h133
  have b149 : (o == 149) = false := by simpa using h149
  unfold insV
  go_enter Tryz.func12, Tryz.ntmps12
  go_wp2_with (first | (go_at_call 24; refine (cond_ref _ _ h0 h1).mono ?_; rintro e w' ⟨rfl, rfl⟩) | (go_at_call 25; refine (size_ref3 _ _).mono ?_; rintro e w' ⟨rfl, rfl⟩))
  all_goals
    go_ret
    exact ⟨ret_bool (by simp_all [rightR] <;> first | (intros; omega) | (rw [Bool.eq_iff_iff]; simp <;> omega)), below_box _ _⟩
end Go.Proofs.YthmibmofdmlgaaaGreatDoor

/-
  Proved here: Right of the document's answers returns rightR of every instruction, and rightR is what Right of package isa returns. Conditions: the fields are such fields.
-/
namespace Go.Proofs.YthmibmofdmlgaaaGreatDoor
open Go.RowKit

theorem mem_table : ∀ n : Fin 256, decide (szR (n.val : Int) = 0 ∨ (n.val : Int) % 8 = 1 ∨ (n.val : Int) % 8 = 2 ∨ (n.val : Int) % 8 = 3) = true := by decide +kernel
theorem right_ref (o d s f m : Int) (w : World) (h0 : 0 ≤ o) (h1 : o ≤ 255) :
    Calls Tryz.prog 12 #[insV o d s f m] w fun e w' => e = .returned (.bool (rightR ⟨o, d, s, f, m⟩)) ∧ Below w.heap.size w w' := by
  by_cases h24 : o = 24
  · subst h24; exact right_ref24 d s f m w
  by_cases ha : o % 8 = 4 ∨ o % 8 = 7
  · exact right_alu o d s f m w h0 h1 ha
  cases hc : condB o
  · by_cases h5 : o = 5
    · subst h5; exact right_5 d s f m w
    by_cases h133 : o = 133
    · subst h133; exact right_133 d s f m w
    by_cases h149 : o = 149
    · subst h149; exact right_149 d s f m w
    by_cases hz : szR o = 0
    · exact right_none o d s f m w h0 h1 h24 h5 h133 h149 hc hz (fun h => ha (.inl h)) (fun h => ha (.inr h))
    · rcases of_decide_eq_true (of_table (f := fun op => decide (szR op = 0 ∨ op % 8 = 1 ∨ op % 8 = 2 ∨ op % 8 = 3)) (g := fun _ => true) mem_table h0 h1) with h | h | h | h
      · exact absurd h hz
      · exact right_mem1 o d s f m w h0 h1 h24 h5 h133 h149 hc hz h
      · exact right_mem2 o d s f m w h0 h1 h24 h5 h133 h149 hc hz h
      · exact right_mem3 o d s f m w h0 h1 h24 h5 h133 h149 hc hz h
  · obtain hr | hr : o / 8 % 2 = 0 ∨ o / 8 % 2 = 1 := by omega
    · exact right_cond0 o d s f m w h0 h1 hc hr
    · exact right_cond1 o d s f m w h0 h1 hc hr

/-- What the document's answers let an opcode have. -/
def fldR (op : Int) : Option (Int × Int × Bool × Bool) :=
  if op = 24 then some (9, 1, false, true)
  else if op % 8 = 4 ∨ op % 8 = 7 then
    if 12 < op / 16 then none else if op / 16 = 8 then (if op / 8 % 2 = 1 then none else some (9, 0, false, false)) else if op / 8 % 2 = 1 then some (9, 10, false, false) else some (9, 0, false, true)
  else if condB op = true then (if op / 8 % 2 = 1 then some (10, 10, true, false) else some (10, 0, true, true))
  else if op = 5 then some (0, 0, true, false) else if op = 133 then some (0, 0, false, true) else if op = 149 then some (0, 0, false, false)
  else if szR op = 0 then none else if op % 8 = 1 then some (9, 10, true, false) else if op % 8 = 2 then some (10, 0, true, true) else some (10, 10, true, false)
def fitR (p : Option (Int × Int × Bool × Bool)) (d s o m : Int) : Bool :=
  match p with
  | none => false
  | some (a, b, c, i) => decide (d ≤ a) && decide (s ≤ b) && (c || o == 0) && (i || m == 0)
def fldI (op : Int) : Option (Int × Int × Bool × Bool) :=
  if shp op != 0 then some ((fldAt (shp op)).dst, (fldAt (shp op)).src, (fldAt (shp op)).off, (fldAt (shp op)).imm) else none
theorem fld_table : ∀ n : Fin 256, decide (fldI (n.val : Int) = fldR (n.val : Int)) = true := by decide +kernel
theorem fld_same {op : Int} (h0 : 0 ≤ op) (h1 : op ≤ 255) : fldI op = fldR op := of_decide_eq_true (of_table (f := fun op => decide (fldI op = fldR op)) (g := fun _ => true) fld_table h0 h1)
theorem rightI_fit (x : Ins) : rightI x = fitR (fldI x.op) x.dst x.src x.off x.imm := by
  unfold rightI fitB fldI
  cases h : (shp x.op != 0) <;> simp [fitR]
theorem rightR_fit (x : Ins) (hd : 0 ≤ x.dst) (hs : 0 ≤ x.src) : rightR x = fitR (fldR x.op) x.dst x.src x.off x.imm := by
  have e1 : (x.dst = 0) = (x.dst ≤ 0) := propext (by omega)
  have e2 : (x.src = 0) = (x.src ≤ 0) := propext (by omega)
  unfold rightR fldR
  simp only [e1, e2]
  repeat' split
  all_goals simp_all [fitR]
  all_goals first | (intros; omega) | (rw [Bool.eq_iff_iff]; simp; done) | (rw [Bool.eq_iff_iff]; simp; omega)
theorem right_same (x : Ins) (h0 : 0 ≤ x.op) (h1 : x.op ≤ 255) (hd : 0 ≤ x.dst) (hs : 0 ≤ x.src) : rightI x = rightR x := by
  rw [rightI_fit, rightR_fit x hd hs, fld_same h0 h1]
end Go.Proofs.YthmibmofdmlgaaaGreatDoor
