import Derived.Test.YthmibmofdmlgaaaGreatDoorHNums
import Derived.Deep.RegionWith
import Derived.Laws.BytesArg
import Derived.Test.YthmibmofdmlgaaaGreatDoorHParts
import Derived.Test.YthmibmofdmlgaaaGreatDoorG02
import Derived.Test.YthmibmofdmlgaaaGreatDoorHLine
import Derived.Deep.RegionHeld
import Derived.Lib.Builder
/-
  Proved here: Digits of the document's answers returns a number's numeral. Conditions: the number is an int64.
-/
namespace Go.Proofs.YthmibmofdmlgaaaGreatDoor
open Go.RowKit
set_option linter.unusedVariables false

theorem conv_byte (c : Int) (W : World) (b : Nat) (h : W.cell? ⟨b, 0, none⟩ = some (.int .u8 c)) : (convert 46 9 (.slice (some ⟨b, 0, none⟩) 1 1)).run Tryz.prog W = .ok (.string (S [UInt8.ofNat c.toNat])) W :=
  run_convert_bytes_arg W 46 5 Tryz.underlying46 Tryz.underlying5 b 0 1 1 [c] rfl (fun i hi => by
    have : i = 0 := by omega
    subst this
    exact h) 9 Tryz.underlying9
theorem conv_new (c : Int) (W : World) : (convert 46 9 (.slice (some ⟨W.heap.size, 0, none⟩) 1 1)).run Tryz.prog (W.alloc (.cells #[.int .u8 c] 5)) = .ok (.string (S [UInt8.ofNat c.toNat])) (W.alloc (.cells #[.int .u8 c] 5)) :=
  conv_byte c _ _ (by have h := (MapKept.heap_alloc W (.cells #[.int .u8 c] 5)).1; simp only [World.cell?, h]; rfl)
theorem conv_drew (c : Int) (W : World) : (convert 46 9 (.slice (some ⟨W.heap.size, 0, none⟩) 1 1)).run Tryz.prog (W.alloc (.cells #[.int .u8 c] 5)).drew = .ok (.string (S [UInt8.ofNat c.toNat])) (W.alloc (.cells #[.int .u8 c] 5)).drew :=
  conv_byte c _ _ (by have h := (MapKept.heap_alloc W (.cells #[.int .u8 c] 5)).1; show World.cell? (W.alloc _) _ = _; simp only [World.cell?, h]; rfl)
theorem fresh_block (w : World) (o : Obj) : (w.alloc o).heap[w.heap.size]? = some o := (MapKept.heap_alloc w o).1
theorem fresh_cell (w : World) (l : List Value) (T i : Nat) (v : Value) (h : l[i]? = some v) : (w.alloc (.cells l.toArray T)).cell? ⟨w.heap.size, i, none⟩ = some v := by
  unfold World.cell?
  simp only [fresh_block]
  simpa using h
set_option maxRecDepth 100000 in
theorem digits_one (n : Int) (w : World) (h0 : 0 ≤ n) (h1 : n < 10) : Calls Tryz.prog 26 #[.int .i64 n] w (Txt (Lib.itoa n) w) := by
  have hc : IntKind.u8.wrap (48 + n) = 48 + n := by
    simp [IntKind.wrap, IntKind.bits, IntKind.signed]
    omega
  have hcv := conv_new (48 + n) w
  have hres : [UInt8.ofNat (48 + n).toNat] = Lib.itoa n := by
    have e : (48 + n).toNat = 48 + n.toNat := by omega
    rw [e, Lib.itoa, if_neg (by omega), Lib.decDigits_one (by omega)]
  rw [hres] at hcv
  clear hres
  obtain ⟨t, ht⟩ : ∃ t, Lib.itoa n = t := ⟨_, rfl⟩
  rw [ht] at hcv ⊢
  clear ht
  go_enter Tryz.func26, Tryz.ntmps26
  go_wp2
  go_ret
  exact ⟨rfl, below_box _ _⟩
set_option maxRecDepth 100000 in
set_option maxHeartbeats 400000 in
theorem digits_step (n q r : Int) (t d : List UInt8) (w : World) (h0 : 10 ≤ n) (h1 : n ≤ 9223372036854775807) (hq : n / 10 = q) (hr : n % 10 = r) (hq2 : n.tdiv 10 = q) (hr2 : n.tmod 10 = r) (hr0 : 0 ≤ r) (hr9 : r ≤ 9)
    (ih : ∀ W, Calls Tryz.prog 26 #[.int .i64 q] W (Txt t W)) (hl : t.length ≤ 21) (hd : [UInt8.ofNat (48 + r).toNat] = d) : Calls Tryz.prog 26 #[.int .i64 n] w (Txt (t ++ d) w) := by
  have hc : IntKind.u8.wrap (48 + r) = 48 + r := by
    simp [IntKind.wrap, IntKind.bits, IntKind.signed]
    omega
  have hwq : IntKind.i64.wrap q = q := IntWalk.i64_in _ (by omega)
  have hwr : IntKind.i64.wrap (48 + r) = 48 + r := IntWalk.i64_in _ (by omega)
  have hcv1 := fun W => conv_new (48 + r) W
  have hcv2 := fun W => conv_drew (48 + r) W
  have hcv3 := fun W b h => conv_byte (48 + r) W b h
  have hdl : d.length = 1 := by rw [← hd]; rfl
  rw [hd] at hcv1 hcv2 hcv3
  unfold Txt at ih ⊢
  have hcat : S t ++ S d = S (t ++ d) := S_cat t d
  have hsum : (S t).size + (S d).size ≤ 9223372036854775807 := by rw [S_size, S_size]; omega
  have hcell := Lib.hid (show (w.alloc (.cells #[.int .u8 (48 + r)] 5)).drew.cell? ⟨w.heap.size, 0, none⟩ = some (.int .u8 (48 + r)) from fresh_cell w [.int .u8 (48 + r)] 5 0 _ rfl)
  clear hd hl hdl
  go_enter Tryz.func26, Tryz.ntmps26
  go_wp2_with fail
  go_region_with  (go_at_call 26; refine (ih _).mono ?_; rintro e w1 ⟨rfl, hb1⟩; (first | (have hx2 := hcv3 w1 w.heap.size (stays hb1 hcell.out)) | skip); have HB1 := Lib.hid hb1; clear hb1)
  all_goals
    go_wp2_with fail
    go_ret
    first
      | exact ⟨rfl, ((Below.refl _ _).drew.trans (HB1.out.mono (Nat.le_refl _))).alloc (HB1.out.size) _⟩
      | exact ⟨rfl, ((below_box w _).drew).trans (HB1.out.mono (by simp))⟩
theorem digits_pos : ∀ (k : Nat) (n : Int) (w : World), n.toNat < k → 0 ≤ n → n ≤ 9223372036854775807 → Calls Tryz.prog 26 #[.int .i64 n] w (Txt (Lib.itoa n) w) := by
  intro k
  induction k with
  | zero => intro n w h; omega
  | succ k ih =>
    intro n w h h0 h1
    by_cases h10 : n < 10
    · exact digits_one n w h0 h10
    · have hres : Lib.itoa n = Lib.itoa (n / 10) ++ [UInt8.ofNat (48 + n % 10).toNat] := by
        have e : (48 + n % 10).toNat = 48 + n.toNat % 10 := by omega
        have e2 : (n / 10).toNat = n.toNat / 10 := by omega
        rw [e, Lib.itoa, if_neg (by omega), Lib.itoa, if_neg (by omega), Lib.decDigits, dif_neg (by omega), e2]
      rw [hres]
      exact digits_step n (n / 10) (n % 10) (Lib.itoa (n / 10)) _ w (by omega) h1 rfl rfl (Int.tdiv_eq_ediv_of_nonneg h0) (Int.tmod_eq_emod_of_nonneg h0) (by omega) (by omega) (fun W => ih (n / 10) W (by omega) (by omega) (by omega)) (itoa_len _ (by omega) (by omega)) rfl
set_option maxRecDepth 100000 in
theorem digits_neg (n : Int) (w : World) (h0 : n < 0) (h1 : -9223372036854775807 ≤ n) : Calls Tryz.prog 26 #[.int .i64 n] w (Txt (Lib.itoa n) w) := by
  have hres : Lib.itoa n = 45 :: Lib.itoa (-n) := by
    have e : (-n).toNat = n.natAbs := by omega
    rw [Lib.itoa, if_pos h0, Lib.itoa, if_neg (by omega), e]
  rw [hres]
  have hc := digits_pos ((-n).toNat + 1) (-n) w (by omega) (by omega) (by omega)
  have hl := itoa_len (-n) (by omega) (by omega)
  obtain ⟨t, ht⟩ : ∃ t, Lib.itoa (-n) = t := ⟨_, rfl⟩
  obtain ⟨m, hm⟩ : ∃ m, -n = m := ⟨_, rfl⟩
  have hwm : IntKind.i64.wrap (-n) = -n := IntWalk.i64_in _ (by omega)
  rw [ht] at hc hl ⊢
  rw [hm] at hc hwm
  unfold Txt at hc ⊢
  have hcat : ({ data := #[45] } : ByteArray) ++ S t = S (45 :: t) := S_left [45] t
  have hsum : 1 + (S t).size ≤ 9223372036854775807 := by rw [S_size]; omega
  have hmin : (n == -9223372036854775808) = false := by simp; omega
  clear hres ht hl
  go_enter Tryz.func26, Tryz.ntmps26
  go_wp2_with (go_at_call 26; refine hc.mono ?_; rintro e w1 ⟨rfl, hb1⟩; have HB1 := Lib.hid hb1; clear hb1)
  go_ret
  exact ⟨rfl, HB1.out⟩
set_option maxRecDepth 100000 in
theorem digits_min (w : World) : Calls Tryz.prog 26 #[.int .i64 (-9223372036854775808)] w (Txt (Lib.itoa (-9223372036854775808)) w) := by
  have hres : Lib.itoa (-9223372036854775808) = [45, 57, 50, 50, 51, 51, 55, 50, 48, 51, 54, 56, 53, 52, 55, 55, 53, 56, 48, 56] := by
    rw [Lib.itoa, if_pos (by omega)]
    show 45 :: Lib.decDigits 9223372036854775808 = _
    simp [Lib.decDigits]
  rw [hres]
  unfold Txt
  have hk : ({ data := #[45, 57, 50, 50, 51, 51, 55, 50, 48, 51, 54, 56, 53, 52, 55, 55, 53, 56, 48, 56] } : ByteArray) = S [45, 57, 50, 50, 51, 51, 55, 50, 48, 51, 54, 56, 53, 52, 55, 55, 53, 56, 48, 56] := rfl
  clear hres
  go_enter Tryz.func26, Tryz.ntmps26
  go_wp2_with fail
  go_ret
  exact ⟨rfl, Below.refl _ _⟩
theorem digits_text (n : Int) (w : World) (h0 : -9223372036854775808 ≤ n) (h1 : n ≤ 9223372036854775807) : Calls Tryz.prog 26 #[.int .i64 n] w (Txt (Lib.itoa n) w) := by
  by_cases hp : 0 ≤ n
  · exact digits_pos (n.toNat + 1) n w (by omega) hp h1
  · by_cases hm : n = -9223372036854775808
    · subst hm
      exact digits_min w
    · exact digits_neg n w (by omega) (by omega)
end Go.Proofs.YthmibmofdmlgaaaGreatDoor

/-
  Proved here: reg, place and operand of the document's answers return the texts of parts. Conditions: the fields fit.
-/
namespace Go.Proofs.YthmibmofdmlgaaaGreatDoor
open Go.RowKit
set_option linter.unusedVariables false

/-- Two texts behind one another. -/
theorem cat_mk {a b c : List UInt8} (h : a ++ b = c) (ha : a.length ≤ 1000) (hb : b.length ≤ 1000) : S a ++ S b = S c ∧ (S a).size + (S b).size ≤ 9223372036854775807 := by
  rw [S_cat, h, S_size, S_size]
  exact ⟨rfl, by omega⟩
theorem reg_ref (r : Int) (w : World) (h0 : 0 ≤ r) (h1 : r ≤ 255) : Calls Tryz.prog 28 #[.int .u8 r] w (Txt (regT r) w) := by
  unfold Txt
  obtain ⟨t, ht⟩ : ∃ t, Lib.itoa r = t := ⟨_, rfl⟩
  have hc := digits_text r w (by omega) (by omega)
  have hl := itoa_len r (by omega) (by omega)
  unfold regT
  unfold Txt at hc
  rw [ht] at hc hl ⊢
  have hcat : ({ data := #[114] } : ByteArray) ++ S t = S (114 :: t) := S_left [114] t
  have hsum : 1 + (S t).size ≤ 9223372036854775807 := by rw [S_size]; omega
  have hr : IntKind.i64.wrap r = r := IntWalk.i64_in _ (by omega)
  clear ht hl
  go_enter Tryz.func28, Tryz.ntmps28
  go_wp2_with (go_at_call 26; refine hc.mono ?_; rintro e w1 ⟨rfl, hb1⟩; have HB1 := Lib.hid hb1; clear hb1)
  go_ret
  exact ⟨rfl, HB1.out⟩
theorem place_neg (r o : Int) (w : World) (h0 : 0 ≤ r) (h1 : r ≤ 255) (h2 : -32768 ≤ o) (h3 : o < 0) : Calls Tryz.prog 30 #[.int .u8 r, .int .i16 o] w (Txt (placeT r o) w) := by
  have hc := reg_ref r w h0 h1
  have hd := fun W => digits_text o W (by omega) (by omega)
  have hl := regT_len r h0 h1
  have hl2 := itoa_len o (by omega) (by omega)
  have hr : IntKind.i64.wrap o = o := IntWalk.i64_in _ (by omega)
  unfold placeT offT
  rw [if_pos h3]
  unfold Txt at hc hd ⊢
  obtain ⟨a, ha⟩ : ∃ a, regT r = a := ⟨_, rfl⟩
  obtain ⟨b, hb⟩ : ∃ b, Lib.itoa o = b := ⟨_, rfl⟩
  rw [ha] at hc hl ⊢
  rw [hb] at hd hl2 ⊢
  obtain ⟨k1, s1⟩ := cat_mk (a := [91]) (b := a) (c := 91 :: a) rfl (by simp) (by omega)
  obtain ⟨k2, s2⟩ := cat_mk (a := 91 :: a) (b := b) (c := 91 :: (a ++ b)) rfl (by simp; omega) (by omega)
  obtain ⟨k3, s3⟩ := cat_mk (a := 91 :: (a ++ b)) (b := [93]) (c := 91 :: (a ++ (b ++ [93]))) (by simp) (by simp; omega) (by simp)
  have z1 : ({ data := #[91] } : ByteArray) = S [91] := rfl
  have z2 : ({ data := #[93] } : ByteArray) = S [93] := rfl
  clear ha hb hl hl2
  go_enter Tryz.func30, Tryz.ntmps30
  go_wp2_with (first
    | (go_at_call 28; refine hc.mono ?_; rintro e w1 ⟨rfl, hb1⟩; have HB1 := Lib.hid hb1; clear hb1)
    | (go_at_call 26; refine (hd _).mono ?_; rintro e w2 ⟨rfl, hb2⟩; have HB2 := Lib.hid hb2; clear hb2))
  go_ret
  exact ⟨rfl, HB1.out.trans (HB2.out.mono HB1.out.size)⟩
theorem place_pos (r o : Int) (w : World) (h0 : 0 ≤ r) (h1 : r ≤ 255) (h2 : 0 ≤ o) (h3 : o ≤ 32767) : Calls Tryz.prog 30 #[.int .u8 r, .int .i16 o] w (Txt (placeT r o) w) := by
  have hc := reg_ref r w h0 h1
  have hd := fun W => digits_text o W (by omega) (by omega)
  have hl := regT_len r h0 h1
  have hl2 := itoa_len o (by omega) (by omega)
  have hr : IntKind.i64.wrap o = o := IntWalk.i64_in _ (by omega)
  unfold placeT offT
  rw [if_neg (by omega)]
  unfold Txt at hc hd ⊢
  obtain ⟨a, ha⟩ : ∃ a, regT r = a := ⟨_, rfl⟩
  obtain ⟨b, hb⟩ : ∃ b, Lib.itoa o = b := ⟨_, rfl⟩
  rw [ha] at hc hl ⊢
  rw [hb] at hd hl2 ⊢
  obtain ⟨k1, s1⟩ := cat_mk (a := [91]) (b := a) (c := 91 :: a) rfl (by simp) (by omega)
  obtain ⟨k2, s2⟩ := cat_mk (a := 91 :: a) (b := [43]) (c := 91 :: (a ++ [43])) rfl (by simp; omega) (by simp)
  obtain ⟨k3, s3⟩ := cat_mk (a := 91 :: (a ++ [43])) (b := b) (c := 91 :: (a ++ 43 :: b)) (by simp) (by simp; omega) (by omega)
  obtain ⟨k4, s4⟩ := cat_mk (a := 91 :: (a ++ 43 :: b)) (b := [93]) (c := 91 :: (a ++ (43 :: b ++ [93]))) (by simp) (by simp; omega) (by simp)
  have z1 : ({ data := #[91] } : ByteArray) = S [91] := rfl
  have z2 : ({ data := #[93] } : ByteArray) = S [93] := rfl
  have z3 : ({ data := #[43] } : ByteArray) = S [43] := rfl
  clear ha hb hl hl2
  go_enter Tryz.func30, Tryz.ntmps30
  go_wp2_with (first
    | (go_at_call 28; refine hc.mono ?_; rintro e w1 ⟨rfl, hb1⟩; have HB1 := Lib.hid hb1; clear hb1)
    | (go_at_call 26; refine (hd _).mono ?_; rintro e w2 ⟨rfl, hb2⟩; have HB2 := Lib.hid hb2; clear hb2))
  go_ret
  exact ⟨rfl, HB1.out.trans (HB2.out.mono HB1.out.size)⟩
theorem place_ref (r o : Int) (w : World) (h0 : 0 ≤ r) (h1 : r ≤ 255) (h2 : -32768 ≤ o) (h3 : o ≤ 32767) : Calls Tryz.prog 30 #[.int .u8 r, .int .i16 o] w (Txt (placeT r o) w) := by
  by_cases h : 0 ≤ o
  · exact place_pos r o w h0 h1 h h3
  · exact place_neg r o w h0 h1 h2 (by omega)
theorem operand_ref (o d s f m : Int) (w : World) (hx : (⟨o, d, s, f, m⟩ : Ins).Fit) : Calls Tryz.prog 29 #[insV o d s f m] w (Txt (if o / 8 % 2 = 1 then regT s else Lib.itoa m) w) := by
  have h0 := hx.op.1
  have h1 := hx.op.2
  have s0 := hx.src.1
  have s1 := hx.src.2
  have m0 := hx.imm.1
  have m1 := hx.imm.2
  dsimp only at h0 h1 s0 s1 m0 m1
  have hr : IntKind.i64.wrap m = m := IntWalk.i64_in _ (by omega)
  have hc := reg_ref s (w.alloc (.cells #[.int .u8 o, .int .u8 d, .int .u8 s, .int .i16 f, .int .i32 m] 35)) s0 s1
  have hd := digits_text m (w.alloc (.cells #[.int .u8 o, .int .u8 d, .int .u8 s, .int .i16 f, .int .i32 m] 35)) (by omega) (by omega)
  unfold insV
  by_cases hq : o / 8 % 2 = 1
  · rw [if_pos hq]
    go_enter Tryz.func29, Tryz.ntmps29
    go_wp2_with (go_at_call 28; refine hc.mono ?_; rintro e w1 ⟨rfl, hb1⟩; have HB1 := Lib.hid hb1; clear hb1)
    go_ret
    exact ⟨rfl, up_below HB1.out⟩
  · rw [if_neg hq]
    go_enter Tryz.func29, Tryz.ntmps29
    go_wp2_with (go_at_call 26; refine hd.mono ?_; rintro e w1 ⟨rfl, hb1⟩; have HB1 := Lib.hid hb1; clear hb1)
    go_ret
    exact ⟨rfl, up_below HB1.out⟩
end Go.Proofs.YthmibmofdmlgaaaGreatDoor

/-
  Proved here: nothing of a program: the boxes and rows of Line of the document's answers, kept. Conditions: as each lemma says.
-/
namespace Go.Proofs.YthmibmofdmlgaaaGreatDoor
open Go.RowKit
set_option linter.unusedVariables false

def opsN : List (List UInt8) := [[97, 100, 100], [115, 117, 98], [109, 117, 108], [100, 105, 118], [111, 114], [97, 110, 100], [108, 115, 104], [114, 115, 104], [110, 101, 103], [109, 111, 100], [120, 111, 114], [109, 111, 118], [97, 114, 115, 104]]
def jsN : List (List UInt8) := [[], [106, 101, 113], [106, 103, 116], [106, 103, 101], [106, 115, 101, 116], [106, 110, 101], [106, 115, 103, 116], [106, 115, 103, 101], [], [], [106, 108, 116], [106, 108, 101], [106, 115, 108, 116], [106, 115, 108, 101]]
theorem cat_mk3 {a b c : List UInt8} (h : a ++ b = c) (ha : a.length ≤ 1000) (hb : b.length ≤ 1000) : S a ++ S b = S c ∧ ¬ 9223372036854775807 < (S a).size + (S b).size := by
  obtain ⟨h1, h2⟩ := cat_mk h ha hb
  exact ⟨h1, by omega⟩
theorem len_of {L : List (List UInt8)} (h : ∀ t ∈ L, t.length ≤ 10) (q : Nat) : (L.getD q []).length ≤ 10 := by
  rw [List.getD_eq_getElem?_getD]
  cases hq : L[q]? with
  | none => simp
  | some t => exact h t (List.mem_of_getElem? hq)
theorem ops_len (q : Nat) : (opsN.getD q []).length ≤ 10 := len_of (by decide) q
theorem js_len (q : Nat) : (jsN.getD q []).length ≤ 10 := len_of (by decide) q
theorem szR_bd (o : Int) : 0 ≤ szR o ∧ szR o ≤ 8 := by
  unfold szR
  repeat' split
  all_goals omega
theorem operand_len (o s m : Int) (s0 : 0 ≤ s) (s1 : s ≤ 255) (m0 : -2147483648 ≤ m) (m1 : m ≤ 2147483647) : (if o / 8 % 2 = 1 then regT s else Lib.itoa m).length ≤ 22 := by
  have := regT_len s s0 s1
  have := itoa_len m (by omega) (by omega)
  split <;> omega
/-- The text of an operand. -/
def operandT (o s m : Int) : List UInt8 := if o / 8 % 2 = 1 then regT s else Lib.itoa m
theorem operandT_len (o s m : Int) (s0 : 0 ≤ s) (s1 : s ≤ 255) (m0 : -2147483648 ≤ m) (m1 : m ≤ 2147483647) : (operandT o s m).length ≤ 22 := operand_len o s m s0 s1 m0 m1
theorem operand_refT (o d s f m : Int) (w : World) (hx : (⟨o, d, s, f, m⟩ : Ins).Fit) : Calls Tryz.prog 29 #[insV o d s f m] w (Txt (operandT o s m) w) := operand_ref o d s f m w hx
def strRow (L : List (List UInt8)) : Array Value := (L.map fun t => Value.string (S t)).toArray
theorem strRow_at {L : List (List UInt8)} {q : Nat} {t : List UInt8} (hq : q < L.length) (h : L.getD q [] = t) : (strRow L)[q]? = some (.string (S t)) := by
  unfold strRow
  rw [← h, List.getD_eq_getElem?_getD]
  simp [List.getElem?_eq_getElem hq]
/-- The boxes of the two instructions, and the rows of names. -/
structure RefBox (w0 W : World) (o d s f m o' d' s' f' m' : Int) : Prop where
  b0 : W.heap[w0.heap.size]? = some (.cells #[.int .u8 o, .int .u8 d, .int .u8 s, .int .i16 f, .int .i32 m] 35)
  b1 : W.heap[w0.heap.size + 1]? = some (.cells #[.int .u8 o', .int .u8 d', .int .u8 s', .int .i16 f', .int .i32 m'] 35)
  b2 : W.heap[w0.heap.size + 1 + 1]? = some (.cells (strRow opsN) 9)
  b3 : W.heap[w0.heap.size + 1 + 1 + 1]? = some (.cells (strRow jsN) 9)
  below : Below w0.heap.size w0 W
theorem alloc_last (w : World) (o : Obj) : (w.alloc o).heap[w.heap.size]? = some o := (MapKept.heap_alloc w o).1
theorem four {w w1 : World} {a b c e : Obj} (hb : Below ((((w.alloc a).alloc b).alloc c).alloc e).heap.size ((((w.alloc a).alloc b).alloc c).alloc e) w1) :
    w1.heap[w.heap.size]? = some a ∧ w1.heap[w.heap.size + 1]? = some b ∧ w1.heap[w.heap.size + 1 + 1]? = some c ∧ w1.heap[w.heap.size + 1 + 1 + 1]? = some e ∧ Below w.heap.size w w1 := by
  have s1 : (w.alloc a).heap.size = w.heap.size + 1 := by simp
  have s2 : ((w.alloc a).alloc b).heap.size = w.heap.size + 1 + 1 := by simp
  have s3 : (((w.alloc a).alloc b).alloc c).heap.size = w.heap.size + 1 + 1 + 1 := by simp
  have s4 : ((((w.alloc a).alloc b).alloc c).alloc e).heap.size = w.heap.size + 1 + 1 + 1 + 1 := by simp
  have l1 := alloc_last w a
  have l2 := alloc_last (w.alloc a) b
  have l3 := alloc_last ((w.alloc a).alloc b) c
  have l4 := alloc_last (((w.alloc a).alloc b).alloc c) e
  rw [s1] at l2
  rw [s2] at l3
  rw [s3] at l4
  have g2 := Below.heap_alloc (w.alloc a) b w.heap.size (by omega)
  have g3 := fun k (h : k < w.heap.size + 1 + 1) => Below.heap_alloc ((w.alloc a).alloc b) c k (by omega)
  have g4 := fun k (h : k < w.heap.size + 1 + 1 + 1) => Below.heap_alloc (((w.alloc a).alloc b).alloc c) e k (by omega)
  refine ⟨?_, ?_, ?_, ?_, ?_⟩
  · rw [hb.block _ (by omega), g4 _ (by omega), g3 _ (by omega), g2, l1]
  · rw [hb.block _ (by omega), g4 _ (by omega), g3 _ (by omega), l2]
  · rw [hb.block _ (by omega), g4 _ (by omega), l3]
  · rw [hb.block _ (by omega), l4]
  · exact (((((Below.refl _ _).alloc (Nat.le_refl _) _).alloc (by simp) _).alloc (by simp; omega) _).alloc (by simp; omega) _).trans (hb.mono (by omega))
theorem refBox_new {w w1 : World} {o d s f m o' d' s' f' m' : Int} (hb : Below ((((w.alloc (.cells #[.int .u8 o, .int .u8 d, .int .u8 s, .int .i16 f, .int .i32 m] 35)).alloc (.cells #[.int .u8 o', .int .u8 d', .int .u8 s', .int .i16 f', .int .i32 m'] 35)).alloc (.cells (strRow opsN) 9)).alloc (.cells (strRow jsN) 9)).heap.size
    ((((w.alloc (.cells #[.int .u8 o, .int .u8 d, .int .u8 s, .int .i16 f, .int .i32 m] 35)).alloc (.cells #[.int .u8 o', .int .u8 d', .int .u8 s', .int .i16 f', .int .i32 m'] 35)).alloc (.cells (strRow opsN) 9)).alloc (.cells (strRow jsN) 9)) w1) : RefBox w w1 o d s f m o' d' s' f' m' := by
  obtain ⟨h0, h1, h2, h3, h4⟩ := four hb
  exact ⟨h0, h1, h2, h3, h4⟩
section
variable {w0 W W' : World} {o d s f m o' d' s' f' m' : Int}
theorem RefBox.on (h : RefBox w0 W o d s f m o' d' s' f' m') (hb : Below W.heap.size W W') : RefBox w0 W' o d s f m o' d' s' f' m' :=
  ⟨(hb.block _ (Array.getElem?_eq_some_iff.1 h.b0).1).trans h.b0, (hb.block _ (Array.getElem?_eq_some_iff.1 h.b1).1).trans h.b1, (hb.block _ (Array.getElem?_eq_some_iff.1 h.b2).1).trans h.b2, (hb.block _ (Array.getElem?_eq_some_iff.1 h.b3).1).trans h.b3, h.below.trans (hb.mono h.below.size)⟩
theorem RefBox.drew (h : RefBox w0 W o d s f m o' d' s' f' m') : RefBox w0 W.drew o d s f m o' d' s' f' m' := ⟨h.b0, h.b1, h.b2, h.b3, h.below.drew⟩
theorem RefBox.x (h : RefBox w0 W o d s f m o' d' s' f' m') : W.cell? ⟨w0.heap.size, 0, none⟩ = some (.int .u8 o) ∧ W.cell? ⟨w0.heap.size, 1, none⟩ = some (.int .u8 d) ∧ W.cell? ⟨w0.heap.size, 2, none⟩ = some (.int .u8 s) ∧ W.cell? ⟨w0.heap.size, 3, none⟩ = some (.int .i16 f) ∧ W.cell? ⟨w0.heap.size, 4, none⟩ = some (.int .i32 m) :=
  ⟨Lib.cell_of_heap h.b0 0, Lib.cell_of_heap h.b0 1, Lib.cell_of_heap h.b0 2, Lib.cell_of_heap h.b0 3, Lib.cell_of_heap h.b0 4⟩
theorem RefBox.y (h : RefBox w0 W o d s f m o' d' s' f' m') : W.cell? ⟨w0.heap.size + 1, 0, none⟩ = some (.int .u8 o') ∧ W.cell? ⟨w0.heap.size + 1, 1, none⟩ = some (.int .u8 d') ∧ W.cell? ⟨w0.heap.size + 1, 2, none⟩ = some (.int .u8 s') ∧ W.cell? ⟨w0.heap.size + 1, 3, none⟩ = some (.int .i16 f') ∧ W.cell? ⟨w0.heap.size + 1, 4, none⟩ = some (.int .i32 m') :=
  ⟨Lib.cell_of_heap h.b1 0, Lib.cell_of_heap h.b1 1, Lib.cell_of_heap h.b1 2, Lib.cell_of_heap h.b1 3, Lib.cell_of_heap h.b1 4⟩
theorem RefBox.plain (h : RefBox w0 W o d s f m o' d' s' f' m') : W.cell? ⟨w0.heap.size, 0, none⟩ = some (.int .u8 o) ∧ W.cell? ⟨w0.heap.size, 1, none⟩ = some (.int .u8 d) ∧ W.cell? ⟨w0.heap.size, 2, none⟩ = some (.int .u8 s) ∧ W.cell? ⟨w0.heap.size, 3, none⟩ = some (.int .i16 f) ∧ W.cell? ⟨w0.heap.size, 4, none⟩ = some (.int .i32 m) ∧ RefBox w0 W o d s f m o' d' s' f' m' :=
  ⟨h.x.1, h.x.2.1, h.x.2.2.1, h.x.2.2.2.1, h.x.2.2.2.2, h⟩
theorem RefBox.sJs (h : RefBox w0 W o d s f m o' d' s' f' m') {q : Nat} {nm : List UInt8} (hn : q < 14 ∧ jsN.getD q [] = nm) : W.cell? ⟨w0.heap.size, 0, none⟩ = some (.int .u8 o) ∧ W.cell? ⟨w0.heap.size, 1, none⟩ = some (.int .u8 d) ∧ W.cell? ⟨w0.heap.size, 2, none⟩ = some (.int .u8 s) ∧ W.cell? ⟨w0.heap.size, 3, none⟩ = some (.int .i16 f) ∧ W.cell? ⟨w0.heap.size, 4, none⟩ = some (.int .i32 m) ∧ W.cell? ⟨w0.heap.size + 1 + 1 + 1, q, none⟩ = some (.string (S nm)) ∧ RefBox w0 W o d s f m o' d' s' f' m' :=
  ⟨h.x.1, h.x.2.1, h.x.2.2.1, h.x.2.2.2.1, h.x.2.2.2.2, (Lib.cell_of_heap h.b3 q).trans (strRow_at hn.1 hn.2), h⟩
theorem RefBox.sOps (h : RefBox w0 W o d s f m o' d' s' f' m') {q : Nat} {nm : List UInt8} (hn : q < 13 ∧ opsN.getD q [] = nm) : W.cell? ⟨w0.heap.size, 0, none⟩ = some (.int .u8 o) ∧ W.cell? ⟨w0.heap.size, 1, none⟩ = some (.int .u8 d) ∧ W.cell? ⟨w0.heap.size, 2, none⟩ = some (.int .u8 s) ∧ W.cell? ⟨w0.heap.size, 3, none⟩ = some (.int .i16 f) ∧ W.cell? ⟨w0.heap.size, 4, none⟩ = some (.int .i32 m) ∧ W.cell? ⟨w0.heap.size + 1 + 1, q, none⟩ = some (.string (S nm)) ∧ RefBox w0 W o d s f m o' d' s' f' m' :=
  ⟨h.x.1, h.x.2.1, h.x.2.2.1, h.x.2.2.2.1, h.x.2.2.2.2, (Lib.cell_of_heap h.b2 q).trans (strRow_at hn.1 hn.2), h⟩
theorem refBox_of {a b c e g : Prop} (h : a ∧ b ∧ c ∧ e ∧ g ∧ RefBox w0 W o d s f m o' d' s' f' m') : RefBox w0 W o d s f m o' d' s' f' m' := h.2.2.2.2.2
theorem refBox_ofJ {a b c e g j : Prop} (h : a ∧ b ∧ c ∧ e ∧ g ∧ j ∧ RefBox w0 W o d s f m o' d' s' f' m') : RefBox w0 W o d s f m o' d' s' f' m' := h.2.2.2.2.2.2
end
end Go.Proofs.YthmibmofdmlgaaaGreatDoor
