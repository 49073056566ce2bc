import Derived.Test.YthmibmofdmlgaaaGreatDoorHNums
/-
  Proved here: what placeText, and textOf of a line, of package asm, return. Conditions: the fields fit; the library's table.
-/
namespace Go.Proofs.YthmibmofdmlgaaaGreatDoor
open Go.RowKit
set_option linter.unusedVariables false

theorem offT_len (o : Int) (h0 : -32768 ≤ o) (h1 : o ≤ 32767) : (offT o).length ≤ 22 := by
  have := itoa_len o (by omega) (by omega)
  unfold offT
  split <;> simp <;> omega
theorem regT_len (r : Int) (h0 : 0 ≤ r) (h1 : r ≤ 255) : (regT r).length ≤ 22 := by
  have := itoa_len r (by omega) (by omega)
  unfold regT
  simp
  omega
theorem place_text (r o : Int) (w : World) (h0 : 0 ≤ r) (h1 : r ≤ 255) (h2 : -32768 ≤ o) (h3 : o ≤ 32767) (he : Env w) : Calls Tryz.prog 78 #[.int .u8 r, .int .i16 o] w (Txt (placeT r o) w) := by
  unfold Txt
  have hl := regT_len r h0 h1
  have hl2 := offT_len o h2 h3
  have hc := reg_text r w h0 h1 he
  have hc2 : ∀ w1, Below w.heap.size w w1 → Calls Tryz.prog 77 #[.int .i16 o] w1 (Txt (offT o) w1) := fun w1 hb => off_text o w1 h2 h3 (he.on hb)
  unfold placeT
  unfold Txt at hc hc2
  obtain ⟨a, ha⟩ : ∃ a, regT r = a := ⟨_, rfl⟩
  obtain ⟨b, hb⟩ : ∃ b, offT o = b := ⟨_, rfl⟩
  rw [ha] at hc hl ⊢
  rw [hb] at hc2 hl2 ⊢
  have e1 : ({ data := #[91] } : ByteArray) ++ S a = S (91 :: a) := S_left [91] a
  have e2 : S (91 :: a) ++ S b = S (91 :: (a ++ b)) := S_cat _ _
  have e3 : S (91 :: (a ++ b)) ++ ({ data := #[93] } : ByteArray) = S (91 :: (a ++ (b ++ [93]))) := by
    have := S_right (91 :: (a ++ b)) [93]
    simpa using this
  have s1 : 1 + (S a).size ≤ 9223372036854775807 := by rw [S_size]; omega
  have s2 : (S (91 :: a)).size + (S b).size ≤ 9223372036854775807 := by rw [S_size, S_size]; simp; omega
  have s3 : (S (91 :: (a ++ b))).size + 1 ≤ 9223372036854775807 := by rw [S_size]; simp; omega
  clear ha hb hl hl2 he h0 h1 h2 h3
  go_enter Tryz.func78, Tryz.ntmps78
  go_wp2_with (first
    | (go_at_call 76; refine hc.mono ?_; rintro e w1 ⟨rfl, hb1⟩; have HB1 := Lib.hid hb1; clear hb1)
    | (go_at_call 77; refine (hc2 _ HB1.out).mono ?_; rintro e w2 ⟨rfl, hb2⟩; have HB2 := Lib.hid hb2; clear hb2))
  go_ret
  exact ⟨rfl, HB1.out.trans (HB2.out.mono HB1.out.size)⟩

/-- A line's value. -/
def lineV (o d s f m n : Int) : Value := .agg #[.int .u8 o, .int .u8 d, .int .u8 s, .int .i16 f, .int .i32 m, .int .i64 n]
/-- Given up, and nothing below is turned. -/
def Gone (w : World) (e : Ending) (w' : World) : Prop := e = .panicked given ∧ Below w.heap.size w w'
theorem up_below {w : World} {o : Obj} {w' : World} (h : Below (w.alloc o).heap.size (w.alloc o) w') : Below w.heap.size w w' := (below_box w o).trans (h.mono (below_box w o).size)
theorem part_0 (o d s f m n : Int) (reg : Bool) (w : World) (hx : (⟨o, d, s, f, m⟩ : Ins).Fit) (he : Env w) : Calls Tryz.prog 61 #[lineV o d s f m n, .int .u8 0, .bool reg] w (Txt (regT d) w) := by
  have he1 := he.on (below_box w (.cells #[.int .u8 o, .int .u8 d, .int .u8 s, .int .i16 f, .int .i32 m, .int .i64 n] 72))
  have hc := reg_text d _ hx.dst.1 hx.dst.2 he1
  clear hx he he1
  unfold lineV
  go_enter Tryz.func61, Tryz.ntmps61
  go_wp2_with (go_at_call 76; refine hc.mono ?_; rintro e w1 ⟨rfl, hb1⟩; have HB1 := Lib.hid hb1; clear hb1)
  go_ret
  exact ⟨rfl, up_below HB1.out⟩
theorem part_1r (o d s f m n : Int) (w : World) (hx : (⟨o, d, s, f, m⟩ : Ins).Fit) (he : Env w) : Calls Tryz.prog 61 #[lineV o d s f m n, .int .u8 1, .bool true] w (Txt (regT s) w) := by
  have he1 := he.on (below_box w (.cells #[.int .u8 o, .int .u8 d, .int .u8 s, .int .i16 f, .int .i32 m, .int .i64 n] 72))
  have hc := reg_text s _ hx.src.1 hx.src.2 he1
  clear hx he he1
  unfold lineV
  go_enter Tryz.func61, Tryz.ntmps61
  go_wp2_with (go_at_call 76; refine hc.mono ?_; rintro e w1 ⟨rfl, hb1⟩; have HB1 := Lib.hid hb1; clear hb1)
  go_ret
  exact ⟨rfl, up_below HB1.out⟩
theorem part_1n (o d s f m n : Int) (h0 : -9223372036854775808 ≤ n) (h1 : n ≤ 9223372036854775807) (w : World) (hx : (⟨o, d, s, f, m⟩ : Ins).Fit) (he : Env w) : Calls Tryz.prog 61 #[lineV o d s f m n, .int .u8 1, .bool false] w (Txt (Lib.itoa n) w) := by
  have he1 := he.on (below_box w (.cells #[.int .u8 o, .int .u8 d, .int .u8 s, .int .i16 f, .int .i32 m, .int .i64 n] 72))
  have hc := format_int n _ h0 h1 he1
  clear hx he he1
  unfold lineV
  go_enter Tryz.func61, Tryz.ntmps61
  go_wp2_with (go_at_call 79; refine hc.mono ?_; rintro e w1 ⟨rfl, hb1⟩; have HB1 := Lib.hid hb1; clear hb1)
  go_ret
  exact ⟨rfl, up_below HB1.out⟩
theorem part_2 (o d s f m n : Int) (reg : Bool) (h0 : -9223372036854775808 ≤ n) (h1 : n ≤ 9223372036854775807) (w : World) (hx : (⟨o, d, s, f, m⟩ : Ins).Fit) (he : Env w) : Calls Tryz.prog 61 #[lineV o d s f m n, .int .u8 2, .bool reg] w (Txt (Lib.itoa n) w) := by
  have he1 := he.on (below_box w (.cells #[.int .u8 o, .int .u8 d, .int .u8 s, .int .i16 f, .int .i32 m, .int .i64 n] 72))
  have hc := format_int n _ h0 h1 he1
  clear hx he he1
  unfold lineV
  go_enter Tryz.func61, Tryz.ntmps61
  go_wp2_with (go_at_call 79; refine hc.mono ?_; rintro e w1 ⟨rfl, hb1⟩; have HB1 := Lib.hid hb1; clear hb1)
  go_ret
  exact ⟨rfl, up_below HB1.out⟩
theorem part_5 (o d s f m n : Int) (reg : Bool) (w : World) (hx : (⟨o, d, s, f, m⟩ : Ins).Fit) (he : Env w) : Calls Tryz.prog 61 #[lineV o d s f m n, .int .u8 5, .bool reg] w (Txt (placeT s f) w) := by
  have he1 := he.on (below_box w (.cells #[.int .u8 o, .int .u8 d, .int .u8 s, .int .i16 f, .int .i32 m, .int .i64 n] 72))
  have hc := place_text s f _ hx.src.1 hx.src.2 hx.off.1 hx.off.2 he1
  clear hx he he1
  unfold lineV
  go_enter Tryz.func61, Tryz.ntmps61
  go_wp2_with (go_at_call 78; refine hc.mono ?_; rintro e w1 ⟨rfl, hb1⟩; have HB1 := Lib.hid hb1; clear hb1)
  go_ret
  exact ⟨rfl, up_below HB1.out⟩
theorem part_6 (o d s f m n : Int) (reg : Bool) (w : World) (hx : (⟨o, d, s, f, m⟩ : Ins).Fit) (he : Env w) : Calls Tryz.prog 61 #[lineV o d s f m n, .int .u8 6, .bool reg] w (Txt (placeT d f) w) := by
  have he1 := he.on (below_box w (.cells #[.int .u8 o, .int .u8 d, .int .u8 s, .int .i16 f, .int .i32 m, .int .i64 n] 72))
  have hc := place_text d f _ hx.dst.1 hx.dst.2 hx.off.1 hx.off.2 he1
  clear hx he he1
  unfold lineV
  go_enter Tryz.func61, Tryz.ntmps61
  go_wp2_with (go_at_call 78; refine hc.mono ?_; rintro e w1 ⟨rfl, hb1⟩; have HB1 := Lib.hid hb1; clear hb1)
  go_ret
  exact ⟨rfl, up_below HB1.out⟩
theorem part_3 (o d s f m n : Int) (reg : Bool) (h0 : 0 ≤ n) (h1 : n ≤ 9223372036854775807) (w : World) (he : Env w) : Calls Tryz.prog 61 #[lineV o d s f m n, .int .u8 3, .bool reg] w (Txt (Lib.itoa n) w) := by
  have hc := format_int n _ (by omega) h1 (he.on (below_box w (.cells #[.int .u8 o, .int .u8 d, .int .u8 s, .int .i16 f, .int .i32 m, .int .i64 n] 72)))
  clear he
  unfold lineV
  go_enter Tryz.func61, Tryz.ntmps61
  go_wp2_with (first
    | (go_at_call 43; refine (must_yes _).mono ?_; rintro e w1 ⟨rfl, rfl⟩)
    | (go_at_call 79; refine hc.mono ?_; rintro e w1 ⟨rfl, hb1⟩; have HB1 := Lib.hid hb1; clear hb1))
  go_ret
  exact ⟨rfl, up_below HB1.out⟩
set_option maxRecDepth 100000 in
theorem part_3no (o d s f m n : Int) (reg : Bool) (h0 : n < 0) (w : World) : Calls Tryz.prog 61 #[lineV o d s f m n, .int .u8 3, .bool reg] w (Gone w) := by
  have hd : decide (0 ≤ n) = false := decide_eq_false (by omega)
  unfold lineV
  go_enter Tryz.func61, Tryz.ntmps61
  go_wp2_with (go_at_call 43; refine (must_no _).mono ?_; rintro e w1 ⟨rfl, rfl⟩)
  exact ⟨rfl, rfl, below_box _ _⟩
theorem part_4 (o d s f m n : Int) (reg : Bool) (h0 : 0 ≤ f) (w : World) (hx : (⟨o, d, s, f, m⟩ : Ins).Fit) (he : Env w) : Calls Tryz.prog 61 #[lineV o d s f m n, .int .u8 4, .bool reg] w (Txt (offT f) w) := by
  have hc := off_text f _ hx.off.1 hx.off.2 (he.on (below_box w (.cells #[.int .u8 o, .int .u8 d, .int .u8 s, .int .i16 f, .int .i32 m, .int .i64 n] 72)))
  clear he hx
  unfold lineV
  go_enter Tryz.func61, Tryz.ntmps61
  go_wp2_with (first
    | (go_at_call 43; refine (must_yes _).mono ?_; rintro e w1 ⟨rfl, rfl⟩)
    | (go_at_call 77; refine hc.mono ?_; rintro e w1 ⟨rfl, hb1⟩; have HB1 := Lib.hid hb1; clear hb1))
  go_ret
  exact ⟨rfl, up_below HB1.out⟩
set_option maxRecDepth 100000 in
theorem part_4no (o d s f m n : Int) (reg : Bool) (h0 : f < 0) (w : World) : Calls Tryz.prog 61 #[lineV o d s f m n, .int .u8 4, .bool reg] w (Gone w) := by
  have hd : decide (0 ≤ f) = false := decide_eq_false (by omega)
  unfold lineV
  go_enter Tryz.func61, Tryz.ntmps61
  go_wp2_with (go_at_call 43; refine (must_no _).mono ?_; rintro e w1 ⟨rfl, rfl⟩)
  exact ⟨rfl, rfl, below_box _ _⟩
/-- The text of a part; given up. -/
theorem part_text (x : Ins) (n p : Int) (reg : Bool) (h0 : -9223372036854775808 ≤ n) (h1 : n ≤ 9223372036854775807) (hp : 0 ≤ p ∧ p ≤ 6) (hb : partB x n p = true) (w : World) (hx : x.Fit) (he : Env w) :
    Calls Tryz.prog 61 #[lineV x.op x.dst x.src x.off x.imm n, .int .u8 p, .bool reg] w (Txt (partT x n reg p) w) := by
  obtain ⟨o, d, s, f, m⟩ := x
  obtain rfl | rfl | rfl | rfl | rfl | rfl | rfl : p = 0 ∨ p = 1 ∨ p = 2 ∨ p = 3 ∨ p = 4 ∨ p = 5 ∨ p = 6 := by omega
  · exact part_0 o d s f m n reg w hx he
  · cases reg
    · exact part_1n o d s f m n h0 h1 w hx he
    · exact part_1r o d s f m n w hx he
  · exact part_2 o d s f m n reg h0 h1 w hx he
  · exact part_3 o d s f m n reg (by simpa [partB] using hb) h1 w he
  · exact part_4 o d s f m n reg (by simpa [partB] using hb) w hx he
  · exact part_5 o d s f m n reg w hx he
  · exact part_6 o d s f m n reg w hx he
theorem part_gone (x : Ins) (n p : Int) (reg : Bool) (hp : 0 ≤ p ∧ p ≤ 6) (hb : partB x n p = false) (w : World) :
    Calls Tryz.prog 61 #[lineV x.op x.dst x.src x.off x.imm n, .int .u8 p, .bool reg] w (Gone w) := by
  obtain ⟨o, d, s, f, m⟩ := x
  unfold partB at hb
  by_cases h3 : p = 3
  · subst h3
    exact part_3no o d s f m n reg (by simpa using hb) w
  · by_cases h4 : p = 4
    · subst h4
      exact part_4no o d s f m n reg (by simpa using hb) w
    · simp [h3, h4] at hb
end Go.Proofs.YthmibmofdmlgaaaGreatDoor
