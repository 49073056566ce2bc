import Derived.Test.YthmibmofdmlgaaaGreatDoorHLine
import Derived.StringKeys
import Derived.Test.YthmibmofdmlgaaaGreatDoorHWords
import Derived.Lib.ParseIntB
/-
  Proved here: wordOfMap and wordOf of package asm return the word of an instruction that is right. Conditions: the map has the table's words.
-/
namespace Go.Proofs.YthmibmofdmlgaaaGreatDoor
open Go.RowKit
set_option linter.unusedVariables false

theorem zero77 (w : World) : (zeroValue 77).run Tryz.prog w = .ok (.agg #[.string ⟨#[]⟩, .slice none 0 0, .bool false]) w := by kernel_rfl
/-- A look-up of a word. -/
theorem look_word {w w1 : World} {b n : Nat} {T : List (Int × Wd)} (h : WordsIn w b n T) (hg : w.grownBy w1 none) {op : Int} (h0 : 0 ≤ op) (h1 : op ≤ 255) {d : Wd} (hd : look T op = some d) :
    ∃ A cap, (Instr.lookup 49 (.map (some b)) (.int .u8 op) false).run Tryz.prog w1 = .ok (wordV d.1 A d.2.1.length cap d.2.2) w1 ∧ PartsAt w A d.2.1 := by
  obtain ⟨D, hown, g0, g1⟩ := h
  obtain ⟨A, cap, hp, hv⟩ := g1 op d h0 h1 hd
  obtain ⟨v, ps, hrun, hR⟩ := (hown.kept hg (by simp)).lookup keyed5 Tryz.underlying49 (zero77 w1) (zd := .held (.agg #[.string ⟨#[]⟩, .slice none 0 0, .bool false])) (zp := []) rfl (key5 h0 h1)
  rw [hv] at hR
  have : v = wordV d.1 A d.2.1.length cap d.2.2 := by
    unfold anyR at hR
    simp only [Option.some.injEq, Prod.mk.injEq, DataW.held.injEq] at hR
    exact hR.1
  subst this
  exact ⟨A, cap, hrun, hp⟩
theorem map_word (w : World) : Calls Tryz.prog 48 #[] w fun e w' => e = .returned (wordV [109, 97, 112] (some ⟨w.heap.size + 1, 0, none⟩) 2 2 false) ∧ PartsAt w' (some ⟨w.heap.size + 1, 0, none⟩) [0, 3] ∧ Below w.heap.size w w' := by
  have k1 : ({ data := #[109, 97, 112] } : ByteArray) = S [109, 97, 112] := rfl
  unfold wordV
  go_enter Tryz.func48, Tryz.ntmps48
  go_wp2
  have hp := parts_new (w.alloc (.cells #[.string (S [109, 97, 112]), .slice (some ⟨w.heap.size + 1, 0, none⟩) 2 2, .bool false] 77)) [0, 3]
  have e1 : (w.alloc (.cells #[.string (S [109, 97, 112]), .slice (some ⟨w.heap.size + 1, 0, none⟩) 2 2, .bool false] 77)).heap.size = w.heap.size + 1 := by simp
  rw [e1] at hp
  exact bodyPost_ret (v := .agg #[.string (S [109, 97, 112]), .slice (some ⟨w.heap.size + 1, 0, none⟩) 2 2, .bool false]) (by simp [results, Tryz.results48, go_sem]) rfl ⟨rfl, hp, ((Below.refl _ _).alloc (Nat.le_refl _) _).alloc (by simp) _⟩
/-- What wordOf returns. -/
def Word (d : Wd) (w : World) (e : Ending) (w' : World) : Prop := ∃ A cap, e = .returned (wordV d.1 A d.2.1.length cap d.2.2) ∧ PartsAt w' A d.2.1 ∧ Below w.heap.size w w'
theorem box3 {W w1 : World} {B T : Nat} {a b c : Value} (hb : Below W.heap.size W w1) (hB : W.heap[B]? = some (.cells #[a, b, c] T)) :
    (w1.cell? ⟨B, 0, none⟩ = some a ∧ w1.cell? ⟨B, 1, none⟩ = some b ∧ w1.cell? ⟨B, 2, none⟩ = some c) ∧ (w1.frozen? ⟨B, 0, none⟩ = false ∧ w1.frozen? ⟨B, 1, none⟩ = false ∧ w1.frozen? ⟨B, 2, none⟩ = false) := by
  have hlt : B < W.heap.size := (Array.getElem?_eq_some_iff.1 hB).1
  have h1 := (hb.block B hlt).trans hB
  simp [World.cell?, World.frozen?, h1]
theorem PartsAt.set {w : World} {A : Option Addr} {ps : List Int} (h : PartsAt w A ps) {g k : Nat} (v : Value) (hg : ∀ a, A = some a → a.block ≠ g) : PartsAt (w.setCell ⟨g, k, none⟩ v) A ps := by
  rcases h with h | ⟨q, off, cs, fz, rfl, hl, hc⟩
  · exact .inl h
  · exact .inr ⟨q, off, cs, fz, rfl, by rw [Below.heap_setCell _ _ _ _ (hg _ rfl)]; exact hl, hc⟩
theorem second_block (w : World) (o o' : Obj) : ((w.alloc o).alloc o').heap[w.heap.size + 1]? = some o' := by
  have h := (MapKept.heap_alloc (w.alloc o) o').1
  have e : (w.alloc o).heap.size = w.heap.size + 1 := by simp
  rw [e] at h
  exact h
theorem word_map (d f m : Int) (w : World) (b : Nat) : Calls Tryz.prog 46 #[.map (some b), insV 24 d 1 f m] w (Word wdMap w) := by
  unfold insV
  have hm := fun w' => map_word w'
  unfold wordV at hm
  have hB := second_block w (.cells #[.int .u8 24, .int .u8 d, .int .u8 1, .int .i16 f, .int .i32 m] 35) (.cells #[.string ⟨#[]⟩, .slice none 0 0, .bool false] 77)
  have HB := Lib.hid hB
  clear hB
  go_enter Tryz.func46, Tryz.ntmps46
  go_wp2_with (go_at_call 48; refine (hm _).mono ?_; rintro e w1 ⟨rfl, hp1, hb1⟩; obtain ⟨⟨c0, c1, c2⟩, f0, f1, f2⟩ := box3 hb1 HB.out; have HP1 := Lib.hid hp1; have HB1 := Lib.hid hb1; clear hp1 hb1)
  have hp := HP1.out
  have hb := HB1.out
  have e1 : ((w.alloc (.cells #[.int .u8 24, .int .u8 d, .int .u8 1, .int .i16 f, .int .i32 m] 35)).alloc (.cells #[.string ⟨#[]⟩, .slice none 0 0, .bool false] 77)).heap.size = w.heap.size + 1 + 1 := by simp
  rw [e1] at hp hb
  have hb0 : Below w.heap.size w w1 := (((Below.refl _ _).alloc (Nat.le_refl _) _).alloc (by simp) _).trans (hb.mono (by omega))
  refine bodyPost_ret (v := .agg #[.string (S [109, 97, 112]), .slice (some ⟨w.heap.size + 1 + 1 + 1, 0, none⟩) 2 2, .bool false]) (by simp [results, Tryz.results46, go_sem, c0, c1, c2]) rfl ⟨_, 2, rfl, ?_, ?_⟩
  · exact ((hp.set _ (fun a ha => by cases ha; dsimp only; omega)).set _ (fun a ha => by cases ha; dsimp only; omega)).set _ (fun a ha => by cases ha; dsimp only; omega)
  · exact ((hb0.setCell (by simp) _).setCell (by simp) _).setCell (by simp) _
theorem word_look (x : Ins) (w : World) (b n : Nat) (T : List (Int × Wd)) (h : WordsIn w b n T) (h0 : 0 ≤ x.op) (h1 : x.op ≤ 255) (hne : ¬ (x.op = 24 ∧ x.src = 1)) {dd : Wd} (hd : look T x.op = some dd) :
    Calls Tryz.prog 46 #[.map (some b), insV x.op x.dst x.src x.off x.imm] w (Word dd w) := by
  obtain ⟨o, d, s, f, m⟩ := x
  dsimp only at *
  unfold insV
  obtain ⟨A, cap, hrun, hp⟩ := look_word h ((World.grownBy_alloc w (.cells #[.int .u8 o, .int .u8 d, .int .u8 s, .int .i16 f, .int .i32 m] 35) none).andThen (World.grownBy_alloc _ (.cells #[.string ⟨#[]⟩, .slice none 0 0, .bool false] 77) none) (fun _ h => .inr h)) h0 h1 hd
  have HP := Lib.hid hp
  obtain ⟨t, ps, reg⟩ := dd
  unfold wordV at hrun
  dsimp only at hrun
  obtain ⟨len, hlen⟩ : ∃ len, ps.length = len := ⟨_, rfl⟩
  rw [hlen] at hrun
  have HL := Lib.hid hlen
  clear hp h hd h0 h1 hlen
  by_cases h24 : o = 24
  · subst h24
    have hs : (s == 1) = false := by simpa using hne
    clear hne
    go_enter Tryz.func46, Tryz.ntmps46
    go_wp2
    refine bodyPost_ret (v := .agg #[.string (S t), .slice A len cap, .bool reg]) (by simp [results, Tryz.results46, go_sem]) rfl ⟨A, cap, by rw [← HL.out]; rfl, ?_, ((Below.refl _ _).alloc (Nat.le_refl _) _).alloc (by simp) _⟩
    exact HP.out.on (((Below.refl _ _).alloc (Nat.le_refl _) _).alloc (by simp) _)
  · have hs : (o == 24) = false := by simpa using h24
    clear hne
    go_enter Tryz.func46, Tryz.ntmps46
    go_wp2
    refine bodyPost_ret (v := .agg #[.string (S t), .slice A len cap, .bool reg]) (by simp [results, Tryz.results46, go_sem]) rfl ⟨A, cap, by rw [← HL.out]; rfl, ?_, ((Below.refl _ _).alloc (Nat.le_refl _) _).alloc (by simp) _⟩
    exact HP.out.on (((Below.refl _ _).alloc (Nat.le_refl _) _).alloc (by simp) _)
theorem wd_some : ∀ n : Fin 256, ((wdOf (n.val : Int)).isSome == (shp (n.val : Int) != 0)) = true := wd_shape
/-- What is right has a word. -/
theorem wd_right {x : Ins} (hx : x.Fit) (hr : rightI x = true) : ∃ d, wdOf x.op = some d := by
  have h := of_table (f := fun op => ((wdOf op).isSome == (shp op != 0))) (g := fun _ => true) wd_shape hx.op.1 hx.op.2
  have h1 : (shp x.op != 0) = true := by
    unfold rightI fitB at hr
    simp only [Bool.and_eq_true] at hr
    exact hr.1.1.1.1
  simp only [h1, beq_true] at h
  exact Option.isSome_iff_exists.1 h
theorem word_of (x : Ins) (w : World) (b n : Nat) (h : WordsIn w b n (memT 256)) (hx : x.Fit) (hr : rightI x = true) :
    Calls Tryz.prog 46 #[.map (some b), insV x.op x.dst x.src x.off x.imm] w (Word (wordI x) w) := by
  by_cases hm : x.op = 24 ∧ x.src = 1
  · obtain ⟨o, d, s, f, m⟩ := x
    obtain ⟨h1, h2⟩ := hm
    dsimp only at h1 h2
    subst h1 h2
    exact word_map d f m w b
  · obtain ⟨dd, hd⟩ := wd_right hx hr
    unfold wordI
    rw [if_neg hm, hd]
    exact word_look x w b n _ h hx.op.1 hx.op.2 hm hd
end Go.Proofs.YthmibmofdmlgaaaGreatDoor

/-
  Proved here: a look-up in the map of words by texts. No Go text is walked. Conditions: the map has what StartsIn says.
-/
namespace Go.Proofs.YthmibmofdmlgaaaGreatDoor
open Go.RowKit
set_option linter.unusedVariables false

/-- What the map has at a word's text: the instruction that the word alone tells, and its parts. -/
def startV (o s : Int) (A : Option Addr) (len cap : Nat) : Value := .agg #[.int .u8 o, .int .u8 0, .int .u8 s, .int .i16 0, .int .i32 0, .slice A len cap]
theorem keyed9 : Maps.Keyed Tryz.prog 9 := Maps.string_keyed Tryz.underlying9
theorem zero91 (w : World) : (zeroValue 91).run Tryz.prog w = .ok (.agg #[.int .u8 0, .int .u8 0, .int .u8 0, .int .i16 0, .int .i32 0, .slice none 0 0]) w := by kernel_rfl
theorem key9 (t : List UInt8) (h : t.length ≤ 1000) : keyOf Tryz.prog 9 (.string (S t)) = some (.string t) := by
  have := Go.WideMaps.keyOf_string_mk (P := Tryz.prog) Tryz.underlying9 (s := S t) (by rw [S_size]; unfold maxLen; omega)
  rw [this, S_data]
/-- Block b of w is a map over texts that has the words of the opcodes from a number, and that of a map; nothing at the empty text. -/
structure StartsIn (w : World) (b n : Nat) : Prop where
  own : ∃ D : DataW Value, w.ownsMap Tryz.prog 9 anyR b n D ∧ Maps.has D (.string []) = false ∧
    (∀ k t ps, 0 ≤ k → k ≤ 255 → wdOf k = some (t, ps, false) → ∃ A cap, PartsAt w A ps ∧ Maps.has D (.string t) = true ∧ ∀ zd, D.atKey (.string t) zd = .held (startV k 0 A ps.length cap)) ∧
    ∃ A cap, PartsAt w A [0, 3] ∧ Maps.has D (.string [109, 97, 112]) = true ∧ ∀ zd, D.atKey (.string [109, 97, 112]) zd = .held (startV 24 1 A 2 cap)
theorem StartsIn.grown {w w' : World} {b n : Nat} (h : StartsIn w b n) (hg : w.grownBy w' none) : StartsIn w' b n := by
  obtain ⟨D, h1, h2, h3, A, cap, hp, h4⟩ := h.own
  refine ⟨D, h1.kept hg (by simp), h2, fun k t ps k0 k1 hk => ?_, A, cap, hp.grown hg (by simp), h4⟩
  obtain ⟨A, cap, hp, h5⟩ := h3 k t ps k0 k1 hk
  exact ⟨A, cap, hp.grown hg (by simp), h5⟩
theorem StartsIn.on {w w' : World} {b n : Nat} (h : StartsIn w b n) (hb : Below w.heap.size w w') : StartsIn w' b n :=
  h.grown ⟨hb.os, hb.tape, hb.output, hb.size, fun k hk _ => hb.block k hk⟩
theorem look_at {w : World} {b n : Nat} {D : DataW Value} (h : w.ownsMap Tryz.prog 9 anyR b n D) {t : List UInt8} (ht : t.length ≤ 1000) {v : Value} (hh : Maps.has D (.string t) = true) (hv : ∀ zd, D.atKey (.string t) zd = .held v) :
    (Instr.lookup 67 (.map (some b)) (.string (S t)) true).run Tryz.prog w = .ok (.tuple #[v, .bool true]) w := by
  obtain ⟨v', ps, hrun, hR⟩ := h.look_ok keyed9 Tryz.underlying67 (zero91 w) (zd := .held (.agg #[.int .u8 0, .int .u8 0, .int .u8 0, .int .i16 0, .int .i32 0, .slice none 0 0])) (zp := []) rfl (key9 t ht)
  rw [hv] at hR
  have : v' = v := by
    unfold anyR at hR
    simp only [Option.some.injEq, Prod.mk.injEq, DataW.held.injEq] at hR
    exact hR.1
  rw [hrun, hh, this]
theorem look_no {w : World} {b n : Nat} {D : DataW Value} (h : w.ownsMap Tryz.prog 9 anyR b n D) {t : List UInt8} (ht : t.length ≤ 1000) (hh : Maps.has D (.string t) = false) :
    ∃ v, (Instr.lookup 67 (.map (some b)) (.string (S t)) true).run Tryz.prog w = .ok (.tuple #[v, .bool false]) w := by
  obtain ⟨v', ps, hrun, hR⟩ := h.look_ok keyed9 Tryz.underlying67 (zero91 w) (zd := .held (.agg #[.int .u8 0, .int .u8 0, .int .u8 0, .int .i16 0, .int .i32 0, .slice none 0 0])) (zp := []) rfl (key9 t ht)
  exact ⟨v', by rw [hrun, hh]⟩
end Go.Proofs.YthmibmofdmlgaaaGreatDoor

/-
  Proved here: nothing of a program: the digits of a number are read as that number; what stands in the digits. Conditions: the number has at most 64 bits.
-/
namespace Go.Proofs.YthmibmofdmlgaaaGreatDoor
open Go.RowKit
set_option linter.unusedVariables false

theorem digit_nat {d : Nat} (h : d < 10) : (UInt8.ofNat (48 + d)).toNat = 48 + d := by
  rw [UInt8.toNat_ofNat']
  omega
theorem dec_digit (u : Nat) : ∀ c ∈ Lib.decDigits u, 48 ≤ c.toNat ∧ c.toNat ≤ 57 := by
  induction u using Nat.strongRecOn with
  | _ u ih =>
    by_cases h : u < 10
    · rw [Lib.decDigits, dif_pos h]
      intro c hc
      rw [List.mem_singleton] at hc
      subst hc
      rw [digit_nat h]
      omega
    · rw [Lib.decDigits, dif_neg h]
      intro c hc
      rcases List.mem_append.1 hc with hc | hc
      · exact ih (u / 10) (by omega) c hc
      · rw [List.mem_singleton] at hc
        subst hc
        rw [digit_nat (by omega)]
        omega
theorem dec_ne (u : Nat) : Lib.decDigits u ≠ [] := by
  intro h
  have := Lib.decDigits_length u
  rw [h] at this
  have := Lib.nDigits_pos u
  simp at *
  omega
theorem parse_append (M : Nat) : ∀ (l r : List UInt8) (acc v : Nat), Lib.parseUintM M acc l = .ok v → Lib.parseUintM M acc (l ++ r) = Lib.parseUintM M v r
  | [], r, acc, v, h => by cases h; rfl
  | c :: l, r, acc, v, h => by
    unfold Lib.parseUintM at h
    rw [List.cons_append]
    conv => lhs; unfold Lib.parseUintM
    split at h
    · rename_i hc
      rw [if_pos hc]
      split at h
      · cases h
      · rename_i h1
        rw [if_neg h1]
        split at h
        · cases h
        · rename_i h2
          rw [if_neg h2]
          exact parse_append M l r _ v h
    · cases h
theorem parse_dec {M : Nat} (hM : M ≤ 18446744073709551615) (u : Nat) : u ≤ M → Lib.parseUintM M 0 (Lib.decDigits u) = .ok u := by
  induction u using Nat.strongRecOn with
  | _ u ih =>
    intro hu
    by_cases h : u < 10
    · rw [Lib.decDigits, dif_pos h]
      unfold Lib.parseUintM
      rw [digit_nat h, if_pos (by omega), if_neg (by omega), if_neg (by omega)]
      simp [Lib.parseUintM]
    · rw [Lib.decDigits, dif_neg h, parse_append M _ _ _ _ (ih (u / 10) (by omega) (by omega))]
      unfold Lib.parseUintM
      rw [digit_nat (by omega), if_pos (by omega), if_neg (by omega), if_neg (by omega)]
      unfold Lib.parseUintM
      congr 1
      omega
theorem parseU_dec {B : Nat} (hB : 2 ^ B ≤ 18446744073709551616) {u : Nat} (hu : u ≤ 2 ^ B - 1) : Lib.parseUintB B (Lib.decDigits u) = .ok u := by
  unfold Lib.parseUintB
  rw [if_neg (dec_ne u), parse_dec (by omega) u hu]
/-- The digits of a number are read as it. -/
theorem parse_itoa {B : Nat} (hB : 2 ^ B ≤ 18446744073709551616) (hB2 : 2 ^ B = 2 * 2 ^ (B - 1)) (hB1 : 1 ≤ 2 ^ (B - 1)) {n : Int} (h0 : -((2 ^ (B - 1) : Nat) : Int) ≤ n) (h1 : n < ((2 ^ (B - 1) : Nat) : Int)) : Lib.parseIntB B (Lib.itoa n) = .ok n := by
  unfold Lib.itoa
  by_cases hn : n < 0
  · rw [if_pos hn]
    unfold Lib.parseIntB
    have e45 : (45 : UInt8).toNat = 45 := rfl
    simp only [e45]
    rw [if_pos (Or.inr trivial), parseU_dec hB (by omega)]
    dsimp only
    rw [if_neg (by simp), if_neg (by omega), if_pos trivial]
    congr 1
    omega
  · rw [if_neg hn]
    have hd := dec_digit n.toNat
    have hne := dec_ne n.toNat
    have hp := parseU_dec (B := B) hB (u := n.toNat) (by omega)
    cases hl : Lib.decDigits n.toNat with
    | nil => exact absurd hl hne
    | cons c r =>
      rw [hl] at hd hp
      have hc := hd c (by simp)
      unfold Lib.parseIntB
      dsimp only
      rw [if_neg (by omega), hp]
      dsimp only
      rw [if_neg (by omega), if_neg (by omega), if_neg (by omega)]
      congr 1
      omega
theorem parse64 {n : Int} (h0 : -9223372036854775808 ≤ n) (h1 : n ≤ 9223372036854775807) : Lib.parseIntB 64 (Lib.itoa n) = .ok n := parse_itoa (by decide) (by decide) (by decide) (by omega) (by omega)
theorem parse32 {n : Int} (h0 : -2147483648 ≤ n) (h1 : n ≤ 2147483647) : Lib.parseIntB 32 (Lib.itoa n) = .ok n := parse_itoa (by decide) (by decide) (by decide) (by omega) (by omega)
theorem parse16 {n : Int} (h0 : -32768 ≤ n) (h1 : n ≤ 32767) : Lib.parseIntB 16 (Lib.itoa n) = .ok n := parse_itoa (by decide) (by decide) (by decide) (by omega) (by omega)
/-- What stands in the digits of a number: a minus in front, and digits. -/
theorem itoa_byte (n : Int) : ∀ c ∈ Lib.itoa n, 48 ≤ c.toNat ∧ c.toNat ≤ 57 ∨ n < 0 ∧ c = 45 := by
  unfold Lib.itoa
  intro c hc
  split at hc
  · rename_i hn
    rcases List.mem_cons.1 hc with rfl | hc
    · exact .inr ⟨hn, rfl⟩
    · exact .inl (dec_digit _ c hc)
  · exact .inl (dec_digit _ c hc)
theorem itoa_ne (n : Int) : Lib.itoa n ≠ [] := by
  unfold Lib.itoa
  split
  · simp
  · exact dec_ne _
end Go.Proofs.YthmibmofdmlgaaaGreatDoor
