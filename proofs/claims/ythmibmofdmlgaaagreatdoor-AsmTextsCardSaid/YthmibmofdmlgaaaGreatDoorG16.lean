import Derived.Test.YthmibmofdmlgaaaGreatDoorG14
import Derived.Test.YthmibmofdmlgaaaGreatDoorG15
import Derived.Test.YthmibmofdmlgaaaGreatDoorHCodeWalk
/-
  Proved here: Text of package asm returns the text of a code and 0, or nothing and 22. Conditions: at most 100 instructions; the fields fit; the library's table.
-/
namespace Go.Proofs.YthmibmofdmlgaaaGreatDoor
open Go.RowKit
set_option linter.unusedVariables false

theorem text_do (bl : Nat) (A : Option Addr) (len cap : Nat) (o : Option (List UInt8)) (w : World) (hc : w.cell? ⟨bl, 0, none⟩ = some (.slice A len cap)) (h : Calls Tryz.prog 11 #[.slice A len cap] w (EndO o w)) :
    Calls Tryz.prog 10 #[.pointer (some ⟨bl, 0, none⟩)] w (EndO o w) := by
  cases o with
  | none =>
    go_enter Tryz.func10, Tryz.ntmps10
    go_wp2_with (go_at_call 11; refine h.mono ?_; rintro e w1 ⟨hb1, rfl⟩; have HB1 := Lib.hid hb1; clear hb1)
    exact ⟨rfl, HB1.out, rfl⟩
  | some t =>
    go_enter Tryz.func10, Tryz.ntmps10
    go_wp2_with (go_at_call 11; refine h.mono ?_; rintro e w1 ⟨hb1, rfl⟩; have HB1 := Lib.hid hb1; clear hb1)
    go_ret
    exact ⟨HB1.out, rfl⟩
theorem err_cell {w w1 : World} {v : Value} {T : Nat} (hb : Below (w.alloc (.cells #[v] T)).heap.size (w.alloc (.cells #[v] T)) w1) : w1.cell? ⟨w.heap.size, 0, none⟩ = some v ∧ w1.frozen? ⟨w.heap.size, 0, none⟩ = false := by
  have h := (MapKept.heap_alloc w (.cells #[v] T)).1
  have h1 : w1.heap[w.heap.size]? = some (.cells #[v] T) := (hb.block _ (by simp)).trans h
  simp [World.cell?, World.frozen?, h1]
theorem tried_text_no (bl : Nat) (w : World) (h : ∀ W, Below w.heap.size w W → Calls Tryz.prog 10 #[.pointer (some ⟨bl, 0, none⟩)] W (EndO none W)) :
    Calls Tryz.prog 9 #[.func (.func 10) #[] #[.pointer (some ⟨bl, 0, none⟩)]] w fun e w' => Below w.heap.size w w' ∧ e = .returned (.tuple #[.string ⟨#[]⟩, .int .i64 22]) := by
  have hmf : ∀ (fn : Fn) (first cap : Array Value) (w : World), (Instr.makeFunc fn first cap).run Tryz.prog w = .ok (.func fn first cap) w := fun _ _ _ _ => rfl
  go_enter_defers Tryz.func9, Tryz.ntmps9
  go_wp2_with (go_at_call 10; refine (h _ (below_box _ _)).mono ?_; rintro e w1 ⟨hb1, rfl⟩; have HB1 := Lib.hid hb1; clear hb1)
  obtain ⟨c1, f1⟩ := err_cell HB1.out
  refine leaves_cons (f := 17) (args := #[.pointer (some ⟨w.heap.size, 0, none⟩)]) (by simp) (by simp [go_sem]) ?_
  refine (catch_text ⟨w.heap.size, 0, none⟩ (.int .i64 0) [] _ c1 f1).mono ?_
  rintro e u' w'' ⟨rfl, rfl, rfl⟩
  have cs := World.cell?_setCell_same' w1 ⟨w.heap.size, 0, none⟩ (.int .i64 22) (by rw [c1]; rfl)
  have hb := (up_below HB1.out).setCell (p := ⟨w.heap.size, 0, none⟩) (Nat.le_refl _) (.int .i64 22)
  simp [Leaves, settle, results, Tryz.results9, go_sem, cs]
  exact hb
theorem tried_text_yes (bl : Nat) (t : List UInt8) (w : World) (h : ∀ W, Below w.heap.size w W → Calls Tryz.prog 10 #[.pointer (some ⟨bl, 0, none⟩)] W (EndO (some t) W)) :
    Calls Tryz.prog 9 #[.func (.func 10) #[] #[.pointer (some ⟨bl, 0, none⟩)]] w fun e w' => Below w.heap.size w w' ∧ e = .returned (.tuple #[.string (S t), .int .i64 0]) := by
  have hmf : ∀ (fn : Fn) (first cap : Array Value) (w : World), (Instr.makeFunc fn first cap).run Tryz.prog w = .ok (.func fn first cap) w := fun _ _ _ _ => rfl
  go_enter_defers Tryz.func9, Tryz.ntmps9
  go_wp2_with (go_at_call 10; refine (h _ (below_box _ _)).mono ?_; rintro e w1 ⟨hb1, rfl⟩; obtain ⟨c1, f1⟩ := err_cell hb1; have HB1 := Lib.hid hb1; clear hb1)
  have cs := World.cell?_setCell_same' w1 ⟨w.heap.size, 0, none⟩ (.int .i64 0) (by rw [c1]; rfl)
  have hb := (up_below HB1.out).setCell (p := ⟨w.heap.size, 0, none⟩) (Nat.le_refl _) (.int .i64 0)
  refine leaves_cons (f := 17) (args := #[.pointer (some ⟨w.heap.size, 0, none⟩)]) (by simp) (by simp [go_sem]) ?_
  refine (catch_text_idle ⟨w.heap.size, 0, none⟩ _).mono ?_
  rintro e u' w'' ⟨rfl, rfl, rfl⟩
  simp [Leaves, settle, results, Tryz.results9, go_sem, cs]
  exact hb
/-- What Text returns. -/
def TextV (o : Option (List UInt8)) : Value := match o with | some t => .tuple #[.string (S t), .int .i64 0] | none => .tuple #[.string ⟨#[]⟩, .int .i64 22]
theorem text_call (w : World) (A : Option Addr) (len cap : Nat) (l : List Ins) (hl : l.length = len) (h100 : len ≤ 100) (hrow : InsAt w A l) (hf : ∀ x ∈ l, x.Fit) (he : Env w) :
    Calls Tryz.prog 5 #[.slice A len cap] w fun e w' => Below w.heap.size w w' ∧ e = .returned (TextV (codeT l)) := by
  have hmf : ∀ (fn : Fn) (first cap : Array Value) (w : World), (Instr.makeFunc fn first cap).run Tryz.prog w = .ok (.func fn first cap) w := fun _ _ _ _ => rfl
  have hb0 := below_box w (.cells #[.slice A len cap] 22)
  have hc0 := cell_new w [.slice A len cap] 22 0 _ rfl
  have hdo := fun W (hb : Below (w.alloc (.cells #[.slice A len cap] 22)).heap.size (w.alloc (.cells #[.slice A len cap] 22)) W) =>
    text_do w.heap.size A len cap (codeT l) W (stays hb hc0) (text_of W A len cap l hl h100 ((hrow.below hb0).below hb) hf ((he.on hb0).on hb))
  clear hc0 hrow he
  have HB0 := Lib.hid hb0
  clear hb0
  cases hcode : codeT l with
  | none =>
    rw [hcode] at hdo
    have hc := tried_text_no w.heap.size _ hdo
    clear hdo hcode
    go_enter Tryz.func5, Tryz.ntmps5
    go_wp2_with (go_at_call 9; refine hc.mono ?_; rintro e w1 ⟨hb1, rfl⟩; have HB1 := Lib.hid hb1; clear hb1 hc)
    go_ret2
    exact ⟨up_below HB1.out, rfl⟩
  | some t =>
    rw [hcode] at hdo
    have hc := tried_text_yes w.heap.size t _ hdo
    clear hdo hcode
    go_enter Tryz.func5, Tryz.ntmps5
    go_wp2_with (go_at_call 9; refine hc.mono ?_; rintro e w1 ⟨hb1, rfl⟩; have HB1 := Lib.hid hb1; clear hb1 hc)
    go_ret2
    exact ⟨up_below HB1.out, rfl⟩
end Go.Proofs.YthmibmofdmlgaaaGreatDoor

/-
  Proved here: Read of package asm gives the instructions of a text's lines and 0; of the empty text nothing and 22. Conditions: the lines are a code's, at most 100; the library's variables.
-/
namespace Go.Proofs.YthmibmofdmlgaaaGreatDoor
open Go.RowKit
set_option linter.unusedVariables false

theorem read_do (bl : Nat) (s : List UInt8) (l : List Ins) (w : World) (hc : w.cell? ⟨bl, 0, none⟩ = some (.string (S s))) (h : Calls Tryz.prog 16 #[.string (S s)] w (RowV l w)) :
    Calls Tryz.prog 15 #[.pointer (some ⟨bl, 0, none⟩)] w (RowV l w) := by
  go_enter Tryz.func15, Tryz.ntmps15
  go_wp2_with (go_at_call 16; refine h.mono ?_; rintro e w1 ⟨v, rfl, hown, hb1⟩; have HO := Lib.hid hown; have HB1 := Lib.hid hb1; clear hown hb1)
  go_ret
  exact ⟨v, rfl, HO.out, HB1.out⟩
theorem set_grown (w : World) (p : Addr) (v : Value) : w.grownBy (w.setCell p v) (some p.block) :=
  ⟨rfl, rfl, rfl, by simp, fun k _ hne => Below.heap_setCell _ _ _ _ (fun e => hne (by rw [e]))⟩
theorem own_mono {w : World} {B B' n : Nat} {v : Value} {xs : List Value} (h : w.ownsRow B 35 5 v n xs) (hb : B' ≤ B) : w.ownsRow B' 35 5 v n xs := by
  refine ⟨h.1, ?_⟩
  rcases h.2 with h | ⟨g, cap, cur, rfl, hg, r⟩
  · exact .inl h
  · exact .inr ⟨g, cap, cur, rfl, Nat.le_trans hb hg, r⟩
/-- What tried returns. -/
def TriedV (l : List Ins) (w : World) (e : Ending) (w' : World) : Prop := ∃ v, e = .returned (.tuple #[v, .int .i64 0]) ∧ w'.ownsRow w.heap.size 35 5 v l.length (cellsOf l) ∧ Below w.heap.size w w'
theorem own_set {w w1 : World} {v : Value} {n : Nat} {xs : List Value} {T : Nat} {u : Value} (h : w1.ownsRow (w.alloc (.cells #[u] T)).heap.size 35 5 v n xs) (x : Value) : (w1.setCell ⟨w.heap.size, 0, none⟩ x).ownsRow w.heap.size 35 5 v n xs := by
  have e : (w.alloc (.cells #[u] T)).heap.size = w.heap.size + 1 := by simp
  rw [e] at h
  refine own_mono (h.kept (set_grown w1 ⟨w.heap.size, 0, none⟩ x) ?_) (show w.heap.size ≤ w.heap.size + 1 by omega)
  cases hv : v.ownBlock with
  | none => exact .inl rfl
  | some g =>
    have := (h.lt g hv).1
    exact .inr (by simp; omega)
theorem tried_code_yes (bl : Nat) (l : List Ins) (w : World) (h : ∀ W, Below w.heap.size w W → Calls Tryz.prog 15 #[.pointer (some ⟨bl, 0, none⟩)] W (RowV l W)) :
    Calls Tryz.prog 14 #[.func (.func 15) #[] #[.pointer (some ⟨bl, 0, none⟩)]] w (TriedV l w) := by
  have hmf : ∀ (fn : Fn) (first cap : Array Value) (w : World), (Instr.makeFunc fn first cap).run Tryz.prog w = .ok (.func fn first cap) w := fun _ _ _ _ => rfl
  go_enter_defers Tryz.func14, Tryz.ntmps14
  go_wp2_with (go_at_call 15; refine (h _ (below_box _ _)).mono ?_; rintro e w1 ⟨v, rfl, hown, hb1⟩; obtain ⟨c1, f1⟩ := err_cell hb1; have HB1 := Lib.hid hb1; have HO := Lib.hid hown; clear hb1 hown)
  have cs := World.cell?_setCell_same' w1 ⟨w.heap.size, 0, none⟩ (.int .i64 0) (by rw [c1]; rfl)
  have hb := (up_below HB1.out).setCell (p := ⟨w.heap.size, 0, none⟩) (Nat.le_refl _) (.int .i64 0)
  refine leaves_cons (f := 31) (args := #[.pointer (some ⟨w.heap.size, 0, none⟩)]) (by simp) (by simp [go_sem]) ?_
  refine (catch_code_idle ⟨w.heap.size, 0, none⟩ _).mono ?_
  rintro e u' w'' ⟨rfl, rfl, rfl⟩
  have HO2 := Lib.hid (own_set HO.out (.int .i64 0))
  simp [Leaves, settle, results, Tryz.results14, go_sem, cs]
  exact ⟨v, rfl, HO2.out, hb⟩
theorem tried_code_no (bl : Nat) (w : World) (h : ∀ W, Below w.heap.size w W → Calls Tryz.prog 15 #[.pointer (some ⟨bl, 0, none⟩)] W fun e w' => Below W.heap.size W w' ∧ e = .panicked given) :
    Calls Tryz.prog 14 #[.func (.func 15) #[] #[.pointer (some ⟨bl, 0, none⟩)]] w fun e w' => Below w.heap.size w w' ∧ e = .returned (.tuple #[.slice none 0 0, .int .i64 22]) := by
  have hmf : ∀ (fn : Fn) (first cap : Array Value) (w : World), (Instr.makeFunc fn first cap).run Tryz.prog w = .ok (.func fn first cap) w := fun _ _ _ _ => rfl
  go_enter_defers Tryz.func14, Tryz.ntmps14
  go_wp2_with (go_at_call 15; refine (h _ (below_box _ _)).mono ?_; rintro e w1 ⟨hb1, rfl⟩; have HB1 := Lib.hid hb1; clear hb1)
  obtain ⟨c1, f1⟩ := err_cell HB1.out
  refine leaves_cons (f := 31) (args := #[.pointer (some ⟨w.heap.size, 0, none⟩)]) (by simp) (by simp [go_sem]) ?_
  refine (catch_code ⟨w.heap.size, 0, none⟩ (.int .i64 0) [] _ c1 f1).mono ?_
  rintro e u' w'' ⟨rfl, rfl, rfl⟩
  have cs := World.cell?_setCell_same' w1 ⟨w.heap.size, 0, none⟩ (.int .i64 22) (by rw [c1]; rfl)
  have hb := (up_below HB1.out).setCell (p := ⟨w.heap.size, 0, none⟩) (Nat.le_refl _) (.int .i64 22)
  simp [Leaves, settle, results, Tryz.results14, go_sem, cs]
  exact hb
theorem read_call (w : World) (c : Chunk) (C0 : List Chunk) (hC : ∀ d ∈ c :: C0, GoodC d) (h100 : (c :: C0).length ≤ 100) (s : List UInt8) (hs : Lib.trimSuffix s [10] = Lib.join ((c :: C0).map Prod.fst) [10]) (hsl : s.length ≤ 100000) (he : Env w) :
    Calls Tryz.prog 7 #[.string (S s)] w (TriedV (chunkI (c :: C0)) w) := by
  have hmf : ∀ (fn : Fn) (first cap : Array Value) (w : World), (Instr.makeFunc fn first cap).run Tryz.prog w = .ok (.func fn first cap) w := fun _ _ _ _ => rfl
  have hb0 := below_box w (.cells #[.string (S s)] 9)
  have hc0 := cell_new w [.string (S s)] 9 0 _ rfl
  have hdo := fun W (hb : Below (w.alloc (.cells #[.string (S s)] 9)).heap.size (w.alloc (.cells #[.string (S s)] 9)) W) =>
    read_do w.heap.size s (chunkI (c :: C0)) W (stays hb hc0) (code_walk W c C0 hC h100 s hs hsl ((he.on hb0).on hb))
  have hc := tried_code_yes w.heap.size (chunkI (c :: C0)) _ hdo
  obtain ⟨l, hl⟩ : ∃ l, chunkI (c :: C0) = l := ⟨_, rfl⟩
  rw [hl] at hc ⊢
  obtain ⟨T, hT⟩ : ∃ T, S s = T := ⟨_, rfl⟩
  rw [hT] at hc ⊢
  clear hc0 he hdo hb0 hs hl hT hC h100
  go_enter Tryz.func7, Tryz.ntmps7
  go_wp2_with (go_at_call 14; refine hc.mono ?_; rintro e w1 ⟨v, rfl, hown, hb1⟩; have HO := Lib.hid hown; have HB1 := Lib.hid hb1; clear hb1 hown hc)
  go_ret2
  exact ⟨v, rfl, own_mono HO.out (by simp), up_below HB1.out⟩
end Go.Proofs.YthmibmofdmlgaaaGreatDoor

/-
  Proved here: Read of package asm refuses the empty text. Conditions: the library's variables.
-/
namespace Go.Proofs.YthmibmofdmlgaaaGreatDoor
open Go.RowKit
set_option linter.unusedVariables false

/-- It gives up. -/
def Gives22 (w : World) (e : Ending) (w' : World) : Prop := Below w.heap.size w w' ∧ e = .panicked given
theorem look_zero {w : World} {b n : Nat} (h : StartsIn w b n) :
    (Instr.lookup 67 (.map (some b)) (.string (S [])) true).run Tryz.prog w = .ok (.tuple #[.agg #[.int .u8 0, .int .u8 0, .int .u8 0, .int .i16 0, .int .i32 0, .slice none 0 0], .bool false]) w := by
  obtain ⟨D, hown, hno, _⟩ := h.own
  obtain ⟨v', ps, hrun, hR⟩ := hown.look_ok keyed9 Tryz.underlying67 (zero91 w) (zd := .held (.agg #[.int .u8 0, .int .u8 0, .int .u8 0, .int .i16 0, .int .i32 0, .slice none 0 0])) (zp := []) rfl (key9 [] (by simp))
  rw [Maps.atKey_of_not_has hno] at hR
  have : v' = .agg #[.int .u8 0, .int .u8 0, .int .u8 0, .int .i16 0, .int .i32 0, .slice none 0 0] := by
    unfold anyR at hR
    simp only [Option.some.injEq, Prod.mk.injEq, DataW.held.injEq] at hR
    exact hR.1
  rw [hrun, hno, this]
theorem read_empty (W : World) (b n : Nat) (hS : StartsIn W b n) (he : Env W) : Calls Tryz.prog 35 #[.map (some b), .string (S [])] W (Gives22 W) := by
  have hb0 := below_box W (.cells #[.int .u8 0, .int .u8 0, .int .u8 0, .int .i16 0, .int .i32 0, .int .i64 0] 72)
  have hc := cut_line ⟨0, 0, 0, 0, 0⟩ 0 ([], [], false) (by simp) (W.alloc (.cells #[.int .u8 0, .int .u8 0, .int .u8 0, .int .i16 0, .int .i32 0, .int .i64 0] 72)) (he.on hb0) (by simp [lineT])
  have e1 : lineT ⟨0, 0, 0, 0, 0⟩ 0 ([], [], false) = [] := by simp [lineT]
  obtain ⟨R, hR⟩ : ∃ R, restT ⟨0, 0, 0, 0, 0⟩ 0 ([], [], false) = R := ⟨_, rfl⟩
  rw [e1, hR] at hc
  simp only [List.isEmpty_nil, Bool.not_true] at hc
  have z0 : ({ data := #[32] } : ByteArray) = S [32] := rfl
  have hlook := fun W' (hb : Below W.heap.size W W') => look_zero (hS.on hb)
  clear e1 he hR
  unfold Gives22
  go_enter Tryz.func35, Tryz.ntmps35
  go_wp2_with (first
    | (go_at_call 51; refine hc.mono ?_; rintro e w1 ⟨rfl, m, hw1⟩; have hb1 : Below (W.alloc (.cells #[.int .u8 0, .int .u8 0, .int .u8 0, .int .i16 0, .int .i32 0, .int .i64 0] 72)).heap.size (W.alloc (.cells #[.int .u8 0, .int .u8 0, .int .u8 0, .int .i16 0, .int .i32 0, .int .i64 0] 72)) w1 := (by rw [hw1]; exact below_drews (Below.refl _ _) m); have hrun := hlook w1 (hb0.trans (hb1.mono hb0.size)); have HB1 := Lib.hid (hb0.trans (hb1.mono hb0.size)); clear hw1 hb1 hlook hc)
    | (go_at_call 43; refine (must_no _).mono ?_; rintro e w3 ⟨rfl, rfl⟩))
  exact ⟨rfl, HB1.out.alloc HB1.out.size _, rfl⟩
theorem split_empty (W : World) (he : Env W) : Calls Tryz.prog 33 #[.string (S []), .string (S [10])] W fun e w' => e = .returned (.slice (some ⟨W.heap.size, 0, none⟩) 1 1) ∧ w' = W.alloc (.cells #[.string (S [])] 9) := by
  obtain ⟨m, hm⟩ := he.max
  refine (Tryz.strings_Split (S []) (S [10]) m W (by rw [S_size]; decide) hm (by rw [S_size]; decide)).mono ?_
  rintro e w' ⟨rfl, rfl⟩
  obtain ⟨h1, h2⟩ := splitB_pieces 10 [] [] [] (by simp)
  have e0 : Lib.join [([] : List UInt8)] [10] = [] := by rw [Lib.join_one]
  rw [e0] at h1 h2
  rw [h1, h2]
  exact ⟨rfl, rfl⟩
theorem code_empty (w : World) (he : Env w) : Calls Tryz.prog 16 #[.string (S [])] w (Gives22 w) := by
  have hsp := fun W (hb : Below w.heap.size w W) => split_empty W (he.on hb)
  have htr := fun W => trim_call [] [] (by decide) (by simp) W
  have HE := Lib.hid he
  have z0 : ({ data := #[10] } : ByteArray) = S [10] := rfl
  clear he
  unfold Gives22
  go_enter Tryz.func16, Tryz.ntmps16
  go_wp2_with (first
    | (go_at_call 32; refine (by_texts _).mono ?_; rintro e w1 ⟨b, n, rfl, hS, hb⟩; have HS1 := Lib.hid hS; have HB1 := Lib.hid hb; clear hS hb)
    | (go_at_call 34; refine (htr _).mono ?_; rintro e w2 ⟨rfl, rfl⟩)
    | (go_at_call 33; refine (hsp _ HB1.out).mono ?_; rintro e w3 ⟨rfl, rfl⟩))
  have HB2 := Lib.hid (HB1.out.alloc HB1.out.size (.cells #[.string (S [])] 9))
  have hcell := cell_new w1 [.string (S [])] 9 0 _ rfl
  have hrd := read_empty (w1.alloc (.cells #[.string (S [])] 9)) b n (HS1.out.on (below_box _ _)) (HE.out.on HB2.out)
  clear htr hsp z0
  refine wp_loop_rounds 1 ?_
  rw [rounds_succ]
  go_wp2_with (go_at_call 35; refine hrd.mono ?_; rintro e w3 ⟨hb3, rfl⟩; have HB3 := Lib.hid (HB2.out.trans (hb3.mono HB2.out.size)); clear hb3 hrd)
  exact ⟨rfl, HB3.out, rfl⟩
theorem read_call_empty (w : World) (he : Env w) : Calls Tryz.prog 7 #[.string (S [])] w fun e w' => Below w.heap.size w w' ∧ e = .returned (.tuple #[.slice none 0 0, .int .i64 22]) := by
  have hmf : ∀ (fn : Fn) (first cap : Array Value) (w : World), (Instr.makeFunc fn first cap).run Tryz.prog w = .ok (.func fn first cap) w := fun _ _ _ _ => rfl
  have hb0 := below_box w (.cells #[.string (S [])] 9)
  have hc0 := cell_new w [.string (S [])] 9 0 _ rfl
  have hdo : ∀ W, Below (w.alloc (.cells #[.string (S [])] 9)).heap.size (w.alloc (.cells #[.string (S [])] 9)) W → Calls Tryz.prog 15 #[.pointer (some ⟨w.heap.size, 0, none⟩)] W fun e w' => Below W.heap.size W w' ∧ e = .panicked given := by
    intro W hb
    have hcell := stays hb hc0
    have hcode := code_empty W ((he.on hb0).on hb)
    clear hb hc0
    go_enter Tryz.func15, Tryz.ntmps15
    go_wp2_with (go_at_call 16; refine hcode.mono ?_; rintro e w1 ⟨hb1, rfl⟩; have HB1 := Lib.hid hb1; clear hb1)
    exact ⟨rfl, HB1.out, rfl⟩
  have hc := tried_code_no w.heap.size _ hdo
  clear hc0 he hdo hb0
  obtain ⟨T, hT⟩ : ∃ T, S [] = T := ⟨_, rfl⟩
  rw [hT] at hc ⊢
  clear hT
  go_enter Tryz.func7, Tryz.ntmps7
  go_wp2_with (go_at_call 14; refine hc.mono ?_; rintro e w1 ⟨hb1, rfl⟩; have HB1 := Lib.hid hb1; clear hb1 hc)
  go_ret2
  exact ⟨up_below HB1.out, rfl⟩
end Go.Proofs.YthmibmofdmlgaaaGreatDoor
